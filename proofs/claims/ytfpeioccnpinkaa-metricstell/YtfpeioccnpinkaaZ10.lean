/-
  Stores: whether they are formed, which slots fit, the changes of rows, the values of slots (plain mathematics).
  Pages: the document's states (St) and what is done with them, and how a page of the code lies in a world (Pc).
  octets: closed, fail, put, fits, four: the walks.
  octets: fits, four, Put8, Put16, Put32, PutBytes, Here: the walks.
  octets.Good, PutTag: the walks.
-/
import Derived.Test.YtfpeioccnpinkaaZ9
import Derived.Laws.IdiomStrings
namespace Go.Proofs.Ytfpeioccnpinkaa
set_option linter.unusedSimpArgs false
set_option linter.unusedVariables false

/-- A store: its regions, its rows. -/
structure Sr where
  rg : List (List Te)
  rw : List (List Int)
/-- A row that is formed, for a number of regions. -/
def roB (k : Nat) (r : List Int) : Bool := decide (r.length = k) && r.all fdB
def stB (s : Sr) (n : Int) : Bool := decide (0 ≤ n ∧ n ≤ 4) && (decide (s.rg.length ≤ 40) && (decide (s.rw.length ≤ 400) && (s.rg.all (fun l => rgB l n) && s.rw.all (roB s.rg.length))))
theorem stB_iff {s : Sr} {n : Int} : stB s n = true ↔ (0 ≤ n ∧ n ≤ 4) ∧ s.rg.length ≤ 40 ∧ s.rw.length ≤ 400 ∧ (∀ l ∈ s.rg, rgB l n = true) ∧ (∀ r ∈ s.rw, r.length = s.rg.length ∧ ∀ z ∈ r, -32768 ≤ z ∧ z ≤ 32767) := by
  unfold stB roB
  simp only [Bool.and_eq_true, decide_eq_true_iff, List.all_eq_true, fdB_iff]
/-- A slot that fits. -/
def fiS (s : Sr) (b r : Int) : Bool := fdB b && (decide (r = -1) || (decide (0 ≤ r) && (decide (r < (s.rw.length : Int)) && decide (r < 400))))
theorem fiS_iff {s : Sr} {b r : Int} : fiS s b r = true ↔ (-32768 ≤ b ∧ b ≤ 32767) ∧ (r = -1 ∨ (0 ≤ r ∧ r < (s.rw.length : Int) ∧ r < 400)) := by
  unfold fiS
  simp only [Bool.and_eq_true, Bool.or_eq_true, decide_eq_true_iff, fdB_iff]

/-- The change of a row by the first k regions. -/
def chK (g : List (List Te)) (r : List Int) (cs : List Int) : Nat → Rat
  | 0 => 0
  | k + 1 => chK g r cs k + alQ (g.getD k []) cs * ((r.getD k 0 : Int) : Rat)
theorem chK_succ (g : List (List Te)) (r cs : List Int) (k : Nat) : chK g r cs (k + 1) = chK g r cs k + alQ (g.getD k []) cs * ((r.getD k 0 : Int) : Rat) := rfl
/-- Whether a row counts. -/
def rwB (s : Sr) (i : Int) : Bool := decide (0 ≤ i ∧ i < (s.rw.length : Int) ∧ (s.rw.getD i.toNat []).length = s.rg.length)
theorem rwB_iff {s : Sr} {i : Int} : rwB s i = true ↔ 0 ≤ i ∧ i < (s.rw.length : Int) ∧ (s.rw.getD i.toNat []).length = s.rg.length := by unfold rwB; exact decide_eq_true_iff
def chQ (s : Sr) (i : Int) (cs : List Int) : Rat := if rwB s i then chK s.rg (s.rw.getD i.toNat []) cs s.rg.length else 0
theorem chQ_yes {s : Sr} {i : Int} (h : rwB s i = true) (cs : List Int) : chQ s i cs = chK s.rg (s.rw.getD i.toNat []) cs s.rg.length := by rw [chQ, if_pos h]
theorem chQ_no {s : Sr} {i : Int} (h : rwB s i = false) (cs : List Int) : chQ s i cs = 0 := by rw [chQ, if_neg (by rw [h]; decide)]
/-- A slot's value. -/
def vaQ (s : Sr) (b r : Int) (cs : List Int) : Rat := ((b : Int) : Rat) + chQ s r cs

/-- Rows that add up. -/
theorem chK_add {g : List (List Te)} {a b c : List Int} (cs : List Int) : ∀ k, (∀ j, j < k → c.getD j 0 = a.getD j 0 + b.getD j 0) → chK g c cs k = chK g a cs k + chK g b cs k := by
  intro k
  induction k with
  | zero => intro _; show (0 : Rat) = 0 + 0; rw [Rat.add_zero]
  | succ k ih =>
    intro h
    rw [chK_succ, chK_succ, chK_succ, ih (fun j hj => h j (by omega)), h k (by omega), Rat.intCast_add, Rat.mul_add]
    grind
theorem chK_mul {g : List (List Te)} {a c : List Int} (n : Int) (cs : List Int) : ∀ k, (∀ j, j < k → c.getD j 0 = n * a.getD j 0) → chK g c cs k = chK g a cs k * ((n : Int) : Rat) := by
  intro k
  induction k with
  | zero => intro _; show (0 : Rat) = 0 * _; rw [Rat.zero_mul]
  | succ k ih =>
    intro h
    rw [chK_succ, chK_succ, ih (fun j hj => h j (by omega)), h k (by omega), Rat.intCast_mul]
    grind
/-- Where no region holds everywhere nothing changes at the beginning. -/
theorem chK_start {g : List (List Te)} {r : List Int} (hf : ∀ j, j < g.length → (g.getD j []).all tfB = true) (he : ∀ j, j < g.length → evB (g.getD j []) = false) : ∀ k, k ≤ g.length → chK g r [] k = 0 := by
  intro k
  induction k with
  | zero => intro _; rfl
  | succ k ih =>
    intro hk
    rw [chK_succ, ih (by omega), (alQ_start (hf k (by omega))).2 (he k (by omega)), Rat.zero_mul, Rat.add_zero]
theorem getL {α : Type} {m : List (List α)} {k : Nat} (hk : k < m.length) : m.getD k [] = m[k] := by simp [List.getD, hk]
theorem getL_mem {α : Type} {m : List (List α)} {k : Nat} (hk : k < m.length) : m.getD k [] ∈ m := by rw [getL hk]; exact List.getElem_mem hk
theorem rgB_all {l : List Te} {n : Int} (h : rgB l n = true) : l.all tfB = true ∧ (l.length : Int) = n := by
  unfold rgB at h
  rw [Bool.and_eq_true, decide_eq_true_iff] at h
  exact h
theorem vaQ_start {s : Sr} {n b r : Int} (h : stB s n = true) (he : ∀ j, j < s.rg.length → evB (s.rg.getD j []) = false) : chQ s r [] = 0 ∧ vaQ s b r [] = ((b : Int) : Rat) := by
  have hs := stB_iff.1 h
  have hc : chQ s r [] = 0 := by
    cases hw : rwB s r with
    | false => exact chQ_no hw _
    | true =>
      rw [chQ_yes hw]
      exact chK_start (fun j hj => (rgB_all (hs.2.2.2.1 _ (getL_mem hj))).1) he _ (Nat.le_refl _)
  exact ⟨hc, by rw [vaQ, hc, Rat.add_zero]⟩

end Go.Proofs.Ytfpeioccnpinkaa

namespace Go.Proofs.Ytfpeioccnpinkaa
open Go.RowKit Go.Maps
set_option linter.unusedSimpArgs false
set_option linter.unusedVariables false

/-- A page: its bytes, the places that wait, whether it has failed. -/
structure St where
  bs : List Nat
  ws : List Int
  no : Bool

/-- A page of the document: bytes; no place waits twice, and each has its four bytes. -/
def Wf (s : St) : Prop := Byt s.bs ∧ s.ws.Nodup ∧ (∀ x ∈ s.ws, 0 ≤ x ∧ x + 4 ≤ (s.bs.length : Int)) ∧ 4 * s.ws.length ≤ s.bs.length

def St.zero : St := ⟨[], [], false⟩
def St.fail (s : St) : St := { s with no := true }
/-- Bytes are put, unless the page has failed. -/
def St.app (s : St) (xs : List Nat) : St := if s.no then s else { s with bs := s.bs ++ xs }

theorem Wf.zero : Wf St.zero := ⟨Byt.nil, List.nodup_nil, (fun x hx => by cases hx), Nat.le_refl _⟩
theorem Wf.fail {s : St} (h : Wf s) : Wf s.fail := h
theorem Wf.app {s : St} (h : Wf s) {xs : List Nat} (hx : Byt xs) : Wf (s.app xs) := by
  unfold St.app
  split
  · exact h
  · exact ⟨h.1.append hx, h.2.1, fun x hxs => by have := h.2.2.1 x hxs; simp; omega, by have := h.2.2.2; simp; omega⟩
theorem St.app_bad {s : St} (h : s.no = true) (xs : List Nat) : s.app xs = s := by simp [St.app, h]
theorem St.app_ok {s : St} (h : s.no = false) (xs : List Nat) : s.app xs = { s with bs := s.bs ++ xs } := by simp [St.app, h]
theorem St.app_no (s : St) (xs : List Nat) : (s.app xs).no = s.no := by unfold St.app; split <;> rfl
theorem St.app_len (s : St) (xs : List Nat) : (s.app xs).bs.length ≤ s.bs.length + xs.length := by unfold St.app; split <;> simp

/-- A row of bytes, none of whose blocks lies in G. -/
def Row (w : World) (G : Nat → Prop) (v : Value) (xs : List Nat) : Prop :=
  w.ownsRow 0 5 1 v xs.length (xs.map Y) ∧ ∀ g, v.ownBlock = some g → ¬ G g

/-- The map of the places that wait. -/
def Wts (w : World) (G : Nat → Prop) (v : Value) (ws : List Int) : Prop :=
  (v = .map none ∧ ws = []) ∨ ∃ m D, v = .map (some m) ∧ ¬ G m ∧ w.ownsMap Try.prog 3 (unitElem (H := Unit)) m ws.length D ∧
    (∀ x : Int, Maps.has D (.int .i64 x) = decide (x ∈ ws)) ∧ Maps.size D = ws.length

/-- The four cells of a page of the code. -/
def Bx4 (w : World) (B : Nat) (a b c d : Value) : Prop := w.heap[B]? = some (.cells #[a, b, c, d] 56 (0, 0))

/-- Block B holds a page of the code in the state s; no block of it lies in G. -/
def Pc (w : World) (B : Nat) (G : Nat → Prop) (s : St) : Prop :=
  (∀ k, G k → k < w.heap.size) ∧ ¬ G B ∧ Wf s ∧ ∃ vb vm, Bx4 w B vb (.int .i64 (s.bs.length : Int)) vm (.bool s.no) ∧ (s.no = true → vm = .map none) ∧ (s.no = false → Row w G vb s.bs ∧ Wts w G vm s.ws)

theorem Bx4.lt {w : World} {B : Nat} {a b c d : Value} (h : Bx4 w B a b c d) : B < w.heap.size := (Array.getElem?_eq_some_iff.1 h).1
theorem Bx4.cells {w : World} {B : Nat} {a b c d : Value} (h : Bx4 w B a b c d) :
    w.cell? ⟨B, 0, none⟩ = some a ∧ w.cell? ⟨B, 1, none⟩ = some b ∧ w.cell? ⟨B, 2, none⟩ = some c ∧ w.cell? ⟨B, 3, none⟩ = some d ∧
    w.frozen? ⟨B, 0, none⟩ = false ∧ w.frozen? ⟨B, 1, none⟩ = false ∧ w.frozen? ⟨B, 2, none⟩ = false ∧ w.frozen? ⟨B, 3, none⟩ = false :=
  ⟨cell_of_row w B 0 _ _ (0, 0) h, cell_of_row w B 1 _ _ (0, 0) h, cell_of_row w B 2 _ _ (0, 0) h, cell_of_row w B 3 _ _ (0, 0) h, frozen_of_row w B 0 _ _ h, frozen_of_row w B 1 _ _ h, frozen_of_row w B 2 _ _ h, frozen_of_row w B 3 _ _ h⟩
theorem Bx4.set0 {w : World} {B : Nat} {a b c d : Value} (h : Bx4 w B a b c d) (x : Value) : Bx4 (w.setCell ⟨B, 0, none⟩ x) B x b c d := heap_setCell_same w B 0 _ _ x h
theorem Bx4.set1 {w : World} {B : Nat} {a b c d : Value} (h : Bx4 w B a b c d) (x : Value) : Bx4 (w.setCell ⟨B, 1, none⟩ x) B a x c d := heap_setCell_same w B 1 _ _ x h
theorem Bx4.set2 {w : World} {B : Nat} {a b c d : Value} (h : Bx4 w B a b c d) (x : Value) : Bx4 (w.setCell ⟨B, 2, none⟩ x) B a b x d := heap_setCell_same w B 2 _ _ x h
theorem Bx4.set3 {w : World} {B : Nat} {a b c d : Value} (h : Bx4 w B a b c d) (x : Value) : Bx4 (w.setCell ⟨B, 3, none⟩ x) B a b c x := heap_setCell_same w B 3 _ _ x h
theorem Bx4.keep {G : Nat → Prop} {w w' : World} {B : Nat} {a b c d : Value} (h : Bx4 w B a b c d) (hk : Keep G w w') (hB : G B) : Bx4 w' B a b c d := (hk.block B hB).trans h
theorem Bx4.below {w w' : World} {B : Nat} {a b c d : Value} (h : Bx4 w B a b c d) (hb : Below w.heap.size w w') : Bx4 w' B a b c d := (hb.block B h.lt).trans h

/-- No byte that is read lies among a page's cells. -/
theorem Rb.off {w : World} {B : Nat} {x0 x1 x2 x3 : Value} (hB : Bx4 w B x0 x1 x2 x3) (h0 : ∀ z, x0 ≠ .int .u8 z) (h1 : ∀ z, x1 ≠ .int .u8 z) (h2 : ∀ z, x2 ≠ .int .u8 z) (h3 : ∀ z, x3 ≠ .int .u8 z)
    {w' : World} {a : Option Addr} {cap : Nat} {xs : List Nat} (h : Rb w a cap xs) (hs : w.heap.size ≤ w'.heap.size) (hw : ∀ k, k < w.heap.size → k ≠ B → w'.heap[k]? = w.heap[k]?) : Rb w' a cap xs := by
  obtain ⟨k1, k2, k3, k5, k4⟩ := h
  refine ⟨k1, k2, k3, k5, ?_⟩
  by_cases hx : xs = []
  · exact .inl hx
  rcases k4 with k4 | ⟨g, off, e, hg, hc⟩
  · exact .inl k4
  · refine .inr ⟨g, off, e, Nat.lt_of_lt_of_le hg hs, fun i hi => ?_⟩
    have hne : g ≠ B := by
      rintro rfl
      have hc0 := hc 0 (List.length_pos_iff.2 hx)
      have hb := cell_of_row w g (off + 0) _ _ (0, 0) hB
      rw [hc0] at hb
      match off, hb with
      | 0, hb => simp at hb; exact h0 _ hb.symm
      | 1, hb => simp at hb; exact h1 _ hb.symm
      | 2, hb => simp at hb; exact h2 _ hb.symm
      | 3, hb => simp at hb; exact h3 _ hb.symm
      | (k + 4), hb => simp at hb
    exact (World.cell?_of_block (w := w) (a := ⟨g, off + i, none⟩) (hw g hg hne)).trans (hc i hi)

/-- What is owned stays owned while the blocks outside G stay. -/
theorem Row.stay {w w' : World} {G : Nat → Prop} {v : Value} {xs : List Nat} (h : Row w G v xs) (hb : ∀ k, k < w.heap.size → ¬ G k → w'.heap[k]? = w.heap[k]?) : Row w' G v xs := by
  obtain ⟨⟨h1, h2⟩, hG⟩ := h
  refine ⟨⟨h1, ?_⟩, hG⟩
  rcases h2 with h2 | ⟨g, cap, cur, e, h3, h4, h5⟩
  · exact .inl h2
  · exact .inr ⟨g, cap, cur, e, h3, (hb g (Array.getElem?_eq_some_iff.1 h4).1 (hG g (by rw [e]; rfl))).trans h4, h5⟩
/-- The row's block holds bytes: it is no page. -/
theorem Row.ne {w : World} {G : Nat → Prop} {v : Value} {xs : List Nat} (h : Row w G v xs) {B : Nat} {cs : Array Value} {t : TypeId} {f : Nat × Nat} (hB : w.heap[B]? = some (.cells cs t f)) (ht : t ≠ 5) : v.ownBlock ≠ some B := by
  obtain ⟨⟨h1, h2⟩, hG⟩ := h
  rcases h2 with ⟨rfl, _⟩ | ⟨g, cap, cur, rfl, h3, h4, h5⟩
  · intro e; cases e
  · intro e
    simp only [Value.ownBlock, Option.some.injEq] at e
    subst e
    rw [h4] at hB
    simp at hB
    exact ht hB.2.1.symm
theorem Row.ne_map {w : World} {G : Nat → Prop} {v : Value} {xs : List Nat} (h : Row w G v xs) {m : Nat} {es : Array MapEntry} {c : Nat} (hB : w.heap[m]? = some (.map es c)) : v.ownBlock ≠ some m := by
  obtain ⟨⟨h1, h2⟩, hG⟩ := h
  rcases h2 with ⟨rfl, _⟩ | ⟨g, cap, cur, rfl, h3, h4, h5⟩
  · intro e; cases e
  · intro e
    simp only [Value.ownBlock, Option.some.injEq] at e
    subst e
    rw [h4] at hB
    simp at hB
/-- .. while all but the page's own cells stays. -/
theorem Row.off {w w' : World} {G : Nat → Prop} {v : Value} {xs : List Nat} (h : Row w G v xs) {B : Nat} {cs : Array Value} {t : TypeId} {f : Nat × Nat} (hB : w.heap[B]? = some (.cells cs t f)) (ht : t ≠ 5)
    (hb : ∀ k, k < w.heap.size → k ≠ B → w'.heap[k]? = w.heap[k]?) : Row w' G v xs := by
  have hne := h.ne hB ht
  obtain ⟨⟨h1, h2⟩, hG⟩ := h
  refine ⟨⟨h1, ?_⟩, hG⟩
  rcases h2 with h2 | ⟨g, cap, cur, e, h3, h4, h5⟩
  · exact .inl h2
  · exact .inr ⟨g, cap, cur, e, h3, (hb g (Array.getElem?_eq_some_iff.1 h4).1 (fun e' => hne (by rw [e, ← e']; rfl))).trans h4, h5⟩
theorem Row.slice {w : World} {G : Nat → Prop} {v : Value} {xs : List Nat} (h : Row w G v xs) : ∃ a c, v = .slice a xs.length c := by
  rcases h.1.2 with ⟨e, h0⟩ | ⟨g, cap, cur, e, _⟩
  · exact ⟨none, 0, by rw [e, h0]⟩
  · exact ⟨_, cap, e⟩
theorem Row.no8 {w : World} {G : Nat → Prop} {v : Value} {xs : List Nat} (h : Row w G v xs) (z : Int) : v ≠ .int .u8 z := by
  obtain ⟨a, c, rfl⟩ := h.slice
  intro e; cases e
theorem Wts.no8 {w : World} {G : Nat → Prop} {v : Value} {ws : List Int} (h : Wts w G v ws) (z : Int) : v ≠ .int .u8 z := by
  rcases h with ⟨rfl, _⟩ | ⟨m, D, rfl, _⟩ <;> (intro e; cases e)
/-- The map stays while a block of cells is written. -/
theorem Wts.off {w w' : World} {G : Nat → Prop} {v : Value} {ws : List Int} (h : Wts w G v ws) {B : Nat} (hB : ∀ es c, w.heap[B]? ≠ some (.map es c))
    (hb : ∀ k, k < w.heap.size → k ≠ B → w'.heap[k]? = w.heap[k]?) : Wts w' G v ws := by
  rcases h with h | ⟨m, D, e, hG, ho, h1, h2⟩
  · exact .inl h
  · have hlt := ho.lt
    obtain ⟨es, clock, hb0, F, hs, hD⟩ := ho
    exact .inr ⟨m, D, e, hG, ⟨es, clock, (hb m hlt (fun e' => hB es clock (e' ▸ hb0))).trans hb0, F, hs, hD⟩, h1, h2⟩
theorem Bx4.no_map {w : World} {B : Nat} {a b c d : Value} (h : Bx4 w B a b c d) (es : Array MapEntry) (k : Nat) : w.heap[B]? ≠ some (.map es k) := by
  rw [h]; intro e; simp at e
/-- The map stays while the page's row grows. -/
theorem Wts.grown {w w' : World} {G : Nat → Prop} {v : Value} {ws : List Int} (h : Wts w G v ws) {G' : Nat → Prop} {u : Value} {xs : List Nat} (hr : Row w G' u xs) (hg : w.grownBy w' u.ownBlock) : Wts w' G v ws := by
  rcases h with h | ⟨m, D, e, hG, ho, h1, h2⟩
  · exact .inl h
  · have hlt := ho.lt
    obtain ⟨es, clock, hb0, F, hs, hD⟩ := ho
    exact .inr ⟨m, D, e, hG, ⟨es, clock, (hg.block m hlt (Ne.symm (hr.ne_map hb0))).trans hb0, F, hs, hD⟩, h1, h2⟩
theorem Bx4.grown {w w' : World} {B : Nat} {a b c d : Value} (h : Bx4 w B a b c d) {G' : Nat → Prop} {u : Value} {xs : List Nat} (hr : Row w G' u xs) (hg : w.grownBy w' u.ownBlock) : Bx4 w' B a b c d :=
  (hg.block B h.lt (Ne.symm (hr.ne h (by decide)))).trans h
theorem Wts.stay {w w' : World} {G : Nat → Prop} {v : Value} {ws : List Int} (h : Wts w G v ws) (hb : ∀ k, k < w.heap.size → ¬ G k → w'.heap[k]? = w.heap[k]?) : Wts w' G v ws := by
  rcases h with h | ⟨m, D, e, hG, ho, h1, h2⟩
  · exact .inl h
  · have hlt := ho.lt
    obtain ⟨es, clock, hb0, F, hs, hD⟩ := ho
    exact .inr ⟨m, D, e, hG, ⟨es, clock, (hb m hlt hG).trans hb0, F, hs, hD⟩, h1, h2⟩
/-- A page stays while its own blocks stay. -/
theorem Pc.stay {w w' : World} {B : Nat} {G : Nat → Prop} {s : St} (h : Pc w B G s) (hs : w.heap.size ≤ w'.heap.size) (hb : ∀ k, k < w.heap.size → ¬ G k → w'.heap[k]? = w.heap[k]?) : Pc w' B G s := by
  obtain ⟨h1, h2, h3, vb, vm, h4, h6, h5⟩ := h
  exact ⟨fun k hk => Nat.lt_of_lt_of_le (h1 k hk) hs, h2, h3, vb, vm, (hb B h4.lt h2).trans h4, h6, fun hn => ⟨(h5 hn).1.stay hb, (h5 hn).2.stay hb⟩⟩
theorem Pc.below {w w' : World} {B : Nat} {G : Nat → Prop} {s : St} (h : Pc w B G s) (hb : Below w.heap.size w w') : Pc w' B G s := h.stay hb.size fun k hk _ => hb.block k hk
/-- New blocks may be counted to G; fewer blocks too. -/
theorem Pc.guard {w : World} {B : Nat} {G G' : Nat → Prop} {s : St} (h : Pc w B G s) (hG : ∀ k, G' k → k < w.heap.size ∧ G k) : Pc w B G' s := by
  obtain ⟨h1, h2, h3, vb, vm, h4, h6, h5⟩ := h
  refine ⟨fun k hk => (hG k hk).1, fun hB => h2 (hG _ hB).2, h3, vb, vm, h4, h6, fun hn => ⟨⟨(h5 hn).1.1, fun g hg hg' => (h5 hn).1.2 g hg (hG _ hg').2⟩, ?_⟩⟩
  rcases (h5 hn).2 with h | ⟨m, D, e, hG2, r⟩
  · exact .inl h
  · exact .inr ⟨m, D, e, fun hm => hG2 (hG _ hm).2, r⟩
/-- Blocks that are made behind a page may be counted to G. -/
theorem Pc.guard_new {w w' : World} {B : Nat} {G G' : Nat → Prop} {s : St} (h : Pc w B G s) (hs : w.heap.size ≤ w'.heap.size) (hb : ∀ k, k < w.heap.size → ¬ G k → w'.heap[k]? = w.heap[k]?) (hG : ∀ k, G' k → k < w'.heap.size ∧ (k < w.heap.size → G k)) : Pc w' B G' s := by
  have h' := h.stay hs hb
  obtain ⟨h1, h2, h3, vb, vm, h4, h6, h5⟩ := h
  refine ⟨fun k hk => (hG k hk).1, fun hB => h2 ((hG _ hB).2 h4.lt), h3, vb, vm, (hb B h4.lt h2).trans h4, h6, fun hn => ⟨⟨((h5 hn).1.stay hb).1, fun g hg hg' => (h5 hn).1.2 g hg ((hG _ hg').2 ((h5 hn).1.1.lt g hg).2)⟩, ?_⟩⟩
  rcases (h5 hn).2 with h | ⟨m, D, e, hG2, ho, r⟩
  · exact .inl h
  · have hlt := ho.lt
    rcases ((h5 hn).2).stay hb with h | ⟨m', D', e', hG2', r'⟩
    · exact .inl h
    · rw [e] at e'
      simp at e'
      subst e'
      exact .inr ⟨m, D', e, fun hm => hG2 ((hG _ hm).2 hlt), r'⟩

end Go.Proofs.Ytfpeioccnpinkaa

namespace Go.Proofs.Ytfpeioccnpinkaa
open Go.RowKit Go.Maps
set_option linter.unusedSimpArgs false
set_option linter.unusedVariables false

theorem info_byte : (Try.prog.info? 5).map (fun i => (i.zero, i.size, i.bytes)) = some (some (.int .u8 0), 1, 1) := by kernel_rfl

/-- A page's pointer. -/
abbrev pg (B : Nat) : Value := .pointer (some ⟨B, 0, none⟩)

set_option maxHeartbeats 400000 in
set_option maxRecDepth 100000 in
theorem closed_any (B : Nat) (G : Nat → Prop) (s : St) (w : World) (h : Pc w B G s) (hl : s.bs.length ≤ 1048576) :
    Calls Try.prog 65 #[pg B] w fun e w' => e = .returned (.bool s.no) ∧ w = w' := by
  obtain ⟨h1, h2, h3, vb, vm, h4, h6, h5⟩ := h
  obtain ⟨c0, c1, c2, c3, f0, f1, f2, f3⟩ := h4.cells
  generalize s.no = n at *
  generalize s.bs.length = l at *
  clear h5 h6 h4 h3 h2 h1
  cases n
  · go_enter Try.func65, Try.ntmps65
    go_wp2
    go_ret
    exact ⟨rt_bool (by simp; try omega), rfl⟩
  · go_enter Try.func65, Try.ntmps65
    go_wp2
    go_ret
    exact ⟨rt_bool (by simp; try omega), rfl⟩

theorem closed_nil (w : World) :
    Calls Try.prog 65 #[.pointer none] w fun e w' => e = .returned (.bool true) ∧ w = w' := by
  go_enter Try.func65, Try.ntmps65
  go_wp2
  go_ret
  exact ⟨rfl, rfl⟩

theorem fail_nil (w : World) :
    Calls Try.prog 44 #[.pointer none] w fun e w' => e = .returned (.tuple #[]) ∧ w = w' := by
  go_enter Try.func44, Try.ntmps44
  go_wp2
  (try simp only [Exit.inBlock, Exit.then]); refine bodyPost_ret (results_none rfl _ _ _) rfl ?_
  exact ⟨rfl, rfl⟩

set_option maxHeartbeats 400000 in
set_option maxRecDepth 100000 in
theorem fail_any (B : Nat) (G : Nat → Prop) (s : St) (w : World) (h : Pc w B G s) :
    Calls Try.prog 44 #[pg B] w fun e w' => e = .returned (.tuple #[]) ∧ Pc w' B G s.fail ∧ Keep G w w' := by
  obtain ⟨h1, h2, h3, vb, vm, h4, h6, h5⟩ := h
  obtain ⟨c0, c1, c2, c3, f0, f1, f2, f3⟩ := h4.cells
  go_enter Try.func44, Try.ntmps44
  go_wp2
  go_end0
  refine ⟨rfl, ⟨fun k hk => by simpa [World.setCell] using h1 k hk, h2, h3.fail, _, _, ((h4.set3 _).set0 _).set2 _, fun _ => rfl, fun hn => by cases hn⟩, ?_⟩
  exact (((Keep.refl G w).setCell (p := ⟨B, 3, none⟩) h2 _).setCell (p := ⟨B, 0, none⟩) h2 _).setCell (p := ⟨B, 2, none⟩) h2 _

theorem put_nil (v : Value) (w : World) :
    Calls Try.prog 45 #[.pointer none, v] w fun e w' => e = .returned (.tuple #[]) ∧ w = w' := by
  go_enter Try.func45, Try.ntmps45
  go_wp2_with fail
  refine (closed_nil _).mono ?_
  rintro e u ⟨rfl, rfl⟩
  go_wp2
  (try simp only [Exit.inBlock, Exit.then]); refine bodyPost_ret (results_none rfl _ _ _) rfl ?_
  exact ⟨rfl, rfl⟩

set_option maxHeartbeats 1000000 in
set_option maxRecDepth 100000 in
theorem put_any (B : Nat) (G : Nat → Prop) (s : St) (a : Option Addr) (cap : Nat) (xs : List Nat) (w : World) (h : Pc w B G s) (hr : Rb w a cap xs) (hl : s.bs.length + xs.length ≤ 1048576) :
    Calls Try.prog 45 #[pg B, .slice a xs.length cap] w fun e w' => e = .returned (.tuple #[]) ∧ Pc w' B G (s.app xs) ∧ Keep G w w' := by
  obtain ⟨i0, hi, hz0, hz1, hz2⟩ := info_parts info_byte
  have hP := h
  obtain ⟨h1, h2, h3, vb, vm, h4, h6, h5⟩ := h
  go_enter Try.func45, Try.ntmps45
  go_wp2_with fail
  refine (closed_any B G s _ hP (by omega)).mono ?_
  rintro e u ⟨rfl, rfl⟩
  by_cases hno : s.no = true
  · rw [hno]
    go_wp2
    (try simp only [Exit.inBlock, Exit.then]); refine bodyPost_ret (results_none rfl _ _ _) rfl ?_
    exact ⟨rfl, by rw [St.app_bad hno]; exact hP, Keep.refl _ _⟩
  · have hno : s.no = false := by simpa using hno
    rw [hno]
    obtain ⟨hR, hM⟩ := h5 hno
    obtain ⟨c0, c1, c2, c3, f0, f1, f2, f3⟩ := h4.cells
    obtain ⟨l, hll⟩ : ∃ l, s.bs.length = l := ⟨_, rfl⟩
    rw [hll] at c1 h4
    have HL : Hid (s.bs.length = l) := hll
    have hl' : l + xs.length ≤ 1048576 := by omega
    clear hll hl
    have hoff : ∀ (u : World) (v : Value) (o : Nat), ∀ k, k < u.heap.size → k ≠ B → (u.setCell ⟨B, o, none⟩ v).heap[k]? = u.heap[k]? := fun u v o k _ hk => Below.heap_setCell _ ⟨B, o, none⟩ v k hk
    have h41 := h4.set1 (.int .i64 ((l : Int) + xs.length))
    have hR1 := hR.off h4 (by decide) (hoff w (.int .i64 ((l : Int) + xs.length)) 1)
    have hM1 := hM.off h4.no_map (hoff w (.int .i64 ((l : Int) + xs.length)) 1)
    have hr1 := Rb.off h4 hR.no8 (by simp) hM.no8 (by simp) hr (by simp [World.setCell]) (hoff w (.int .i64 ((l : Int) + xs.length)) 1)
    have hK1 : Keep G w (w.setCell ⟨B, 1, none⟩ (.int .i64 ((l : Int) + xs.length))) := (Keep.refl G w).setCell (p := ⟨B, 1, none⟩) h2 _
    have hsz : (w.setCell ⟨B, 1, none⟩ (.int .i64 ((l : Int) + xs.length))).heap.size = w.heap.size := by simp [World.setCell]
    clear h4 hP hr hM h5 h6
    go_wp2_with (at_builtin; refine wpList_append_rb rfl _ _ 37 rfl 0 5 i0 Try.underlying37 hi hz0 hz1 hz2 _ s.bs.length s.bs rfl hR1.1 a cap _ xs rfl rfl hr1 (by rw [HL.out]; omega) (Nat.zero_le _) ?_)
    intro v' w1 hown hgrow hat
    obtain ⟨ts, hts⟩ : ∃ ts, s.bs ++ xs = ts := ⟨_, rfl⟩
    have htl : s.bs.length + xs.length = ts.length := by rw [← hts, List.length_append]
    rw [← List.map_append, hts, htl] at hown
    have HT : Hid (s.bs ++ xs = ts) := hts
    have HT2 : Hid (s.bs.length + xs.length = ts.length) := htl
    have hBt : Byt ts := hts ▸ h3.1.append hr1.lim
    clear hts htl
    have h42 := h41.grown hR1 hgrow
    obtain ⟨a2, cap2, rfl, _⟩ := Rw.of hBt hown
    obtain ⟨d0, d1, d2, d3, g0, g1, g2, g3⟩ := h42.cells
    go_wp2
    go_end0
    have hM2 := hM1.grown hR1 hgrow
    have hnG : ∀ g, (Value.slice a2 ts.length cap2).ownBlock = some g → ¬ G g := by
      intro g hg hGg
      rcases hat with hat | hat
      · exact hR.2 g (by rw [← hat]; exact hg) hGg
      · rw [hat] at hg
        have := h1 g hGg
        simp at hg
        omega
    have hR2 : Row w1 G (.slice a2 ts.length cap2) ts := ⟨hown, hnG⟩
    have hR3 := hR2.off h42 (by decide) (hoff w1 (.slice a2 ts.length cap2) 0)
    have hK2 := (hK1.grown hgrow (fun k hk => by rw [hsz]; exact h1 k hk) (fun k hk => hR.2 k hk)).setCell (p := ⟨B, 0, none⟩) h2 (.slice a2 ts.length cap2)
    refine ⟨rfl, ⟨fun k hk => ?_, h2, h3.app hr1.lim, .slice a2 ts.length cap2, vm, ?_, fun hn => absurd hn (by rw [St.app_no, hno]; decide), fun _ => ?_⟩, hK2⟩
    · exact Nat.lt_of_lt_of_le (h1 k hk) hK2.size
    · have h43 := h42.set0 (.slice a2 ts.length cap2)
      rw [St.app_ok hno]
      simp only [HT.out, ← HT2.out, HL.out]
      simpa [← HT2.out, HL.out] using h43
    · rw [St.app_ok hno, HT.out]
      exact ⟨hR3, hM2.off h42.no_map (hoff w1 (.slice a2 ts.length cap2) 0)⟩

end Go.Proofs.Ytfpeioccnpinkaa

namespace Go.Proofs.Ytfpeioccnpinkaa
open Go.RowKit Go.Maps
set_option linter.unusedSimpArgs false
set_option linter.unusedVariables false

def be1 (n : Int) : List Nat := [(n % 256).toNat]
def be2 (n : Int) : List Nat := [(n / 256 % 256).toNat, (n % 256).toNat]
def be4 (n : Int) : List Nat := [(n / 16777216 % 256).toNat, (n / 65536 % 256).toNat, (n / 256 % 256).toNat, (n % 256).toNat]
theorem byt_be1 (n : Int) : Byt (be1 n) := by intro x hx; simp [be1] at hx; omega
theorem byt_be2 (n : Int) : Byt (be2 n) := by intro x hx; simp [be2] at hx; omega
theorem byt_be4 (n : Int) : Byt (be4 n) := by intro x hx; simp [be4] at hx; omega

def St.put8 (s : St) (n : Int) : St := if -128 ≤ n ∧ n ≤ 255 then s.app (be1 n) else s.fail
def St.put16 (s : St) (n : Int) : St := if -32768 ≤ n ∧ n ≤ 65535 then s.app (be2 n) else s.fail
def St.put32 (s : St) (n : Int) : St := if -2147483648 ≤ n ∧ n ≤ 4294967295 then s.app (be4 n) else s.fail

set_option maxHeartbeats 400000 in
set_option maxRecDepth 100000 in
theorem fits8_any (n : Int) (w : World) (hn : I64 n) :
    Calls Try.prog 43 #[.int .i64 n, .int .i64 8] w fun e w' => e = .returned (.bool (decide (-128 ≤ n ∧ n ≤ 255))) ∧ w = w' := by
  obtain ⟨n1, n2⟩ := hn
  by_cases h : -128 ≤ n
  · go_enter Try.func43, Try.ntmps43
    go_wp2
    go_ret
    refine ⟨rt_bool ?_, rfl⟩
    by_cases h2 : n ≤ 255
    · simp [h, h2]; try omega
    · simp [h, h2]; try omega
  · go_enter Try.func43, Try.ntmps43
    go_wp2
    go_ret
    exact ⟨rt_bool (by simp [h]; try omega), rfl⟩

set_option maxHeartbeats 400000 in
set_option maxRecDepth 100000 in
theorem fits16_any (n : Int) (w : World) (hn : I64 n) :
    Calls Try.prog 43 #[.int .i64 n, .int .i64 16] w fun e w' => e = .returned (.bool (decide (-32768 ≤ n ∧ n ≤ 65535))) ∧ w = w' := by
  obtain ⟨n1, n2⟩ := hn
  by_cases h : -32768 ≤ n
  · go_enter Try.func43, Try.ntmps43
    go_wp2
    go_ret
    refine ⟨rt_bool ?_, rfl⟩
    by_cases h2 : n ≤ 65535
    · simp [h, h2]; try omega
    · simp [h, h2]; try omega
  · go_enter Try.func43, Try.ntmps43
    go_wp2
    go_ret
    exact ⟨rt_bool (by simp [h]; try omega), rfl⟩

set_option maxHeartbeats 400000 in
set_option maxRecDepth 100000 in
theorem fits32_any (n : Int) (w : World) (hn : I64 n) :
    Calls Try.prog 43 #[.int .i64 n, .int .i64 32] w fun e w' => e = .returned (.bool (decide (-2147483648 ≤ n ∧ n ≤ 4294967295))) ∧ w = w' := by
  obtain ⟨n1, n2⟩ := hn
  by_cases h : -2147483648 ≤ n
  · go_enter Try.func43, Try.ntmps43
    go_wp2
    go_ret
    refine ⟨rt_bool ?_, rfl⟩
    by_cases h2 : n ≤ 4294967295
    · simp [h, h2]; try omega
    · simp [h, h2]; try omega
  · go_enter Try.func43, Try.ntmps43
    go_wp2
    go_ret
    exact ⟨rt_bool (by simp [h]; try omega), rfl⟩

theorem Pc.al {w : World} {B : Nat} {G : Nat → Prop} {s : St} (h : Pc w B G s) (o : Obj) : Pc (w.alloc o) B G s := h.below (bl1 o)
theorem Pc.kal {w : World} {B : Nat} {G : Nat → Prop} {s : St} (h : Pc w B G s) (o : Obj) : Keep G w (w.alloc o) := Keep.of_below (bl1 o) h.1
theorem Pc.wf {w : World} {B : Nat} {G : Nat → Prop} {s : St} (h : Pc w B G s) : Wf s := h.2.2.1
theorem St.fail_bad {s : St} (h : s.no = true) : s.fail = s := by
  obtain ⟨b, c, d⟩ := s
  simp at h
  simp [St.fail, h]

set_option maxHeartbeats 400000 in
set_option maxRecDepth 100000 in
theorem put16_any (B : Nat) (G : Nat → Prop) (s : St) (n : Int) (w : World) (h : Pc w B G s) (hn : I64 n) (hl : s.bs.length + 4 ≤ 1048576) :
    Calls Try.prog 24 #[pg B, .int .i64 n] w fun e w' => e = .returned (.tuple #[]) ∧ Pc w' B G (s.put16 n) ∧ Keep G w w' := by
  have hn' := hn
  obtain ⟨n1, n2⟩ := hn'
  go_enter Try.func24, Try.ntmps24
  go_wp2_with fail
  refine (fits16_any n _ hn).mono ?_
  rintro e u ⟨rfl, rfl⟩
  by_cases hf : -32768 ≤ n ∧ n ≤ 65535
  · rw [decide_eq_true hf]
    have hs : Hid (s.put16 n = s.app (be2 n)) := if_pos hf
    go_wp2_with fail
    refine (put_any B G s (some ⟨w.heap.size, 0, none⟩) 2 (be2 n) _ (h.al _) (rb_new w 5 (be2 n) #[Value.int IntKind.u8 (n / 256 % 256), Value.int IntKind.u8 (n % 256)] (by simp [be2, Y]; omega) (byt_be2 n) (by simp [be2, maxLen])) (by simp [be2]; omega)).mono ?_
    rintro e u ⟨rfl, hP, hK⟩
    go_wp2
    go_end0
    exact ⟨rfl, hs.out ▸ hP, (h.kal _).trans hK⟩
  · rw [decide_eq_false hf]
    have hs : Hid (s.put16 n = s.fail) := if_neg hf
    go_wp2_with fail
    refine (fail_any B G s _ h).mono ?_
    rintro e u ⟨rfl, hP, hK⟩
    go_wp2
    (try simp only [Exit.inBlock, Exit.then]); refine bodyPost_ret (results_none rfl _ _ _) rfl ?_
    exact ⟨rfl, hs.out ▸ hP, hK⟩

end Go.Proofs.Ytfpeioccnpinkaa

namespace Go.Proofs.Ytfpeioccnpinkaa
open Go.RowKit Go.Maps
set_option linter.unusedSimpArgs false
set_option linter.unusedVariables false

/-- The bytes of a text. -/
def sb (t : ByteArray) : List Nat := t.data.toList.map UInt8.toNat
theorem byt_sb (t : ByteArray) : Byt (sb t) := by
  intro x hx
  obtain ⟨y, _, rfl⟩ := List.mem_map.1 hx
  exact UInt8.toNat_lt y
theorem len_sb (t : ByteArray) : (sb t).length = t.size := by rw [sb, List.length_map, Array.length_toList]; rfl
/-- A byte of a tag. -/
def okb (xs : List Nat) : Bool := xs.all (fun x => decide (32 ≤ x) && decide (x ≤ 126))
/-- A good tag. -/
def gd (xs : List Nat) : Bool := xs.length == 4 && okb xs
theorem sb_drop (t : ByteArray) (k : Nat) (hk : k < t.size) : (sb t).drop k = t[k].toNat :: (sb t).drop (k + 1) := by
  have hl : k < (sb t).length := by rw [len_sb]; exact hk
  rw [List.drop_eq_getElem_cons hl]
  congr 1
  simp only [sb, List.getElem_map, Array.getElem_toList]
  rfl
theorem okb_drop (t : ByteArray) (k : Nat) (hk : k < t.size) : okb ((sb t).drop k) = ((decide (32 ≤ t[k].toNat) && decide (t[k].toNat ≤ 126)) && okb ((sb t).drop (k + 1))) := by
  rw [sb_drop t k hk]; rfl

set_option maxHeartbeats 400000 in
set_option maxRecDepth 100000 in
theorem good_any (t : ByteArray) (w : World) (ht : t.size ≤ maxLen) :
    Calls Try.prog 35 #[.string t] w fun e w' => e = .returned (.bool (gd (sb t))) ∧ w = w' := by
  unfold maxLen at ht
  by_cases h4 : t.size = 4
  · go_enter Try.func35, Try.ntmps35
    go_wp2
    go_loop [7] (fun i => ∃ k : Nat, k ≤ 4 ∧ i = .int .i64 k ∧ okb (sb t) = okb ((sb t).drop k)) (fun i => (4 - intOf i).toNat)
    case atStart => exact ⟨0, by omega, rfl, by rw [List.drop_zero]⟩
    case round =>
      obtain ⟨k, hk, rfl, hst⟩ := hrel
      have HS : Hid (okb (sb t) = okb ((sb t).drop k)) := hst
      clear hst
      by_cases hk4 : k = 4
      · subst hk4
        go_wp2
        go_ret
        refine ⟨rt_bool ?_, rfl⟩
        simp only [gd, HS.out, len_sb, h4]
        rw [List.drop_eq_nil_of_le (by rw [len_sb, h4]; exact Nat.le_refl _)]
        rfl
      · have HD : Hid (okb ((sb t).drop k) = _) := okb_drop t k (by omega)
        by_cases g1 : 32 ≤ t[k].toNat
        · by_cases g2 : t[k].toNat ≤ 126
          · have g1' : ¬ ((t[k].toNat : Int) < 32) := by omega
            have g2' : ¬ (126 < (t[k].toNat : Int)) := by omega
            go_wp2
            go_round
            case rel => exact ⟨k + 1, by omega, by simp, by rw [HS.out, HD.out]; simp [g1, g2]⟩
            case measure => simp [intOf]; omega
          · have g1' : ¬ ((t[k].toNat : Int) < 32) := by omega
            have g2' : (126 < (t[k].toNat : Int)) := by omega
            go_wp2
            go_ret
            exact ⟨rt_bool (by unfold gd; rw [HS.out, HD.out]; simp [g2]), rfl⟩
        · have g1' : ((t[k].toNat : Int) < 32) := by omega
          go_wp2
          go_ret
          exact ⟨rt_bool (by unfold gd; rw [HS.out, HD.out]; simp [g1]), rfl⟩
  · go_enter Try.func35, Try.ntmps35
    go_wp2
    go_ret
    exact ⟨rt_bool (by simp [gd, len_sb, h4]), rfl⟩

set_option maxHeartbeats 400000 in
set_option maxRecDepth 100000 in
theorem sgood_any (t : ByteArray) (w : World) (ht : t.size ≤ maxLen) :
    Calls Try.prog 37 #[.string t] w fun e w' => e = .returned (.bool (gd (sb t))) ∧ w = w' := by
  unfold maxLen at ht
  by_cases h4 : t.size = 4
  · go_enter Try.func37, Try.ntmps37
    go_wp2
    go_loop [3] (fun i => ∃ k : Nat, k ≤ 4 ∧ i = .int .i64 k ∧ okb (sb t) = okb ((sb t).drop k)) (fun i => (4 - intOf i).toNat)
    case atStart => exact ⟨0, by omega, rfl, by rw [List.drop_zero]⟩
    case round =>
      obtain ⟨k, hk, rfl, hst⟩ := hrel
      have HS : Hid (okb (sb t) = okb ((sb t).drop k)) := hst
      clear hst
      by_cases hk4 : k = 4
      · subst hk4
        go_wp2
        go_ret
        refine ⟨rt_bool ?_, rfl⟩
        simp only [gd, HS.out, len_sb, h4]
        rw [List.drop_eq_nil_of_le (by rw [len_sb, h4]; exact Nat.le_refl _)]
        rfl
      · have HD : Hid (okb ((sb t).drop k) = _) := okb_drop t k (by omega)
        by_cases g1 : 32 ≤ t[k].toNat
        · by_cases g2 : t[k].toNat ≤ 126
          · have g1' : ¬ ((t[k].toNat : Int) < 32) := by omega
            have g2' : ¬ (126 < (t[k].toNat : Int)) := by omega
            go_wp2
            go_round
            case rel => exact ⟨k + 1, by omega, by simp, by rw [HS.out, HD.out]; simp [g1, g2]⟩
            case measure => simp [intOf]; omega
          · have g1' : ¬ ((t[k].toNat : Int) < 32) := by omega
            have g2' : (126 < (t[k].toNat : Int)) := by omega
            go_wp2
            go_ret
            exact ⟨rt_bool (by unfold gd; rw [HS.out, HD.out]; simp [g2]), rfl⟩
        · have g1' : ((t[k].toNat : Int) < 32) := by omega
          go_wp2
          go_ret
          exact ⟨rt_bool (by unfold gd; rw [HS.out, HD.out]; simp [g1]), rfl⟩
  · go_enter Try.func37, Try.ntmps37
    go_wp2
    go_ret
    exact ⟨rt_bool (by simp [gd, len_sb, h4]), rfl⟩

/-- A page on which a tag is put. -/
def St.tag (s : St) (xs : List Nat) : St := if gd xs then s.app xs else s.fail

theorem rb_str (w : World) (t : ByteArray) (c : Nat) (f : Nat × Nat) (h1 : t.size ≤ c) (h2 : c ≤ maxLen) : Rb (w.drew.alloc (.cells (bytesRow t c) 5 f)) (some ⟨w.heap.size, 0, none⟩) c (sb t) := by
  refine ⟨byt_sb t, by rw [len_sb]; exact h1, h2, (by simp), .inr ⟨w.heap.size, 0, rfl, by simp, fun i hi => ?_⟩⟩
  rw [len_sb] at hi
  rw [cell_of_row _ w.heap.size (0 + i) _ 5 f (heap_alloc_new w.drew _)]
  have hi' : i < t.data.size := hi
  simp [bytesRow, sb, List.getD, Array.getElem?_append]
  rw [if_pos hi, Array.getElem?_eq_getElem hi']
  simp

theorem bd1 {w : World} (o : Obj) : Below w.heap.size w (w.drew.alloc o) := ((Below.refl w.heap.size w).drew).alloc (Nat.le_refl _) o

set_option maxHeartbeats 400000 in
set_option maxRecDepth 100000 in
theorem putTag_any (B : Nat) (G : Nat → Prop) (s : St) (t : ByteArray) (w : World) (h : Pc w B G s) (ht : t.size ≤ maxLen) (hl : s.bs.length + 4 ≤ 1048576) :
    Calls Try.prog 25 #[pg B, .string t] w fun e w' => e = .returned (.tuple #[]) ∧ Pc w' B G (s.tag (sb t)) ∧ Keep G w w' := by
  have hcv := fun w => run_bytes_of_string (P := Try.prog) w 9 37 5 t Try.underlying9 Try.underlying37 Try.underlying5
  go_enter Try.func25, Try.ntmps25
  go_wp2_with fail
  refine (good_any t _ ht).mono ?_
  rintro e u ⟨rfl, rfl⟩
  by_cases hf : gd (sb t) = true
  · have hs : Hid (s.tag (sb t) = s.app (sb t)) := by show s.tag (sb t) = _; simp [St.tag, hf]
    have h4 : (sb t).length = 4 := by simp [gd] at hf; exact hf.1
    have h4' : t.size = 4 := by rw [← len_sb]; exact h4
    rw [hf]
    have H4 : Hid (t.size = 4) := h4'
    clear h4' 
    go_wp2_with fail
    have hc := grownCap_ge w t.size 0 5
    have hc2 := grownCap_le_maxLen w t.size 0 5 ht
    have hr := rb_str w t (grownCap w t.size 0 5) ((bytesRow t (grownCap w t.size 0 5)).size, (bytesRow t (grownCap w t.size 0 5)).size + 1) hc hc2
    have hput := put_any B G s _ _ (sb t) _ (h.below (bd1 _)) hr (by omega)
    rw [len_sb] at hput
    refine hput.mono ?_
    rintro e u ⟨rfl, hP, hK⟩
    go_wp2
    go_end0
    exact ⟨rfl, hs.out ▸ hP, (Keep.of_below (bd1 _) h.1).trans hK⟩
  · have hf : gd (sb t) = false := by simpa using hf
    have hs : Hid (s.tag (sb t) = s.fail) := by show s.tag (sb t) = _; simp [St.tag, hf]
    rw [hf]
    go_wp2_with fail
    refine (fail_any B G s _ h).mono ?_
    rintro e u ⟨rfl, hP, hK⟩
    go_wp2
    (try simp only [Exit.inBlock, Exit.then]); refine bodyPost_ret (results_none rfl _ _ _) rfl ?_
    exact ⟨rfl, hs.out ▸ hP, hK⟩

end Go.Proofs.Ytfpeioccnpinkaa
