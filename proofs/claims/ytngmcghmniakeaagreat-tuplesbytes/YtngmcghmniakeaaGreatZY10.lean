/-
  Infer: what is inferred of a contour's numbers (plain mathematics).
  Pages: the document's states (St) and what is done with them, and how a page of the code lies in a world (Pc).
  octets: closed, fail, put, fits, four: the walks.
  octets: fits, four, Put8, Put16, Put32, PutBytes, Here: the walks.
  octets.Good, PutTag: the walks.
  octets.within, number, U8, U16, I16, U32, I32: the walks.
-/
import Derived.Test.YtngmcghmniakeaaGreatZY9
import Derived.Test.YtngmcghmniakeaaGreatZY6
import Derived.Laws.IdiomStrings
import Derived.Lib.BitFns
set_option maxHeartbeats 1000000
set_option maxRecDepth 100000
set_option linter.unusedSimpArgs false
set_option linter.unusedVariables false
namespace Go.Proofs.YtngmcghmniakeaaGreat
def nbT (t : List Bool) (f : Nat → Nat) (m : Nat) : Option Nat := ((List.range m).map f).find? (fun j => t.getD j false)
theorem nbT_succ (t : List Bool) (f : Nat → Nat) (m : Nat) : nbT t f (m + 1) = (nbT t f m).or (if t.getD (f m) false = true then some (f m) else none) := by
 unfold nbT
 rw [List.range_succ, List.map_append, List.find?_append]
 by_cases h : t.getD (f m) false = true
 · simp only [List.map_cons, List.map_nil, List.find?_cons, h, if_true]
 · have h' : t.getD (f m) false = false := by simpa using h
   simp only [List.map_cons, List.map_nil, List.find?_cons, List.find?_nil, h']
   rfl
theorem nbT_none {t : List Bool} {f : Nat → Nat} {m : Nat} (h : ∀ j, j < m → t.getD (f j) false = false) : nbT t f m = none := by
 induction m with
 | zero => rfl
 | succ m ih => rw [nbT_succ, ih (fun j hj => h j (by omega)), h m (by omega)]; rfl
theorem nbT_some {t : List Bool} {f : Nat → Nat} {m k : Nat} (hk : k < m) (h : ∀ j, j < k → t.getD (f j) false = false) (ht : t.getD (f k) false = true) : nbT t f m = some (f k) := by
 induction m with
 | zero => omega
 | succ m ih =>
  rw [nbT_succ]
  by_cases hkm : k < m
  · rw [ih hkm]; rfl
  · obtain rfl : k = m := by omega
    rw [nbT_none h, if_pos ht]; rfl
theorem nbT_spec (t : List Bool) (f : Nat → Nat) (m : Nat) : (nbT t f m = none ∧ ∀ j, j < m → t.getD (f j) false = false) ∨ ∃ k, k < m ∧ nbT t f m = some (f k) ∧ t.getD (f k) false = true := by
 induction m with
 | zero => exact .inl ⟨rfl, fun j hj => by omega⟩
 | succ m ih =>
  rcases ih with ⟨h1, h2⟩ | ⟨k, hk, h1, h2⟩
  · by_cases hm : t.getD (f m) false = true
    · exact .inr ⟨m, by omega, by rw [nbT_succ, h1, if_pos hm]; rfl, hm⟩
    · refine .inl ⟨by rw [nbT_succ, h1, if_neg hm]; rfl, fun j hj => ?_⟩
      by_cases hjm : j < m
      · exact h2 j hjm
      · obtain rfl : j = m := by omega
        simpa using hm
  · exact .inr ⟨k, by omega, by rw [nbT_succ, h1]; rfl, h2⟩
def wyA (n i k : Nat) : Nat := if k < i then i - 1 - k else i + n - 1 - k
def wyB (n i k : Nat) : Nat := if i + 1 + k < n then i + 1 + k else i + 1 + k - n
theorem mod2 {x n : Nat} (h : x < 2 * n) : x % n = if x < n then x else x - n := by
 by_cases hx : x < n
 · rw [if_pos hx, Nat.mod_eq_of_lt hx]
 · rw [if_neg hx, Nat.mod_eq_sub_mod (by omega), Nat.mod_eq_of_lt (by omega)]
theorem wyA_lt {n i k : Nat} (hi : i < n) (hk : k < n) : wyA n i k < n := by unfold wyA; split <;> omega
theorem wyB_lt {n i k : Nat} (hi : i < n) (hk : k < n) : wyB n i k < n := by unfold wyB; split <;> omega
theorem wyA_ne {n i k : Nat} (hi : i < n) (hk : k < n - 1) : wyA n i k ≠ i := by unfold wyA; split <;> omega
theorem wyB_ne {n i k : Nat} (hi : i < n) (hk : k < n - 1) : wyB n i k ≠ i := by unfold wyB; split <;> omega
theorem wyA_end {n i : Nat} (hi : i < n) : wyA n i (n - 1) = i := by unfold wyA; split <;> omega
theorem wyB_end {n i : Nat} (hi : i < n) : wyB n i (n - 1) = i := by unfold wyB; split <;> omega
theorem wyA_zero {n i : Nat} (hi : i < n) : (i + (n - 1)) % n = wyA n i 0 := by rw [mod2 (by omega)]; unfold wyA; split <;> split <;> omega
theorem wyB_zero {n i : Nat} (hi : i < n) : (i + 1) % n = wyB n i 0 := by rw [mod2 (by omega)]; unfold wyB; rw [Nat.add_zero]
theorem wyA_succ {n i k : Nat} (hi : i < n) (hk : k + 1 < n) : (wyA n i k + (n - 1)) % n = wyA n i (k + 1) := by
 rw [mod2 (by have := wyA_lt hi (show k < n by omega); omega)]
 unfold wyA
 split <;> split <;> split <;> omega
theorem wyB_succ {n i k : Nat} (hi : i < n) (hk : k + 1 < n) : (wyB n i k + 1) % n = wyB n i (k + 1) := by
 rw [mod2 (by have := wyB_lt hi (show k < n by omega); omega)]
 unfold wyB
 split <;> split <;> split <;> omega
theorem wyA_onto {n i j : Nat} (hi : i < n) (hj : j < n) (hne : j ≠ i) : ∃ k, k < n - 1 ∧ wyA n i k = j := by
 by_cases h : j < i
 · exact ⟨i - 1 - j, by omega, by unfold wyA; rw [if_pos (by omega)]; omega⟩
 · exact ⟨i + n - 1 - j, by omega, by unfold wyA; rw [if_neg (by omega)]; omega⟩
theorem wyB_onto {n i j : Nat} (hi : i < n) (hj : j < n) (hne : j ≠ i) : ∃ k, k < n - 1 ∧ wyB n i k = j := by
 by_cases h : j < i
 · exact ⟨j + n - 1 - i, by omega, by unfold wyB; rw [if_neg (by omega)]; omega⟩
 · exact ⟨j - 1 - i, by omega, by unfold wyB; rw [if_pos (by omega)]; omega⟩
def nbA (t : List Bool) (i : Nat) : Option Nat := nbT t (wyA t.length i) (t.length - 1)
def nbB (t : List Bool) (i : Nat) : Option Nat := nbT t (wyB t.length i) (t.length - 1)
theorem nbA_spec {t : List Bool} {i : Nat} (hi : i < t.length) : (nbA t i = none ∧ ∀ j, j < t.length → j ≠ i → t.getD j false = false) ∨ ∃ a, a < t.length ∧ a ≠ i ∧ nbA t i = some a ∧ t.getD a false = true := by
 rcases nbT_spec t (wyA t.length i) (t.length - 1) with ⟨h1, h2⟩ | ⟨k, hk, h1, h2⟩
 · refine .inl ⟨h1, fun j hj hne => ?_⟩
   obtain ⟨k, hk, e⟩ := wyA_onto hi hj hne
   rw [← e]
   exact h2 k hk
 · exact .inr ⟨_, wyA_lt hi (by omega), wyA_ne hi hk, h1, h2⟩
theorem nbB_spec {t : List Bool} {i : Nat} (hi : i < t.length) : (nbB t i = none ∧ ∀ j, j < t.length → j ≠ i → t.getD j false = false) ∨ ∃ a, a < t.length ∧ a ≠ i ∧ nbB t i = some a ∧ t.getD a false = true := by
 rcases nbT_spec t (wyB t.length i) (t.length - 1) with ⟨h1, h2⟩ | ⟨k, hk, h1, h2⟩
 · refine .inl ⟨h1, fun j hj hne => ?_⟩
   obtain ⟨k, hk, e⟩ := wyB_onto hi hj hne
   rw [← e]
   exact h2 k hk
 · exact .inr ⟨_, wyB_lt hi (by omega), wyB_ne hi hk, h1, h2⟩
theorem nbAB {t : List Bool} {i : Nat} (hi : i < t.length) : (nbA t i = none ∧ nbB t i = none ∧ ∀ j, j < t.length → j ≠ i → t.getD j false = false) ∨ ∃ a b, nbA t i = some a ∧ nbB t i = some b ∧ a < t.length ∧ b < t.length ∧ a ≠ i ∧ b ≠ i ∧ t.getD a false = true ∧ t.getD b false = true := by
 rcases nbA_spec hi with ⟨h1, h2⟩ | ⟨a, h1, h2, h3, h4⟩
 · rcases nbB_spec hi with ⟨k1, k2⟩ | ⟨b, k1, k2, k3, k4⟩
   · exact .inl ⟨h1, k1, h2⟩
   · rw [h2 b k1 k2] at k4; cases k4
 · rcases nbB_spec hi with ⟨k1, k2⟩ | ⟨b, k1, k2, k3, k4⟩
   · rw [k2 a h1 h2] at h4; cases h4
   · exact .inr ⟨a, b, h3, k3, h1, k1, h2, k2, h4, k4⟩
def segQ (a x b y c : Int) : Rat := if c ≤ a then (x : Rat) else if b ≤ c then (y : Rat) else btw x y (c - a) (b - a)
def infQ (a x b y c : Int) : Rat := if a = b then (if x = y then (x : Rat) else 0) else if a < b then segQ a x b y c else segQ b y a x c
def fiQ (ns : List Int) (ts : List Bool) (cs : List Int) (i : Nat) : Rat :=
 if ts.getD i false = true then ((cs.getD i 0 : Int) : Rat) else
  match nbA ts i, nbB ts i with
  | some a, some b => infQ (ns.getD a 0) (cs.getD a 0) (ns.getD b 0) (cs.getD b 0) (ns.getD i 0)
  | _, _ => 0
def fitB (ns : List Int) (ts : List Bool) (cs : List Int) : Bool := decide (ts.length = ns.length ∧ cs.length = ns.length ∧ ns.length ≤ 80) && (ns.all fdB && cs.all fdB)
def fillQ (ns : List Int) (ts : List Bool) (cs : List Int) : List Rat := if fitB ns ts cs = true then (List.range ns.length).map (fiQ ns ts cs) else []
theorem fillQ_no {ns : List Int} {ts : List Bool} {cs : List Int} (h : fitB ns ts cs = false) : fillQ ns ts cs = [] := by
 unfold fillQ
 rw [h]
 rfl
theorem fillQ_yes {ns : List Int} {ts : List Bool} {cs : List Int} (h : fitB ns ts cs = true) : fillQ ns ts cs = (List.range ns.length).map (fiQ ns ts cs) := if_pos h
theorem fillQ_len {ns : List Int} {ts : List Bool} {cs : List Int} (h : fitB ns ts cs = true) : (fillQ ns ts cs).length = ns.length := by rw [fillQ_yes h]; simp
theorem fitB_iff {ns : List Int} {ts : List Bool} {cs : List Int} : fitB ns ts cs = true ↔ (ts.length = ns.length ∧ cs.length = ns.length ∧ ns.length ≤ 80) ∧ (∀ z ∈ ns, -32768 ≤ z ∧ z ≤ 32767) ∧ ∀ z ∈ cs, -32768 ≤ z ∧ z ≤ 32767 := by
 unfold fitB
 simp only [Bool.and_eq_true, decide_eq_true_iff, List.all_eq_true, fdB_iff]
theorem fd_getD {l : List Int} (h : ∀ z ∈ l, -32768 ≤ z ∧ z ≤ 32767) (i : Nat) : -32768 ≤ l.getD i 0 ∧ l.getD i 0 ≤ 32767 := by
 by_cases hi : i < l.length
 · rw [List.getD_eq_getElem?_getD, List.getElem?_eq_getElem hi, Option.getD_some]
   exact h _ (List.getElem_mem hi)
 · rw [List.getD_eq_getElem?_getD, List.getElem?_eq_none (by omega), Option.getD_none]
   omega
theorem fiQ_own {ns : List Int} {ts : List Bool} {cs : List Int} {i : Nat} (h : ts.getD i false = true) : fiQ ns ts cs i = ((cs.getD i 0 : Int) : Rat) := if_pos h
theorem fiQ_two {ns : List Int} {ts : List Bool} {cs : List Int} {i a b : Nat} (h : ts.getD i false = false) (ha : nbA ts i = some a) (hb : nbB ts i = some b) : fiQ ns ts cs i = infQ (ns.getD a 0) (cs.getD a 0) (ns.getD b 0) (cs.getD b 0) (ns.getD i 0) := by
 unfold fiQ
 rw [h, ha, hb]
 rfl
theorem fiQ_nil {ns : List Int} {ts : List Bool} {cs : List Int} {i : Nat} (h : ts.getD i false = false) (ha : nbA ts i = none) : fiQ ns ts cs i = 0 := by
 unfold fiQ
 rw [h, ha]
 rfl
open Go.RowKit Go.Maps
structure St where
 bs : List Nat
 ws : List Int
 no : Bool
def Wf (s : St) : Prop := Byt s.bs ∧ s.ws.Nodup ∧ (∀ x ∈ s.ws, 0 ≤ x ∧ x + 4 ≤ (s.bs.length : Int)) ∧ 4 * s.ws.length ≤ s.bs.length
def St.zero : St := ⟨[], [], false⟩
def St.fail (s : St) : St := { s with no := true }
def St.app (s : St) (xs : List Nat) : St := if s.no then s else { s with bs := s.bs ++ xs }
theorem Wf.zero : Wf St.zero := ⟨Byt.nil, List.nodup_nil, (fun x hx => by cases hx), Nat.le_refl _⟩
theorem Wf.fail {s : St} (h : Wf s) : Wf s.fail := h
theorem Wf.app {s : St} (h : Wf s) {xs : List Nat} (hx : Byt xs) : Wf (s.app xs) := by
 unfold St.app
 split
 · exact h
 · exact ⟨h.1.append hx, h.2.1, fun x hxs => by have := h.2.2.1 x hxs; simp; omega, by have := h.2.2.2; simp; omega⟩
theorem St.app_bad {s : St} (h : s.no = true) (xs : List Nat) : s.app xs = s := by simp [St.app, h]
theorem St.app_ok {s : St} (h : s.no = false) (xs : List Nat) : s.app xs = { s with bs := s.bs ++ xs } := by simp [St.app, h]
theorem St.app_no (s : St) (xs : List Nat) : (s.app xs).no = s.no := by unfold St.app; split <;> rfl
def Row (w : World) (G : Nat → Prop) (v : Value) (xs : List Nat) : Prop :=
 w.ownsRow 0 5 1 v xs.length (xs.map Y) ∧ ∀ g, v.ownBlock = some g → ¬ G g
def Wts (w : World) (G : Nat → Prop) (v : Value) (ws : List Int) : Prop :=
 (v = .map none ∧ ws = []) ∨ ∃ m D, v = .map (some m) ∧ ¬ G m ∧ w.ownsMap Tryz.prog 3 (unitElem (H := Unit)) m ws.length D ∧
  (∀ x : Int, Maps.has D (.int .i64 x) = decide (x ∈ ws)) ∧ Maps.size D = ws.length
def Bx4 (w : World) (B : Nat) (a b c d : Value) : Prop := w.heap[B]? = some (.cells #[a, b, c, d] 96 (0, 0))
def Pc (w : World) (B : Nat) (G : Nat → Prop) (s : St) : Prop :=
 (∀ k, G k → k < w.heap.size) ∧ ¬ G B ∧ Wf s ∧ ∃ vb vm, Bx4 w B vb (.int .i64 (s.bs.length : Int)) vm (.bool s.no) ∧ (s.no = true → vm = .map none) ∧ (s.no = false → Row w G vb s.bs ∧ Wts w G vm s.ws)
theorem Bx4.lt {w : World} {B : Nat} {a b c d : Value} (h : Bx4 w B a b c d) : B < w.heap.size := (Array.getElem?_eq_some_iff.1 h).1
theorem Bx4.cells {w : World} {B : Nat} {a b c d : Value} (h : Bx4 w B a b c d) :
    w.cell? ⟨B, 0, none⟩ = some a ∧ w.cell? ⟨B, 1, none⟩ = some b ∧ w.cell? ⟨B, 2, none⟩ = some c ∧ w.cell? ⟨B, 3, none⟩ = some d ∧
    w.frozen? ⟨B, 0, none⟩ = false ∧ w.frozen? ⟨B, 1, none⟩ = false ∧ w.frozen? ⟨B, 2, none⟩ = false ∧ w.frozen? ⟨B, 3, none⟩ = false :=
 ⟨cell_of_row w B 0 _ _ (0, 0) h, cell_of_row w B 1 _ _ (0, 0) h, cell_of_row w B 2 _ _ (0, 0) h, cell_of_row w B 3 _ _ (0, 0) h, frozen_of_row w B 0 _ _ h, frozen_of_row w B 1 _ _ h, frozen_of_row w B 2 _ _ h, frozen_of_row w B 3 _ _ h⟩
theorem Bx4.set0 {w : World} {B : Nat} {a b c d : Value} (h : Bx4 w B a b c d) (x : Value) : Bx4 (w.setCell ⟨B, 0, none⟩ x) B x b c d := heap_setCell_same w B 0 _ _ x h
theorem Bx4.set1 {w : World} {B : Nat} {a b c d : Value} (h : Bx4 w B a b c d) (x : Value) : Bx4 (w.setCell ⟨B, 1, none⟩ x) B a x c d := heap_setCell_same w B 1 _ _ x h
theorem Bx4.set2 {w : World} {B : Nat} {a b c d : Value} (h : Bx4 w B a b c d) (x : Value) : Bx4 (w.setCell ⟨B, 2, none⟩ x) B a b x d := heap_setCell_same w B 2 _ _ x h
theorem Bx4.set3 {w : World} {B : Nat} {a b c d : Value} (h : Bx4 w B a b c d) (x : Value) : Bx4 (w.setCell ⟨B, 3, none⟩ x) B a b c x := heap_setCell_same w B 3 _ _ x h
theorem Rb.off {w : World} {B : Nat} {x0 x1 x2 x3 : Value} (hB : Bx4 w B x0 x1 x2 x3) (h0 : ∀ z, x0 ≠ .int .u8 z) (h1 : ∀ z, x1 ≠ .int .u8 z) (h2 : ∀ z, x2 ≠ .int .u8 z) (h3 : ∀ z, x3 ≠ .int .u8 z)
    {w' : World} {a : Option Addr} {cap : Nat} {xs : List Nat} (h : Rb w a cap xs) (hs : w.heap.size ≤ w'.heap.size) (hw : ∀ k, k < w.heap.size → k ≠ B → w'.heap[k]? = w.heap[k]?) : Rb w' a cap xs := by
 obtain ⟨k1, k2, k3, k5, k4⟩ := h
 refine ⟨k1, k2, k3, k5, ?_⟩
 by_cases hx : xs = []
 · exact .inl hx
 rcases k4 with k4 | ⟨g, off, e, hg, hc⟩
 · exact .inl k4
 · refine .inr ⟨g, off, e, Nat.lt_of_lt_of_le hg hs, fun i hi => ?_⟩
   have hne : g ≠ B := by
    rintro rfl
    have hc0 := hc 0 (List.length_pos_iff.2 hx)
    have hb := cell_of_row w g (off + 0) _ _ (0, 0) hB
    rw [hc0] at hb
    match off, hb with
    | 0, hb => simp at hb; exact h0 _ hb.symm
    | 1, hb => simp at hb; exact h1 _ hb.symm
    | 2, hb => simp at hb; exact h2 _ hb.symm
    | 3, hb => simp at hb; exact h3 _ hb.symm
    | (k + 4), hb => simp at hb
   exact (World.cell?_of_block (w := w) (a := ⟨g, off + i, none⟩) (hw g hg hne)).trans (hc i hi)
theorem Row.stay {w w' : World} {G : Nat → Prop} {v : Value} {xs : List Nat} (h : Row w G v xs) (hb : ∀ k, k < w.heap.size → ¬ G k → w'.heap[k]? = w.heap[k]?) : Row w' G v xs := by
 obtain ⟨⟨h1, h2⟩, hG⟩ := h
 refine ⟨⟨h1, ?_⟩, hG⟩
 rcases h2 with h2 | ⟨g, cap, cur, e, h3, h4, h5⟩
 · exact .inl h2
 · exact .inr ⟨g, cap, cur, e, h3, (hb g (Array.getElem?_eq_some_iff.1 h4).1 (hG g (by rw [e]; rfl))).trans h4, h5⟩
theorem Row.ne {w : World} {G : Nat → Prop} {v : Value} {xs : List Nat} (h : Row w G v xs) {B : Nat} {cs : Array Value} {t : TypeId} {f : Nat × Nat} (hB : w.heap[B]? = some (.cells cs t f)) (ht : t ≠ 5) : v.ownBlock ≠ some B := by
 obtain ⟨⟨h1, h2⟩, hG⟩ := h
 rcases h2 with ⟨rfl, _⟩ | ⟨g, cap, cur, rfl, h3, h4, h5⟩
 · intro e; cases e
 · intro e
   simp only [Value.ownBlock, Option.some.injEq] at e
   subst e; rw [h4] at hB
   simp at hB
   exact ht hB.2.1.symm
theorem Row.ne_map {w : World} {G : Nat → Prop} {v : Value} {xs : List Nat} (h : Row w G v xs) {m : Nat} {es : Array MapEntry} {c : Nat} (hB : w.heap[m]? = some (.map es c)) : v.ownBlock ≠ some m := by
 obtain ⟨⟨h1, h2⟩, hG⟩ := h
 rcases h2 with ⟨rfl, _⟩ | ⟨g, cap, cur, rfl, h3, h4, h5⟩
 · intro e; cases e
 · intro e
   simp only [Value.ownBlock, Option.some.injEq] at e
   subst e; rw [h4] at hB
   simp at hB
theorem Row.off {w w' : World} {G : Nat → Prop} {v : Value} {xs : List Nat} (h : Row w G v xs) {B : Nat} {cs : Array Value} {t : TypeId} {f : Nat × Nat} (hB : w.heap[B]? = some (.cells cs t f)) (ht : t ≠ 5)
    (hb : ∀ k, k < w.heap.size → k ≠ B → w'.heap[k]? = w.heap[k]?) : Row w' G v xs := by
 have hne := h.ne hB ht
 obtain ⟨⟨h1, h2⟩, hG⟩ := h
 refine ⟨⟨h1, ?_⟩, hG⟩
 rcases h2 with h2 | ⟨g, cap, cur, e, h3, h4, h5⟩
 · exact .inl h2
 · exact .inr ⟨g, cap, cur, e, h3, (hb g (Array.getElem?_eq_some_iff.1 h4).1 (fun e' => hne (by rw [e, ← e']; rfl))).trans h4, h5⟩
theorem Row.slice {w : World} {G : Nat → Prop} {v : Value} {xs : List Nat} (h : Row w G v xs) : ∃ a c, v = .slice a xs.length c := by
 rcases h.1.2 with ⟨e, h0⟩ | ⟨g, cap, cur, e, _⟩
 · exact ⟨none, 0, by rw [e, h0]⟩
 · exact ⟨_, cap, e⟩
theorem Row.no8 {w : World} {G : Nat → Prop} {v : Value} {xs : List Nat} (h : Row w G v xs) (z : Int) : v ≠ .int .u8 z := by
 obtain ⟨a, c, rfl⟩ := h.slice
 intro e; cases e
theorem Wts.no8 {w : World} {G : Nat → Prop} {v : Value} {ws : List Int} (h : Wts w G v ws) (z : Int) : v ≠ .int .u8 z := by
 rcases h with ⟨rfl, _⟩ | ⟨m, D, rfl, _⟩ <;> (intro e; cases e)
theorem Wts.off {w w' : World} {G : Nat → Prop} {v : Value} {ws : List Int} (h : Wts w G v ws) {B : Nat} (hB : ∀ es c, w.heap[B]? ≠ some (.map es c))
    (hb : ∀ k, k < w.heap.size → k ≠ B → w'.heap[k]? = w.heap[k]?) : Wts w' G v ws := by
 rcases h with h | ⟨m, D, e, hG, ho, h1, h2⟩
 · exact .inl h
 · have hlt := ho.lt
   obtain ⟨es, clock, hb0, F, hs, hD⟩ := ho
   exact .inr ⟨m, D, e, hG, ⟨es, clock, (hb m hlt (fun e' => hB es clock (e' ▸ hb0))).trans hb0, F, hs, hD⟩, h1, h2⟩
theorem Bx4.no_map {w : World} {B : Nat} {a b c d : Value} (h : Bx4 w B a b c d) (es : Array MapEntry) (k : Nat) : w.heap[B]? ≠ some (.map es k) := by
 rw [h]; intro e; simp at e
theorem Wts.grown {w w' : World} {G : Nat → Prop} {v : Value} {ws : List Int} (h : Wts w G v ws) {G' : Nat → Prop} {u : Value} {xs : List Nat} (hr : Row w G' u xs) (hg : w.grownBy w' u.ownBlock) : Wts w' G v ws := by
 rcases h with h | ⟨m, D, e, hG, ho, h1, h2⟩
 · exact .inl h
 · have hlt := ho.lt
   obtain ⟨es, clock, hb0, F, hs, hD⟩ := ho
   exact .inr ⟨m, D, e, hG, ⟨es, clock, (hg.block m hlt (Ne.symm (hr.ne_map hb0))).trans hb0, F, hs, hD⟩, h1, h2⟩
theorem Bx4.grown {w w' : World} {B : Nat} {a b c d : Value} (h : Bx4 w B a b c d) {G' : Nat → Prop} {u : Value} {xs : List Nat} (hr : Row w G' u xs) (hg : w.grownBy w' u.ownBlock) : Bx4 w' B a b c d :=
 (hg.block B h.lt (Ne.symm (hr.ne h (by decide)))).trans h
theorem Wts.stay {w w' : World} {G : Nat → Prop} {v : Value} {ws : List Int} (h : Wts w G v ws) (hb : ∀ k, k < w.heap.size → ¬ G k → w'.heap[k]? = w.heap[k]?) : Wts w' G v ws := by
 rcases h with h | ⟨m, D, e, hG, ho, h1, h2⟩
 · exact .inl h
 · have hlt := ho.lt
   obtain ⟨es, clock, hb0, F, hs, hD⟩ := ho
   exact .inr ⟨m, D, e, hG, ⟨es, clock, (hb m hlt hG).trans hb0, F, hs, hD⟩, h1, h2⟩
theorem Pc.stay {w w' : World} {B : Nat} {G : Nat → Prop} {s : St} (h : Pc w B G s) (hs : w.heap.size ≤ w'.heap.size) (hb : ∀ k, k < w.heap.size → ¬ G k → w'.heap[k]? = w.heap[k]?) : Pc w' B G s := by
 obtain ⟨h1, h2, h3, vb, vm, h4, h6, h5⟩ := h
 exact ⟨fun k hk => Nat.lt_of_lt_of_le (h1 k hk) hs, h2, h3, vb, vm, (hb B h4.lt h2).trans h4, h6, fun hn => ⟨(h5 hn).1.stay hb, (h5 hn).2.stay hb⟩⟩
theorem Pc.below {w w' : World} {B : Nat} {G : Nat → Prop} {s : St} (h : Pc w B G s) (hb : Below w.heap.size w w') : Pc w' B G s := h.stay hb.size fun k hk _ => hb.block k hk
theorem Pc.guard {w : World} {B : Nat} {G G' : Nat → Prop} {s : St} (h : Pc w B G s) (hG : ∀ k, G' k → k < w.heap.size ∧ G k) : Pc w B G' s := by
 obtain ⟨h1, h2, h3, vb, vm, h4, h6, h5⟩ := h
 refine ⟨fun k hk => (hG k hk).1, fun hB => h2 (hG _ hB).2, h3, vb, vm, h4, h6, fun hn => ⟨⟨(h5 hn).1.1, fun g hg hg' => (h5 hn).1.2 g hg (hG _ hg').2⟩, ?_⟩⟩
 rcases (h5 hn).2 with h | ⟨m, D, e, hG2, r⟩
 · exact .inl h
 · exact .inr ⟨m, D, e, fun hm => hG2 (hG _ hm).2, r⟩
theorem Pc.guard_new {w w' : World} {B : Nat} {G G' : Nat → Prop} {s : St} (h : Pc w B G s) (hs : w.heap.size ≤ w'.heap.size) (hb : ∀ k, k < w.heap.size → ¬ G k → w'.heap[k]? = w.heap[k]?) (hG : ∀ k, G' k → k < w'.heap.size ∧ (k < w.heap.size → G k)) : Pc w' B G' s := by
 have h' := h.stay hs hb
 obtain ⟨h1, h2, h3, vb, vm, h4, h6, h5⟩ := h
 refine ⟨fun k hk => (hG k hk).1, fun hB => h2 ((hG _ hB).2 h4.lt), h3, vb, vm, (hb B h4.lt h2).trans h4, h6, fun hn => ⟨⟨((h5 hn).1.stay hb).1, fun g hg hg' => (h5 hn).1.2 g hg ((hG _ hg').2 ((h5 hn).1.1.lt g hg).2)⟩, ?_⟩⟩
 rcases (h5 hn).2 with h | ⟨m, D, e, hG2, ho, r⟩
 · exact .inl h
 · have hlt := ho.lt
   rcases ((h5 hn).2).stay hb with h | ⟨m', D', e', hG2', r'⟩
   · exact .inl h
   · rw [e] at e'
     simp at e'
     subst e'
     exact .inr ⟨m, D', e, fun hm => hG2 ((hG _ hm).2 hlt), r'⟩
theorem info_byte : (Tryz.prog.info? 5).map (fun i => (i.zero, i.size, i.bytes)) = some (some (.int .u8 0), 1, 1) := by kernel_rfl
abbrev pg (B : Nat) : Value := .pointer (some ⟨B, 0, none⟩)
theorem closed_any (B : Nat) (G : Nat → Prop) (s : St) (w : World) (h : Pc w B G s) (hl : s.bs.length ≤ 1048576) :
    Calls Tryz.prog 143 #[pg B] w fun e w' => e = .returned (.bool s.no) ∧ w = w' := by
 obtain ⟨h1, h2, h3, vb, vm, h4, h6, h5⟩ := h; obtain ⟨c0, c1, c2, c3, f0, f1, f2, f3⟩ := h4.cells
 generalize s.no = n at *
 generalize s.bs.length = l at *
 clear h5 h6 h4 h3 h2 h1
 cases n
 · go_enter Tryz.func143, Tryz.ntmps143
   go_wp2
   go_ret
   exact ⟨rt_bool (by simp; try omega), rfl⟩
 · go_enter Tryz.func143, Tryz.ntmps143
   go_wp2
   go_ret
   exact ⟨rt_bool (by simp; try omega), rfl⟩
theorem fail_any (B : Nat) (G : Nat → Prop) (s : St) (w : World) (h : Pc w B G s) :
    Calls Tryz.prog 91 #[pg B] w fun e w' => e = .returned (.tuple #[]) ∧ Pc w' B G s.fail ∧ Keep G w w' := by
 obtain ⟨h1, h2, h3, vb, vm, h4, h6, h5⟩ := h; obtain ⟨c0, c1, c2, c3, f0, f1, f2, f3⟩ := h4.cells
 go_enter Tryz.func91, Tryz.ntmps91
 go_wp2
 go_end0
 refine ⟨rfl, ⟨fun k hk => by simpa [World.setCell] using h1 k hk, h2, h3.fail, _, _, ((h4.set3 _).set0 _).set2 _, fun _ => rfl, fun hn => by cases hn⟩, ?_⟩
 exact (((Keep.refl G w).setCell (p := ⟨B, 3, none⟩) h2 _).setCell (p := ⟨B, 0, none⟩) h2 _).setCell (p := ⟨B, 2, none⟩) h2 _
theorem put_any (B : Nat) (G : Nat → Prop) (s : St) (a : Option Addr) (cap : Nat) (xs : List Nat) (w : World) (h : Pc w B G s) (hr : Rb w a cap xs) (hl : s.bs.length + xs.length ≤ 1048576) :
    Calls Tryz.prog 92 #[pg B, .slice a xs.length cap] w fun e w' => e = .returned (.tuple #[]) ∧ Pc w' B G (s.app xs) ∧ Keep G w w' := by
 obtain ⟨i0, hi, hz0, hz1, hz2⟩ := info_parts info_byte
 have hP := h
 obtain ⟨h1, h2, h3, vb, vm, h4, h6, h5⟩ := h
 go_enter Tryz.func92, Tryz.ntmps92
 go_wp2_with fail
 refine (closed_any B G s _ hP (by omega)).mono ?_
 rintro e u ⟨rfl, rfl⟩
 by_cases hno : s.no = true
 · rw [hno]
   go_wp2
   (try simp only [Exit.inBlock, Exit.then]); refine bodyPost_ret (results_none rfl _ _ _) rfl ?_
   exact ⟨rfl, by rw [St.app_bad hno]; exact hP, Keep.refl _ _⟩
 · have hno : s.no = false := by simpa using hno
   rw [hno]
   obtain ⟨hR, hM⟩ := h5 hno
   obtain ⟨c0, c1, c2, c3, f0, f1, f2, f3⟩ := h4.cells
   obtain ⟨l, hll⟩ : ∃ l, s.bs.length = l := ⟨_, rfl⟩
   rw [hll] at c1 h4
   have HL : Hid (s.bs.length = l) := hll
   have hl' : l + xs.length ≤ 1048576 := by omega
   clear hll hl
   have hoff : ∀ (u : World) (v : Value) (o : Nat), ∀ k, k < u.heap.size → k ≠ B → (u.setCell ⟨B, o, none⟩ v).heap[k]? = u.heap[k]? := fun u v o k _ hk => Below.heap_setCell _ ⟨B, o, none⟩ v k hk
   have h41 := h4.set1 (.int .i64 ((l : Int) + xs.length))
   have hR1 := hR.off h4 (by decide) (hoff w (.int .i64 ((l : Int) + xs.length)) 1)
   have hM1 := hM.off h4.no_map (hoff w (.int .i64 ((l : Int) + xs.length)) 1)
   have hr1 := Rb.off h4 hR.no8 (by simp) hM.no8 (by simp) hr (by simp [World.setCell]) (hoff w (.int .i64 ((l : Int) + xs.length)) 1)
   have hK1 : Keep G w (w.setCell ⟨B, 1, none⟩ (.int .i64 ((l : Int) + xs.length))) := (Keep.refl G w).setCell (p := ⟨B, 1, none⟩) h2 _
   have hsz : (w.setCell ⟨B, 1, none⟩ (.int .i64 ((l : Int) + xs.length))).heap.size = w.heap.size := by simp [World.setCell]
   clear h4 hP hr hM h5 h6
   go_wp2_with (at_builtin; refine wpList_append_rb rfl _ _ 44 rfl 0 5 i0 Tryz.underlying44 hi hz0 hz1 hz2 _ s.bs.length s.bs rfl hR1.1 a cap _ xs rfl rfl hr1 (by rw [HL.out]; omega) (Nat.zero_le _) ?_)
   intro v' w1 hown hgrow hat
   obtain ⟨ts, hts⟩ : ∃ ts, s.bs ++ xs = ts := ⟨_, rfl⟩
   have htl : s.bs.length + xs.length = ts.length := by rw [← hts, List.length_append]
   rw [← List.map_append, hts, htl] at hown
   have HT : Hid (s.bs ++ xs = ts) := hts
   have HT2 : Hid (s.bs.length + xs.length = ts.length) := htl
   have hBt : Byt ts := hts ▸ h3.1.append hr1.lim
   clear hts htl
   have h42 := h41.grown hR1 hgrow
   obtain ⟨a2, cap2, rfl, _⟩ := Rw.of hBt hown
   obtain ⟨d0, d1, d2, d3, g0, g1, g2, g3⟩ := h42.cells; go_wp2
   go_end0
   have hM2 := hM1.grown hR1 hgrow
   have hnG : ∀ g, (Value.slice a2 ts.length cap2).ownBlock = some g → ¬ G g := by
    intro g hg hGg
    rcases hat with hat | hat
    · exact hR.2 g (by rw [← hat]; exact hg) hGg
    · rw [hat] at hg
      have := h1 g hGg
      simp at hg
      omega
   have hR2 : Row w1 G (.slice a2 ts.length cap2) ts := ⟨hown, hnG⟩
   have hR3 := hR2.off h42 (by decide) (hoff w1 (.slice a2 ts.length cap2) 0)
   have hK2 := (hK1.grown hgrow (fun k hk => by rw [hsz]; exact h1 k hk) (fun k hk => hR.2 k hk)).setCell (p := ⟨B, 0, none⟩) h2 (.slice a2 ts.length cap2)
   refine ⟨rfl, ⟨fun k hk => ?_, h2, h3.app hr1.lim, .slice a2 ts.length cap2, vm, ?_, fun hn => absurd hn (by rw [St.app_no, hno]; decide), fun _ => ?_⟩, hK2⟩
   · exact Nat.lt_of_lt_of_le (h1 k hk) hK2.size
   · have h43 := h42.set0 (.slice a2 ts.length cap2)
     rw [St.app_ok hno]
     simp only [HT.out, ← HT2.out, HL.out]
     simpa [← HT2.out, HL.out] using h43
   · rw [St.app_ok hno, HT.out]
     exact ⟨hR3, hM2.off h42.no_map (hoff w1 (.slice a2 ts.length cap2) 0)⟩
def be1 (n : Int) : List Nat := [(n % 256).toNat]
def be2 (n : Int) : List Nat := [(n / 256 % 256).toNat, (n % 256).toNat]
def be4 (n : Int) : List Nat := [(n / 16777216 % 256).toNat, (n / 65536 % 256).toNat, (n / 256 % 256).toNat, (n % 256).toNat]
theorem byt_be1 (n : Int) : Byt (be1 n) := by intro x hx; simp [be1] at hx; omega
theorem byt_be2 (n : Int) : Byt (be2 n) := by intro x hx; simp [be2] at hx; omega
def St.put8 (s : St) (n : Int) : St := if -128 ≤ n ∧ n ≤ 255 then s.app (be1 n) else s.fail
def St.put16 (s : St) (n : Int) : St := if -32768 ≤ n ∧ n ≤ 65535 then s.app (be2 n) else s.fail
theorem fits8_any (n : Int) (w : World) (hn : I64 n) :
    Calls Tryz.prog 90 #[.int .i64 n, .int .i64 8] w fun e w' => e = .returned (.bool (decide (-128 ≤ n ∧ n ≤ 255))) ∧ w = w' := by
 obtain ⟨n1, n2⟩ := hn
 by_cases h : -128 ≤ n
 · go_enter Tryz.func90, Tryz.ntmps90
   go_wp2
   go_ret
   refine ⟨rt_bool ?_, rfl⟩
   by_cases h2 : n ≤ 255
   · simp [h, h2]; try omega
   · simp [h, h2]; try omega
 · go_enter Tryz.func90, Tryz.ntmps90
   go_wp2
   go_ret
   exact ⟨rt_bool (by simp [h]; try omega), rfl⟩
theorem fits16_any (n : Int) (w : World) (hn : I64 n) :
    Calls Tryz.prog 90 #[.int .i64 n, .int .i64 16] w fun e w' => e = .returned (.bool (decide (-32768 ≤ n ∧ n ≤ 65535))) ∧ w = w' := by
 obtain ⟨n1, n2⟩ := hn
 by_cases h : -32768 ≤ n
 · go_enter Tryz.func90, Tryz.ntmps90
   go_wp2
   go_ret
   refine ⟨rt_bool ?_, rfl⟩
   by_cases h2 : n ≤ 65535
   · simp [h, h2]; try omega
   · simp [h, h2]; try omega
 · go_enter Tryz.func90, Tryz.ntmps90
   go_wp2
   go_ret
   exact ⟨rt_bool (by simp [h]; try omega), rfl⟩
theorem Pc.al {w : World} {B : Nat} {G : Nat → Prop} {s : St} (h : Pc w B G s) (o : Obj) : Pc (w.alloc o) B G s := h.below (bl1 o)
theorem Pc.kal {w : World} {B : Nat} {G : Nat → Prop} {s : St} (h : Pc w B G s) (o : Obj) : Keep G w (w.alloc o) := Keep.of_below (bl1 o) h.1
theorem put8_any (B : Nat) (G : Nat → Prop) (s : St) (n : Int) (w : World) (h : Pc w B G s) (hn : I64 n) (hl : s.bs.length + 4 ≤ 1048576) :
    Calls Tryz.prog 151 #[pg B, .int .i64 n] w fun e w' => e = .returned (.tuple #[]) ∧ Pc w' B G (s.put8 n) ∧ Keep G w w' := by
 have hn' := hn
 obtain ⟨n1, n2⟩ := hn'
 go_enter Tryz.func151, Tryz.ntmps151
 go_wp2_with fail
 refine (fits8_any n _ hn).mono ?_
 rintro e u ⟨rfl, rfl⟩
 by_cases hf : -128 ≤ n ∧ n ≤ 255
 · rw [decide_eq_true hf]
   have hs : Hid (s.put8 n = s.app (be1 n)) := if_pos hf
   go_wp2_with fail
   refine (put_any B G s (some ⟨w.heap.size, 0, none⟩) 1 (be1 n) _ (h.al _) (rb_new w 5 (be1 n) #[Value.int IntKind.u8 (n % 256)] (by simp [be1, Y]; omega) (byt_be1 n) (by simp [be1, maxLen])) (by simp [be1]; omega)).mono ?_
   rintro e u ⟨rfl, hP, hK⟩; go_wp2
   go_end0
   exact ⟨rfl, hs.out ▸ hP, (h.kal _).trans hK⟩
 · rw [decide_eq_false hf]
   have hs : Hid (s.put8 n = s.fail) := if_neg hf
   go_wp2_with fail
   refine (fail_any B G s _ h).mono ?_
   rintro e u ⟨rfl, hP, hK⟩; go_wp2
   (try simp only [Exit.inBlock, Exit.then]); refine bodyPost_ret (results_none rfl _ _ _) rfl ?_
   exact ⟨rfl, hs.out ▸ hP, hK⟩
theorem put16_any (B : Nat) (G : Nat → Prop) (s : St) (n : Int) (w : World) (h : Pc w B G s) (hn : I64 n) (hl : s.bs.length + 4 ≤ 1048576) :
    Calls Tryz.prog 42 #[pg B, .int .i64 n] w fun e w' => e = .returned (.tuple #[]) ∧ Pc w' B G (s.put16 n) ∧ Keep G w w' := by
 have hn' := hn
 obtain ⟨n1, n2⟩ := hn'
 go_enter Tryz.func42, Tryz.ntmps42
 go_wp2_with fail
 refine (fits16_any n _ hn).mono ?_
 rintro e u ⟨rfl, rfl⟩
 by_cases hf : -32768 ≤ n ∧ n ≤ 65535
 · rw [decide_eq_true hf]
   have hs : Hid (s.put16 n = s.app (be2 n)) := if_pos hf
   go_wp2_with fail
   refine (put_any B G s (some ⟨w.heap.size, 0, none⟩) 2 (be2 n) _ (h.al _) (rb_new w 5 (be2 n) #[Value.int IntKind.u8 (n / 256 % 256), Value.int IntKind.u8 (n % 256)] (by simp [be2, Y]; omega) (byt_be2 n) (by simp [be2, maxLen])) (by simp [be2]; omega)).mono ?_
   rintro e u ⟨rfl, hP, hK⟩; go_wp2
   go_end0
   exact ⟨rfl, hs.out ▸ hP, (h.kal _).trans hK⟩
 · rw [decide_eq_false hf]
   have hs : Hid (s.put16 n = s.fail) := if_neg hf
   go_wp2_with fail
   refine (fail_any B G s _ h).mono ?_
   rintro e u ⟨rfl, hP, hK⟩; go_wp2
   (try simp only [Exit.inBlock, Exit.then]); refine bodyPost_ret (results_none rfl _ _ _) rfl ?_
   exact ⟨rfl, hs.out ▸ hP, hK⟩
theorem putBytes_any (B : Nat) (G : Nat → Prop) (s : St) (a : Option Addr) (cap : Nat) (xs : List Nat) (w : World) (h : Pc w B G s) (hr : Rb w a cap xs) (hl : s.bs.length + xs.length ≤ 1048576) :
    Calls Tryz.prog 144 #[pg B, .slice a xs.length cap] w fun e w' => e = .returned (.tuple #[]) ∧ Pc w' B G (s.app xs) ∧ Keep G w w' := by
 go_enter Tryz.func144, Tryz.ntmps144
 go_wp2_with fail
 refine (put_any B G s a cap xs _ h hr hl).mono ?_
 rintro e u2 ⟨rfl, hP, hK⟩; go_wp2
 go_end0
 exact ⟨rfl, hP, hK⟩
def sb (t : ByteArray) : List Nat := t.data.toList.map UInt8.toNat
def okb (xs : List Nat) : Bool := xs.all (fun x => decide (32 ≤ x) && decide (x ≤ 126))
def gd (xs : List Nat) : Bool := xs.length == 4 && okb xs
def inB (l : Nat) (p n : Int) : Bool := decide (0 ≤ n ∧ 0 ≤ p ∧ p + n ≤ l)
def V8 (xs : List Nat) : Nat := xs.foldl (fun s x => 256 * s + x) 0
theorem V8_snoc (xs : List Nat) (x : Nat) : V8 (xs ++ [x]) = 256 * V8 xs + x := by simp [V8]
theorem V8_lt {xs : List Nat} (h : Byt xs) : V8 xs < 256 ^ xs.length := by
 obtain ⟨n, hn⟩ : ∃ n, xs.length = n := ⟨_, rfl⟩
 induction n generalizing xs with
 | zero => rw [List.length_eq_zero_iff.1 hn]; decide
 | succ n ih =>
  have hne : xs ≠ [] := by intro e; rw [e] at hn; cases hn
  rw [← List.dropLast_concat_getLast hne] at h hn ⊢
  have hl : xs.dropLast.length = n := by simpa using hn
  have h1 := ih (fun y hy => h y (by simp [hy])) hl
  have h2 := h (xs.getLast hne) (by simp)
  rw [V8_snoc, List.length_append, List.length_singleton, Nat.pow_succ]
  omega
theorem i64_or_nat (a b : Nat) (ha : a < 4611686018427387904) (hb : b < 4611686018427387904) : bits .or .i64 (a : Int) (b : Int) = ((a ||| b : Nat) : Int) := by
 have hx : a ||| b < 2 ^ 62 := Nat.or_lt_two_pow (by omega) (by omega)
 show IntKind.i64.wrap ((BitVec.ofInt 64 (a : Int) ||| BitVec.ofInt 64 (b : Int)).toNat : Int) = _
 rw [BitVec.toNat_or, ofInt_u64 a (by omega), ofInt_u64 b (by omega)]
 unfold IntKind.wrap
 simp [IntKind.bits, IntKind.signed]
 omega
theorem or_byte (s x : Nat) (hs : s < 4294967296) (hx : x < 256) : bits BinOp.or IntKind.i64 ((s : Int) * 256) (x : Int) = 256 * (s : Int) + (x : Int) := by
 have h := i64_or_nat (s * 256) x (by omega) (by omega)
 have e : s * 256 ||| x = s * 256 + x := by
  have := Nat.shiftLeft_add_eq_or_of_lt (show x < 2 ^ 8 by omega) s
  rw [Nat.shiftLeft_eq] at this
  exact this.symm
 rw [e] at h
 have c1 : ((s * 256 : Nat) : Int) = (s : Int) * 256 := by simp
 rw [c1] at h; rw [h, Int.natCast_add, c1, Int.mul_comm]
theorem rt_two {a b a' b' : Value} (h1 : a = a') (h2 : b = b') : Ending.returned (.tuple #[a, b]) = .returned (.tuple #[a', b']) := by rw [h1, h2]
theorem take_drop_succ (xs : List Nat) (q k : Nat) (h : q + k < xs.length) : (xs.drop q).take (k + 1) = (xs.drop q).take k ++ [xs.getD (q + k) 0] := by
 rw [List.take_succ_eq_append_getElem (by simp; omega)]
 simp [List.getD, h]
def nmV (xs : List Nat) (p : Int) (n : Nat) : Nat := if inB xs.length p n then V8 ((xs.drop p.toNat).take n) else 0
theorem within_any (a : Option Addr) (l cap : Nat) (p n : Int) (w : World) (hl : l ≤ 9223372036854775807) (hp : I64 p) (hn : I64 n) :
    Calls Tryz.prog 156 #[.slice a l cap, .int .i64 p, .int .i64 n] w fun e w' => e = .returned (.bool (inB l p n)) ∧ w = w' := by
 obtain ⟨p1, p2⟩ := hp; obtain ⟨n1, n2⟩ := hn
 by_cases h1 : 0 ≤ n
 · by_cases h2 : 0 ≤ p
   · go_enter Tryz.func156, Tryz.ntmps156
     go_wp2
     go_ret
     exact ⟨rt_bool (by simp [inB, h1, h2]; try omega), rfl⟩
   · go_enter Tryz.func156, Tryz.ntmps156
     go_wp2
     go_ret
     exact ⟨rt_bool (by simp [inB, h1, h2]; try omega), rfl⟩
 · go_enter Tryz.func156, Tryz.ntmps156
   go_wp2
   go_ret
   exact ⟨rt_bool (by simp [inB, h1]; try omega), rfl⟩
theorem number_any (a : Option Addr) (cap : Nat) (xs : List Nat) (p : Int) (n : Nat) (w : World) (h : Rb w a cap xs) (hp : I64 p) (hn : 1 ≤ n) (hn4 : n ≤ 4) :
    Calls Tryz.prog 101 #[.slice a xs.length cap, .int .i64 p, .int .i64 (n : Int)] w fun e w' => e = .returned (.tuple #[.int .i64 (nmV xs p n : Int), .bool (inB xs.length p n)]) ∧ w = w' := by
 have k1 := h.le
 have k2 := h.cap
 unfold maxLen at k2
 have hp' := hp
 obtain ⟨p1, p2⟩ := hp'
 by_cases hi : inB xs.length p n = true
 · have hi' := hi
   simp [inB] at hi'
   obtain ⟨q1, q2⟩ := hi'
   obtain ⟨q, rfl⟩ : ∃ q : Nat, p = (q : Int) := ⟨p.toNat, by omega⟩
   rcases h.fm with rfl | ⟨b, off, rfl, hb, hc⟩
   · simp at q2; omega
   have hV : Hid (nmV xs (q : Int) n = V8 ((xs.drop q).take n)) := by
    show nmV xs (q : Int) n = _
    simp [nmV, hi]
   have hb3 := h.lim
   clear h
   go_enter Tryz.func101, Tryz.ntmps101
   go_wp2_with fail
   refine (within_any _ _ _ _ _ _ (by omega) hp ⟨by omega, by omega⟩).mono ?_
   rintro e u ⟨rfl, rfl⟩; rw [hi]
   have HI : Hid (inB xs.length (q : Int) n = true) := hi
   clear hi; go_wp2
   go_loop [8, 23] (fun s i => ∃ k : Nat, k ≤ n ∧ i = .int .i64 k ∧ s = .int .i64 (V8 ((xs.drop q).take k) : Int)) (fun _ i => ((n : Int) - intOf i).toNat)
   case atStart => exact ⟨0, by omega, rfl, rfl⟩
   case round =>
    obtain ⟨k, hk, rfl, rfl⟩ := hrel
    by_cases hkn : k = n
    · subst hkn
      go_wp2
      go_ret2
      exact ⟨rt_two (by rw [hV.out]; rfl) (by rw [HI.out]; rfl), rfl⟩
    · have hcx := hc (q + k) (by omega)
      rw [← Nat.add_assoc] at hcx
      have hts := take_drop_succ xs q k (by omega)
      have hx := hb3.getD (q + k)
      generalize xs.getD (q + k) 0 = x at hcx hts hx
      have hv := V8_lt ((hb3.drop q).take k)
      have hvk : 256 ^ ((xs.drop q).take k).length ≤ 256 ^ 3 := Nat.pow_le_pow_right (by decide) (by simp; omega)
      have hts2 : V8 ((xs.drop q).take (k + 1)) = 256 * V8 ((xs.drop q).take k) + x := by rw [hts, V8_snoc]
      generalize V8 ((xs.drop q).take k) = v at hts2 hv ⊢
      have HT : Hid (V8 ((xs.drop q).take (k + 1)) = 256 * v + x) := hts2
      have hv3 : v < 16777216 := by omega
      clear hts hts2 hv hvk hc
      have hor := or_byte v x (by omega) hx
      go_wp2
      go_round
      case rel => exact ⟨k + 1, by omega, by simp, by rw [HT.out]; simp⟩
      case measure => simp [intOf]; omega
 · have hi : inB xs.length p n = false := by simpa using hi
   have hV : Hid (nmV xs p n = 0) := by
    show nmV xs p n = _
    simp [nmV, hi]
   go_enter Tryz.func101, Tryz.ntmps101
   go_wp2_with fail
   refine (within_any _ _ _ _ _ _ (by omega) hp ⟨by omega, by omega⟩).mono ?_
   rintro e u ⟨rfl, rfl⟩; rw [hi]
   have HI : Hid (inB xs.length p n = false) := hi
   clear hi; go_wp2
   go_ret2
   exact ⟨rt_two (by rw [hV.out]; rfl) (by rw [HI.out]; rfl), rfl⟩
end Go.Proofs.YtngmcghmniakeaaGreat
