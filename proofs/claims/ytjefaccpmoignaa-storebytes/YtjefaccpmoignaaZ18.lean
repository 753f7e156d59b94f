/-
  Stores: their bytes; what is written is read (plain mathematics).
  foundrylaw04.awake; OctetsReads: the walks.
  octets.Page: Later: the walk.
  octets.Page: Now: the walk.
  Rows of ints beside a page (LayG).
-/
import Derived.Test.YtjefaccpmoignaaZ10
import Derived.Test.YtjefaccpmoignaaZ17
import Derived.Test.YtjefaccpmoignaaZ16
import Derived.WalkSpells
import Derived.Test.YtjefaccpmoignaaZ12
namespace Go.Proofs.Ytjefaccpmoignaa
set_option linter.unusedSimpArgs false
set_option linter.unusedVariables false

/-- The bytes of tents, of regions, of rows, of a store. -/
def teE (t : Te) : List Nat := be2 t.st ++ (be2 t.pk ++ be2 t.en)
def tesE : List Te → List Nat
  | [] => []
  | t :: l => teE t ++ tesE l
def rgsE : List (List Te) → List Nat
  | [] => []
  | l :: g => tesE l ++ rgsE g
def numE : List Int → List Nat
  | [] => []
  | z :: r => be2 z ++ numE r
def rowsE : List (List Int) → List Nat
  | [] => []
  | r :: m => numE r ++ rowsE m
def stE (s : Sr) (n : Int) : List Nat := be2 n ++ (be2 ((s.rg.length : Nat) : Int) ++ (rgsE s.rg ++ (be2 ((s.rw.length : Nat) : Int) ++ rowsE s.rw)))
theorem tesE_append (l m : List Te) : tesE (l ++ m) = tesE l ++ tesE m := by
  induction l with
  | nil => rfl
  | cons t l ih => rw [List.cons_append, tesE, tesE, ih, List.append_assoc]
theorem rgsE_append (l m : List (List Te)) : rgsE (l ++ m) = rgsE l ++ rgsE m := by
  induction l with
  | nil => rfl
  | cons t l ih => rw [List.cons_append, rgsE, rgsE, ih, List.append_assoc]
theorem numE_append (l m : List Int) : numE (l ++ m) = numE l ++ numE m := by
  induction l with
  | nil => rfl
  | cons t l ih => rw [List.cons_append, numE, numE, ih, List.append_assoc]
theorem rowsE_append (l m : List (List Int)) : rowsE (l ++ m) = rowsE l ++ rowsE m := by
  induction l with
  | nil => rfl
  | cons t l ih => rw [List.cons_append, rowsE, rowsE, ih, List.append_assoc]
theorem teE_len (t : Te) : (teE t).length = 6 := rfl
theorem tesE_len (l : List Te) : (tesE l).length = 6 * l.length := by
  induction l with
  | nil => rfl
  | cons t l ih => rw [tesE, List.length_append, ih, teE_len, List.length_cons]; omega
theorem rgsE_len {n : Nat} : ∀ {g : List (List Te)}, (∀ l ∈ g, l.length = n) → (rgsE g).length = 6 * n * g.length := by
  intro g
  induction g with
  | nil => intro _; rfl
  | cons l g ih =>
    intro h
    rw [rgsE, List.length_append, tesE_len, ih (fun x hx => h x (by simp [hx])), h l (by simp), List.length_cons, Nat.mul_add]
    omega
theorem numE_len (r : List Int) : (numE r).length = 2 * r.length := by
  induction r with
  | nil => rfl
  | cons t l ih => rw [numE, List.length_append, ih, be2L, List.length_cons]; omega
theorem rowsE_len {n : Nat} : ∀ {m : List (List Int)}, (∀ r ∈ m, r.length = n) → (rowsE m).length = 2 * n * m.length := by
  intro g
  induction g with
  | nil => intro _; rfl
  | cons l g ih =>
    intro h
    rw [rowsE, List.length_append, numE_len, ih (fun x hx => h x (by simp [hx])), h l (by simp), List.length_cons, Nat.mul_add]
    omega
theorem byt_tesE (l : List Te) : Byt (tesE l) := by
  induction l with
  | nil => exact Byt.nil
  | cons t l ih => exact ((byt_be2 _).append ((byt_be2 _).append (byt_be2 _))).append ih
theorem byt_rgsE (g : List (List Te)) : Byt (rgsE g) := by
  induction g with
  | nil => exact Byt.nil
  | cons t l ih => exact (byt_tesE _).append ih
theorem byt_numE (r : List Int) : Byt (numE r) := by
  induction r with
  | nil => exact Byt.nil
  | cons t l ih => exact (byt_be2 _).append ih
theorem byt_rowsE (m : List (List Int)) : Byt (rowsE m) := by
  induction m with
  | nil => exact Byt.nil
  | cons t l ih => exact (byt_numE _).append ih
theorem byt_stE (s : Sr) (n : Int) : Byt (stE s n) := (byt_be2 _).append ((byt_be2 _).append ((byt_rgsE _).append ((byt_be2 _).append (byt_rowsE _))))
/-- How many bytes a formed store has. -/
theorem stE_len {s : Sr} {n : Int} (h : stB s n = true) : (stE s n).length = 6 + 6 * n.toNat * s.rg.length + 2 * s.rg.length * s.rw.length := by
  have hs := stB_iff.1 h
  have h1 := rgsE_len (n := n.toNat) (g := s.rg) (fun l hl => by have := (rgB_all (hs.2.2.2.1 l hl)).2; omega)
  have h2 := rowsE_len (n := s.rg.length) (m := s.rw) (fun r hr => (hs.2.2.2.2 r hr).1)
  rw [stE]
  simp only [List.length_append, be2L, h1, h2]
  omega
theorem stE_le {s : Sr} {n : Int} (h : stB s n = true) : (stE s n).length ≤ 33000 := by
  have hs := stB_iff.1 h
  rw [stE_len h]
  have a1 : 6 * n.toNat * s.rg.length ≤ 24 * 40 := Nat.mul_le_mul (by omega) hs.2.1
  have a2 : 2 * s.rg.length * s.rw.length ≤ 80 * 400 := Nat.mul_le_mul (by omega) hs.2.2.1
  omega

/-- What is written. -/
def wrSE (s : Sr) (n : Int) : Int := if stB s n then 0 else 1
def wrSB (s : Sr) (n : Int) : List Nat := if stB s n then stE s n else []

/-- What is read: tents, regions, rows from a place on. -/
def teAt (b : List Nat) (p : Nat) : Te := ⟨sx16 (nmV b (p : Int) 2), sx16 (nmV b ((p + 2 : Nat) : Int) 2), sx16 (nmV b ((p + 4 : Nat) : Int) 2)⟩
def tesAt (b : List Nat) (p n : Nat) : List Te := (List.range n).map (fun i => teAt b (p + 6 * i))
def rgsAt (b : List Nat) (p n k : Nat) : List (List Te) := (List.range k).map (fun i => tesAt b (p + 6 * n * i) n)
def numAt (b : List Nat) (p n : Nat) : List Int := (List.range n).map (fun i => sx16 (nmV b ((p + 2 * i : Nat) : Int) 2))
def rowsAt (b : List Nat) (p n k : Nat) : List (List Int) := (List.range k).map (fun i => numAt b (p + 2 * n * i) n)
theorem tesAt_len (b : List Nat) (p n : Nat) : (tesAt b p n).length = n := by simp [tesAt]
theorem rgsAt_len (b : List Nat) (p n k : Nat) : (rgsAt b p n k).length = k := by simp [rgsAt]
theorem numAt_len (b : List Nat) (p n : Nat) : (numAt b p n).length = n := by simp [numAt]
theorem rowsAt_len (b : List Nat) (p n k : Nat) : (rowsAt b p n k).length = k := by simp [rowsAt]
theorem tesAt_succ (b : List Nat) (p n : Nat) : tesAt b p (n + 1) = tesAt b p n ++ [teAt b (p + 6 * n)] := by simp [tesAt, List.range_succ]
theorem rgsAt_succ (b : List Nat) (p n k : Nat) : rgsAt b p n (k + 1) = rgsAt b p n k ++ [tesAt b (p + 6 * n * k) n] := by simp [rgsAt, List.range_succ]
theorem numAt_succ (b : List Nat) (p n : Nat) : numAt b p (n + 1) = numAt b p n ++ [sx16 (nmV b ((p + 2 * n : Nat) : Int) 2)] := by simp [numAt, List.range_succ]
theorem rowsAt_succ (b : List Nat) (p n k : Nat) : rowsAt b p n (k + 1) = rowsAt b p n k ++ [numAt b (p + 2 * n * k) n] := by simp [rowsAt, List.range_succ]
def axN (b : List Nat) : Nat := nmV b 0 2
def rgN (b : List Nat) : Nat := nmV b 2 2
/-- The regions, as the reference reads them; where the rows begin; the rows. -/
def rdRg (b : List Nat) : List (List Te) := if axN b ≤ 4 ∧ rgN b ≤ 40 then rgsAt b 4 (axN b) (rgN b) else []
def rwP (b : List Nat) : Nat := 4 + 6 * axN b * (rdRg b).length
def rwN (b : List Nat) : Nat := nmV b ((rwP b : Nat) : Int) 2
def rdRw (b : List Nat) : List (List Int) := if rwN b ≤ 400 then rowsAt b (rwP b + 2) (rdRg b).length (rwN b) else []
def rdS (b : List Nat) : Sr := ⟨rdRg b, rdRw b⟩
def rdSB (b : List Nat) : Bool := stB (rdS b) (axN b : Int) && decide (stE (rdS b) (axN b : Int) = b)
theorem rdSB_iff {b : List Nat} : rdSB b = true ↔ stB (rdS b) (axN b : Int) = true ∧ stE (rdS b) (axN b : Int) = b := by
  unfold rdSB
  rw [Bool.and_eq_true, decide_eq_true_iff]

/-- Tents, regions, rows within bytes are read as they were. -/
theorem teAt_mid {b A Z : List Nat} {p : Nat} {t : Te} (hb : b = A ++ (teE t ++ Z)) (hp : A.length = p) (h : tfB t = true) : teAt b p = t := by
  have hf := tfB_iff.1 h
  unfold TfT at hf
  have b1 : b = A ++ (be2 t.st ++ (be2 t.pk ++ (be2 t.en ++ Z))) := by rw [hb, teE]; simp only [List.append_assoc]
  have b2 : b = (A ++ be2 t.st) ++ (be2 t.pk ++ (be2 t.en ++ Z)) := by rw [b1]; simp only [List.append_assoc]
  have b3 : b = (A ++ be2 t.st ++ be2 t.pk) ++ (be2 t.en ++ Z) := by rw [b1]; simp only [List.append_assoc]
  have v1 := nmV_at (q := p) (n := 2) b1 hp rfl
  have v2 := nmV_at (q := p + 2) (n := 2) b2 (by rw [List.length_append, be2L, hp]) rfl
  have v3 := nmV_at (q := p + 4) (n := 2) b3 (by rw [List.length_append, List.length_append, be2L, be2L, hp]) rfl
  obtain ⟨st, pk, en⟩ := t
  dsimp only at *
  rw [teAt, v1, v2, v3, sx_be2 (by omega) (by omega), sx_be2 (by omega) (by omega), sx_be2 (by omega) (by omega)]
theorem tesAt_mid {b : List Nat} : ∀ {l : List Te} {A Z : List Nat} {p : Nat}, b = A ++ (tesE l ++ Z) → A.length = p → l.all tfB = true → tesAt b p l.length = l := by
  intro l A Z p hb hp hl
  apply List.ext_getElem
  · simp [tesAt]
  · intro i h1 h2
    simp only [tesAt, List.getElem_map, List.getElem_range]
    have es : l = l.take i ++ l[i] :: l.drop (i + 1) := by simp
    have hi : (l.take i).length = i := by simp; omega
    refine teAt_mid (A := A ++ tesE (l.take i)) (Z := tesE (l.drop (i + 1)) ++ Z) ?_ (by rw [List.length_append, tesE_len, hi, hp]) (List.all_eq_true.1 hl _ (List.getElem_mem h2))
    have e2 : tesE l = tesE (l.take i) ++ (teE l[i] ++ tesE (l.drop (i + 1))) := by
      conv => lhs; rw [es, tesE_append, tesE]
    rw [hb, e2]
    simp only [List.append_assoc]
theorem rgsAt_mid {b : List Nat} {n : Nat} : ∀ {g : List (List Te)} {A Z : List Nat} {p : Nat}, b = A ++ (rgsE g ++ Z) → A.length = p → (∀ l ∈ g, l.all tfB = true ∧ l.length = n) → rgsAt b p n g.length = g := by
  intro g A Z p hb hp hl
  apply List.ext_getElem
  · simp [rgsAt]
  · intro i h1 h2
    simp only [rgsAt, List.getElem_map, List.getElem_range]
    have es : g = g.take i ++ g[i] :: g.drop (i + 1) := by simp
    have hi : (g.take i).length = i := by simp; omega
    have hg := hl _ (List.getElem_mem h2)
    have e2 : rgsE g = rgsE (g.take i) ++ (tesE g[i] ++ rgsE (g.drop (i + 1))) := by
      conv => lhs; rw [es, rgsE_append, rgsE]
    have := tesAt_mid (b := b) (l := g[i]) (A := A ++ rgsE (g.take i)) (Z := rgsE (g.drop (i + 1)) ++ Z) (p := p + 6 * n * i) (by rw [hb, e2]; simp only [List.append_assoc])
      (by rw [List.length_append, rgsE_len (n := n) (fun l hl' => (hl l (List.mem_of_mem_take hl')).2), hi, hp]) hg.1
    rw [hg.2] at this
    exact this
theorem numAt_mid {b : List Nat} : ∀ {r : List Int} {A Z : List Nat} {p : Nat}, b = A ++ (numE r ++ Z) → A.length = p → (∀ z ∈ r, -32768 ≤ z ∧ z ≤ 32767) → numAt b p r.length = r := by
  intro r A Z p hb hp hl
  apply List.ext_getElem
  · simp [numAt]
  · intro i h1 h2
    simp only [numAt, List.getElem_map, List.getElem_range]
    have es : r = r.take i ++ r[i] :: r.drop (i + 1) := by simp
    have hi : (r.take i).length = i := by simp; omega
    have hz := hl _ (List.getElem_mem h2)
    have e2 : numE r = numE (r.take i) ++ (be2 r[i] ++ numE (r.drop (i + 1))) := by
      conv => lhs; rw [es, numE_append, numE]
    have v := nmV_at (b := b) (A := A ++ numE (r.take i)) (X := be2 r[i]) (Z := numE (r.drop (i + 1)) ++ Z) (q := p + 2 * i) (n := 2) (by rw [hb, e2]; simp only [List.append_assoc]) (by rw [List.length_append, numE_len, hi, hp]) rfl
    rw [v, sx_be2 hz.1 hz.2]
theorem rowsAt_mid {b : List Nat} {n : Nat} : ∀ {m : List (List Int)} {A Z : List Nat} {p : Nat}, b = A ++ (rowsE m ++ Z) → A.length = p → (∀ r ∈ m, r.length = n ∧ ∀ z ∈ r, -32768 ≤ z ∧ z ≤ 32767) → rowsAt b p n m.length = m := by
  intro m A Z p hb hp hl
  apply List.ext_getElem
  · simp [rowsAt]
  · intro i h1 h2
    simp only [rowsAt, List.getElem_map, List.getElem_range]
    have es : m = m.take i ++ m[i] :: m.drop (i + 1) := by simp
    have hi : (m.take i).length = i := by simp; omega
    have hg := hl _ (List.getElem_mem h2)
    have e2 : rowsE m = rowsE (m.take i) ++ (numE m[i] ++ rowsE (m.drop (i + 1))) := by
      conv => lhs; rw [es, rowsE_append, rowsE]
    have := numAt_mid (b := b) (r := m[i]) (A := A ++ rowsE (m.take i)) (Z := rowsE (m.drop (i + 1)) ++ Z) (p := p + 2 * n * i) (by rw [hb, e2]; simp only [List.append_assoc])
      (by rw [List.length_append, rowsE_len (n := n) (fun l hl' => (hl l (List.mem_of_mem_take hl')).1), hi, hp]) hg.2
    rw [hg.1] at this
    exact this
/-- What is written is read. -/
theorem rd_wr {s : Sr} {n : Int} (h : stB s n = true) : rdS (stE s n) = s ∧ ((axN (stE s n) : Nat) : Int) = n ∧ rdSB (stE s n) = true := by
  have hs := stB_iff.1 h
  obtain ⟨b, hb⟩ : ∃ b, stE s n = b := ⟨_, rfl⟩
  have b0 : b = [] ++ (be2 n ++ (be2 ((s.rg.length : Nat) : Int) ++ (rgsE s.rg ++ (be2 ((s.rw.length : Nat) : Int) ++ rowsE s.rw)))) := by rw [← hb, stE, List.nil_append]
  have b1 : b = be2 n ++ (be2 ((s.rg.length : Nat) : Int) ++ (rgsE s.rg ++ (be2 ((s.rw.length : Nat) : Int) ++ rowsE s.rw))) := by rw [← hb, stE]
  have b2 : b = (be2 n ++ be2 ((s.rg.length : Nat) : Int)) ++ (rgsE s.rg ++ (be2 ((s.rw.length : Nat) : Int) ++ rowsE s.rw)) := by rw [b1]; simp only [List.append_assoc]
  have b3 : b = (be2 n ++ be2 ((s.rg.length : Nat) : Int) ++ rgsE s.rg) ++ (be2 ((s.rw.length : Nat) : Int) ++ rowsE s.rw) := by rw [b1]; simp only [List.append_assoc]
  have b4 : b = (be2 n ++ be2 ((s.rg.length : Nat) : Int) ++ rgsE s.rg ++ be2 ((s.rw.length : Nat) : Int)) ++ (rowsE s.rw ++ []) := by rw [b1]; simp only [List.append_assoc, List.append_nil]
  have hreg : ∀ l ∈ s.rg, l.all tfB = true ∧ l.length = n.toNat := fun l hl => by
    have := rgB_all (hs.2.2.2.1 l hl)
    exact ⟨this.1, by omega⟩
  have e0 : axN b = n.toNat := by
    have v := nmV_at (q := 0) (n := 2) b0 rfl rfl
    have hn : be2 n = be2 ((n.toNat : Nat) : Int) := by rw [Int.toNat_of_nonneg hs.1.1]
    rw [hn, V8_be2 (by omega)] at v
    exact v
  have e1 : rgN b = s.rg.length := by
    have v := nmV_at (q := 2) (n := 2) b1 (be2L _) rfl
    rw [V8_be2 (by omega)] at v
    exact v
  have e2 : rdRg b = s.rg := by
    rw [rdRg, if_pos ⟨by omega, by omega⟩, e0, e1]
    exact rgsAt_mid b2 (by rw [List.length_append, be2L, be2L]) hreg
  have hl2 := rgsE_len (n := n.toNat) (g := s.rg) (fun l hl => (hreg l hl).2)
  have e3 : rwP b = 4 + 6 * n.toNat * s.rg.length := by rw [rwP, e0, e2]
  have e4 : rwN b = s.rw.length := by
    have v := nmV_at (q := 4 + 6 * n.toNat * s.rg.length) (n := 2) b3 (by simp only [List.length_append, be2L, hl2]) rfl
    rw [V8_be2 (by omega)] at v
    rw [rwN, e3]
    exact v
  have e5 : rdRw b = s.rw := by
    rw [rdRw, if_pos (by omega), e2, e3, e4]
    exact rowsAt_mid b4 (by simp only [List.length_append, be2L, hl2]) hs.2.2.2.2
  have e6 : rdS b = s := by rw [rdS, e2, e5]
  have e7 : ((axN b : Nat) : Int) = n := by rw [e0]; exact Int.toNat_of_nonneg hs.1.1
  rw [hb]
  exact ⟨e6, e7, rdSB_iff.2 ⟨by rw [e6, e7]; exact h, by rw [e6, e7]; exact hb⟩⟩
/-- Just the bytes of formed stores are read. -/
theorem rdSB_of {b : List Nat} {s : Sr} {n : Int} (h : stB s n = true) (hb : stE s n = b) : rdSB b = true ∧ rdS b = s ∧ ((axN b : Nat) : Int) = n := by
  subst hb
  have := rd_wr h
  exact ⟨this.2.2, this.1, this.2.1⟩

/-- What Read answers. -/
def rdSE (b : List Nat) : Int := if rdSB b then 0 else 2
def rdSL (b : List Nat) : Sr := if rdSB b then rdS b else ⟨[], []⟩
def rdSN (b : List Nat) : Int := if rdSB b then (axN b : Int) else 0

end Go.Proofs.Ytjefaccpmoignaa

namespace Go.Proofs.Ytjefaccpmoignaa
open Go.RowKit Go.Maps
set_option linter.unusedSimpArgs false
set_option linter.unusedVariables false

/-- A new page. -/
theorem pc_new (w : World) (G : Nat → Prop) (hG : ∀ k, G k → k < w.heap.size) : Pc (w.alloc (.cells #[.slice none 0 0, .int .i64 0, .map none, .bool false] 70)) w.heap.size G St.zero := by
  refine ⟨fun k hk => by have := hG k hk; simp; omega, fun h => by have := hG _ h; omega, Wf.zero, _, _, heap_alloc_new w _, fun h => (by cases h), fun _ => ⟨⟨World.ownsRow_nil _ _ _ _, fun g hg => (by cases hg)⟩, .inl ⟨rfl, rfl⟩⟩⟩

end Go.Proofs.Ytjefaccpmoignaa

namespace Go.Proofs.Ytjefaccpmoignaa
open Go.RowKit Go.Maps
set_option linter.unusedSimpArgs false
set_option linter.unusedVariables false

def St.later (s : St) : St := if s.no then s else { s with bs := s.bs ++ be4 0, ws := s.ws ++ [(s.bs.length : Int)] }
theorem Wf.later {s : St} (h : Wf s) : Wf s.later := by
  unfold St.later
  split
  · exact h
  · refine ⟨h.1.append (byt_be4 0), ?_, ?_, ?_⟩
    · rw [List.nodup_append]
      refine ⟨h.2.1, by simp, ?_⟩
      intro a ha b hb e
      have := h.2.2.1 a ha
      simp at hb
      omega
    · intro x hx
      simp at hx
      rcases hx with hx | hx
      · have := h.2.2.1 x hx
        simp [be4]; omega
      · simp [be4]; omega
    · have := h.2.2.2
      simp [be4]
      omega
theorem St.later_bad {s : St} (h : s.no = true) : s.later = s := by simp [St.later, h]
theorem St.later_ok {s : St} (h : s.no = false) : s.later = { s with bs := s.bs ++ be4 0, ws := s.ws ++ [(s.bs.length : Int)] } := by simp [St.later, h]

theorem wf64 {n : Int} (h : I64 n) : (Lit.int .i64 n).wf = true := WalkArith.wf_i64 h
theorem keyI : Keyed Try.prog 3 := int_keyed Try.underlying3
theorem zeroU (w : World) : (zeroValue 138).run Try.prog w = .ok (.agg #[]) w := by kernel_rfl

/-- A place more that waits. -/
theorem has_more {D : DataW Unit} {ws : List Int} {l : Int} (hm : IsMap D) (h : ∀ x : Int, Maps.has D (.int .i64 x) = decide (x ∈ ws)) (x : Int) :
    Maps.has (D.put (.int .i64 l) (.agg [])) (.int .i64 x) = decide (x ∈ ws ++ [l]) := by
  by_cases e : x = l
  · subst e
    rw [has_put_same hm (show WideAt.IsKeyLit (.int .i64 x) from trivial)]
    simp
  · rw [has_put_other (by intro e2; injection e2 with _ e3; exact e e3), h x]
    simp [e]
theorem size_more {D : DataW Unit} {ws : List Int} {l : Int} (hm : Tidy D) (h : ∀ x : Int, Maps.has D (.int .i64 x) = decide (x ∈ ws)) (hs : Maps.size D = ws.length) (hl : l ∉ ws) :
    Maps.size (D.put (.int .i64 l) (.agg [])) = (ws ++ [l]).length := by
  rw [size_put hm, h l, hs]
  simp [hl]

end Go.Proofs.Ytjefaccpmoignaa

namespace Go.Proofs.Ytjefaccpmoignaa
open Go.RowKit Go.Maps
set_option linter.unusedSimpArgs false
set_option linter.unusedVariables false

/-- Bytes are laid over others. -/
def ovr (bs : List Nat) (q : Nat) (xs : List Nat) : List Nat := bs.take q ++ xs ++ bs.drop (q + xs.length)
theorem ovr_len {bs : List Nat} {q : Nat} {xs : List Nat} (h : q + xs.length ≤ bs.length) : (ovr bs q xs).length = bs.length := by simp [ovr]; omega
theorem byt_ovr {bs : List Nat} {q : Nat} {xs : List Nat} (h : Byt bs) (hx : Byt xs) : Byt (ovr bs q xs) := ((h.take q).append hx).append (h.drop _)

def St.now (s : St) (m b : Int) : St :=
  if s.no then s else if m ∈ s.ws ∧ -2147483648 ≤ b ∧ b ≤ (s.bs.length : Int) then { s with bs := ovr s.bs m.toNat (be4 ((s.bs.length : Int) - b)), ws := s.ws.filter (fun x => decide (x ≠ m)) } else s.fail
theorem St.now_bad {s : St} (h : s.no = true) (m b : Int) : s.now m b = s := by simp [St.now, h]
theorem St.now_ok {s : St} (h : s.no = false) {m b : Int} (hc : m ∈ s.ws ∧ -2147483648 ≤ b ∧ b ≤ (s.bs.length : Int)) :
    s.now m b = { s with bs := ovr s.bs m.toNat (be4 ((s.bs.length : Int) - b)), ws := s.ws.filter (fun x => decide (x ≠ m)) } := by
  unfold St.now
  rw [h, if_pos hc]
  simp
theorem St.now_no {s : St} (h : s.no = false) {m b : Int} (hc : ¬ (m ∈ s.ws ∧ -2147483648 ≤ b ∧ b ≤ (s.bs.length : Int))) : s.now m b = s.fail := by
  unfold St.now
  rw [h, if_neg hc]
  simp
theorem Wf.now {s : St} (h : Wf s) (m b : Int) : Wf (s.now m b) := by
  unfold St.now
  split
  · exact h
  · split
    · rename_i hc
      obtain ⟨hm, _, _⟩ := hc
      have h1 := h.2.2.1 m hm
      have hlen : (ovr s.bs m.toNat (be4 ((s.bs.length : Int) - b))).length = s.bs.length := ovr_len (by simp [be4]; omega)
      refine ⟨byt_ovr h.1 (byt_be4 _), h.2.1.filter _, fun x hx => ?_, ?_⟩
      · rw [List.mem_filter] at hx
        have := h.2.2.1 x hx.1
        dsimp only
        rw [hlen]
        exact this
      · dsimp only
        rw [hlen]
        have := List.length_filter_le (fun x => decide (x ≠ m)) s.ws
        have := h.2.2.2
        omega
    · exact h

theorem has_less {D : DataW Unit} {ws : List Int} {m : Int} (h : ∀ x : Int, Maps.has D (.int .i64 x) = decide (x ∈ ws)) (x : Int) :
    Maps.has (D.del (.int .i64 m)) (.int .i64 x) = decide (x ∈ ws.filter (fun x => decide (x ≠ m))) := by
  by_cases e : x = m
  · subst e
    rw [has_del_same]
    simp
  · rw [has_del_other (by intro e2; injection e2 with _ e3; exact e e3), h x]
    simp [e]
theorem length_less : ∀ {ws : List Int} {m : Int}, ws.Nodup → m ∈ ws → (ws.filter (fun x => decide (x ≠ m))).length + 1 = ws.length := by
  intro ws m hn hm
  have e : ws.filter (fun x => decide (x ≠ m)) = ws.erase m := by
    rw [hn.erase_eq_filter]
    apply List.filter_congr
    intro x _
    by_cases h : x = m <;> simp [h]
  rw [e, List.length_erase_of_mem hm]
  have := List.length_pos_of_mem hm
  omega
theorem size_less {D : DataW Unit} {ws : List Int} {m : Int} (ht : Tidy D) (h : ∀ x : Int, Maps.has D (.int .i64 x) = decide (x ∈ ws)) (hs : Maps.size D = ws.length) (hn : ws.Nodup) (hm : m ∈ ws) :
    Maps.size (D.del (.int .i64 m)) = (ws.filter (fun x => decide (x ≠ m))).length := by
  have e := size_del (k := .int .i64 m) ht
  rw [h m, hs] at e
  have := length_less hn hm
  simp only [hm, decide_true, if_true] at e
  omega
theorem ownsMap_tight {w : World} {k : TypeId} {b n : Nat} {D : DataW Unit} (h : w.ownsMap Try.prog k unitElem b n D) : w.ownsMap Try.prog k unitElem b (Maps.size D) D := by
  obtain ⟨es, clock, hb, F, hs, rfl⟩ := h
  exact ⟨es, clock, hb, F, by simp [Maps.size, length_sorted], rfl⟩

theorem copyEq (u : World) (g q l cap : Nat) (cur : Array Value) (a : Option Addr) (c : Nat) (xs : List Nat) (ty : TypeId) (hg : u.heap[g]? = some (.cells cur 5 (0, 0))) (hr : Rb u a c xs) (hx : xs.length = 4) (hq : q + 4 ≤ l) (hl : l ≤ cur.size) :
    (Builtin.copy_ #[26, 26] ty #[.slice (some ⟨g, q, none⟩) (l - q) (cap - q), .slice a xs.length c]).run Try.prog u = .ok (goInt 4) (u.setRow g (cur.toList.take q ++ xs.map Y ++ cur.toList.drop (q + 4)).toArray) := by
  rcases hr.fm with h0 | ⟨b, off, rfl, hb, hc⟩
  · rw [h0] at hx; cases hx
  · have h := run_copy_row (P := Try.prog) u 26 26 ty 5 g q (l - q) (cap - q) ⟨b, off, none⟩ xs.length c cur 5 (xs.map Y) Try.underlying26 (by kernel_rfl) hg (by rw [List.length_map, hx]; show 4 = min 4 (l - q); omega) (by
      intro j v hj
      have hjl : j < xs.length := by
        rcases Nat.lt_or_ge j xs.length with h1 | h1
        · exact h1
        · rw [List.getElem?_eq_none (by simpa using h1)] at hj; cases hj
      have hadd : (⟨b, off, none⟩ : Addr).add j = ⟨b, off + j, none⟩ := by unfold Addr.add; split <;> simp_all
      rw [hadd, hc j hjl]
      rw [List.getElem?_map, List.getElem?_eq_getElem hjl] at hj
      simp at hj
      rw [← hj]
      simp [List.getD, hjl, Y]) (by simp [hx]; omega) (oneCell_Y xs)
    rw [List.length_map, hx] at h
    rw [hx]
    exact h

theorem now_fin {u : World} {B g m q l cap : Nat} {G : Nat → Prop} {s s' : St} {cur : Array Value} {D : DataW Unit} {xs : List Nat} (hGs : ∀ k, G k → k < u.heap.size) (hGB : ¬ G B)
    (hQ : Bx4 u B (.slice (some ⟨g, 0, none⟩) l cap) (.int .i64 (l : Int)) (.map (some m)) (.bool false)) (hR : Row u G (.slice (some ⟨g, 0, none⟩) l cap) s.bs) (hg : u.heap[g]? = some (.cells cur 5 (0, 0)))
    (hcur : cur.toList.take l = s.bs.map Y) (hcs : l ≤ cur.size) (hl : s.bs.length = l)
    (hmG : ¬ G m) (hown : u.ownsMap Try.prog 3 (unitElem (H := Unit)) m s'.ws.length D) (hhas : ∀ x : Int, Maps.has D (.int .i64 x) = decide (x ∈ s'.ws)) (hsize : Maps.size D = s'.ws.length)
    (hx : xs.length = 4) (hq : q + 4 ≤ l) (hb : s'.bs = ovr s.bs q xs) (hno : s'.no = false) (hw : Wf s') :
    Pc (u.setRow g (cur.toList.take q ++ xs.map Y ++ cur.toList.drop (q + 4)).toArray) B G s' ∧ Keep G u (u.setRow g (cur.toList.take q ++ xs.map Y ++ cur.toList.drop (q + 4)).toArray) := by
  have hgG : ¬ G g := hR.2 g rfl
  have hgB : B ≠ g := fun e => hR.ne hQ (by decide) (by rw [e]; rfl)
  have hlen : s'.bs.length = l := by rw [hb, ovr_len (by omega), hl]
  obtain ⟨es, clock, hbm, hF⟩ := hown
  have hgm : m ≠ g := fun e => hR.ne_map hbm (by rw [e]; rfl)
  have hrow := setRow_heap u g cur (cur.toList.take q ++ xs.map Y ++ cur.toList.drop (q + 4)).toArray _ _ hg
  refine ⟨⟨fun k hk => by simpa using hGs k hk, hGB, hw, .slice (some ⟨g, 0, none⟩) l cap, .map (some m), ?_, (fun hn => by rw [hno] at hn; cases hn), fun _ => ⟨⟨⟨?_, .inr ?_⟩, hR.2⟩, .inr ⟨m, D, rfl, hmG, ⟨es, clock, (setRow_other u g m _ hgm).trans hbm, hF⟩, hhas, hsize⟩⟩⟩, ⟨rfl, rfl, rfl, by simp, fun k hk => setRow_other u g k _ (fun e => hgG (e ▸ hk))⟩⟩
  · rw [hlen, hno]
    exact (setRow_other u g B _ hgB).trans hQ
  · simp
  · rcases hR.1.2 with ⟨e, _⟩ | ⟨g', cap', cur', e, h1, h2, h3, h4, h5, h6⟩
    · cases e
    · simp at e
      obtain ⟨rfl, _, rfl⟩ := e
      rw [hg] at h2
      simp at h2
      subst h2
      refine ⟨g, cap, _, by rw [hlen], Nat.zero_le _, hrow, by rw [hlen, ← hl]; exact h3, h4, ?_, ?_⟩
      · rw [← h5]
        simp [hx]
        omega
      · rw [Nat.mul_one, hlen, hb, ovr, hx, List.map_append, List.map_append]
        have e1 : (s.bs.take q).map Y = cur.toList.take q := by
          rw [List.map_take, ← hcur, List.take_take, Nat.min_eq_left (by omega)]
        have e2 : (s.bs.drop (q + 4)).map Y = (cur.toList.take l).drop (q + 4) := by
          rw [List.map_drop, ← hcur]
        have hcl : cur.toList.length = cur.size := Array.length_toList
        rw [e1, e2, List.take_append, List.take_of_length_le (by simp [hx]; omega), List.drop_take]
        congr 1
        congr 1
        simp [hx]
        omega

end Go.Proofs.Ytjefaccpmoignaa

namespace Go.Proofs.Ytjefaccpmoignaa
open Go.RowKit Go.Maps
set_option linter.unusedSimpArgs false
set_option linter.unusedVariables false

theorem info_i64 : (Try.prog.info? 3).map (fun i => (i.zero, i.size, i.bytes)) = some (some (.int .i64 0), 1, 8) := by kernel_rfl

theorem Hid_mk' {p : Prop} (h : p) : Hid p := h

/-- A row of ints of the call's own. -/
def OwnI (w : World) (v : Value) (ps : List Int) : Prop := w.ownsRow 0 3 1 v ps.length (ps.map (Value.int .i64))

theorem OwnI.nil (w : World) : OwnI w (.slice none 0 0) [] := World.ownsRow_nil w 0 _ 1
theorem OwnI.lt {w : World} {v : Value} {ps : List Int} (h : OwnI w v ps) {g : Nat} (hg : v.ownBlock = some g) : g < w.heap.size := (World.ownsRow.lt h g hg).2
theorem OwnI.kept {w w' : World} {v : Value} {ps : List Int} (h : OwnI w v ps) (hk : ∀ g, v.ownBlock = some g → w'.heap[g]? = w.heap[g]?) : OwnI w' v ps := by
  refine ⟨h.1, ?_⟩
  rcases h.2 with h0 | ⟨g, cap, cur, e, h3, h4, h5⟩
  · exact .inl h0
  · exact .inr ⟨g, cap, cur, e, h3, (hk g (by rw [e]; rfl)).trans h4, h5⟩
theorem OwnI.slice {w : World} {v : Value} {ps : List Int} (h : OwnI w v ps) : ∃ a cap, v = .slice a ps.length cap ∧ ps.length ≤ cap ∧ cap ≤ maxLen ∧ (0 < ps.length → ∃ g, a = some ⟨g, 0, none⟩) ∧ ∀ g, a = some ⟨g, 0, none⟩ → ∀ i, i < ps.length → w.cell? ⟨g, i, none⟩ = some (.int .i64 (ps.getD i 0)) := by
  rcases h.2 with ⟨e, h0⟩ | ⟨g, cap, cur, e, h3, h4, h5, h6, _⟩
  · refine ⟨none, 0, by rw [e, h0], by omega, by decide, fun h => by omega, fun g hg => by cases hg⟩
  · refine ⟨some ⟨g, 0, none⟩, cap, e, h5, h6, fun _ => ⟨g, rfl⟩, fun g' hg' i hi => ?_⟩
    simp at hg'
    subst hg'
    have := World.ownsRow.cells h (g := g) (by rw [e]; rfl) i (.int .i64 (ps.getD i 0)) (by simp [List.getD, hi])
    have hadd : (⟨g, 0, none⟩ : Addr).add i = ⟨g, i, none⟩ := by unfold Addr.add; split <;> simp_all
    rw [hadd] at this
    exact this

/-- A page, two rows of ints apart from it and from each other, and all that was there. -/
structure LayG (base : Nat) (W0 w : World) (G : Nat → Prop) (B : Nat) (s : St) (v : Value) (ps : List Int) (m : Value) (ms : List Int) : Prop where
  gb : ∀ k, k < base → G k
  pc : Pc w B G s
  vo : OwnI w v ps
  mo : OwnI w m ms
  vg : ∀ g, v.ownBlock = some g → G g ∧ base ≤ g ∧ m.ownBlock ≠ some g
  mg : ∀ g, m.ownBlock = some g → G g
  be : Below base W0 w

theorem LayG.next {base : Nat} {W0 w u : World} {G : Nat → Prop} {B : Nat} {s s' : St} {v m : Value} {ps ms : List Int} (h : LayG base W0 w G B s v ps m ms) (hP : Pc u B G s') (hK : Keep G w u) : LayG base W0 u G B s' v ps m ms :=
  ⟨h.gb, hP, h.vo.kept (fun g hg => hK.block g (h.vg g hg).1), h.mo.kept (fun g hg => hK.block g (h.mg g hg)), h.vg, h.mg, h.be.trans (hK.below h.gb)⟩
theorem LayG.base_le {base : Nat} {W0 w : World} {G : Nat → Prop} {B : Nat} {s : St} {v m : Value} {ps ms : List Int} (h : LayG base W0 w G B s v ps m ms) : base ≤ w.heap.size := by
  rcases Nat.lt_or_ge w.heap.size base with h1 | h1
  · have := h.pc.1 w.heap.size (h.gb _ h1)
    omega
  · exact h1
theorem LayG.below {base : Nat} {W0 w u : World} {G : Nat → Prop} {B : Nat} {s : St} {v m : Value} {ps ms : List Int} (h : LayG base W0 w G B s v ps m ms) (hb : Below w.heap.size w u) : LayG base W0 u G B s v ps m ms :=
  ⟨h.gb, h.pc.below hb, h.vo.kept (fun g hg => hb.block g (h.vo.lt hg)), h.mo.kept (fun g hg => hb.block g (h.mo.lt hg)), h.vg, h.mg, h.be.trans (hb.mono h.base_le)⟩
/-- The rows change their parts. -/
theorem LayG.app {base : Nat} {W0 w u : World} {G : Nat → Prop} {B : Nat} {s : St} {v v' m : Value} {ps ps' ms : List Int} (h : LayG base W0 w G B s v ps m ms) (hown : OwnI u v' ps') (hgr : w.grownBy u v.ownBlock) (hat : v'.ownBlock = v.ownBlock ∨ v'.ownBlock = some w.heap.size) :
    LayG base W0 u (fun k => G k ∨ v'.ownBlock = some k) B s v' ps' m ms := by
  have hst : ∀ k, k < w.heap.size → ¬ G k → u.heap[k]? = w.heap[k]? := fun k hk hG => hgr.block k hk (fun e => hG (h.vg k e.symm).1)
  refine ⟨fun k hk => .inl (h.gb k hk), ?_, hown, ?_, ?_, fun g hg => .inl (h.mg g hg), ?_⟩
  · refine h.pc.guard_new hgr.size hst ?_
    rintro k (hk | hk)
    · exact ⟨Nat.lt_of_lt_of_le (h.pc.1 k hk) hgr.size, fun _ => hk⟩
    · refine ⟨hown.lt hk, fun hlt => ?_⟩
      rcases hat with hat | hat
      · exact (h.vg k (by rw [← hat]; exact hk)).1
      · rw [hat] at hk; simp at hk; omega
  · exact h.mo.kept (fun g hg => hgr.block g (h.mo.lt hg) (fun e => (h.vg g e.symm).2.2 hg))
  · intro g hg
    rcases hat with hat | hat
    · have := h.vg g (by rw [← hat]; exact hg)
      exact ⟨.inl this.1, this.2⟩
    · rw [hat] at hg
      simp at hg
      subst hg
      refine ⟨.inr hat, h.base_le, fun e => ?_⟩
      have := h.mo.lt e
      omega
  · exact h.be.grown hgr h.base_le (fun k hk => (h.vg k hk).2.1)

/-- 'append(v, x)'. -/
theorem wpList_append_i {w : World} {ops : Array Oper} {rest : List Oper} {o : Oper} {a : Act} {Q : Exit → Act → World → Prop} (hgd : o.guard = none) (sx x : Operand) (ho : o.op = .call { callee := .builtin .append, args := #[sx, x], argTypes := #[54, 54] })
    {base : Nat} {W0 : World} {G : Nat → Prop} {B : Nat} {s : St} {v m : Value} {ps ms : List Int} (z : Int) (hL : LayG base W0 w G B s v ps m ms) (hs : a.eval sx = v)
    (gx : Nat) (hx : a.eval x = .slice (some ⟨gx, 0, none⟩) 1 1) (hc : w.cell? ⟨gx, 0, none⟩ = some (.int .i64 z)) (hlen : ps.length + 1 ≤ 2000000000)
    (h : ∀ v' w' G', LayG base W0 w' G' B s v' (ps ++ [z]) m ms → wpList Try.prog ops Q rest (a.put o.dst v') w') : wpList Try.prog ops Q (o :: rest) a w := by
  obtain ⟨i0, hi, hz0, hz1, hz2⟩ := info_parts info_i64
  refine wpList_append_own_at w hgd sx x 54 ho 0 3 i0 (.int .i64 0) 1 8 Try.underlying54 hi hz0 hz1 hz2 rfl (by decide) v ps.length (ps.map (Value.int .i64)) hs hL.vo ⟨gx, 0, none⟩ 1 1 [.int .i64 z] hx rfl ?_ ?_ (by unfold maxLen; omega) (by omega) (Nat.zero_le _) ?_
  · intro j u hj
    match j, hj with
    | 0, hj => simp at hj; subst hj; simpa [Addr.add] using hc
  · intro u hu
    simp at hu
    subst hu
    rfl
  · intro v' w' h1 h2 _ h4
    refine h v' w' _ (hL.app ?_ h2 h4)
    simpa [OwnI] using h1

end Go.Proofs.Ytjefaccpmoignaa
