/-
  Stores: their bytes; what is written is read (plain mathematics).
  Stores: the bytes that are just those of a formed one, as the code tells them (plain mathematics).
  Metrics: what they are, and their bytes (plain mathematics).
-/
import Derived.Test.YtfpeioccnpinkaaZ10
import Derived.Test.YtfpeioccnpinkaaZ12
namespace Go.Proofs.Ytfpeioccnpinkaa
set_option linter.unusedSimpArgs false
set_option linter.unusedVariables false

/-- The bytes of tents, of regions, of rows, of a store. -/
def teE (t : Te) : List Nat := be2 t.st ++ (be2 t.pk ++ be2 t.en)
def tesE : List Te → List Nat
  | [] => []
  | t :: l => teE t ++ tesE l
def rgsE : List (List Te) → List Nat
  | [] => []
  | l :: g => tesE l ++ rgsE g
def numE : List Int → List Nat
  | [] => []
  | z :: r => be2 z ++ numE r
def rowsE : List (List Int) → List Nat
  | [] => []
  | r :: m => numE r ++ rowsE m
def stE (s : Sr) (n : Int) : List Nat := be2 n ++ (be2 ((s.rg.length : Nat) : Int) ++ (rgsE s.rg ++ (be2 ((s.rw.length : Nat) : Int) ++ rowsE s.rw)))
theorem tesE_append (l m : List Te) : tesE (l ++ m) = tesE l ++ tesE m := by
  induction l with
  | nil => rfl
  | cons t l ih => rw [List.cons_append, tesE, tesE, ih, List.append_assoc]
theorem rgsE_append (l m : List (List Te)) : rgsE (l ++ m) = rgsE l ++ rgsE m := by
  induction l with
  | nil => rfl
  | cons t l ih => rw [List.cons_append, rgsE, rgsE, ih, List.append_assoc]
theorem numE_append (l m : List Int) : numE (l ++ m) = numE l ++ numE m := by
  induction l with
  | nil => rfl
  | cons t l ih => rw [List.cons_append, numE, numE, ih, List.append_assoc]
theorem rowsE_append (l m : List (List Int)) : rowsE (l ++ m) = rowsE l ++ rowsE m := by
  induction l with
  | nil => rfl
  | cons t l ih => rw [List.cons_append, rowsE, rowsE, ih, List.append_assoc]
theorem teE_len (t : Te) : (teE t).length = 6 := rfl
theorem tesE_len (l : List Te) : (tesE l).length = 6 * l.length := by
  induction l with
  | nil => rfl
  | cons t l ih => rw [tesE, List.length_append, ih, teE_len, List.length_cons]; omega
theorem rgsE_len {n : Nat} : ∀ {g : List (List Te)}, (∀ l ∈ g, l.length = n) → (rgsE g).length = 6 * n * g.length := by
  intro g
  induction g with
  | nil => intro _; rfl
  | cons l g ih =>
    intro h
    rw [rgsE, List.length_append, tesE_len, ih (fun x hx => h x (by simp [hx])), h l (by simp), List.length_cons, Nat.mul_add]
    omega
theorem numE_len (r : List Int) : (numE r).length = 2 * r.length := by
  induction r with
  | nil => rfl
  | cons t l ih => rw [numE, List.length_append, ih, be2L, List.length_cons]; omega
theorem rowsE_len {n : Nat} : ∀ {m : List (List Int)}, (∀ r ∈ m, r.length = n) → (rowsE m).length = 2 * n * m.length := by
  intro g
  induction g with
  | nil => intro _; rfl
  | cons l g ih =>
    intro h
    rw [rowsE, List.length_append, numE_len, ih (fun x hx => h x (by simp [hx])), h l (by simp), List.length_cons, Nat.mul_add]
    omega
theorem byt_tesE (l : List Te) : Byt (tesE l) := by
  induction l with
  | nil => exact Byt.nil
  | cons t l ih => exact ((byt_be2 _).append ((byt_be2 _).append (byt_be2 _))).append ih
theorem byt_rgsE (g : List (List Te)) : Byt (rgsE g) := by
  induction g with
  | nil => exact Byt.nil
  | cons t l ih => exact (byt_tesE _).append ih
theorem byt_numE (r : List Int) : Byt (numE r) := by
  induction r with
  | nil => exact Byt.nil
  | cons t l ih => exact (byt_be2 _).append ih
theorem byt_rowsE (m : List (List Int)) : Byt (rowsE m) := by
  induction m with
  | nil => exact Byt.nil
  | cons t l ih => exact (byt_numE _).append ih
theorem byt_stE (s : Sr) (n : Int) : Byt (stE s n) := (byt_be2 _).append ((byt_be2 _).append ((byt_rgsE _).append ((byt_be2 _).append (byt_rowsE _))))
/-- How many bytes a formed store has. -/
theorem stE_len {s : Sr} {n : Int} (h : stB s n = true) : (stE s n).length = 6 + 6 * n.toNat * s.rg.length + 2 * s.rg.length * s.rw.length := by
  have hs := stB_iff.1 h
  have h1 := rgsE_len (n := n.toNat) (g := s.rg) (fun l hl => by have := (rgB_all (hs.2.2.2.1 l hl)).2; omega)
  have h2 := rowsE_len (n := s.rg.length) (m := s.rw) (fun r hr => (hs.2.2.2.2 r hr).1)
  rw [stE]
  simp only [List.length_append, be2L, h1, h2]
  omega
theorem stE_le {s : Sr} {n : Int} (h : stB s n = true) : (stE s n).length ≤ 33000 := by
  have hs := stB_iff.1 h
  rw [stE_len h]
  have a1 : 6 * n.toNat * s.rg.length ≤ 24 * 40 := Nat.mul_le_mul (by omega) hs.2.1
  have a2 : 2 * s.rg.length * s.rw.length ≤ 80 * 400 := Nat.mul_le_mul (by omega) hs.2.2.1
  omega

/-- What is written. -/
def wrSE (s : Sr) (n : Int) : Int := if stB s n then 0 else 1
def wrSB (s : Sr) (n : Int) : List Nat := if stB s n then stE s n else []

/-- What is read: tents, regions, rows from a place on. -/
def teAt (b : List Nat) (p : Nat) : Te := ⟨sx16 (nmV b (p : Int) 2), sx16 (nmV b ((p + 2 : Nat) : Int) 2), sx16 (nmV b ((p + 4 : Nat) : Int) 2)⟩
def tesAt (b : List Nat) (p n : Nat) : List Te := (List.range n).map (fun i => teAt b (p + 6 * i))
def rgsAt (b : List Nat) (p n k : Nat) : List (List Te) := (List.range k).map (fun i => tesAt b (p + 6 * n * i) n)
def numAt (b : List Nat) (p n : Nat) : List Int := (List.range n).map (fun i => sx16 (nmV b ((p + 2 * i : Nat) : Int) 2))
def rowsAt (b : List Nat) (p n k : Nat) : List (List Int) := (List.range k).map (fun i => numAt b (p + 2 * n * i) n)
theorem tesAt_len (b : List Nat) (p n : Nat) : (tesAt b p n).length = n := by simp [tesAt]
theorem rgsAt_len (b : List Nat) (p n k : Nat) : (rgsAt b p n k).length = k := by simp [rgsAt]
theorem numAt_len (b : List Nat) (p n : Nat) : (numAt b p n).length = n := by simp [numAt]
theorem rowsAt_len (b : List Nat) (p n k : Nat) : (rowsAt b p n k).length = k := by simp [rowsAt]
theorem tesAt_succ (b : List Nat) (p n : Nat) : tesAt b p (n + 1) = tesAt b p n ++ [teAt b (p + 6 * n)] := by simp [tesAt, List.range_succ]
theorem rgsAt_succ (b : List Nat) (p n k : Nat) : rgsAt b p n (k + 1) = rgsAt b p n k ++ [tesAt b (p + 6 * n * k) n] := by simp [rgsAt, List.range_succ]
theorem numAt_succ (b : List Nat) (p n : Nat) : numAt b p (n + 1) = numAt b p n ++ [sx16 (nmV b ((p + 2 * n : Nat) : Int) 2)] := by simp [numAt, List.range_succ]
theorem rowsAt_succ (b : List Nat) (p n k : Nat) : rowsAt b p n (k + 1) = rowsAt b p n k ++ [numAt b (p + 2 * n * k) n] := by simp [rowsAt, List.range_succ]
def axN (b : List Nat) : Nat := nmV b 0 2
def rgN (b : List Nat) : Nat := nmV b 2 2
/-- The regions, as the reference reads them; where the rows begin; the rows. -/
def rdRg (b : List Nat) : List (List Te) := if axN b ≤ 4 ∧ rgN b ≤ 40 then rgsAt b 4 (axN b) (rgN b) else []
def rwP (b : List Nat) : Nat := 4 + 6 * axN b * (rdRg b).length
def rwN (b : List Nat) : Nat := nmV b ((rwP b : Nat) : Int) 2
def rdRw (b : List Nat) : List (List Int) := if rwN b ≤ 400 then rowsAt b (rwP b + 2) (rdRg b).length (rwN b) else []
def rdS (b : List Nat) : Sr := ⟨rdRg b, rdRw b⟩
def rdSB (b : List Nat) : Bool := stB (rdS b) (axN b : Int) && decide (stE (rdS b) (axN b : Int) = b)
theorem rdSB_iff {b : List Nat} : rdSB b = true ↔ stB (rdS b) (axN b : Int) = true ∧ stE (rdS b) (axN b : Int) = b := by
  unfold rdSB
  rw [Bool.and_eq_true, decide_eq_true_iff]

/-- Tents, regions, rows within bytes are read as they were. -/
theorem teAt_mid {b A Z : List Nat} {p : Nat} {t : Te} (hb : b = A ++ (teE t ++ Z)) (hp : A.length = p) (h : tfB t = true) : teAt b p = t := by
  have hf := tfB_iff.1 h
  unfold TfT at hf
  have b1 : b = A ++ (be2 t.st ++ (be2 t.pk ++ (be2 t.en ++ Z))) := by rw [hb, teE]; simp only [List.append_assoc]
  have b2 : b = (A ++ be2 t.st) ++ (be2 t.pk ++ (be2 t.en ++ Z)) := by rw [b1]; simp only [List.append_assoc]
  have b3 : b = (A ++ be2 t.st ++ be2 t.pk) ++ (be2 t.en ++ Z) := by rw [b1]; simp only [List.append_assoc]
  have v1 := nmV_at (q := p) (n := 2) b1 hp rfl
  have v2 := nmV_at (q := p + 2) (n := 2) b2 (by rw [List.length_append, be2L, hp]) rfl
  have v3 := nmV_at (q := p + 4) (n := 2) b3 (by rw [List.length_append, List.length_append, be2L, be2L, hp]) rfl
  obtain ⟨st, pk, en⟩ := t
  dsimp only at *
  rw [teAt, v1, v2, v3, sx_be2 (by omega) (by omega), sx_be2 (by omega) (by omega), sx_be2 (by omega) (by omega)]
theorem tesAt_mid {b : List Nat} : ∀ {l : List Te} {A Z : List Nat} {p : Nat}, b = A ++ (tesE l ++ Z) → A.length = p → l.all tfB = true → tesAt b p l.length = l := by
  intro l A Z p hb hp hl
  apply List.ext_getElem
  · simp [tesAt]
  · intro i h1 h2
    simp only [tesAt, List.getElem_map, List.getElem_range]
    have es : l = l.take i ++ l[i] :: l.drop (i + 1) := by simp
    have hi : (l.take i).length = i := by simp; omega
    refine teAt_mid (A := A ++ tesE (l.take i)) (Z := tesE (l.drop (i + 1)) ++ Z) ?_ (by rw [List.length_append, tesE_len, hi, hp]) (List.all_eq_true.1 hl _ (List.getElem_mem h2))
    have e2 : tesE l = tesE (l.take i) ++ (teE l[i] ++ tesE (l.drop (i + 1))) := by
      conv => lhs; rw [es, tesE_append, tesE]
    rw [hb, e2]
    simp only [List.append_assoc]
theorem rgsAt_mid {b : List Nat} {n : Nat} : ∀ {g : List (List Te)} {A Z : List Nat} {p : Nat}, b = A ++ (rgsE g ++ Z) → A.length = p → (∀ l ∈ g, l.all tfB = true ∧ l.length = n) → rgsAt b p n g.length = g := by
  intro g A Z p hb hp hl
  apply List.ext_getElem
  · simp [rgsAt]
  · intro i h1 h2
    simp only [rgsAt, List.getElem_map, List.getElem_range]
    have es : g = g.take i ++ g[i] :: g.drop (i + 1) := by simp
    have hi : (g.take i).length = i := by simp; omega
    have hg := hl _ (List.getElem_mem h2)
    have e2 : rgsE g = rgsE (g.take i) ++ (tesE g[i] ++ rgsE (g.drop (i + 1))) := by
      conv => lhs; rw [es, rgsE_append, rgsE]
    have := tesAt_mid (b := b) (l := g[i]) (A := A ++ rgsE (g.take i)) (Z := rgsE (g.drop (i + 1)) ++ Z) (p := p + 6 * n * i) (by rw [hb, e2]; simp only [List.append_assoc])
      (by rw [List.length_append, rgsE_len (n := n) (fun l hl' => (hl l (List.mem_of_mem_take hl')).2), hi, hp]) hg.1
    rw [hg.2] at this
    exact this
theorem numAt_mid {b : List Nat} : ∀ {r : List Int} {A Z : List Nat} {p : Nat}, b = A ++ (numE r ++ Z) → A.length = p → (∀ z ∈ r, -32768 ≤ z ∧ z ≤ 32767) → numAt b p r.length = r := by
  intro r A Z p hb hp hl
  apply List.ext_getElem
  · simp [numAt]
  · intro i h1 h2
    simp only [numAt, List.getElem_map, List.getElem_range]
    have es : r = r.take i ++ r[i] :: r.drop (i + 1) := by simp
    have hi : (r.take i).length = i := by simp; omega
    have hz := hl _ (List.getElem_mem h2)
    have e2 : numE r = numE (r.take i) ++ (be2 r[i] ++ numE (r.drop (i + 1))) := by
      conv => lhs; rw [es, numE_append, numE]
    have v := nmV_at (b := b) (A := A ++ numE (r.take i)) (X := be2 r[i]) (Z := numE (r.drop (i + 1)) ++ Z) (q := p + 2 * i) (n := 2) (by rw [hb, e2]; simp only [List.append_assoc]) (by rw [List.length_append, numE_len, hi, hp]) rfl
    rw [v, sx_be2 hz.1 hz.2]
theorem rowsAt_mid {b : List Nat} {n : Nat} : ∀ {m : List (List Int)} {A Z : List Nat} {p : Nat}, b = A ++ (rowsE m ++ Z) → A.length = p → (∀ r ∈ m, r.length = n ∧ ∀ z ∈ r, -32768 ≤ z ∧ z ≤ 32767) → rowsAt b p n m.length = m := by
  intro m A Z p hb hp hl
  apply List.ext_getElem
  · simp [rowsAt]
  · intro i h1 h2
    simp only [rowsAt, List.getElem_map, List.getElem_range]
    have es : m = m.take i ++ m[i] :: m.drop (i + 1) := by simp
    have hi : (m.take i).length = i := by simp; omega
    have hg := hl _ (List.getElem_mem h2)
    have e2 : rowsE m = rowsE (m.take i) ++ (numE m[i] ++ rowsE (m.drop (i + 1))) := by
      conv => lhs; rw [es, rowsE_append, rowsE]
    have := numAt_mid (b := b) (r := m[i]) (A := A ++ rowsE (m.take i)) (Z := rowsE (m.drop (i + 1)) ++ Z) (p := p + 2 * n * i) (by rw [hb, e2]; simp only [List.append_assoc])
      (by rw [List.length_append, rowsE_len (n := n) (fun l hl' => (hl l (List.mem_of_mem_take hl')).1), hi, hp]) hg.2
    rw [hg.1] at this
    exact this
/-- What is written is read. -/
theorem rd_wr {s : Sr} {n : Int} (h : stB s n = true) : rdS (stE s n) = s ∧ ((axN (stE s n) : Nat) : Int) = n ∧ rdSB (stE s n) = true := by
  have hs := stB_iff.1 h
  obtain ⟨b, hb⟩ : ∃ b, stE s n = b := ⟨_, rfl⟩
  have b0 : b = [] ++ (be2 n ++ (be2 ((s.rg.length : Nat) : Int) ++ (rgsE s.rg ++ (be2 ((s.rw.length : Nat) : Int) ++ rowsE s.rw)))) := by rw [← hb, stE, List.nil_append]
  have b1 : b = be2 n ++ (be2 ((s.rg.length : Nat) : Int) ++ (rgsE s.rg ++ (be2 ((s.rw.length : Nat) : Int) ++ rowsE s.rw))) := by rw [← hb, stE]
  have b2 : b = (be2 n ++ be2 ((s.rg.length : Nat) : Int)) ++ (rgsE s.rg ++ (be2 ((s.rw.length : Nat) : Int) ++ rowsE s.rw)) := by rw [b1]; simp only [List.append_assoc]
  have b3 : b = (be2 n ++ be2 ((s.rg.length : Nat) : Int) ++ rgsE s.rg) ++ (be2 ((s.rw.length : Nat) : Int) ++ rowsE s.rw) := by rw [b1]; simp only [List.append_assoc]
  have b4 : b = (be2 n ++ be2 ((s.rg.length : Nat) : Int) ++ rgsE s.rg ++ be2 ((s.rw.length : Nat) : Int)) ++ (rowsE s.rw ++ []) := by rw [b1]; simp only [List.append_assoc, List.append_nil]
  have hreg : ∀ l ∈ s.rg, l.all tfB = true ∧ l.length = n.toNat := fun l hl => by
    have := rgB_all (hs.2.2.2.1 l hl)
    exact ⟨this.1, by omega⟩
  have e0 : axN b = n.toNat := by
    have v := nmV_at (q := 0) (n := 2) b0 rfl rfl
    have hn : be2 n = be2 ((n.toNat : Nat) : Int) := by rw [Int.toNat_of_nonneg hs.1.1]
    rw [hn, V8_be2 (by omega)] at v
    exact v
  have e1 : rgN b = s.rg.length := by
    have v := nmV_at (q := 2) (n := 2) b1 (be2L _) rfl
    rw [V8_be2 (by omega)] at v
    exact v
  have e2 : rdRg b = s.rg := by
    rw [rdRg, if_pos ⟨by omega, by omega⟩, e0, e1]
    exact rgsAt_mid b2 (by rw [List.length_append, be2L, be2L]) hreg
  have hl2 := rgsE_len (n := n.toNat) (g := s.rg) (fun l hl => (hreg l hl).2)
  have e3 : rwP b = 4 + 6 * n.toNat * s.rg.length := by rw [rwP, e0, e2]
  have e4 : rwN b = s.rw.length := by
    have v := nmV_at (q := 4 + 6 * n.toNat * s.rg.length) (n := 2) b3 (by simp only [List.length_append, be2L, hl2]) rfl
    rw [V8_be2 (by omega)] at v
    rw [rwN, e3]
    exact v
  have e5 : rdRw b = s.rw := by
    rw [rdRw, if_pos (by omega), e2, e3, e4]
    exact rowsAt_mid b4 (by simp only [List.length_append, be2L, hl2]) hs.2.2.2.2
  have e6 : rdS b = s := by rw [rdS, e2, e5]
  have e7 : ((axN b : Nat) : Int) = n := by rw [e0]; exact Int.toNat_of_nonneg hs.1.1
  rw [hb]
  exact ⟨e6, e7, rdSB_iff.2 ⟨by rw [e6, e7]; exact h, by rw [e6, e7]; exact hb⟩⟩
/-- Just the bytes of formed stores are read. -/
theorem rdSB_of {b : List Nat} {s : Sr} {n : Int} (h : stB s n = true) (hb : stE s n = b) : rdSB b = true ∧ rdS b = s ∧ ((axN b : Nat) : Int) = n := by
  subst hb
  have := rd_wr h
  exact ⟨this.2.2, this.1, this.2.1⟩

/-- What Read answers. -/
def rdSE (b : List Nat) : Int := if rdSB b then 0 else 2
def rdSL (b : List Nat) : Sr := if rdSB b then rdS b else ⟨[], []⟩
def rdSN (b : List Nat) : Int := if rdSB b then (axN b : Int) else 0

end Go.Proofs.Ytfpeioccnpinkaa

namespace Go.Proofs.Ytfpeioccnpinkaa
set_option linter.unusedSimpArgs false
set_option linter.unusedVariables false

theorem byt_cut {b : List Nat} (hb : Byt b) (p n : Nat) : Byt ((b.drop p).take n) := fun x hx => hb x (List.mem_of_mem_drop (List.mem_of_mem_take hx))
theorem sxS_at {b : List Nat} (hb : Byt b) {p : Nat} (h : p + 2 ≤ b.length) : be2 (sx16 (nmV b (p : Int) 2)) = (b.drop p).take 2 := by
  have e : inB b.length (p : Int) 2 = true := by simp only [inB, decide_eq_true_iff]; omega
  rw [nmV, if_pos (by exact e), Int.toNat_natCast]
  exact be_sx2 (byt_cut hb _ _) (by simp; omega)
theorem n2S_at {b : List Nat} (hb : Byt b) {p : Nat} (h : p + 2 ≤ b.length) : be2 ((nmV b (p : Int) 2 : Nat) : Int) = (b.drop p).take 2 := by
  have e : inB b.length (p : Int) 2 = true := by simp only [inB, decide_eq_true_iff]; omega
  rw [nmV, if_pos (by exact e), Int.toNat_natCast]
  exact be_V8 (byt_cut hb _ _) (by simp; omega)
theorem teE_read {b : List Nat} (hb : Byt b) {p : Nat} (h : p + 6 ≤ b.length) : teE (teAt b p) = (b.drop p).take 6 := by
  rw [teE, teAt]
  dsimp only
  rw [sxS_at hb (by omega), sxS_at hb (by omega), sxS_at hb (by omega), show b.drop (p + 4) = (b.drop (p + 2)).drop 2 by rw [List.drop_drop], show b.drop (p + 2) = (b.drop p).drop 2 by rw [List.drop_drop]]
  rw [← List.take_add, ← List.take_add]
theorem tesE_read {b : List Nat} (hb : Byt b) {p : Nat} : ∀ n, p + 6 * n ≤ b.length → tesE (tesAt b p n) = (b.drop p).take (6 * n) := by
  intro n
  induction n with
  | zero => intro _; rfl
  | succ n ih =>
    intro hl
    rw [tesAt_succ, tesE_append, ih (by omega), tesE, tesE, List.append_nil, teE_read hb (by omega), show 6 * (n + 1) = 6 * n + 6 by omega, List.take_add, List.drop_drop]
theorem rgsE_read {b : List Nat} (hb : Byt b) {p n : Nat} : ∀ k, p + 6 * n * k ≤ b.length → rgsE (rgsAt b p n k) = (b.drop p).take (6 * n * k) := by
  intro k
  induction k with
  | zero => intro _; rfl
  | succ k ih =>
    intro hl
    have e : 6 * n * (k + 1) = 6 * n * k + 6 * n := by rw [Nat.mul_add, Nat.mul_one]
    rw [e] at hl ⊢
    rw [rgsAt_succ, rgsE_append, ih (by omega), rgsE, rgsE, List.append_nil, tesE_read hb _ (by omega), List.take_add, List.drop_drop]
theorem numE_read {b : List Nat} (hb : Byt b) {p : Nat} : ∀ n, p + 2 * n ≤ b.length → numE (numAt b p n) = (b.drop p).take (2 * n) := by
  intro n
  induction n with
  | zero => intro _; rfl
  | succ n ih =>
    intro hl
    rw [numAt_succ, numE_append, ih (by omega), numE, numE, List.append_nil, sxS_at hb (by omega), show 2 * (n + 1) = 2 * n + 2 by omega, List.take_add, List.drop_drop]
theorem rowsE_read {b : List Nat} (hb : Byt b) {p n : Nat} : ∀ k, p + 2 * n * k ≤ b.length → rowsE (rowsAt b p n k) = (b.drop p).take (2 * n * k) := by
  intro k
  induction k with
  | zero => intro _; rfl
  | succ k ih =>
    intro hl
    have e : 2 * n * (k + 1) = 2 * n * k + 2 * n := by rw [Nat.mul_add, Nat.mul_one]
    rw [e] at hl ⊢
    rw [rowsAt_succ, rowsE_append, ih (by omega), rowsE, rowsE, List.append_nil, numE_read hb _ (by omega), List.take_add, List.drop_drop]

/-- How many regions, and rows, what is written tells. -/
theorem wr_nums {s : Sr} {n : Int} (h : stB s n = true) : rgN (stE s n) = s.rg.length ∧ rwN (stE s n) = s.rw.length := by
  have hs := stB_iff.1 h
  have hr := rd_wr h
  obtain ⟨b, hb⟩ : ∃ b, stE s n = b := ⟨_, rfl⟩
  rw [hb] at hr ⊢
  have b1 : b = be2 n ++ (be2 ((s.rg.length : Nat) : Int) ++ (rgsE s.rg ++ (be2 ((s.rw.length : Nat) : Int) ++ rowsE s.rw))) := by rw [← hb, stE]
  have b3 : b = (be2 n ++ be2 ((s.rg.length : Nat) : Int) ++ rgsE s.rg) ++ (be2 ((s.rw.length : Nat) : Int) ++ rowsE s.rw) := by rw [b1]; simp only [List.append_assoc]
  have hl2 := rgsE_len (n := n.toNat) (g := s.rg) (fun l hl => by have := (rgB_all (hs.2.2.2.1 l hl)).2; omega)
  have e1 : rgN b = s.rg.length := by
    have v := nmV_at (q := 2) (n := 2) b1 (be2L _) rfl
    rw [V8_be2 (by omega)] at v
    exact v
  have e0 : axN b = n.toNat := by have := hr.2.1; omega
  have e2 : rdRg b = s.rg := congrArg Sr.rg hr.1
  have e3 : rwP b = 4 + 6 * n.toNat * s.rg.length := by rw [rwP, e0, e2]
  refine ⟨e1, ?_⟩
  have v := nmV_at (q := 4 + 6 * n.toNat * s.rg.length) (n := 2) b3 (by simp only [List.length_append, be2L, hl2]) rfl
  rw [V8_be2 (by omega)] at v
  rw [rwN, e3]
  exact v

/-- Where the code finds the number of rows. -/
def rwQ (b : List Nat) : Nat := 4 + 6 * axN b * rgN b
/-- What the code reads. -/
def cdS (b : List Nat) : Sr := ⟨rgsAt b 4 (axN b) (rgN b), rowsAt b (rwQ b + 2) (rgN b) (nmV b ((rwQ b : Nat) : Int) 2)⟩
def cdB (b : List Nat) : Prop := axN b ≤ 4 ∧ rgN b ≤ 40 ∧ rwQ b + 2 ≤ b.length ∧ nmV b ((rwQ b : Nat) : Int) 2 ≤ 400 ∧ b.length = rwQ b + 2 + 2 * rgN b * nmV b ((rwQ b : Nat) : Int) 2
theorem cd_same {b : List Nat} (h1 : axN b ≤ 4) (h2 : rgN b ≤ 40) (h3 : nmV b ((rwQ b : Nat) : Int) 2 ≤ 400) : rdS b = cdS b ∧ rwN b = nmV b ((rwQ b : Nat) : Int) 2 := by
  have e1 : rdRg b = rgsAt b 4 (axN b) (rgN b) := if_pos ⟨h1, h2⟩
  have e2 : rwP b = rwQ b := by rw [rwP, e1, rgsAt_len, rwQ]
  have e3 : rwN b = nmV b ((rwQ b : Nat) : Int) 2 := by rw [rwN, e2]
  refine ⟨?_, e3⟩
  rw [rdS, cdS, rdRw, e3, if_pos h3, e1, e2, rgsAt_len]
/-- The code's tests are just right. -/
theorem rd_code {b : List Nat} (hb : Byt b) : rdSB b = true ↔ cdB b ∧ stB (cdS b) (axN b : Int) = true := by
  constructor
  · intro h
    obtain ⟨hs, he⟩ := rdSB_iff.1 h
    have hi := stB_iff.1 hs
    obtain ⟨n1, n2⟩ := wr_nums hs
    rw [he] at n1 n2
    have a1 : axN b ≤ 4 := by omega
    have a2 : rgN b ≤ 40 := by rw [n1]; exact hi.2.1
    have a3 : rwN b ≤ 400 := by rw [n2]; exact hi.2.2.1
    have e1 : rdRg b = rgsAt b 4 (axN b) (rgN b) := if_pos ⟨a1, a2⟩
    have e2 : rwP b = rwQ b := by rw [rwP, e1, rgsAt_len, rwQ]
    have e3 : rwN b = nmV b ((rwQ b : Nat) : Int) 2 := by rw [rwN, e2]
    obtain ⟨e4, _⟩ := cd_same a1 a2 (by rw [← e3]; exact a3)
    have hl := stE_len hs
    rw [he, Int.toNat_natCast] at hl
    rw [← n1, ← n2, e3] at hl
    rw [e4] at hs
    refine ⟨⟨a1, a2, ?_, by rw [← e3]; exact a3, ?_⟩, hs⟩
    · rw [rwQ, hl]; omega
    · rw [hl]; rw [rwQ]; omega
  · rintro ⟨⟨a1, a2, a3, a4, a5⟩, hs⟩
    obtain ⟨e4, e3⟩ := cd_same a1 a2 a4
    refine rdSB_iff.2 ⟨by rw [e4]; exact hs, ?_⟩
    rw [e4, stE]
    rw [show (cdS b).rg = rgsAt b 4 (axN b) (rgN b) from rfl, show (cdS b).rw = rowsAt b (rwQ b + 2) (rgN b) (nmV b ((rwQ b : Nat) : Int) 2) from rfl, rgsAt_len, rowsAt_len]
    rw [rowsE_read hb _ (by rw [← a5]; exact Nat.le_refl _)]
    have hq : rwQ b = 4 + 6 * axN b * rgN b := rfl
    rw [rgsE_read hb _ (by rw [← hq]; omega)]
    have f0 := n2S_at hb (p := 0) (by omega)
    have f2 := n2S_at hb (p := 2) (by omega)
    have f4 := n2S_at hb (p := rwQ b) (by omega)
    have f0' : be2 ((axN b : Nat) : Int) = (b.drop 0).take 2 := f0
    have f2' : be2 ((rgN b : Nat) : Int) = (b.drop 2).take 2 := f2
    rw [f0', f2', f4]
    have g1 : (b.drop (rwQ b + 2)).take (2 * rgN b * nmV b ((rwQ b : Nat) : Int) 2) = b.drop (rwQ b + 2) := List.take_of_length_le (by simp; omega)
    rw [g1, ← List.drop_drop, List.take_append_drop, hq, ← List.drop_drop, List.take_append_drop, ← List.drop_drop (i := 2) (j := 2), List.take_append_drop, List.drop_zero, List.take_append_drop]
theorem rd_codeS {b : List Nat} (hb : Byt b) (h : rdSB b = true) : rdS b = cdS b := by
  obtain ⟨⟨a1, a2, _, a4, _⟩, _⟩ := (rd_code hb).1 h
  exact (cd_same a1 a2 a4).1

end Go.Proofs.Ytfpeioccnpinkaa

namespace Go.Proofs.Ytfpeioccnpinkaa
set_option linter.unusedSimpArgs false
set_option linter.unusedVariables false

structure Mt where
  tg : ByteArray
  ab : Int
  ar : Int
def Mt.none : Mt := ⟨ByteArray.empty, 0, 0⟩
theorem Mt.ext' {x y : Mt} (h1 : x.tg = y.tg) (h2 : x.ab = y.ab) (h3 : x.ar = y.ar) : x = y := by
  obtain ⟨a, b, c⟩ := x
  obtain ⟨d, e, f⟩ := y
  dsimp only at h1 h2 h3
  subst h1 h2 h3
  rfl

/-- The first of that tag, from k on. -/
def fnK (t : ByteArray) : List Mt → Nat → Int
  | [], _ => -1
  | x :: l, k => if x.tg = t then (k : Int) else fnK t l (k + 1)
def fnM (l : List Mt) (t : ByteArray) : Int := fnK t l 0
theorem fnK_no {t : ByteArray} : ∀ {l : List Mt} {k : Nat}, (∀ j, j < l.length → (l.getD j Mt.none).tg ≠ t) → fnK t l k = -1 := by
  intro l
  induction l with
  | nil => intro k _; rfl
  | cons x l ih =>
    intro k h
    rw [fnK, if_neg (show ¬ x.tg = t from h 0 (by simp))]
    exact ih (fun j hj => h (j + 1) (by simpa using hj))
theorem fnK_at {t : ByteArray} : ∀ {l : List Mt} {k n : Nat}, n < l.length → (∀ j, j < n → (l.getD j Mt.none).tg ≠ t) → (l.getD n Mt.none).tg = t → fnK t l k = ((k + n : Nat) : Int) := by
  intro l
  induction l with
  | nil => intro k n h; simp at h
  | cons x l ih =>
    intro k n hn h he
    cases n with
    | zero => rw [fnK, if_pos (show x.tg = t from he)]; rfl
    | succ n =>
      rw [fnK, if_neg (show ¬ x.tg = t from h 0 (by omega)), ih (n := n) (by simpa using hn) (fun j hj => h (j + 1) (by omega)) he]
      omega
theorem fnM_no {l : List Mt} {t : ByteArray} (h : ∀ j, j < l.length → (l.getD j Mt.none).tg ≠ t) : fnM l t = -1 := fnK_no h
theorem fnM_at {l : List Mt} {t : ByteArray} {n : Nat} (hn : n < l.length) (h : ∀ j, j < n → (l.getD j Mt.none).tg ≠ t) (he : (l.getD n Mt.none).tg = t) : fnM l t = (n : Int) := by
  rw [fnM, fnK_at hn h he, Nat.zero_add]
theorem fnM_or {l : List Mt} {t : ByteArray} : (fnM l t = -1 ∧ ∀ j, j < l.length → (l.getD j Mt.none).tg ≠ t) ∨ ∃ n, n < l.length ∧ fnM l t = (n : Int) ∧ (l.getD n Mt.none).tg = t ∧ ∀ j, j < n → (l.getD j Mt.none).tg ≠ t := by
  have key : ∀ m, m ≤ l.length → (∀ j, j < m → (l.getD j Mt.none).tg ≠ t) ∨ ∃ n, n < m ∧ (l.getD n Mt.none).tg = t ∧ ∀ j, j < n → (l.getD j Mt.none).tg ≠ t := by
    intro m
    induction m with
    | zero => intro _; exact .inl (fun j hj => by omega)
    | succ m ih =>
      intro hm
      rcases ih (by omega) with h | ⟨n, hn, he, h⟩
      · by_cases he : (l.getD m Mt.none).tg = t
        · exact .inr ⟨m, by omega, he, h⟩
        · refine .inl (fun j hj => ?_)
          rcases Nat.lt_or_ge j m with h1 | h1
          · exact h j h1
          · rw [show j = m by omega]; exact he
      · exact .inr ⟨n, by omega, he, h⟩
  rcases key l.length (Nat.le_refl _) with h | ⟨n, hn, he, h⟩
  · exact .inl ⟨fnM_no h, h⟩
  · exact .inr ⟨n, hn, fnM_at hn h he, he, h⟩
/-- Its own tag is found, at it or ahead of it. -/
theorem fnM_own {l : List Mt} {k : Nat} (hk : k < l.length) : ∃ j : Nat, j ≤ k ∧ fnM l (l.getD k Mt.none).tg = (j : Int) := by
  rcases fnM_or (l := l) (t := (l.getD k Mt.none).tg) with ⟨_, h⟩ | ⟨n, hn, e, _, h⟩
  · exact absurd rfl (h k hk)
  · refine ⟨n, ?_, e⟩
    rcases Nat.lt_or_ge k n with h1 | h1
    · exact absurd rfl (h k h1)
    · exact h1
theorem fnM_b {l : List Mt} {t : ByteArray} : -1 ≤ fnM l t ∧ fnM l t < (l.length : Int) := by
  rcases fnM_or (l := l) (t := t) with ⟨e, _⟩ | ⟨n, hn, e, _⟩
  · rw [e]; omega
  · rw [e]; omega

/-- Formed. -/
def foMx (l : List Mt) (s : Sr) (k : Nat) : Bool := gd (sb (l.getD k Mt.none).tg) && (decide (fnM l (l.getD k Mt.none).tg = (k : Int)) && fiS s (l.getD k Mt.none).ab (l.getD k Mt.none).ar)
def foM (l : List Mt) (s : Sr) : Bool := decide (l.length ≤ 10) && (List.range l.length).all (foMx l s)
theorem foM_iff {l : List Mt} {s : Sr} : foM l s = true ↔ l.length ≤ 10 ∧ ∀ k, k < l.length → foMx l s k = true := by
  unfold foM
  rw [Bool.and_eq_true, decide_eq_true_iff, List.all_eq_true]
  simp only [List.mem_range]
theorem foMx_iff {l : List Mt} {s : Sr} {k : Nat} : foMx l s k = true ↔ gd (sb (l.getD k Mt.none).tg) = true ∧ fnM l (l.getD k Mt.none).tg = (k : Int) ∧ fiS s (l.getD k Mt.none).ab (l.getD k Mt.none).ar = true := by
  unfold foMx
  rw [Bool.and_eq_true, Bool.and_eq_true, decide_eq_true_iff]
theorem foM_no1 {l : List Mt} {s : Sr} (h : 10 < l.length) : foM l s = false := by unfold foM; rw [decide_eq_false (by omega)]; rfl
theorem foM_no2 {l : List Mt} {s : Sr} {k : Nat} (hk : k < l.length) (h : foMx l s k = false) : foM l s = false := by
  cases hf : foM l s with
  | false => rfl
  | true =>
    have := (foM_iff.1 hf).2 k hk
    rw [h] at this
    cases this

/-- Bytes. -/
def mtB (x : Mt) : List Nat := sb x.tg ++ (be2 x.ab ++ be2 x.ar)
def mtsB : List Mt → List Nat
  | [] => []
  | x :: l => mtB x ++ mtsB l
theorem mtsB_append (l m : List Mt) : mtsB (l ++ m) = mtsB l ++ mtsB m := by
  induction l with
  | nil => rfl
  | cons x l ih => rw [List.cons_append, mtsB, ih, mtsB, List.append_assoc]
theorem mtsB_one (x : Mt) : mtsB [x] = mtB x := by rw [mtsB, mtsB, List.append_nil]
def msB (l : List Mt) : List Nat := be2 ((l.length : Nat) : Int) ++ mtsB l
def wrME (l : List Mt) (s : Sr) : Int := if foM l s then 0 else 1
def wrMB (l : List Mt) (s : Sr) : List Nat := if foM l s then msB l else []
theorem sb_len (t : ByteArray) : (sb t).length = t.size := by simp [sb]
theorem mtB_len {x : Mt} (h : gd (sb x.tg) = true) : (mtB x).length = 8 := by
  have h1 := gd_len h
  rw [mtB, List.length_append, List.length_append, h1]
  rfl
theorem mtsB_len : ∀ {l : List Mt}, (∀ k, k < l.length → gd (sb (l.getD k Mt.none).tg) = true) → (mtsB l).length = 8 * l.length := by
  intro l
  induction l with
  | nil => intro _; rfl
  | cons x l ih =>
    intro h
    rw [mtsB, List.length_append, mtB_len (show gd (sb x.tg) = true from h 0 (by simp)), ih (fun k hk => h (k + 1) (by simpa using hk)), List.length_cons]
    omega

/-- What is read. -/
def mtAt (b : List Nat) (p : Nat) : Mt := ⟨tgV b (p : Int), sx16 (nmV b ((p + 4 : Nat) : Int) 2), sx16 (nmV b ((p + 6 : Nat) : Int) 2)⟩
def mtsAt (b : List Nat) (p n : Nat) : List Mt := (List.range n).map (fun i => mtAt b (p + 8 * i))
theorem mtsAt_len (b : List Nat) (p n : Nat) : (mtsAt b p n).length = n := by simp [mtsAt]
theorem mtsAt_succ (b : List Nat) (p n : Nat) : mtsAt b p (n + 1) = mtsAt b p n ++ [mtAt b (p + 8 * n)] := by simp [mtsAt, List.range_succ]
theorem mtsAt_get (b : List Nat) (p n k : Nat) (hk : k < n) : (mtsAt b p n).getD k Mt.none = mtAt b (p + 8 * k) := by simp [mtsAt, List.getD, hk]
def rdMn (b : List Nat) : Nat := nmV b 0 2
def rdMc (b : List Nat) : List Mt := mtsAt b 2 (rdMn b)
def rdM1 (b : List Nat) : Bool := inB b.length 0 2 && (decide (rdMn b ≤ 10) && decide (b.length = 2 + 8 * rdMn b))
def rdMOk (b : List Nat) (s : Sr) : Bool := rdM1 b && foM (rdMc b) s
def rdML (b : List Nat) (s : Sr) : List Mt := if rdMOk b s then rdMc b else []
def rdME (b : List Nat) (s : Sr) : Int := if rdMOk b s then 0 else 2
theorem rdM1_iff {b : List Nat} : rdM1 b = true ↔ inB b.length 0 2 = true ∧ rdMn b ≤ 10 ∧ b.length = 2 + 8 * rdMn b := by
  unfold rdM1
  rw [Bool.and_eq_true, Bool.and_eq_true, decide_eq_true_iff, decide_eq_true_iff]
theorem rdM_no {b : List Nat} {s : Sr} (h : rdMOk b s = false) : rdML b s = [] ∧ rdME b s = 2 := by
  unfold rdML rdME
  rw [h]
  exact ⟨rfl, rfl⟩
theorem rdM_yes {b : List Nat} {s : Sr} (h : rdMOk b s = true) : rdML b s = rdMc b ∧ rdME b s = 0 := by
  unfold rdML rdME
  rw [h]
  exact ⟨rfl, rfl⟩
theorem rdM_no1 {b : List Nat} {s : Sr} (h : rdM1 b = false) : rdML b s = [] ∧ rdME b s = 2 := rdM_no (by unfold rdMOk; rw [h]; rfl)
theorem rdM_no2 {b : List Nat} {s : Sr} (h : foM (rdMc b) s = false) : rdML b s = [] ∧ rdME b s = 2 := rdM_no (by unfold rdMOk; rw [h, Bool.and_false])

/-- A metric within bytes is read as it was. -/
theorem mtAt_mid {b A Z : List Nat} {p : Nat} {x : Mt} (hb : b = A ++ (mtB x ++ Z)) (hp : A.length = p) (h : gd (sb x.tg) = true) (h1 : -32768 ≤ x.ab ∧ x.ab ≤ 32767) (h2 : -32768 ≤ x.ar ∧ x.ar ≤ 32767) : mtAt b p = x := by
  have h4 := gd_len h
  have b1 : b = A ++ (sb x.tg ++ (be2 x.ab ++ (be2 x.ar ++ Z))) := by rw [hb, mtB]; simp only [List.append_assoc]
  have b2 : b = (A ++ sb x.tg) ++ (be2 x.ab ++ (be2 x.ar ++ Z)) := by rw [b1]; simp only [List.append_assoc]
  have b3 : b = (A ++ sb x.tg ++ be2 x.ab) ++ (be2 x.ar ++ Z) := by rw [b1]; simp only [List.append_assoc]
  have v1 := cutV_at (q := p) (n := 4) b1 hp h4
  have v2 := nmV_at (q := p + 4) (n := 2) b2 (by rw [List.length_append, h4, hp]) rfl
  have v3 := nmV_at (q := p + 6) (n := 2) b3 (by rw [List.length_append, List.length_append, be2L, h4, hp]) rfl
  have hi : inB b.length (p : Int) 4 = true := by
    have := congrArg List.length b1
    rw [List.length_append, List.length_append, h4, hp] at this
    simp only [inB, decide_eq_true_iff]
    omega
  rw [show ((4 : Nat) : Int) = 4 from rfl] at v1
  have ht : tgB b (p : Int) = true := by unfold tgB; rw [hi, v1, h]; rfl
  refine Mt.ext' ?_ ?_ ?_
  · show tgV b (p : Int) = _
    rw [tgV, ht, if_pos rfl, v1, str8_sb]
  · show sx16 (nmV b ((p + 4 : Nat) : Int) 2) = _
    rw [v2, sx_be2 h1.1 h1.2]
  · show sx16 (nmV b ((p + 6 : Nat) : Int) 2) = _
    rw [v3, sx_be2 h2.1 h2.2]
theorem mtsAt_mid {b : List Nat} : ∀ {l : List Mt} {A Z : List Nat} {p : Nat}, b = A ++ (mtsB l ++ Z) → A.length = p → (∀ k, k < l.length → gd (sb (l.getD k Mt.none).tg) = true ∧ (-32768 ≤ (l.getD k Mt.none).ab ∧ (l.getD k Mt.none).ab ≤ 32767) ∧ (-32768 ≤ (l.getD k Mt.none).ar ∧ (l.getD k Mt.none).ar ≤ 32767)) → mtsAt b p l.length = l := by
  intro l
  induction l with
  | nil => intro A Z p _ _ _; rfl
  | cons x l ih =>
    intro A Z p hb hp h
    obtain ⟨q1, q2, q3⟩ : gd (sb x.tg) = true ∧ (-32768 ≤ x.ab ∧ x.ab ≤ 32767) ∧ (-32768 ≤ x.ar ∧ x.ar ≤ 32767) := h 0 (by simp)
    have e1 : mtAt b p = x := mtAt_mid (A := A) (Z := mtsB l ++ Z) (by rw [hb, mtsB, List.append_assoc]) hp q1 q2 q3
    have e2 := ih (A := A ++ mtB x) (Z := Z) (p := p + 8) (by rw [hb, mtsB]; simp only [List.append_assoc]) (by rw [List.length_append, mtB_len q1, hp]) (fun k hk => h (k + 1) (by simpa using hk))
    rw [List.length_cons, mtsAt, List.range_succ_eq_map, List.map_cons, List.map_map]
    refine congr (congrArg List.cons ?_) ?_
    · exact e1
    · rw [mtsAt] at e2
      refine Eq.trans (List.map_congr_left (fun i _ => ?_)) e2
      show mtAt b (p + 8 * (i + 1)) = mtAt b (p + 8 + 8 * i)
      rw [show p + 8 * (i + 1) = p + 8 + 8 * i by omega]
theorem foM_el {l : List Mt} {s : Sr} (h : foM l s = true) : ∀ k, k < l.length → gd (sb (l.getD k Mt.none).tg) = true ∧ (-32768 ≤ (l.getD k Mt.none).ab ∧ (l.getD k Mt.none).ab ≤ 32767) ∧ (-32768 ≤ (l.getD k Mt.none).ar ∧ (l.getD k Mt.none).ar ≤ 32767) := fun k hk => by
  obtain ⟨h1, _, h3⟩ := foMx_iff.1 ((foM_iff.1 h).2 k hk)
  obtain ⟨h4, h5⟩ := fiS_iff.1 h3
  exact ⟨h1, h4, by omega⟩
theorem msB_len {l : List Mt} {s : Sr} (h : foM l s = true) : (msB l).length = 2 + 8 * l.length := by
  rw [msB, List.length_append, mtsB_len (fun k hk => (foM_el h k hk).1)]
  rfl
/-- What is written is read. -/
theorem rdM_back {l : List Mt} {s : Sr} (h : foM l s = true) : rdMOk (msB l) s = true ∧ rdMc (msB l) = l := by
  have hl := (foM_iff.1 h).1
  have hn : rdMn (msB l) = l.length := by
    have v := nmV_at (b := msB l) (A := []) (X := be2 ((l.length : Nat) : Int)) (Z := mtsB l) (q := 0) (n := 2) rfl rfl rfl
    rw [rdMn]
    rw [show ((0 : Nat) : Int) = 0 from rfl] at v
    rw [v]
    simp only [be2, V8, List.foldl_cons, List.foldl_nil]
    omega
  have hc : rdMc (msB l) = l := by
    rw [rdMc, hn]
    exact mtsAt_mid (A := be2 ((l.length : Nat) : Int)) (Z := []) (by rw [List.append_nil, msB]) rfl (foM_el h)
  refine ⟨?_, hc⟩
  have hL := msB_len h
  unfold rdMOk
  rw [hc, h, Bool.and_true, rdM1_iff, hn]
  refine ⟨?_, hl, hL⟩
  simp only [inB, decide_eq_true_iff]
  omega
/-- What is read is written to its very bytes. -/
theorem mtB_read {b : List Nat} (hb : Byt b) {p : Nat} (h : p + 8 ≤ b.length) (hg : gd (sb (mtAt b p).tg) = true) : mtB (mtAt b p) = (b.drop p).take 8 := by
  have ht : tgB b (p : Int) = true := by
    cases ht : tgB b (p : Int) with
    | true => rfl
    | false =>
      rw [mtAt] at hg
      dsimp only at hg
      rw [tgV, ht, if_neg (by decide)] at hg
      exact absurd hg (by decide)
  have hi : inB b.length (p : Int) 4 = true := by simp only [inB, decide_eq_true_iff]; omega
  have e1 : sb (tgV b (p : Int)) = (b.drop p).take 4 := by
    rw [tgV, ht, if_pos rfl, cutV_yes hi, Int.toNat_natCast, show (4 : Int).toNat = 4 from rfl, sb_str8 (byt_cut hb _ _)]
  rw [mtB, mtAt]
  dsimp only
  rw [e1, sxS_at hb (by omega), sxS_at hb (by omega), show b.drop (p + 6) = (b.drop (p + 4)).drop 2 by rw [List.drop_drop], ← List.take_add, show b.drop (p + 4) = (b.drop p).drop 4 by rw [List.drop_drop], ← List.take_add]
theorem mtsB_read {b : List Nat} (hb : Byt b) {p : Nat} : ∀ n, p + 8 * n ≤ b.length → (∀ k, k < n → gd (sb (mtAt b (p + 8 * k)).tg) = true) → mtsB (mtsAt b p n) = (b.drop p).take (8 * n) := by
  intro n
  induction n with
  | zero => intro _ _; rfl
  | succ n ih =>
    intro hl hg
    rw [mtsAt_succ, mtsB_append, ih (by omega) (fun k hk => hg k (by omega)), mtsB_one, mtB_read hb (by omega) (hg n (by omega)), show 8 * (n + 1) = 8 * n + 8 by omega, List.take_add, List.drop_drop]
theorem rdM_of {b : List Nat} {s : Sr} (hb : Byt b) (h : rdMOk b s = true) : foM (rdMc b) s = true ∧ msB (rdMc b) = b := by
  unfold rdMOk at h
  rw [Bool.and_eq_true] at h
  obtain ⟨h1, h2⟩ := h
  refine ⟨h2, ?_⟩
  obtain ⟨q1, q2, q3⟩ := rdM1_iff.1 h1
  have hg : ∀ k, k < rdMn b → gd (sb (mtAt b (2 + 8 * k)).tg) = true := fun k hk => by
    have := (foM_el h2 k (by rw [rdMc, mtsAt_len]; exact hk)).1
    rw [rdMc, mtsAt_get _ _ _ _ hk] at this
    exact this
  have e2 : be2 ((rdMn b : Nat) : Int) = b.take 2 := by
    have := n2S_at hb (p := 0) (by omega)
    rw [show ((0 : Nat) : Int) = 0 from rfl, List.drop_zero] at this
    exact this
  rw [msB, rdMc, mtsAt_len, e2, mtsB_read hb _ (by omega) hg, ← List.take_add, List.take_of_length_le (by omega)]

/-- What a metric is at the coordinates. -/
def vaMi (l : List Mt) (t : ByteArray) : Mt := l.getD (fnM l t).toNat Mt.none

end Go.Proofs.Ytfpeioccnpinkaa
