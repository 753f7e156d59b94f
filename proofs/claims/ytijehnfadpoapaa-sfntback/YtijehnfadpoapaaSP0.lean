/-
  Files of tables, as the document has them: filled bytes, check sums (plain mathematics).
-/
import Derived.Test.YtijehnfadpoapaaO9
namespace Go.Proofs.Ytijehnfadpoapaa
set_option linter.unusedSimpArgs false
set_option linter.unusedVariables false

/-- Bytes filled up to a multiple of four. -/
def fil (bs : List Nat) : List Nat := bs ++ List.replicate (padN bs.length 4) 0
theorem padN4 (l : Nat) : (l + padN l 4) % 4 = 0 := by unfold padN; omega
theorem padN4_lt (l : Nat) : padN l 4 < 4 := padN_lt (by decide)
theorem fil_len (bs : List Nat) : (fil bs).length = bs.length + padN bs.length 4 := by simp [fil]
theorem fil_mod (bs : List Nat) : (fil bs).length % 4 = 0 := by rw [fil_len]; exact padN4 _
theorem byt_fil {bs : List Nat} (h : Byt bs) : Byt (fil bs) := h.append (byt_zeros _)
theorem fil_same {bs : List Nat} (h : bs.length % 4 = 0) : fil bs = bs := by
  unfold fil
  rw [padN_zero (by decide) h]
  simp
theorem fil_take (bs : List Nat) : (fil bs).take bs.length = bs := by simp [fil]

/-- The sum of all numbers of four bytes. -/
def sum4 : List Nat → Nat
  | a :: b :: c :: d :: r => V8 [a, b, c, d] + sum4 r
  | _ => 0
theorem sum4_cons (a b c d : Nat) (r : List Nat) : sum4 (a :: b :: c :: d :: r) = V8 [a, b, c, d] + sum4 r := rfl
/-- A list of a multiple of four goes by fours. -/
theorem four_ind {p : List Nat → Prop} (h0 : p []) (h4 : ∀ a b c d r, p r → p (a :: b :: c :: d :: r)) : ∀ (n : Nat) (xs : List Nat), xs.length = 4 * n → p xs := by
  intro n
  induction n with
  | zero => intro xs h; rw [List.length_eq_zero_iff.1 h]; exact h0
  | succ n ih =>
    intro xs h
    match xs, h with
    | a :: b :: c :: d :: r, h => exact h4 a b c d r (ih r (by simp at h; omega))
theorem len4 {xs : List Nat} (h : xs.length % 4 = 0) : xs.length = 4 * (xs.length / 4) := by omega
theorem sum4_append {xs : List Nat} (h : xs.length % 4 = 0) (ys : List Nat) : sum4 (xs ++ ys) = sum4 xs + sum4 ys := by
  refine four_ind (p := fun xs => sum4 (xs ++ ys) = sum4 xs + sum4 ys) (by simp [sum4]) ?_ _ xs (len4 h)
  intro a b c d r ih
  simp only [List.cons_append, sum4_cons]
  rw [ih]
  omega
/-- The check sum. -/
def sm (bs : List Nat) : Nat := sum4 (fil bs) % 4294967296
theorem sm_lt (bs : List Nat) : sm bs < 4294967296 := Nat.mod_lt _ (by decide)
theorem fil_append {xs : List Nat} (h : xs.length % 4 = 0) (ys : List Nat) : fil (xs ++ ys) = xs ++ fil ys := by
  unfold fil
  have e : padN (xs ++ ys).length 4 = padN ys.length 4 := by
    rw [List.length_append]
    unfold padN
    omega
  rw [e, List.append_assoc]
theorem sm_append {xs : List Nat} (h : xs.length % 4 = 0) (ys : List Nat) : sm (xs ++ ys) = (sm xs + sm ys) % 4294967296 := by
  unfold sm
  rw [fil_append h, sum4_append h, fil_same h]
  omega
theorem sm_zeros (bs : List Nat) : sm (bs ++ [0, 0, 0, 0]) = sm bs := by
  unfold sm
  have e : fil (bs ++ [0, 0, 0, 0]) = fil bs ++ [0, 0, 0, 0] := by
    unfold fil
    have e1 : padN (bs ++ [0, 0, 0, 0]).length 4 = padN bs.length 4 := by
      simp only [List.length_append, List.length_cons, List.length_nil]
      unfold padN
      omega
    rw [e1, List.append_assoc, List.append_assoc, show ([0, 0, 0, 0] : List Nat) = List.replicate 4 0 from rfl, List.replicate_append_replicate, List.replicate_append_replicate, Nat.add_comm]
  rw [e, sum4_append (fil_mod bs)]
  rfl

/-- One byte that is turned turns the sum. -/
theorem sum4_set : ∀ (n : Nat) (xs : List Nat) (j z : Nat), xs.length = 4 * n → Byt xs → z < 256 → j < xs.length → z ≠ xs.getD j 0 → sum4 (xs.set j z) % 4294967296 ≠ sum4 xs % 4294967296 := by
  intro n
  induction n with
  | zero => intro xs j z h _ _ hj; omega
  | succ n ih =>
    intro xs j z h hb hz hj hne
    match xs, h with
    | a :: b :: c :: d :: r, h =>
      have ha := hb a (by simp)
      have hb' := hb b (by simp)
      have hc := hb c (by simp)
      have hd := hb d (by simp)
      have hr : Byt r := fun x hx => hb x (by simp [hx])
      match j, hj, hne with
      | 0, _, hne =>
        simp at hne
        simp only [List.set_cons_zero, sum4_cons, V8, List.foldl_cons, List.foldl_nil]
        omega
      | 1, _, hne =>
        simp at hne
        simp only [List.set_cons_succ, List.set_cons_zero, sum4_cons, V8, List.foldl_cons, List.foldl_nil]
        omega
      | 2, _, hne =>
        simp at hne
        simp only [List.set_cons_succ, List.set_cons_zero, sum4_cons, V8, List.foldl_cons, List.foldl_nil]
        omega
      | 3, _, hne =>
        simp at hne
        simp only [List.set_cons_succ, List.set_cons_zero, sum4_cons, V8, List.foldl_cons, List.foldl_nil]
        omega
      | j + 4, hj, hne =>
        have := ih r j z (by simp at h; omega) hr hz (by simp at hj; omega) (by simpa [List.getD] using hne)
        simp only [List.set_cons_succ, sum4_cons]
        omega

end Go.Proofs.Ytijehnfadpoapaa
