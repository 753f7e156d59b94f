/-
  The plain mathematics of lists of limbs: values, trimmed lists, comparisons. Nothing here speaks of a program.
-/
import Derived.WalkKit
namespace Go.Proofs.YtefdkajjdaplbabDoor

/-- The value of a list of limbs, the least significant first. -/
def V : List Nat → Nat
  | [] => 0
  | x :: xs => x + 4294967296 * V xs

/-- Every limb has 32 bits. -/
def Lim (xs : List Nat) : Prop := ∀ x ∈ xs, x < 4294967296

/-- The list without the zeros at its end. -/
def strip : List Nat → List Nat
  | [] => []
  | x :: xs => if strip xs = [] then (if x = 0 then [] else [x]) else x :: strip xs

/-- No zero stands at the list's end. -/
def Tr (xs : List Nat) : Prop := strip xs = xs

theorem V_append (xs ys : List Nat) : V (xs ++ ys) = V xs + 4294967296 ^ xs.length * V ys := by
  induction xs with
  | nil => simp [V]
  | cons x xs ih => simp only [List.cons_append, V, ih, List.length_cons, Nat.pow_succ, Nat.mul_add]; rw [Nat.mul_comm (4294967296 ^ xs.length) 4294967296, Nat.mul_assoc]; omega

theorem Lim.cons {x : Nat} {xs : List Nat} (h : Lim (x :: xs)) : x < 4294967296 ∧ Lim xs := ⟨h x (by simp), fun y hy => h y (by simp [hy])⟩
theorem Lim.mk {x : Nat} {xs : List Nat} (hx : x < 4294967296) (h : Lim xs) : Lim (x :: xs) := by
  intro y hy; rcases List.mem_cons.1 hy with rfl | hy
  · exact hx
  · exact h y hy
theorem Lim.nil : Lim [] := by intro x hx; cases hx
theorem Lim.append {xs ys : List Nat} (h : Lim xs) (k : Lim ys) : Lim (xs ++ ys) := by
  intro x hx; rcases List.mem_append.1 hx with hx | hx
  · exact h x hx
  · exact k x hx
theorem Lim.snoc {xs : List Nat} {x : Nat} (h : Lim xs) (hx : x < 4294967296) : Lim (xs ++ [x]) := h.append (Lim.mk hx Lim.nil)

theorem Lim.take {xs : List Nat} (h : Lim xs) (n : Nat) : Lim (xs.take n) := fun x hx => h x (List.mem_of_mem_take hx)
theorem Lim.drop {xs : List Nat} (h : Lim xs) (n : Nat) : Lim (xs.drop n) := fun x hx => h x (List.mem_of_mem_drop hx)
theorem Lim.getD {xs : List Nat} (h : Lim xs) (i : Nat) : xs.getD i 0 < 4294967296 := by
  rw [List.getD_eq_getElem?_getD]
  by_cases hi : i < xs.length
  · rw [List.getElem?_eq_getElem hi]; exact h _ (List.getElem_mem hi)
  · rw [List.getElem?_eq_none (by omega)]; decide
theorem Lim.set {xs : List Nat} (h : Lim xs) (i : Nat) {x : Nat} (hx : x < 4294967296) : Lim (xs.set i x) := by
  intro y hy; rcases List.mem_or_eq_of_mem_set hy with hy | rfl
  · exact h y hy
  · exact hx

theorem V_lt {xs : List Nat} (h : Lim xs) : V xs < 4294967296 ^ xs.length := by
  induction xs with
  | nil => simp [V]
  | cons x xs ih =>
    have := ih h.cons.2; have hx := h.cons.1
    simp only [V, List.length_cons, Nat.pow_succ]; omega

theorem V_nil : V [] = 0 := rfl
theorem V_zeros (n : Nat) : V (List.replicate n 0) = 0 := by
  induction n with
  | zero => rfl
  | succ n ih => rw [List.replicate_succ, V, ih]

theorem getD_take_succ (xs : List Nat) (i : Nat) : xs.take (i + 1) = xs.take i ++ (if i < xs.length then [xs.getD i 0] else []) := by
  by_cases h : i < xs.length
  · rw [if_pos h, List.take_succ_eq_append_getElem h]; simp [List.getD, h]
  · rw [if_neg h, List.take_of_length_le (by omega), List.take_of_length_le (by omega)]; simp

theorem V_take_succ (xs : List Nat) (i : Nat) : V (xs.take (i + 1)) = V (xs.take i) + 4294967296 ^ i * xs.getD i 0 := by
  rw [getD_take_succ, V_append]
  by_cases h : i < xs.length
  · rw [if_pos h, List.length_take, Nat.min_eq_left (by omega)]; simp [V]
  · rw [if_neg h]; simp [V, List.getD, List.getElem?_eq_none (Nat.le_of_not_lt h)]

theorem V_take_drop (xs : List Nat) (i : Nat) : V xs = V (xs.take i) + 4294967296 ^ i * V (xs.drop i) := by
  by_cases h : i ≤ xs.length
  · have := V_append (xs.take i) (xs.drop i)
    rw [List.take_append_drop, List.length_take, Nat.min_eq_left h] at this; exact this
  · rw [List.take_of_length_le (by omega), List.drop_eq_nil_of_le (by omega)]; simp [V]

theorem V_snoc (xs : List Nat) (x : Nat) : V (xs ++ [x]) = V xs + 4294967296 ^ xs.length * x := by rw [V_append]; simp [V]

/-- Two lists that read alike have one value. -/
theorem V_congr : ∀ (a b : List Nat), (∀ j, a.getD j 0 = b.getD j 0) → V a = V b := by
  intro a; induction a with
  | nil =>
    intro b; induction b with
    | nil => intro _; rfl
    | cons y b ih =>
      intro h
      have h0 := h 0; have h1 := ih (fun j => by have := h (j + 1); simpa using this)
      simp at h0; simp only [V] at h1 ⊢; omega
  | cons x a ih =>
    intro b h
    cases b with
    | nil =>
      have h0 := h 0; have h1 := ih [] (fun j => by have := h (j + 1); simpa using this)
      simp at h0; simp only [V] at h1 ⊢; omega
    | cons y b =>
      have h0 := h 0; have h1 := ih b (fun j => by have := h (j + 1); simpa using this)
      simp at h0; rw [V, V, h1, h0]

theorem getD_tail (a : List Nat) (j : Nat) : a.tail.getD j 0 = a.getD (j + 1) 0 := by cases a <;> simp
theorem V_head_tail (a : List Nat) : V a = a.getD 0 0 + 4294967296 * V a.tail := by cases a <;> simp [V]
theorem Lim.tail {a : List Nat} (h : Lim a) : Lim a.tail := by
  cases a with
  | nil => exact h
  | cons x a => exact h.cons.2

/-- Where the limbs above place i are alike and the one there is less, so is the value. -/
theorem V_lt_top : ∀ (i : Nat) (a b : List Nat), Lim a → (∀ j, i < j → a.getD j 0 = b.getD j 0) → a.getD i 0 < b.getD i 0 → V a < V b := by
  intro i; induction i with
  | zero =>
    intro a b _ h h0
    rw [V_head_tail a, V_head_tail b, V_congr a.tail b.tail (fun j => by rw [getD_tail, getD_tail]; exact h (j + 1) (by omega))]; omega
  | succ i ih =>
    intro a b hl h h0
    have := ih a.tail b.tail hl.tail (fun j hj => by rw [getD_tail, getD_tail]; exact h (j + 1) (by omega)) (by rw [getD_tail, getD_tail]; exact h0)
    have hx := hl.getD 0
    rw [V_head_tail a, V_head_tail b]; omega

theorem strip_nil : strip [] = [] := rfl
theorem V_strip (xs : List Nat) : V (strip xs) = V xs := by
  induction xs with
  | nil => rfl
  | cons x xs ih =>
    rw [strip]
    by_cases h : strip xs = []
    · rw [if_pos h]; rw [h] at ih
      by_cases hx : x = 0
      · rw [if_pos hx]; simp only [V] at ih ⊢; omega
      · rw [if_neg hx]; simp only [V] at ih ⊢; omega
    · rw [if_neg h]; simp only [V]; rw [ih]
theorem strip_strip (xs : List Nat) : strip (strip xs) = strip xs := by
  induction xs with
  | nil => rfl
  | cons x xs ih =>
    rw [strip]
    by_cases h : strip xs = []
    · rw [if_pos h]
      by_cases hx : x = 0
      · rw [if_pos hx]; rfl
      · rw [if_neg hx]; simp [strip, hx]
    · rw [if_neg h, strip, ih, if_neg h]
theorem tr_strip (xs : List Nat) : Tr (strip xs) := strip_strip xs
theorem tr_nil : Tr [] := rfl
theorem strip_snoc_zero (xs : List Nat) : strip (xs ++ [0]) = strip xs := by
  induction xs with
  | nil => rfl
  | cons x xs ih => rw [List.cons_append, strip, ih, strip]
theorem strip_snoc (xs : List Nat) (x : Nat) (hx : x ≠ 0) : strip (xs ++ [x]) = xs ++ [x] := by
  induction xs with
  | nil => simp [strip, hx]
  | cons y xs ih => rw [List.cons_append, strip, ih, if_neg (by simp)]
theorem tr_snoc {xs : List Nat} {x : Nat} (hx : x ≠ 0) : Tr (xs ++ [x]) := strip_snoc xs x hx
theorem strip_take (xs : List Nat) : strip xs = xs.take (strip xs).length := by
  induction xs with
  | nil => rfl
  | cons x xs ih =>
    rw [strip]
    by_cases h : strip xs = []
    · rw [if_pos h]
      by_cases hx : x = 0
      · rw [if_pos hx]; simp
      · rw [if_neg hx]; simp
    · rw [if_neg h]; simp only [List.length_cons, List.take_succ_cons]; rw [← ih]
theorem strip_length_le (xs : List Nat) : (strip xs).length ≤ xs.length := by rw [strip_take]; simp; omega
theorem Lim.strip {xs : List Nat} (h : Lim xs) : Lim (strip xs) := by rw [strip_take]; exact h.take _

/-- What is stripped of a head: the zeros behind it do not count. -/
theorem strip_take_zero (xs : List Nat) (n : Nat) (h : n < xs.length) (h0 : xs.getD n 0 = 0) : strip (xs.take (n + 1)) = strip (xs.take n) := by
  rw [getD_take_succ, if_pos h, h0, strip_snoc_zero]
theorem strip_take_some (xs : List Nat) (n : Nat) (h : n < xs.length) (h0 : xs.getD n 0 ≠ 0) : strip (xs.take (n + 1)) = xs.take (n + 1) := by
  rw [getD_take_succ, if_pos h, strip_snoc _ _ h0]

/-- The last limb of a trimmed list isn't 0. -/
theorem Tr.last {xs : List Nat} (h : Tr xs) (hn : xs ≠ []) : xs.getD (xs.length - 1) 0 ≠ 0 := by
  intro h0
  have hl : 0 < xs.length := List.length_pos_iff.2 hn
  have e := strip_take_zero xs (xs.length - 1) (by omega) h0
  rw [show xs.length - 1 + 1 = xs.length by omega, List.take_length] at e
  have e2 : strip xs = xs := h
  have := strip_length_le (xs.take (xs.length - 1))
  rw [← e, e2] at this
  simp at this; omega

theorem V_ge {xs : List Nat} (h : Tr xs) (hn : xs ≠ []) : 4294967296 ^ (xs.length - 1) ≤ V xs := by
  have hl : 0 < xs.length := List.length_pos_iff.2 hn
  have e := V_take_succ xs (xs.length - 1)
  rw [show xs.length - 1 + 1 = xs.length by omega, List.take_length] at e
  have h1 := h.last hn
  rw [e]
  calc 4294967296 ^ (xs.length - 1) = 4294967296 ^ (xs.length - 1) * 1 := by omega
    _ ≤ 4294967296 ^ (xs.length - 1) * xs.getD (xs.length - 1) 0 := Nat.mul_le_mul_left _ (by omega)
    _ ≤ _ := by omega

theorem len_le_of_V {xs : List Nat} (h : Tr xs) {k : Nat} (hv : V xs < 4294967296 ^ k) : xs.length ≤ k := by
  rcases Decidable.em (xs = []) with rfl | hn
  · simp
  · have h1 := V_ge h hn
    rcases Nat.lt_or_ge k xs.length with hk | hk
    · have : 4294967296 ^ k ≤ 4294967296 ^ (xs.length - 1) := Nat.pow_le_pow_right (by decide) (by omega)
      omega
    · exact hk

theorem V_lt_of_length {a b : List Nat} (ha : Lim a) (hb : Tr b) (h : a.length < b.length) : V a < V b := by
  have h1 := V_lt ha
  have h2 := V_ge hb (by intro e; rw [e] at h; simp at h)
  have : 4294967296 ^ a.length ≤ 4294967296 ^ (b.length - 1) := Nat.pow_le_pow_right (by decide) (by omega)
  omega

theorem eq_nil_of_V {xs : List Nat} (h : Tr xs) (hv : V xs = 0) : xs = [] := by
  rcases Decidable.em (xs = []) with rfl | hn
  · rfl
  · have h1 := V_ge h hn
    have : 0 < 4294967296 ^ (xs.length - 1) := Nat.pow_pos (by decide)
    omega

theorem V_eq_lists : ∀ (n : Nat) (a b : List Nat), a.length = n → b.length = n → Lim a → Lim b → V a = V b → a = b := by
  intro n; induction n with
  | zero => intro a b ha hb _ _ _; rw [List.length_eq_zero_iff.1 ha, List.length_eq_zero_iff.1 hb]
  | succ n ih =>
    intro a b ha hb la lb h
    match a, b, ha, hb with
    | x :: a, y :: b, ha, hb =>
      have := la.cons.1; have := lb.cons.1
      simp only [V] at h
      have e1 : x = y := by omega
      have e2 : V a = V b := by omega
      rw [e1, ih a b (by simpa using ha) (by simpa using hb) la.cons.2 lb.cons.2 e2]

/-- A trimmed list is told by its value. -/
theorem uniq {a b : List Nat} (la : Lim a) (lb : Lim b) (ta : Tr a) (tb : Tr b) (h : V a = V b) : a = b := by
  have h1 : ¬ a.length < b.length := fun hl => by have := V_lt_of_length la tb hl; omega
  have h2 : ¬ b.length < a.length := fun hl => by have := V_lt_of_length lb ta hl; omega
  exact V_eq_lists b.length a b (by omega) rfl la lb h

end Go.Proofs.YtefdkajjdaplbabDoor
