/-
  Two bytes and the number that they are (plain mathematics).
  Packed lists: runs, how they are packed, how they are read (plain mathematics).
  Packed lists: what is packed is read (plain mathematics).
  Packed lists: changes and point numbers, their bytes, what bytes are read as; there and back, cut, short (plain mathematics).
  Point numbers and changes, number by number (plain mathematics).
-/
import Derived.Test.YtngkckannclcmaaZ3
namespace Go.Proofs.Ytngkckannclcmaa
set_option linter.unusedSimpArgs false
set_option linter.unusedVariables false

theorem be2L (z : Int) : (be2 z).length = 2 := rfl
theorem sx_be2 {z : Int} (h1 : -32768 ≤ z) (h2 : z ≤ 32767) : sx16 (V8 (be2 z)) = z := by
  simp only [be2, V8, List.foldl_cons, List.foldl_nil]
  unfold sx16
  split <;> omega
theorem be_sx2 {xs : List Nat} (h : Byt xs) (hl : xs.length = 2) : be2 (sx16 (V8 xs)) = xs := by
  match xs, hl with
  | [a, b], _ =>
    have ha := h a (by simp)
    have hb := h b (by simp)
    have e : V8 [a, b] = 256 * a + b := by simp only [V8, List.foldl_cons, List.foldl_nil]; omega
    have hz : ∃ k : Int, sx16 (V8 [a, b]) = ((256 * a + b : Nat) : Int) + 65536 * k := by
      rw [e, sx16]
      split
      · exact ⟨-1, by omega⟩
      · exact ⟨0, by omega⟩
    obtain ⟨k, hk⟩ := hz
    rw [hk]
    simp only [be2, List.cons.injEq, and_true]
    refine ⟨by omega, by omega⟩
theorem be_V8 {xs : List Nat} (h : Byt xs) (hl : xs.length = 2) : be2 ((V8 xs : Nat) : Int) = xs := by
  match xs, hl with
  | [a, b], _ =>
    have ha := h a (by simp)
    have hb := h b (by simp)
    have e : V8 [a, b] = 256 * a + b := by simp only [V8, List.foldl_cons, List.foldl_nil]; omega
    rw [e]
    simp only [be2, List.cons.injEq, and_true]
    refine ⟨by omega, by omega⟩

end Go.Proofs.Ytngkckannclcmaa

namespace Go.Proofs.Ytngkckannclcmaa
set_option linter.unusedSimpArgs false
set_option linter.unusedVariables false

/-- How many numbers the first run has. -/
def rn (c : Int → Nat) (M : Nat) : List Int → Nat
  | [] => 0
  | x :: t => min M (1 + (t.takeWhile (fun y => c y == c x)).length)
theorem rn_pos {c : Int → Nat} {M : Nat} (hM : 0 < M) {l : List Int} (hl : l ≠ []) : 1 ≤ rn c M l := by
  cases l with
  | nil => exact absurd rfl hl
  | cons x t => rw [rn]; omega
theorem takeWhile_le {α : Type} (p : α → Bool) (l : List α) : (l.takeWhile p).length ≤ l.length := by
  induction l with
  | nil => simp
  | cons x t ih => rw [List.takeWhile_cons]; split <;> simp; omega
theorem rn_le {c : Int → Nat} {M : Nat} (l : List Int) : rn c M l ≤ l.length ∧ rn c M l ≤ M := by
  cases l with
  | nil => exact ⟨Nat.le_refl _, Nat.zero_le _⟩
  | cons x t =>
    have := takeWhile_le (fun y => c y == c x) t
    rw [rn, List.length_cons]
    omega
theorem takeWhile_get {p : Int → Bool} : ∀ (l : List Int) (j : Nat), j < (l.takeWhile p).length → p (l.getD j 0) = true := by
  intro l
  induction l with
  | nil => intro j hj; simp at hj
  | cons x t ih =>
    intro j hj
    rw [List.takeWhile_cons] at hj
    split at hj
    · rename_i hx
      cases j with
      | zero => simpa using hx
      | succ j => exact ih j (by simpa using hj)
    · simp at hj
/-- All numbers of a run are of one kind. -/
theorem rn_same {c : Int → Nat} {M : Nat} {l : List Int} {j : Nat} (hj : j < rn c M l) : c (l.getD j 0) = c (l.getD 0 0) := by
  cases l with
  | nil => simp [rn] at hj
  | cons x t =>
    rw [rn] at hj
    cases j with
    | zero => rfl
    | succ j =>
      have := takeWhile_get (p := fun y => c y == c x) t j (by omega)
      simpa using this
theorem takeWhile_at {p : Int → Bool} : ∀ {l : List Int} {k : Nat}, (∀ j, j < k → p (l.getD j 0) = true) → k ≤ l.length → (k = l.length ∨ p (l.getD k 0) = false) → (l.takeWhile p).length = k := by
  intro l
  induction l with
  | nil => intro k _ hk _; simp at hk; simp [hk]
  | cons x t ih =>
    intro k h1 hk h2
    cases k with
    | zero =>
      rcases h2 with h2 | h2
      · simp at h2
      · rw [List.takeWhile_cons, if_neg (by simpa using h2)]
        rfl
    | succ k =>
      have hx : p x = true := h1 0 (by omega)
      rw [List.takeWhile_cons, if_pos hx, List.length_cons, ih (k := k) (fun j hj => h1 (j + 1) (by omega)) (by simpa using hk) (by simpa using h2)]
theorem takeWhile_ge {p : Int → Bool} : ∀ {l : List Int} {k : Nat}, (∀ j, j < k → p (l.getD j 0) = true) → k ≤ l.length → k ≤ (l.takeWhile p).length := by
  intro l
  induction l with
  | nil => intro k _ hk; simpa using hk
  | cons x t ih =>
    intro k h1 hk
    cases k with
    | zero => exact Nat.zero_le _
    | succ k =>
      have hx : p x = true := h1 0 (by omega)
      rw [List.takeWhile_cons, if_pos hx, List.length_cons]
      have := ih (k := k) (fun j hj => h1 (j + 1) (by omega)) (by simpa using hk)
      omega
/-- A run is as long as may be: as a loop finds it. -/
theorem rn_eq {c : Int → Nat} {M : Nat} {l : List Int} {k : Nat} (h0 : 1 ≤ k) (h1 : k ≤ M) (h2 : k ≤ l.length) (h3 : ∀ j, j < k → c (l.getD j 0) = c (l.getD 0 0)) (h4 : k = M ∨ k = l.length ∨ c (l.getD k 0) ≠ c (l.getD 0 0)) : rn c M l = k := by
  cases l with
  | nil => simp at h2; omega
  | cons x t =>
    obtain ⟨k, rfl⟩ : ∃ m, k = m + 1 := ⟨k - 1, by omega⟩
    have a1 : ∀ j, j < k → (fun y => c y == c x) (t.getD j 0) = true := fun j hj => by
      have := h3 (j + 1) (by omega)
      simpa using this
    have a2 : k ≤ t.length := by simpa using h2
    have a3 := takeWhile_ge (p := fun y => c y == c x) a1 a2
    rw [rn]
    rcases h4 with h4 | h4 | h4
    · omega
    · rw [takeWhile_at (p := fun y => c y == c x) a1 a2 (.inl (by simpa using h4))]; omega
    · rw [takeWhile_at (p := fun y => c y == c x) a1 a2 (.inr (by simpa using h4))]; omega

/-- A way of packing: the kind of a number, the longest run, how far apart kinds are in the head, the bytes of a number of a kind. -/
structure Pk where
  c : Int → Nat
  M : Nat
  en : Nat → Int → List Nat
def pkF (P : Pk) : Nat → List Int → List Nat
  | 0, _ => []
  | _ + 1, [] => []
  | n + 1, x :: t => [P.M * P.c x + rn P.c P.M (x :: t) - 1] ++ (((x :: t).take (rn P.c P.M (x :: t))).flatMap (P.en (P.c x)) ++ pkF P n ((x :: t).drop (rn P.c P.M (x :: t))))
def pk (P : Pk) (l : List Int) : List Nat := pkF P l.length l
theorem pkF_nil (P : Pk) (n : Nat) : pkF P n [] = [] := by cases n <;> rfl
theorem pkF_fuel (P : Pk) (hM : 0 < P.M) : ∀ (n : Nat) (l : List Int), l.length ≤ n → pkF P n l = pk P l := by
  intro n
  induction n using Nat.strongRecOn with
  | ind n ih =>
    intro l hl
    cases l with
    | nil => rw [pkF_nil, pk, pkF_nil]
    | cons x t =>
      obtain ⟨n, rfl⟩ : ∃ m, n = m + 1 := ⟨n - 1, by simp at hl; omega⟩
      have h1 := rn_pos (c := P.c) hM (l := x :: t) (by simp)
      have hd : ((x :: t).drop (rn P.c P.M (x :: t))).length ≤ t.length := by rw [List.length_drop, List.length_cons]; omega
      have ht : t.length ≤ n := by simpa using hl
      rw [pk, List.length_cons, pkF, pkF, ih n (by omega) _ (by omega)]
      by_cases htn : t.length < n + 1
      · rw [ih t.length (by omega) _ hd]
      · omega
theorem pk_nil (P : Pk) : pk P [] = [] := rfl
theorem pk_cons (P : Pk) (hM : 0 < P.M) {l : List Int} (hl : l ≠ []) :
    pk P l = [P.M * P.c (l.getD 0 0) + rn P.c P.M l - 1] ++ ((l.take (rn P.c P.M l)).flatMap (P.en (P.c (l.getD 0 0))) ++ pk P (l.drop (rn P.c P.M l))) := by
  cases l with
  | nil => exact absurd rfl hl
  | cons x t =>
    have h1 := rn_pos (c := P.c) hM (l := x :: t) (by simp)
    have hd : ((x :: t).drop (rn P.c P.M (x :: t))).length ≤ t.length := by rw [List.length_drop, List.length_cons]; omega
    conv => lhs; rw [pk, List.length_cons, pkF, pkF_fuel P hM _ _ hd]
    rfl

/-- A way of reading: what a head says (its kind, how many numbers), how many bytes a number of a kind takes, its number. -/
structure Rp where
  M : Nat
  top : Nat
  sz : Nat → Nat
  vl : List Nat → Nat → Nat → Int
/-- The numbers of a run. -/
def runV (R : Rp) (b : List Nat) (kd at_ k : Nat) : List Int := (List.range k).map (fun i => R.vl b kd (at_ + i * R.sz kd))
theorem runV_len (R : Rp) (b : List Nat) (kd at_ k : Nat) : (runV R b kd at_ k).length = k := by simp [runV]
theorem runV_succ (R : Rp) (b : List Nat) (kd at_ k : Nat) : runV R b kd at_ (k + 1) = runV R b kd at_ k ++ [R.vl b kd (at_ + k * R.sz kd)] := by simp [runV, List.range_succ]
/-- Whether a run is there, of at most so many numbers. -/
def hdB (R : Rp) (b : List Nat) (at_ n : Nat) : Bool :=
  decide (at_ + 1 ≤ b.length ∧ nmV b (at_ : Int) 1 < R.top ∧ nmV b (at_ : Int) 1 % R.M + 1 ≤ n ∧ at_ + 1 + (nmV b (at_ : Int) 1 % R.M + 1) * R.sz (nmV b (at_ : Int) 1 / R.M) ≤ b.length)
def rdF (R : Rp) (b : List Nat) : Nat → Nat → Nat → Option (List Int × Nat)
  | _, at_, 0 => some ([], at_)
  | 0, _, _ + 1 => none
  | f + 1, at_, n + 1 => if hdB R b at_ (n + 1) then
      (match rdF R b f (at_ + 1 + (nmV b (at_ : Int) 1 % R.M + 1) * R.sz (nmV b (at_ : Int) 1 / R.M)) (n + 1 - (nmV b (at_ : Int) 1 % R.M + 1)) with
      | some (l, e) => some (runV R b (nmV b (at_ : Int) 1 / R.M) (at_ + 1) (nmV b (at_ : Int) 1 % R.M + 1) ++ l, e)
      | none => none) else none
theorem rdF_zero (R : Rp) (b : List Nat) (f at_ : Nat) : rdF R b f at_ 0 = some ([], at_) := by cases f <;> rfl
theorem rdF_fuel (R : Rp) (b : List Nat) : ∀ (f g at_ n : Nat), n ≤ f → n ≤ g → rdF R b f at_ n = rdF R b g at_ n := by
  intro f
  induction f with
  | zero =>
    intro g at_ n hf _
    obtain rfl : n = 0 := Nat.le_zero.1 hf
    rw [rdF_zero, rdF_zero]
  | succ f ih =>
    intro g at_ n hf hg
    cases n with
    | zero => rw [rdF_zero, rdF_zero]
    | succ n =>
      obtain ⟨g, rfl⟩ : ∃ m, g = m + 1 := ⟨g - 1, by omega⟩
      rw [rdF, rdF, ih g _ _ (by omega) (by omega)]
theorem rdF_len (R : Rp) (b : List Nat) : ∀ (f at_ n : Nat) (l : List Int) (e : Nat), rdF R b f at_ n = some (l, e) → l.length = n ∧ at_ ≤ e ∧ (at_ ≤ b.length → e ≤ b.length) := by
  intro f
  induction f with
  | zero =>
    intro at_ n l e h
    cases n with
    | zero => rw [rdF_zero] at h; cases h; exact ⟨rfl, Nat.le_refl _, fun h => h⟩
    | succ n => cases h
  | succ f ih =>
    intro at_ n l e h
    cases n with
    | zero => rw [rdF_zero] at h; cases h; exact ⟨rfl, Nat.le_refl _, fun h => h⟩
    | succ n =>
      rw [rdF] at h
      split at h
      · rename_i hh
        have hh' := of_decide_eq_true hh
        split at h
        · rename_i l' e' hr
          cases h
          obtain ⟨h1, h2, h3⟩ := ih _ _ _ _ hr
          refine ⟨?_, by omega, fun _ => h3 hh'.2.2.2⟩
          rw [List.length_append, runV_len, h1]
          omega
        · cases h
      · cases h
/-- What is read stays, whatever stands behind. -/
theorem nmV_more {b Z : List Nat} {p n : Nat} (h : p + n ≤ b.length) : nmV (b ++ Z) (p : Int) n = nmV b (p : Int) n := by
  have e1 : inB (b ++ Z).length (p : Int) (n : Int) = true := by simp only [inB, decide_eq_true_iff, List.length_append]; omega
  have e2 : inB b.length (p : Int) (n : Int) = true := by simp only [inB, decide_eq_true_iff]; omega
  rw [nmV, nmV, if_pos e1, if_pos e2, Int.toNat_natCast, List.drop_append_of_le_length (by omega), List.take_append_of_le_length (by rw [List.length_drop]; omega)]
theorem rdF_more (R : Rp) (hv : ∀ b Z kd p, p + R.sz kd ≤ b.length → R.vl (b ++ Z) kd p = R.vl b kd p) (b Z : List Nat) : ∀ (f at_ n : Nat) (l : List Int) (e : Nat), rdF R b f at_ n = some (l, e) → rdF R (b ++ Z) f at_ n = some (l, e) := by
  intro f
  induction f with
  | zero =>
    intro at_ n l e h
    cases n with
    | zero => rw [rdF_zero] at h ⊢; exact h
    | succ n => cases h
  | succ f ih =>
    intro at_ n l e h
    cases n with
    | zero => rw [rdF_zero] at h ⊢; exact h
    | succ n =>
      rw [rdF] at h
      split at h
      · rename_i hh
        have hh' := of_decide_eq_true hh
        have eh : nmV (b ++ Z) (at_ : Int) 1 = nmV b (at_ : Int) 1 := nmV_more hh'.1
        have hb : hdB R (b ++ Z) at_ (n + 1) = true := by
          rw [hdB, eh]
          exact decide_eq_true ⟨by rw [List.length_append]; omega, hh'.2.1, hh'.2.2.1, by rw [List.length_append]; omega⟩
        split at h
        · rename_i l' e' hr
          cases h
          rw [rdF, if_pos hb, eh, ih _ _ _ _ hr]
          dsimp only
          have er : runV R (b ++ Z) (nmV b (at_ : Int) 1 / R.M) (at_ + 1) (nmV b (at_ : Int) 1 % R.M + 1) = runV R b (nmV b (at_ : Int) 1 / R.M) (at_ + 1) (nmV b (at_ : Int) 1 % R.M + 1) := by
            unfold runV
            refine List.map_congr_left fun i hi => ?_
            have hi' : i < nmV b (at_ : Int) 1 % R.M + 1 := by simpa using hi
            refine hv _ _ _ _ ?_
            have h1 : (i + 1) * R.sz (nmV b (at_ : Int) 1 / R.M) ≤ (nmV b (at_ : Int) 1 % R.M + 1) * R.sz (nmV b (at_ : Int) 1 / R.M) := Nat.mul_le_mul_right _ hi'
            rw [Nat.add_mul, Nat.one_mul] at h1
            have := hh'.2.2.2
            omega
          rw [er]
        · cases h
      · cases h
/-- Bytes that lack one of what is read are refused. -/
theorem rdF_cut (R : Rp) (hv : ∀ b Z kd p, p + R.sz kd ≤ b.length → R.vl (b ++ Z) kd p = R.vl b kd p) {b : List Nat} {f at_ n : Nat} {l : List Int} (h : rdF R b f at_ n = some (l, b.length)) {j : Nat} (hj : j < b.length) (hat : at_ ≤ j) : rdF R (b.take j) f at_ n = none := by
  cases hr : rdF R (b.take j) f at_ n with
  | none => rfl
  | some p =>
    obtain ⟨l', e⟩ := p
    have h1 := rdF_more R hv (b.take j) (b.drop j) f at_ n l' e hr
    rw [List.take_append_drop, h] at h1
    have h2 := (rdF_len R _ f at_ n l' e hr).2.2 (by rw [List.length_take]; omega)
    rw [List.length_take] at h2
    cases h1
    omega

end Go.Proofs.Ytngkckannclcmaa

namespace Go.Proofs.Ytngkckannclcmaa
set_option linter.unusedSimpArgs false
set_option linter.unusedVariables false

/-- A way of packing and a way of reading that fit, for numbers that are such. -/
structure Fit (P : Pk) (R : Rp) (D : Int → Prop) : Prop where
  hM : 0 < P.M
  eM : R.M = P.M
  top : ∀ x, D x → P.M * P.c x + P.M ≤ R.top ∧ P.M * P.c x + P.M ≤ 256
  sz : ∀ x, D x → (P.en (P.c x) x).length = R.sz (P.c x)
  vl : ∀ b A Z x, D x → b = A ++ (P.en (P.c x) x ++ Z) → R.vl b (P.c x) A.length = x
  by' : ∀ x, D x → Byt (P.en (P.c x) x)

theorem split_at {l : List Int} (i : Nat) (h : i < l.length) : l = l.take i ++ l[i] :: l.drop (i + 1) := by
  rw [← List.drop_eq_getElem_cons h, List.take_append_drop]
theorem body_len {P : Pk} {R : Rp} {D : Int → Prop} (hf : Fit P R D) {kd : Nat} : ∀ {m : List Int}, (∀ x ∈ m, D x ∧ P.c x = kd) → (m.flatMap (P.en kd)).length = m.length * R.sz kd := by
  intro m
  induction m with
  | nil => intro _; simp
  | cons x t ih =>
    intro h
    obtain ⟨h1, h2⟩ := h x (by simp)
    have := hf.sz x h1
    rw [h2] at this
    rw [List.flatMap_cons, List.length_append, this, ih (fun y hy => h y (by simp [hy])), List.length_cons, Nat.add_mul]
    omega
theorem run_kinds {P : Pk} {l : List Int} : ∀ x ∈ l.take (rn P.c P.M l), P.c x = P.c (l.getD 0 0) := by
  intro x hx
  obtain ⟨i, hi, e⟩ := List.getElem_of_mem hx
  have h1 : i < rn P.c P.M l := by rw [List.length_take] at hi; omega
  have h2 := rn_same h1
  rw [← e]
  rw [List.length_take] at hi
  have h3 : l.getD i 0 = (l.take (rn P.c P.M l))[i] := by simp [List.getD, show i < l.length by omega]
  rw [← h3]
  exact h2
theorem head_parts {M c k : Nat} (h1 : 1 ≤ k) (h2 : k ≤ M) : (M * c + k - 1) % M = k - 1 ∧ (M * c + k - 1) / M = c := by
  have e : M * c + k - 1 = (k - 1) + M * c := by omega
  rw [e, Nat.add_mul_mod_self_left, Nat.mod_eq_of_lt (by omega), Nat.add_mul_div_left _ _ (by omega), Nat.div_eq_of_lt (by omega)]
  exact ⟨rfl, by omega⟩
theorem byt_pk {P : Pk} {R : Rp} {D : Int → Prop} (hf : Fit P R D) : ∀ (n : Nat) (l : List Int), l.length = n → (∀ x ∈ l, D x) → Byt (pk P l) := by
  intro n
  induction n using Nat.strongRecOn with
  | ind n ih =>
    intro l hn hD
    by_cases hl : l = []
    · subst hl; exact Byt.nil
    have h1 := rn_pos (c := P.c) hf.hM hl
    obtain ⟨h2, h3⟩ := rn_le (c := P.c) (M := P.M) l
    have hx0 : l.getD 0 0 ∈ l := by
      have : 0 < l.length := List.length_pos_iff.2 hl
      rw [List.getD_eq_getElem?_getD, List.getElem?_eq_getElem this]
      exact List.getElem_mem this
    rw [pk_cons P hf.hM hl]
    refine Byt.append (fun y hy => ?_) (Byt.append (fun y hy => ?_) (ih (l.length - rn P.c P.M l) (by omega) _ (by rw [List.length_drop]) (fun x hx => hD x (List.mem_of_mem_drop hx))))
    · rw [List.mem_singleton] at hy
      have := (hf.top _ (hD _ hx0)).2
      omega
    · obtain ⟨x, hx, hy⟩ := List.mem_flatMap.1 hy
      have hc := run_kinds (P := P) x hx
      rw [← hc] at hy
      exact hf.by' x (hD x (List.mem_of_mem_take hx)) y hy
/-- What is packed is read as it was, whatever stands behind, and takes just its bytes. -/
theorem rd_pk {P : Pk} {R : Rp} {D : Int → Prop} (hf : Fit P R D) : ∀ (n : Nat) (l : List Int) (A Z : List Nat) (f : Nat), l.length = n → (∀ x ∈ l, D x) → l.length ≤ f → rdF R (A ++ (pk P l ++ Z)) f A.length l.length = some (l, A.length + (pk P l).length) := by
  intro n
  induction n using Nat.strongRecOn with
  | ind n ih =>
    intro l A Z f hn hD hfu
    by_cases hl : l = []
    · subst hl; rw [List.length_nil, rdF_zero]; rfl
    have hpos : 0 < l.length := List.length_pos_iff.2 hl
    have h1 := rn_pos (c := P.c) hf.hM hl
    obtain ⟨h2, h3⟩ := rn_le (c := P.c) (M := P.M) l
    have hx0 : l.getD 0 0 ∈ l := by
      rw [List.getD_eq_getElem?_getD, List.getElem?_eq_getElem hpos]
      exact List.getElem_mem hpos
    have hkinds := run_kinds (P := P) (l := l)
    have hpk := pk_cons P hf.hM hl
    obtain ⟨t1, t2⟩ := hf.top _ (hD _ hx0)
    obtain ⟨k, hk⟩ : ∃ k, rn P.c P.M l = k := ⟨_, rfl⟩
    obtain ⟨c0, hc0⟩ : ∃ c, P.c (l.getD 0 0) = c := ⟨_, rfl⟩
    rw [hk] at h1 h2 h3 hkinds hpk
    rw [hc0] at hkinds hpk t1 t2
    obtain ⟨q1, q2⟩ := head_parts (c := c0) h1 h3
    have hbl := body_len hf (m := l.take k) (fun x hx => ⟨hD x (List.mem_of_mem_take hx), hkinds x hx⟩)
    have hlt : (l.take k).length = k := by rw [List.length_take]; omega
    rw [hlt] at hbl
    obtain ⟨h, hh⟩ : ∃ h, P.M * c0 + k - 1 = h := ⟨_, rfl⟩
    rw [hh] at hpk q1 q2
    obtain ⟨body, hbody⟩ : ∃ b, (l.take k).flatMap (P.en c0) = b := ⟨_, rfl⟩
    obtain ⟨rest, hrest⟩ : ∃ b, pk P (l.drop k) = b := ⟨_, rfl⟩
    rw [hbody, hrest] at hpk
    rw [hbody] at hbl
    obtain ⟨b, hb⟩ : ∃ b, A ++ (pk P l ++ Z) = b := ⟨_, rfl⟩
    have hb1 : b = A ++ ([h] ++ (body ++ rest ++ Z)) := by rw [← hb, hpk]; simp only [List.append_assoc]
    have hv : nmV b (A.length : Int) 1 = h := by
      have := nmV_at (q := A.length) (n := 1) hb1 rfl rfl
      rw [this]
      simp [V8]
    have hlen : b.length = A.length + 1 + body.length + rest.length + Z.length := by rw [hb1]; simp only [List.length_append, List.length_singleton]; omega
    obtain ⟨m, hm⟩ : ∃ m, l.length = m + 1 := ⟨l.length - 1, by omega⟩
    obtain ⟨f, rfl⟩ : ∃ g, f = g + 1 := ⟨f - 1, by omega⟩
    have hd : hdB R b A.length (m + 1) = true := by
      rw [hdB, hv, hf.eM, q1, q2, show k - 1 + 1 = k by omega, ← hbl]
      exact decide_eq_true ⟨by omega, by omega, by omega, by omega⟩
    have hdl : (l.drop k).length = m + 1 - k := by rw [List.length_drop]; omega
    have hrec := ih (l.drop k).length (by omega) (l.drop k) (A ++ ([h] ++ body)) Z f rfl (fun x hx => hD x (List.mem_of_mem_drop hx)) (by omega)
    rw [hrest, hdl] at hrec
    have hb2 : A ++ ([h] ++ body) ++ (rest ++ Z) = b := by rw [hb1]; simp
    have hal : (A ++ ([h] ++ body)).length = A.length + 1 + k * R.sz c0 := by simp only [List.length_append, List.length_singleton]; omega
    rw [hb2, hal] at hrec
    have hrun : runV R b c0 (A.length + 1) k = l.take k := by
      apply List.ext_getElem
      · rw [runV_len, hlt]
      · intro i hi1 hi2
        rw [hlt] at hi2
        simp only [runV, List.getElem_map, List.getElem_range]
        have es : l.take k = (l.take k).take i ++ (l.take k)[i] :: (l.take k).drop (i + 1) := split_at _ _
        have hmem : (l.take k)[i] ∈ l.take k := List.getElem_mem _
        have hxi := hkinds _ hmem
        have hti : ((l.take k).take i).length = i := by rw [List.length_take, hlt]; omega
        have hbi := body_len hf (m := (l.take k).take i) (fun x hx => ⟨hD x (List.mem_of_mem_take (List.mem_of_mem_take hx)), hkinds x (List.mem_of_mem_take hx)⟩)
        rw [hti] at hbi
        have eb : body = ((l.take k).take i).flatMap (P.en c0) ++ (P.en c0 (l.take k)[i] ++ ((l.take k).drop (i + 1)).flatMap (P.en c0)) := by
          rw [← hbody]
          conv => lhs; rw [es]
          rw [List.flatMap_append, List.flatMap_cons]
        have hv' := hf.vl b (A ++ ([h] ++ ((l.take k).take i).flatMap (P.en c0))) (((l.take k).drop (i + 1)).flatMap (P.en c0) ++ rest ++ Z) (l.take k)[i] (hD _ (List.mem_of_mem_take hmem)) (by rw [hxi, hb1, eb]; simp only [List.append_assoc])
        rw [hxi] at hv'
        have e9 : (A ++ ([h] ++ ((l.take k).take i).flatMap (P.en c0))).length = A.length + 1 + i * R.sz c0 := by simp only [List.length_append, List.length_singleton]; omega
        rw [e9] at hv'
        exact hv'
    have hfin : (pk P l).length = 1 + body.length + rest.length := by rw [hpk]; simp only [List.length_append, List.length_singleton]; omega
    rw [hb, hm, rdF, if_pos hd, hv, hf.eM, q1, q2, show k - 1 + 1 = k by omega, hrec]
    dsimp only
    rw [hrun, List.take_append_drop, hfin, hbl]
    congr 2
    omega
theorem pk_read {P : Pk} {R : Rp} {D : Int → Prop} (hf : Fit P R D) {l : List Int} (hD : ∀ x ∈ l, D x) (A Z : List Nat) {f : Nat} (hfu : l.length ≤ f) : rdF R (A ++ (pk P l ++ Z)) f A.length l.length = some (l, A.length + (pk P l).length) := rd_pk hf _ l A Z f rfl hD hfu
/-- How many bytes: at most so many for each number, where a run's head and its numbers take no more. -/
theorem pk_short {P : Pk} {R : Rp} {D : Int → Prop} (hf : Fit P R D) {m : Nat} (hm : ∀ x, D x → R.sz (P.c x) + 1 ≤ m) : ∀ (n : Nat) (l : List Int), l.length = n → (∀ x ∈ l, D x) → (pk P l).length ≤ m * l.length := by
  intro n
  induction n using Nat.strongRecOn with
  | ind n ih =>
    intro l hn hD
    by_cases hl : l = []
    · subst hl; exact Nat.zero_le _
    have hpos : 0 < l.length := List.length_pos_iff.2 hl
    have h1 := rn_pos (c := P.c) hf.hM hl
    obtain ⟨h2, h3⟩ := rn_le (c := P.c) (M := P.M) l
    have hx0 : l.getD 0 0 ∈ l := by
      rw [List.getD_eq_getElem?_getD, List.getElem?_eq_getElem hpos]
      exact List.getElem_mem hpos
    have hrec := ih (l.drop (rn P.c P.M l)).length (by rw [List.length_drop]; omega) _ rfl (fun x hx => hD x (List.mem_of_mem_drop hx))
    have hbl := body_len hf (m := l.take (rn P.c P.M l)) (fun x hx => ⟨hD x (List.mem_of_mem_take hx), run_kinds x hx⟩)
    have hs := hm _ (hD _ hx0)
    have hlt : (l.take (rn P.c P.M l)).length = rn P.c P.M l := by rw [List.length_take]; omega
    rw [hlt] at hbl
    rw [List.length_drop] at hrec
    rw [pk_cons P hf.hM hl]
    simp only [List.length_append, List.length_singleton]
    rw [hbl]
    generalize rn P.c P.M l = k at *
    have e : l.length = k + (l.length - k) := by omega
    rw [e, Nat.mul_add]
    have h5 : 1 + k * R.sz (P.c (l.getD 0 0)) ≤ m * k := by
      have : k * (R.sz (P.c (l.getD 0 0)) + 1) ≤ k * m := Nat.mul_le_mul_left k hs
      rw [Nat.mul_add, Nat.mul_one, Nat.mul_comm k m] at this
      omega
    omega

end Go.Proofs.Ytngkckannclcmaa

namespace Go.Proofs.Ytngkckannclcmaa
set_option linter.unusedSimpArgs false
set_option linter.unusedVariables false

theorem V8_be1 {z : Int} (h1 : 0 ≤ z) (h2 : z ≤ 255) : ((V8 (be1 z) : Nat) : Int) = z := by
  simp only [be1, V8, List.foldl_cons, List.foldl_nil]
  omega
theorem V8_be2i {z : Int} (h1 : 0 ≤ z) (h2 : z ≤ 65535) : ((V8 (be2 z) : Nat) : Int) = z := by
  simp only [be2, V8, List.foldl_cons, List.foldl_nil]
  omega
/-- A byte with its sign. -/
def sx8 (v : Nat) : Int := if 128 ≤ v then (v : Int) - 256 else v
theorem sx_be1 {z : Int} (h1 : -128 ≤ z) (h2 : z ≤ 127) : sx8 (V8 (be1 z)) = z := by
  simp only [be1, V8, List.foldl_cons, List.foldl_nil]
  unfold sx8
  split <;> omega

/-- Changes. -/
def kdC (n : Int) : Nat := if n = 0 then 2 else if n < -128 ∨ 127 < n then 1 else 0
def enC (kd : Nat) (n : Int) : List Nat := if kd = 0 then be1 n else if kd = 1 then be2 n else []
def PC : Pk := ⟨kdC, 64, enC⟩
def szC (kd : Nat) : Nat := if kd = 0 then 1 else if kd = 1 then 2 else 0
def vlC (b : List Nat) (kd p : Nat) : Int := if kd = 0 then sx8 (nmV b (p : Int) 1) else if kd = 1 then sx16 (nmV b (p : Int) 2) else 0
def RC : Rp := ⟨64, 192, szC, vlC⟩
def DC (x : Int) : Prop := -32768 ≤ x ∧ x ≤ 32767
theorem kdC_cases (x : Int) : (x = 0 ∧ kdC x = 2) ∨ (x ≠ 0 ∧ (x < -128 ∨ 127 < x) ∧ kdC x = 1) ∨ (x ≠ 0 ∧ (-128 ≤ x ∧ x ≤ 127) ∧ kdC x = 0) := by
  unfold kdC
  by_cases h0 : x = 0
  · exact .inl ⟨h0, if_pos h0⟩
  · by_cases h1 : x < -128 ∨ 127 < x
    · exact .inr (.inl ⟨h0, h1, by rw [if_neg h0, if_pos h1]⟩)
    · exact .inr (.inr ⟨h0, by omega, by rw [if_neg h0, if_neg h1]⟩)
theorem fitC : Fit PC RC DC where
  hM := by decide
  eM := rfl
  top := fun x _ => by
    have : kdC x ≤ 2 := by rcases kdC_cases x with h | h | h <;> omega
    show 64 * kdC x + 64 ≤ 192 ∧ 64 * kdC x + 64 ≤ 256
    omega
  sz := fun x _ => by
    show (enC (kdC x) x).length = szC (kdC x)
    rcases kdC_cases x with h | h | h
    · rw [h.2]; rfl
    · rw [h.2.2]; rfl
    · rw [h.2.2]; rfl
  vl := fun b A Z x hx hb => by
    change b = A ++ (enC (kdC x) x ++ Z) at hb
    show vlC b (kdC x) A.length = x
    rcases kdC_cases x with h | h | h
    · rw [h.2, h.1]; rfl
    · rw [h.2.2] at hb ⊢
      have := nmV_at (q := A.length) (n := 2) (X := be2 x) hb rfl rfl
      show sx16 (nmV b (A.length : Int) 2) = x
      rw [this]
      exact sx_be2 hx.1 hx.2
    · rw [h.2.2] at hb ⊢
      have := nmV_at (q := A.length) (n := 1) (X := be1 x) hb rfl rfl
      show sx8 (nmV b (A.length : Int) 1) = x
      rw [this]
      exact sx_be1 h.2.1.1 h.2.1.2
  by' := fun x _ => by
    show Byt (enC (kdC x) x)
    rcases kdC_cases x with h | h | h
    · rw [h.2]; exact Byt.nil
    · rw [h.2.2]; exact byt_be2 _
    · rw [h.2.2]; exact byt_be1 _
theorem vlC_more (b Z : List Nat) (kd p : Nat) (h : p + RC.sz kd ≤ b.length) : RC.vl (b ++ Z) kd p = RC.vl b kd p := by
  change p + szC kd ≤ b.length at h
  show vlC (b ++ Z) kd p = vlC b kd p
  unfold szC at h
  unfold vlC
  by_cases h0 : kd = 0
  · rw [if_pos h0] at h; rw [if_pos h0, if_pos h0, nmV_more h]
  · by_cases h1 : kd = 1
    · rw [if_neg h0, if_pos h1] at h; rw [if_neg h0, if_pos h1, if_neg h0, if_pos h1, nmV_more h]
    · rw [if_neg h0, if_neg h1, if_neg h0, if_neg h1]
/-- Whether numbers are changes; how they are packed. -/
def chB (l : List Int) : Bool := l.all (fun z => decide (-32768 ≤ z ∧ z ≤ 32767)) && decide (l.length ≤ 2000)
theorem chB_iff {l : List Int} : chB l = true ↔ (∀ z ∈ l, DC z) ∧ l.length ≤ 2000 := by
  unfold chB DC
  simp only [Bool.and_eq_true, List.all_eq_true, decide_eq_true_iff]
def pcB (l : List Int) : List Nat := if chB l then pk PC l else []
def pcE (l : List Int) : Int := if chB l then 0 else 1
/-- What bytes are read as: so many changes. -/
def rcO (b : List Nat) (n : Int) : Option (List Int × Nat) := if 0 ≤ n ∧ n ≤ 2000 then rdF RC b n.toNat 0 n.toNat else none
def rcL (b : List Nat) (n : Int) : List Int := match rcO b n with | some p => p.1 | none => []
def rcN (b : List Nat) (n : Int) : Int := match rcO b n with | some p => (p.2 : Int) | none => 0
def rcE (b : List Nat) (n : Int) : Int := match rcO b n with | some _ => 0 | none => if 0 ≤ n ∧ n ≤ 2000 then 2 else 4
theorem rc_back {l : List Int} (h : chB l = true) (Z : List Nat) : rcO (pcB l ++ Z) (l.length : Int) = some (l, (pcB l).length) := by
  obtain ⟨h1, h2⟩ := chB_iff.1 h
  rw [rcO, if_pos (by omega), Int.toNat_natCast, pcB, if_pos h]
  have := pk_read fitC h1 [] Z (f := l.length) (Nat.le_refl _)
  simpa using this
theorem rc_cut {l : List Int} (h : chB l = true) {j : Nat} (hj : j < (pcB l).length) : rcO ((pcB l).take j) (l.length : Int) = none := by
  have h0 := rc_back h []
  rw [List.append_nil] at h0
  obtain ⟨h1, h2⟩ := chB_iff.1 h
  rw [rcO, if_pos (by omega), Int.toNat_natCast] at h0 ⊢
  exact rdF_cut RC vlC_more h0 hj (Nat.zero_le _)
theorem pc_short {l : List Int} (h : chB l = true) : (pcB l).length ≤ 3 * l.length := by
  rw [pcB, if_pos h]
  exact pk_short fitC (m := 3) (fun x _ => by show szC (kdC x) + 1 ≤ 3; unfold szC; split <;> (try split) <;> omega) _ l rfl (chB_iff.1 h).1
/-- Noughts take one byte for 64. -/
theorem pc_nought : ∀ n : Nat, (pk PC (List.replicate n 0)).length = (n + 63) / 64 := by
  intro n
  induction n using Nat.strongRecOn with
  | ind n ih =>
    by_cases hn : n = 0
    · subst hn; rfl
    have hl : List.replicate n (0 : Int) ≠ [] := by intro e; have := congrArg List.length e; simp at this; exact hn this
    have hg : ∀ j, (List.replicate n (0 : Int)).getD j 0 = 0 := fun j => by
      rw [List.getD_eq_getElem?_getD, List.getElem?_replicate]
      split <;> rfl
    have hr : rn PC.c PC.M (List.replicate n 0) = min 64 n := by
      refine rn_eq (by omega) (by show min 64 n ≤ 64; omega) (by simp; omega) (fun j _ => by rw [hg, hg]) ?_
      by_cases h64 : 64 ≤ n
      · exact .inl (by show min 64 n = 64; omega)
      · exact .inr (.inl (by simp; omega))
    rw [pk_cons PC (by decide) hl, hr, hg]
    have hb : ((List.replicate n (0 : Int)).take (min 64 n)).flatMap (PC.en (PC.c 0)) = [] := by
      rw [List.take_replicate]
      refine List.flatMap_eq_nil_iff.2 (fun x hx => ?_)
      rw [(List.mem_replicate.1 hx).2]
      rfl
    rw [hb, List.drop_replicate, List.nil_append, List.length_append, ih (n - min 64 n) (by omega), List.length_singleton]
    omega

/-- Point numbers: their steps. -/
def kdP (n : Int) : Nat := if 255 < n then 1 else 0
def enP (kd : Nat) (n : Int) : List Nat := if kd = 0 then be1 n else be2 n
def PP : Pk := ⟨kdP, 128, enP⟩
def szP (kd : Nat) : Nat := if kd = 0 then 1 else 2
def vlP (b : List Nat) (kd p : Nat) : Int := if kd = 0 then ((nmV b (p : Int) 1 : Nat) : Int) else ((nmV b (p : Int) 2 : Nat) : Int)
def RPt : Rp := ⟨128, 256, szP, vlP⟩
def DP (x : Int) : Prop := 0 ≤ x ∧ x ≤ 65535
theorem kdP_cases (x : Int) : (255 < x ∧ kdP x = 1) ∨ (x ≤ 255 ∧ kdP x = 0) := by
  unfold kdP
  by_cases h : 255 < x
  · exact .inl ⟨h, if_pos h⟩
  · exact .inr ⟨by omega, if_neg h⟩
theorem fitP : Fit PP RPt DP where
  hM := by decide
  eM := rfl
  top := fun x _ => by
    have : kdP x ≤ 1 := by rcases kdP_cases x with h | h <;> omega
    show 128 * kdP x + 128 ≤ 256 ∧ 128 * kdP x + 128 ≤ 256
    omega
  sz := fun x _ => by
    show (enP (kdP x) x).length = szP (kdP x)
    rcases kdP_cases x with h | h <;> rw [h.2] <;> rfl
  vl := fun b A Z x hx hb => by
    change b = A ++ (enP (kdP x) x ++ Z) at hb
    show vlP b (kdP x) A.length = x
    rcases kdP_cases x with h | h
    · rw [h.2] at hb ⊢
      have := nmV_at (q := A.length) (n := 2) (X := be2 x) hb rfl rfl
      show ((nmV b (A.length : Int) 2 : Nat) : Int) = x
      rw [this]
      exact V8_be2i hx.1 hx.2
    · rw [h.2] at hb ⊢
      have := nmV_at (q := A.length) (n := 1) (X := be1 x) hb rfl rfl
      show ((nmV b (A.length : Int) 1 : Nat) : Int) = x
      rw [this]
      exact V8_be1 hx.1 h.1
  by' := fun x _ => by
    show Byt (enP (kdP x) x)
    rcases kdP_cases x with h | h <;> rw [h.2]
    · exact byt_be2 _
    · exact byt_be1 _
theorem vlP_more (b Z : List Nat) (kd p : Nat) (h : p + RPt.sz kd ≤ b.length) : RPt.vl (b ++ Z) kd p = RPt.vl b kd p := by
  change p + szP kd ≤ b.length at h
  show vlP (b ++ Z) kd p = vlP b kd p
  unfold szP at h
  unfold vlP
  by_cases h0 : kd = 0
  · rw [if_pos h0] at h; rw [if_pos h0, if_pos h0, nmV_more h]
  · rw [if_neg h0] at h; rw [if_neg h0, if_neg h0, nmV_more h]
/-- Steps, and sums. -/
def stps (a : Int) : List Int → List Int
  | [] => []
  | x :: t => (x - a) :: stps x t
def sums (a : Int) : List Int → List Int
  | [] => []
  | d :: t => (a + d) :: sums (a + d) t
theorem stps_len (a : Int) (l : List Int) : (stps a l).length = l.length := by
  induction l generalizing a with
  | nil => rfl
  | cons x t ih => rw [stps, List.length_cons, ih, List.length_cons]
theorem sums_len (a : Int) (l : List Int) : (sums a l).length = l.length := by
  induction l generalizing a with
  | nil => rfl
  | cons x t ih => rw [sums, List.length_cons, ih, List.length_cons]
theorem sums_stps (a : Int) (l : List Int) : sums a (stps a l) = l := by
  induction l generalizing a with
  | nil => rfl
  | cons x t ih => rw [stps, sums, show a + (x - a) = x by omega, ih]
def lastS (a : Int) : List Int → Int
  | [] => a
  | d :: t => lastS (a + d) t
theorem sums_append (a : Int) (d e : List Int) : sums a (d ++ e) = sums a d ++ sums (lastS a d) e := by
  induction d generalizing a with
  | nil => rfl
  | cons x t ih => rw [List.cons_append, sums, sums, ih, List.cons_append]; rfl
theorem lastS_append (a : Int) (d e : List Int) : lastS a (d ++ e) = lastS (lastS a d) e := by
  induction d generalizing a with
  | nil => rfl
  | cons x t ih => rw [List.cons_append, lastS, lastS, ih]
/-- Whether numbers are point numbers: above one that is ahead. -/
def ptF (a : Int) : List Int → Bool
  | [] => true
  | x :: t => decide (a < x ∧ x ≤ 65535) && ptF x t
def ptB (l : List Int) : Bool := ptF (-1) l && decide (l.length ≤ 2000)
theorem ptF_steps : ∀ (l : List Int) (a : Int), -1 ≤ a → ptF a l = true → ∀ z ∈ stps (max a 0) l, DP z := by
  intro l
  induction l with
  | nil => intro a _ _ z hz; cases hz
  | cons x t ih =>
    intro a ha h z hz
    rw [ptF, Bool.and_eq_true, decide_eq_true_iff] at h
    rw [stps] at hz
    rcases List.mem_cons.1 hz with hz | hz
    · rw [hz]
      unfold DP
      omega
    · have := ih x (by omega) h.2 z
      rw [show max x 0 = x by omega] at this
      exact this hz
theorem ptB_steps {l : List Int} (h : ptB l = true) : (∀ z ∈ stps 0 l, DP z) ∧ l.length ≤ 2000 := by
  unfold ptB at h
  rw [Bool.and_eq_true, decide_eq_true_iff] at h
  have := ptF_steps l (-1) (by omega) h.1
  rw [show max (-1 : Int) 0 = 0 by omega] at this
  exact ⟨this, h.2⟩
/-- How many there are. -/
def cnE (n : Nat) : List Nat := if n < 128 then [n] else [128 + n / 256, n % 256]
def ppB (l : List Int) : List Nat := if ptB l then cnE l.length ++ pk PP (stps 0 l) else []
def ppE (l : List Int) : Int := if ptB l then 0 else 1
/-- What bytes say: how many, where the runs begin, whether that is there. -/
def ptN (b : List Nat) : Nat := if 128 ≤ nmV b 0 1 then (nmV b 0 1 - 128) * 256 + nmV b 1 1 else nmV b 0 1
def ptA (b : List Nat) : Nat := if 128 ≤ nmV b 0 1 then 2 else 1
def ptO (b : List Nat) : Bool := decide (ptA b ≤ b.length)
def rpO (b : List Nat) : Option (List Int × Nat) := if ptO b then (match rdF RPt b (ptN b) (ptA b) (ptN b) with | some p => if ptB (sums 0 p.1) then some (sums 0 p.1, p.2) else none | none => none) else none
def rpL (b : List Nat) : List Int := match rpO b with | some p => p.1 | none => []
def rpN (b : List Nat) : Int := match rpO b with | some p => (p.2 : Int) | none => 0
def rpE (b : List Nat) : Int := match rpO b with | some _ => 0 | none => 2
theorem cnE_read {n : Nat} (hn : n ≤ 2000) (Z : List Nat) : ptN (cnE n ++ Z) = n ∧ ptA (cnE n ++ Z) = (cnE n).length ∧ ptO (cnE n ++ Z) = true := by
  unfold ptN ptA ptO ptA cnE
  by_cases h : n < 128
  · rw [if_pos h]
    have v := nmV_at (b := [n] ++ Z) (A := []) (X := [n]) (Z := Z) (q := 0) (n := 1) rfl rfl rfl
    have v' : nmV ([n] ++ Z) 0 1 = n := by
      have e : V8 [n] = n := by simp [V8]
      exact v.trans e
    rw [v', if_neg (by omega), if_neg (by omega)]
    refine ⟨rfl, rfl, decide_eq_true (by simp)⟩
  · rw [if_neg h]
    have v := nmV_at (b := [128 + n / 256, n % 256] ++ Z) (A := []) (X := [128 + n / 256]) (Z := [n % 256] ++ Z) (q := 0) (n := 1) rfl rfl rfl
    have w := nmV_at (b := [128 + n / 256, n % 256] ++ Z) (A := [128 + n / 256]) (X := [n % 256]) (Z := Z) (q := 1) (n := 1) rfl rfl rfl
    have v' : nmV ([128 + n / 256, n % 256] ++ Z) 0 1 = 128 + n / 256 := by
      have e : V8 [128 + n / 256] = 128 + n / 256 := by simp [V8]
      exact v.trans e
    have w' : nmV ([128 + n / 256, n % 256] ++ Z) 1 1 = n % 256 := by
      have e : V8 [n % 256] = n % 256 := by simp [V8]
      exact w.trans e
    rw [v', w', if_pos (by omega), if_pos (by omega)]
    refine ⟨by omega, rfl, decide_eq_true (by simp)⟩
theorem rp_back {l : List Int} (h : ptB l = true) (Z : List Nat) : rpO (ppB l ++ Z) = some (l, (ppB l).length) := by
  obtain ⟨h1, h2⟩ := ptB_steps h
  have hr := pk_read fitP h1 (cnE l.length) Z (f := l.length) (by rw [stps_len]; exact Nat.le_refl _)
  rw [stps_len] at hr
  rw [ppB, if_pos h, List.append_assoc, rpO]
  obtain ⟨c1, c2, c3⟩ := cnE_read h2 (pk PP (stps 0 l) ++ Z)
  rw [c1, c2, c3, if_pos rfl, hr]
  dsimp only
  rw [sums_stps, if_pos h, List.length_append]
theorem rp_cut {l : List Int} (h : ptB l = true) {j : Nat} (hj : j < (ppB l).length) : rpO ((ppB l).take j) = none := by
  obtain ⟨h1, h2⟩ := ptB_steps h
  have hp : ppB l = cnE l.length ++ pk PP (stps 0 l) := by rw [ppB, if_pos h]
  have hr := pk_read fitP h1 (cnE l.length) [] (f := l.length) (by rw [stps_len]; exact Nat.le_refl _)
  rw [stps_len, List.append_nil, ← hp] at hr
  have hl : (cnE l.length).length + (pk PP (stps 0 l)).length = (ppB l).length := by rw [hp, List.length_append]
  rw [hl] at hr
  obtain ⟨c1, c2, c3⟩ := cnE_read h2 (pk PP (stps 0 l))
  rw [← hp] at c1 c2 c3
  have hc3 := of_decide_eq_true c3
  rw [rpO]
  cases ho : ptO ((ppB l).take j) with
  | false => rfl
  | true =>
    have ho' := of_decide_eq_true ho
    rw [List.length_take] at ho'
    have a1 : 1 ≤ j := by
      have : 1 ≤ ptA ((ppB l).take j) := by unfold ptA; split <;> omega
      omega
    have e0 : nmV ((ppB l).take j) 0 1 = nmV (ppB l) 0 1 := by
      have := nmV_more (b := (ppB l).take j) (Z := (ppB l).drop j) (p := 0) (n := 1) (by rw [List.length_take]; omega)
      rw [List.take_append_drop] at this
      exact this.symm
    have eA : ptA ((ppB l).take j) = ptA (ppB l) := by unfold ptA; rw [e0]
    have eN : ptN ((ppB l).take j) = ptN (ppB l) := by
      unfold ptN
      rw [e0]
      by_cases h128 : 128 ≤ nmV (ppB l) 0 1
      · have hA : ptA (ppB l) = 2 := by unfold ptA; rw [if_pos h128]
        have e1 : nmV ((ppB l).take j) 1 1 = nmV (ppB l) 1 1 := by
          have := nmV_more (b := (ppB l).take j) (Z := (ppB l).drop j) (p := 1) (n := 1) (by rw [List.length_take]; rw [eA, hA] at ho'; omega)
          rw [List.take_append_drop] at this
          exact this.symm
        rw [e1]
      · rw [if_neg h128, if_neg h128]
    rw [if_pos rfl, eN, eA, c1, c2, rdF_cut RPt vlP_more hr hj (by rw [← c2, ← eA]; omega)]
/-- What 'awake' is about. -/
theorem aw11 : ptB [3, 5, 300] = true ∧ ppB [3, 5, 300] = [3, 1, 3, 2, 128, 1, 39] := by decide +kernel

end Go.Proofs.Ytngkckannclcmaa

namespace Go.Proofs.Ytngkckannclcmaa
set_option linter.unusedSimpArgs false
set_option linter.unusedVariables false

/-- Point numbers, by their places. -/
theorem ptF_iff : ∀ (l : List Int) (a : Int), ptF a l = true ↔ ∀ i, i < l.length → (if i = 0 then a else l.getD (i - 1) 0) < l.getD i 0 ∧ l.getD i 0 ≤ 65535 := by
  intro l
  induction l with
  | nil => intro a; exact ⟨fun _ i hi => by simp at hi, fun _ => rfl⟩
  | cons x t ih =>
    intro a
    rw [ptF, Bool.and_eq_true, decide_eq_true_iff, ih]
    constructor
    · rintro ⟨h1, h2⟩ i hi
      cases i with
      | zero => simpa using h1
      | succ i =>
        have := h2 i (by simpa using hi)
        cases i with
        | zero => simpa using this
        | succ i => simpa using this
    · intro h
      refine ⟨by simpa using h 0 (by simp), fun i hi => ?_⟩
      have := h (i + 1) (by simpa using hi)
      cases i with
      | zero => simpa using this
      | succ i => simpa using this
theorem ptB_yes {l : List Int} (h : ∀ i, i < l.length → 0 ≤ l.getD i 0 ∧ l.getD i 0 ≤ 65535 ∧ (0 < i → l.getD (i - 1) 0 < l.getD i 0)) : ptB l = decide (l.length ≤ 2000) := by
  unfold ptB
  rw [(ptF_iff l (-1)).2 (fun i hi => by
    obtain ⟨h1, h2, h3⟩ := h i hi
    split
    · omega
    · exact ⟨h3 (by omega), h2⟩), Bool.true_and]
theorem ptB_at {l : List Int} (h : ptB l = true) {i : Nat} (hi : i < l.length) : 0 ≤ l.getD i 0 ∧ l.getD i 0 ≤ 65535 ∧ (0 < i → l.getD (i - 1) 0 < l.getD i 0) := by
  unfold ptB at h
  rw [Bool.and_eq_true] at h
  have key := (ptF_iff l (-1)).1 h.1
  have hge : ∀ j, j < l.length → 0 ≤ l.getD j 0 := by
    intro j
    induction j with
    | zero => intro hj; have := key 0 hj; rw [if_pos rfl] at this; omega
    | succ j ih => intro hj; have := key (j + 1) hj; have h2 := ih (by omega); rw [if_neg (by omega)] at this; simp only [Nat.add_sub_cancel] at this; omega
  have := key i hi
  refine ⟨hge i hi, this.2, fun h0 => ?_⟩
  rw [if_neg (by omega)] at this
  exact this.1
theorem ptB_no {l : List Int} {i : Nat} (hi : i < l.length) (h : l.getD i 0 < 0 ∨ 65535 < l.getD i 0 ∨ (0 < i ∧ l.getD i 0 ≤ l.getD (i - 1) 0)) : ptB l = false := by
  rw [Bool.eq_false_iff]
  intro e
  obtain ⟨h1, h2, h3⟩ := ptB_at e hi
  rcases h with h | h | ⟨h, h4⟩
  · omega
  · omega
  · have := h3 h
    omega
theorem chB_no {l : List Int} {i : Nat} (hi : i < l.length) (h : l.getD i 0 < -32768 ∨ 32767 < l.getD i 0) : chB l = false := by
  rw [Bool.eq_false_iff]
  intro e
  have := (chB_iff.1 e).1 (l.getD i 0) (by rw [List.getD_eq_getElem?_getD, List.getElem?_eq_getElem hi]; exact List.getElem_mem hi)
  unfold DC at this
  omega
theorem chB_yes {l : List Int} (h : ∀ i, i < l.length → -32768 ≤ l.getD i 0 ∧ l.getD i 0 ≤ 32767) : chB l = decide (l.length ≤ 2000) := by
  unfold chB
  have : l.all (fun z => decide (-32768 ≤ z ∧ z ≤ 32767)) = true := by
    rw [List.all_eq_true]
    intro z hz
    obtain ⟨i, hi, e⟩ := List.getElem_of_mem hz
    have := h i hi
    rw [List.getD_eq_getElem?_getD, List.getElem?_eq_getElem hi] at this
    rw [← e]
    exact decide_eq_true this
  rw [this, Bool.true_and]
/-- The steps, one by one. -/
def stpK (l : List Int) (k : Nat) : List Int := (List.range k).map (fun i => if i = 0 then l.getD 0 0 else l.getD i 0 - l.getD (i - 1) 0)
theorem stpK_len (l : List Int) (k : Nat) : (stpK l k).length = k := by simp [stpK]
theorem stpK_succ (l : List Int) (k : Nat) : stpK l (k + 1) = stpK l k ++ [if k = 0 then l.getD 0 0 else l.getD k 0 - l.getD (k - 1) 0] := by simp [stpK, List.range_succ]
theorem stps_get : ∀ (l : List Int) (a : Int) (i : Nat), i < l.length → (stps a l).getD i 0 = if i = 0 then l.getD 0 0 - a else l.getD i 0 - l.getD (i - 1) 0 := by
  intro l
  induction l with
  | nil => intro a i hi; simp at hi
  | cons x t ih =>
    intro a i hi
    cases i with
    | zero => rfl
    | succ i =>
      rw [stps, List.getD_cons_succ, ih x i (by simpa using hi)]
      cases i with
      | zero => simp
      | succ i => simp
theorem stpK_eq (l : List Int) : stpK l l.length = stps 0 l := by
  apply List.ext_getElem
  · rw [stpK_len, stps_len]
  · intro i h1 h2
    rw [stps_len] at h2
    have h := stps_get l 0 i h2
    rw [List.getD_eq_getElem?_getD, List.getElem?_eq_getElem (by rw [stps_len]; exact h2)] at h
    simp only [Option.getD_some] at h
    rw [h]
    simp only [stpK, List.getElem_map, List.getElem_range]
    split <;> simp

end Go.Proofs.Ytngkckannclcmaa
