/-
  The text of a fraction tells which number it is.
-/
import Derived.Test.YtefdkajjdaplbaaDoorQ8
namespace Go.Proofs.YtefdkajjdaplbaaDoor
open Go.RowKit Go.Lib
set_option linter.unusedSimpArgs false
set_option linter.unusedVariables false

def valOf (l : List UInt8) : Nat := l.foldl (fun acc c => acc * 10 + (c.toNat - 48)) 0

theorem dig_toNat {d : Nat} (h : d < 10) : (UInt8.ofNat (48 + d)).toNat = 48 + d := by
  simp [UInt8.toNat_ofNat']; omega

theorem valOf_dec (u : Nat) : valOf (decDigits u) = u := by
  induction u using Nat.strongRecOn with
  | ind u ih =>
    by_cases h : u < 10
    · rw [decDigits_one h]
      simp [valOf]
      omega
    · rw [dec_big h]
      have h1 := ih (u / 10) (by omega)
      unfold valOf at h1 ⊢
      rw [List.foldl_append, h1]
      simp only [List.foldl_cons, List.foldl_nil]
      rw [dig_toNat (by omega)]
      omega

theorem dec_digit (u : Nat) : ∀ c ∈ decDigits u, 48 ≤ c.toNat ∧ c.toNat ≤ 57 := by
  induction u using Nat.strongRecOn with
  | ind u ih =>
    intro c hc
    by_cases h : u < 10
    · rw [decDigits_one h] at hc
      simp only [List.mem_singleton] at hc
      subst hc
      rw [dig_toNat h]; omega
    · rw [dec_big h] at hc
      rcases List.mem_append.1 hc with h1 | h1
      · exact ih _ (by omega) c h1
      · simp only [List.mem_singleton] at h1
        subst h1
        rw [dig_toNat (by omega)]; omega

theorem dec_ne (u : Nat) {c d : UInt8} (hc : c ∈ decDigits u) (hd : d.toNat < 48) : c ≠ d := by
  rintro rfl
  have := dec_digit u c hc
  omega

theorem dec_cons (u : Nat) : ∃ c t, decDigits u = c :: t ∧ c ≠ 45 := by
  cases h : decDigits u with
  | nil =>
    have := decDigits_length u
    rw [h] at this
    have h2 : 1 ≤ nDigits u := by rw [nDigits]; split <;> omega
    simp at this; omega
  | cons c t =>
    refine ⟨c, t, rfl, ?_⟩
    exact dec_ne u (by rw [h]; simp) (by decide)

/-- Read back. -/
def unSign (l : List UInt8) : List UInt8 := if l.head? = some 45 then l.tail else l
def unNum (l : List UInt8) : Nat := valOf (l.takeWhile (· != 47))
def unDen (l : List UInt8) : Nat := match l.dropWhile (· != 47) with
  | [] => 1
  | _ :: t => valOf t

theorem take_dec (u : Nat) (l : List UInt8) : (decDigits u ++ 47 :: l).takeWhile (· != 47) = decDigits u := by
  rw [List.takeWhile_append_of_pos (fun c hc => by simpa using dec_ne u hc (d := 47) (by decide))]
  simp
theorem take_dec' (u : Nat) : (decDigits u).takeWhile (· != 47) = decDigits u := by
  have := List.takeWhile_append_of_pos (p := (· != (47 : UInt8))) (l₁ := decDigits u) (l₂ := []) (fun c hc => by simpa using dec_ne u hc (d := 47) (by decide))
  simpa using this
theorem drop_dec (u : Nat) (l : List UInt8) : (decDigits u ++ 47 :: l).dropWhile (· != 47) = 47 :: l := by
  rw [List.dropWhile_append_of_pos (fun c hc => by simpa using dec_ne u hc (d := 47) (by decide))]
  simp
theorem drop_dec' (u : Nat) : (decDigits u).dropWhile (· != 47) = [] := by
  have := List.dropWhile_append_of_pos (p := (· != (47 : UInt8))) (l₁ := decDigits u) (l₂ := []) (fun c hc => by simpa using dec_ne u hc (d := 47) (by decide))
  simpa using this

def body (q : Rat) : List UInt8 := decDigits q.num.natAbs ++ (if q.den = 1 then [] else 47 :: decDigits q.den)
theorem txt_body (q : Rat) : txt q = (if q < 0 then [45] else []) ++ body q := rfl
theorem body_head (q : Rat) : (body q).head? ≠ some 45 := by
  obtain ⟨c, t, h, hc⟩ := dec_cons q.num.natAbs
  unfold body
  rw [h]
  simpa using hc
theorem txt_sign (q : Rat) : ((txt q).head? = some 45) ↔ q < 0 := by
  rw [txt_body]
  by_cases h : q < 0
  · simp [h]
  · simp [h, body_head]
theorem txt_rest (q : Rat) : unSign (txt q) = body q := by
  unfold unSign
  by_cases h : q < 0
  · rw [if_pos ((txt_sign q).2 h), txt_body, if_pos h]; rfl
  · rw [if_neg (fun h1 => h ((txt_sign q).1 h1)), txt_body, if_neg h]; rfl
theorem body_num (q : Rat) : unNum (body q) = q.num.natAbs := by
  unfold unNum body
  by_cases h : q.den = 1
  · rw [if_pos h, List.append_nil, take_dec', valOf_dec]
  · rw [if_neg h, take_dec, valOf_dec]
theorem body_den (q : Rat) : unDen (body q) = q.den := by
  unfold unDen body
  by_cases h : q.den = 1
  · rw [if_pos h, List.append_nil, drop_dec']; exact h.symm
  · rw [if_neg h, drop_dec]; exact valOf_dec _

theorem txt_inj {q r : Rat} (h : txt q = txt r) : q = r := by
  have h1 : q < 0 ↔ r < 0 := by rw [← txt_sign, ← txt_sign, h]
  have hb : body q = body r := by rw [← txt_rest, ← txt_rest, h]
  have h2 : q.num.natAbs = r.num.natAbs := by rw [← body_num, ← body_num, hb]
  have h3 : q.den = r.den := by rw [← body_den, ← body_den, hb]
  have s1 : 0 ≤ q.num ↔ 0 ≤ r.num := by rw [Rat.num_nonneg, Rat.num_nonneg, ← Rat.not_lt, ← Rat.not_lt, h1]
  exact Rat.ext (by omega) h3

end Go.Proofs.YtefdkajjdaplbaaDoor
