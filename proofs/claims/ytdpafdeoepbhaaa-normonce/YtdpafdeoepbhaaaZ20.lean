/-
  foundryref01.Bit, bits: the walks.
  foundryref01.length, up: the walks.
  foundryref01.Sub: the walk.
  foundryref01.Div: the walk.
  foundryref01.Small, Gcd: the walks.
-/
import Derived.Test.YtdpafdeoepbhaaaZ19
import Derived.Test.YtdpafdeoepbhaaaZ3
import Derived.Laws.BitsAllLaws
import Derived.Test.YtdpafdeoepbhaaaZ5
import Derived.Outline
namespace Go.Proofs.Ytdpafdeoepbhaaa
open Go.RowKit
set_option linter.unusedSimpArgs false
set_option linter.unusedVariables false

theorem and_one_u32 (n : Nat) (h : n < 4294967296) : bits BinOp.and IntKind.u32 (n : Int) 1 = ((n % 2 : Nat) : Int) := by
  have := u32_and_nat n 1 h (by decide)
  rw [Nat.and_one_is_mod] at this
  exact this

/-- A bit of a number is a bit of one of its limbs. -/
theorem V_bit (xs : List Nat) (lm : Lim xs) (i : Nat) : V xs / 2 ^ i % 2 = xs.getD (i / 32) 0 / 2 ^ (i % 32) % 2 := by
  have e := V_take_drop xs (i / 32)
  have hd := V_head_tail (xs.drop (i / 32))
  have hg : (xs.drop (i / 32)).getD 0 0 = xs.getD (i / 32) 0 := by simp [List.getD]
  rw [hg] at hd
  have hl : V (xs.take (i / 32)) < 4294967296 ^ (i / 32) := by
    have := V_take_Sv xs (i / 32)
    rw [this]
    exact Sv_lt (fun j _ => lm.getD j)
  have hp : 2 ^ i = 4294967296 ^ (i / 32) * 2 ^ (i % 32) := by
    rw [show (4294967296 : Nat) = 2 ^ 32 from rfl, ← Nat.pow_mul, ← Nat.pow_add, Nat.div_add_mod]
  rw [hp, ← Nat.div_div_eq_div_mul, e, Nat.add_mul_div_left _ _ (Nat.pow_pos (by decide)), Nat.div_eq_of_lt hl, Nat.zero_add, hd]
  generalize V (xs.drop (i / 32)).tail = T
  generalize xs.getD (i / 32) 0 = x
  have h32 : (4294967296 : Nat) = 2 ^ (i % 32) * (2 * 2 ^ (31 - i % 32)) := by
    have : (4294967296 : Nat) = 2 ^ 32 := rfl
    rw [this, ← Nat.pow_succ', ← Nat.pow_add]
    congr 1
    omega
  rw [h32, Nat.mul_assoc, Nat.add_mul_div_left _ _ (Nat.pow_pos (by decide)), Nat.mul_assoc, Nat.add_mul_mod_self_left]

theorem pow_32 (m : Nat) : 4294967296 ^ m = 2 ^ (32 * m) := by rw [Nat.pow_mul]

end Go.Proofs.Ytdpafdeoepbhaaa

namespace Go.Proofs.Ytdpafdeoepbhaaa
open Go.RowKit
set_option linter.unusedSimpArgs false
set_option linter.unusedVariables false

theorem lt_pow_of_bit {v j : Nat} (h : v < 2 ^ (j + 1)) (hb : v / 2 ^ j % 2 = 0) : v < 2 ^ j := by
  have hp : 0 < 2 ^ j := Nat.pow_pos (by decide)
  rw [Nat.pow_succ] at h
  have h1 : v / 2 ^ j < 2 := Nat.div_lt_of_lt_mul (by omega)
  have h2 : v / 2 ^ j = 0 := by generalize v / 2 ^ j = t at h1 hb ⊢; omega
  rcases (Nat.div_eq_zero_iff).1 h2 with h3 | h3
  · omega
  · exact h3
theorem pow_le_of_bit {v j : Nat} (hb : v / 2 ^ j % 2 = 1) : 2 ^ j ≤ v := by
  rcases Nat.lt_or_ge v (2 ^ j) with h | h
  · rw [Nat.div_eq_of_lt h] at hb; simp at hb
  · exact h

theorem up_step {zs xs : List Nat} {m k cy x p s : Nat} (hz : zs.length = m + k) (he : V zs + 4294967296 ^ (m + k) * cy = 4294967296 ^ m * (V (xs.take k) * 2 ^ s)) (hx : xs.getD k 0 = x) (hp : x * 2 ^ s = p) :
    V (zs ++ [(cy + p) % 4294967296]) + 4294967296 ^ (m + (k + 1)) * ((cy + p) / 4294967296) = 4294967296 ^ m * (V (xs.take (k + 1)) * 2 ^ s) := by
  rw [V_snoc, hz, V_take_succ, hx, ← Nat.add_assoc, Nat.pow_succ]
  have hd := Nat.mod_add_div (cy + p) 4294967296
  generalize (cy + p) % 4294967296 = r at hd ⊢
  generalize (cy + p) / 4294967296 = d at hd ⊢
  subst hp
  rw [Nat.pow_add] at he ⊢
  generalize 4294967296 ^ k = q at he ⊢
  generalize 4294967296 ^ m = t at he ⊢
  generalize V zs = o at he ⊢
  generalize V (xs.take k) = A at he ⊢
  generalize 2 ^ s = S at he hd ⊢
  have h1 : t * q * (r + 4294967296 * d) = t * q * (cy + x * S) := by rw [hd]
  grind

end Go.Proofs.Ytdpafdeoepbhaaa

namespace Go.Proofs.Ytdpafdeoepbhaaa
open Go.RowKit
set_option linter.unusedSimpArgs false
set_option linter.unusedVariables false
end Go.Proofs.Ytdpafdeoepbhaaa

namespace Go.Proofs.Ytdpafdeoepbhaaa
open Go.RowKit
set_option linter.unusedSimpArgs false
set_option linter.unusedVariables false

theorem rdiv_start {A B la lb n : Nat} (ha : A < 2 ^ la) (hb : 2 ^ (lb - 1) ≤ B) (hlb : 1 ≤ lb) (hn : la - lb ≤ n) : A < B * 2 ^ (n + 1) := by
  have h1 : 2 ^ (lb - 1) * 2 ^ (n + 1) ≤ B * 2 ^ (n + 1) := Nat.mul_le_mul_right _ hb
  rw [← Nat.pow_add] at h1
  have h2 : 2 ^ la ≤ 2 ^ (lb - 1 + (n + 1)) := Nat.pow_le_pow_right (by decide) (by omega)
  omega

/-- A limb of a number whose low bits are 0 has room for one more. -/
theorem limb_room {Q : List Nat} (lQ : Lim Q) {i : Nat} (h : V Q % 2 ^ (i + 1) = 0) : Q.getD (i / 32) 0 + 2 ^ (i % 32) < 4294967296 := by
  have e := V_take_drop Q (i / 32)
  have hd := V_head_tail (Q.drop (i / 32))
  have hg : (Q.drop (i / 32)).getD 0 0 = Q.getD (i / 32) 0 := by simp [List.getD]
  rw [hg] at hd
  have hl : V (Q.take (i / 32)) < 4294967296 ^ (i / 32) := by rw [V_take_Sv]; exact Sv_lt (fun j _ => lQ.getD j)
  have hx := lQ.getD (i / 32)
  have hp : 2 ^ (i + 1) = 4294967296 ^ (i / 32) * 2 ^ (i % 32 + 1) := by rw [pow_32, ← Nat.pow_add]; congr 1; omega
  have hP : 0 < 4294967296 ^ (i / 32) := Nat.pow_pos (by decide)
  obtain ⟨t, ht⟩ := Nat.dvd_of_mod_eq_zero h
  have h1 : V (Q.drop (i / 32)) = 2 ^ (i % 32 + 1) * t := by
    have : V Q / 4294967296 ^ (i / 32) = V (Q.drop (i / 32)) := by rw [e, Nat.add_mul_div_left _ _ hP, Nat.div_eq_of_lt hl, Nat.zero_add]
    rw [← this, ht, hp, Nat.mul_assoc, Nat.mul_div_cancel_left _ hP]
  have h32 : (4294967296 : Nat) = 2 ^ (i % 32 + 1) * 2 ^ (31 - i % 32) := by rw [← Nat.pow_add, show i % 32 + 1 + (31 - i % 32) = 32 by omega]
  have hS : 0 < 2 ^ (i % 32) := Nat.pow_pos (by decide)
  generalize Q.getD (i / 32) 0 = x at *
  generalize V (Q.drop (i / 32)).tail = T at *
  have h2 : x % 2 ^ (i % 32 + 1) = 0 := by
    have h3 : (x + 4294967296 * T) % 2 ^ (i % 32 + 1) = 0 := by rw [← hd, h1, Nat.mul_mod_right]
    rw [h32, Nat.mul_assoc, Nat.add_mul_mod_self_left] at h3
    exact h3
  obtain ⟨u, hu⟩ := Nat.dvd_of_mod_eq_zero h2
  rw [h32] at hx ⊢
  rw [Nat.pow_succ] at *
  generalize 2 ^ (i % 32) = S at *
  generalize 2 ^ (31 - i % 32) = R at *
  rw [hu] at hx ⊢
  have hur : u < R := Nat.lt_of_mul_lt_mul_left hx
  have h4 : S * 2 * (u + 1) ≤ S * 2 * R := Nat.mul_le_mul_left _ hur
  rw [Nat.mul_add, Nat.mul_one] at h4
  omega

theorem V_set_add {Q : List Nat} {j d : Nat} (h : j < Q.length) : V (Q.set j (Q.getD j 0 + d)) = V Q + 4294967296 ^ j * d := by
  have e1 := V_take_drop (Q.set j (Q.getD j 0 + d)) j
  have e2 := V_take_drop Q j
  rw [V_drop, getD_set_eq _ _ _ h, List.drop_set_of_lt (by omega), List.take_set_of_le (by omega)] at e1
  rw [V_drop Q j] at e2
  rw [e1, e2]
  generalize 4294967296 ^ j = p
  grind

theorem rdiv_take {R B A Qv i : Nat} (hinv : R + B * Qv = A) (hge : B * 2 ^ i ≤ R) : (R - B * 2 ^ i) + B * (Qv + 2 ^ i) = A := by
  rw [Nat.mul_add]; omega
theorem rdiv_less {R B i : Nat} (h : R < B * 2 ^ (i + 1)) (hge : B * 2 ^ i ≤ R) : R - B * 2 ^ i < B * 2 ^ i := by
  rw [Nat.pow_succ, ← Nat.mul_assoc] at h; omega
theorem mod_low {v i : Nat} (h : v % 2 ^ (i + 1) = 0) : v % 2 ^ i = 0 := by
  obtain ⟨t, ht⟩ := Nat.dvd_of_mod_eq_zero h
  rw [ht, Nat.pow_succ, Nat.mul_assoc, Nat.mul_mod_right]
theorem mod_low_add {v i : Nat} (h : v % 2 ^ (i + 1) = 0) : (v + 2 ^ i) % 2 ^ i = 0 := by
  rw [Nat.add_mod_right]; exact mod_low h

theorem Res.addr {e : TypeId} {base : Nat} {w : World} {a : Option Addr} {cap : Nat} {xs : List Nat} (h : Res e base w a cap xs) (g o : Nat) (ha : a = some ⟨g, o, none⟩) : base ≤ g ∧ g < w.heap.size := by
  rcases h.2.2 with ⟨h0, _⟩ | ⟨g', cap', cur, h1, h2, h3, _⟩
  · rw [ha] at h0; cases h0
  · rw [ha] at h1
    simp at h1
    rw [h1.1.1]
    exact ⟨h2, (Array.getElem?_eq_some_iff.1 h3).1⟩

theorem Res.set_other {e : TypeId} {base k : Nat} {w : World} {a : Option Addr} {cap : Nat} {xs : List Nat} (h : Res e base w a cap xs) (hne : ∀ g o, a = some ⟨g, o, none⟩ → g ≠ k) (i : Nat) (v : Value) : Res e base (w.setCell ⟨k, i, none⟩ v) a cap xs := by
  refine ⟨h.1, h.2.1, ?_⟩
  rcases h.2.2 with h0 | ⟨g, cap', cur, h1, h2, h3, h4⟩
  · exact .inl h0
  · have hg : g ≠ k := hne g 0 (by simp at h1; exact h1.1)
    exact .inr ⟨g, cap', cur, h1, h2, (Below.heap_setCell w ⟨k, i, none⟩ v g hg).trans h3, h4⟩

end Go.Proofs.Ytdpafdeoepbhaaa

namespace Go.Proofs.Ytdpafdeoepbhaaa
open Go.RowKit
set_option linter.unusedSimpArgs false
set_option linter.unusedVariables false
end Go.Proofs.Ytdpafdeoepbhaaa
