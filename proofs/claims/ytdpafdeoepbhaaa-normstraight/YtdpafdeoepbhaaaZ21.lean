/-
  foundryref01.Of: the walk.
  foundryref01.Add: the walk.
  foundryref02.one, Zero, Formed, fair, Low, size, Whole, Make: the walks.
  foundryref02.fair, Low, size, Whole, Make: the walks.
  foundryref01.double, Mul: the walks.
-/
import Derived.Test.YtdpafdeoepbhaaaZ19
import Derived.Test.YtdpafdeoepbhaaaZ2
import Derived.Test.YtdpafdeoepbhaaaZ3
import Derived.Laws.BitsAllLaws
import Derived.Test.YtdpafdeoepbhaaaZ8
import Derived.Test.YtdpafdeoepbhaaaZ20
namespace Go.Proofs.Ytdpafdeoepbhaaa
open Go.RowKit
set_option linter.unusedSimpArgs false
set_option linter.unusedVariables false
end Go.Proofs.Ytdpafdeoepbhaaa

namespace Go.Proofs.Ytdpafdeoepbhaaa
open Go.RowKit
set_option linter.unusedSimpArgs false
set_option linter.unusedVariables false
end Go.Proofs.Ytdpafdeoepbhaaa

namespace Go.Proofs.Ytdpafdeoepbhaaa
open Go.RowKit Classical
set_option linter.unusedSimpArgs false
set_option linter.unusedVariables false
theorem fr_zero {w : World} {a : Option Addr} {c : Nat} {ys : List Nat} (hv : V ys = 1) (ht : Tr ys) (hr : Rd w a c ys) : Fr w (.agg #[.bool false, .slice none 0 0, .slice a ys.length c]) 2 0 := by
  refine ⟨false, [], ys, ⟨_, _, _, _, rfl, Rd.nil _ _ _ (Nat.zero_le _) (fun _ => rfl), hr⟩, ⟨tr_nil, ht, ?_, by simp, by rw [hv]; simp⟩, by simp, len_two ht (by omega), ?_⟩
  · rintro rfl; simp [V] at hv
  · unfold qv; rw [hv]; rfl

theorem gcd_one_iff {zs os : List Nat} (ho : V os = 1) : cmpN (V zs) (V os) = 0 ↔ V zs = 1 := by
  rw [ho]
  unfold cmpN
  by_cases h : V zs < 1
  · rw [if_pos h]; simp; omega
  · rw [if_neg h]; split <;> simp <;> omega

end Go.Proofs.Ytdpafdeoepbhaaa

namespace Go.Proofs.Ytdpafdeoepbhaaa
open Go.RowKit Classical
set_option linter.unusedSimpArgs false
set_option linter.unusedVariables false
theorem qv_whole {z : Int} {xs ys : List Nat} (hx : V xs = z.natAbs) (hy : V ys = 1) : qv (decide (z < 0)) xs ys = (z : Rat) := by
  unfold qv; rw [hx, hy, sg_abs]; exact Rat.mkRat_one z

end Go.Proofs.Ytdpafdeoepbhaaa

namespace Go.Proofs.Ytdpafdeoepbhaaa
open Go.RowKit
set_option linter.unusedSimpArgs false
set_option linter.unusedVariables false
theorem len_of_mul {zs xs ys : List Nat} {q : Nat} (ht : Tr zs) (lx : Lim xs) (ly : Lim ys) (hv : V zs = V xs * q) (hq : q ≤ V ys) : zs.length ≤ xs.length + ys.length := by
  refine len_le_of_V ht ?_
  rw [hv, Nat.pow_add]
  have h1 := V_lt lx
  have h2 := V_lt ly
  calc V xs * q ≤ V xs * V ys := Nat.mul_le_mul_left _ hq
    _ < 4294967296 ^ xs.length * 4294967296 ^ ys.length := Nat.mul_lt_mul'' h1 h2

end Go.Proofs.Ytdpafdeoepbhaaa
