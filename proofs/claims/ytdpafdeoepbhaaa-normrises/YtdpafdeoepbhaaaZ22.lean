/-
  foundryref02.sum, Mul, Add, Quo, Opposite, Sub: the walks.
  foundryref02.sum, Add, Quo, Opposite, Sub: the walks.
  foundryref02.Sign, Cmp: the walks.
  foundryref02.Floor, Round, Text: the walks.
  foundryref03.Coordinate, Of14, Of16, Clamp, Field, To14, near, Between: the walks.
-/
import Derived.Test.YtdpafdeoepbhaaaZ21
import Derived.Test.YtdpafdeoepbhaaaZ19
import Derived.Test.YtdpafdeoepbhaaaZ20
import Derived.Deep.RegionHeld3
namespace Go.Proofs.Ytdpafdeoepbhaaa
open Go.RowKit
set_option linter.unusedSimpArgs false
set_option linter.unusedVariables false
end Go.Proofs.Ytdpafdeoepbhaaa

namespace Go.Proofs.Ytdpafdeoepbhaaa
open Go.RowKit Classical
set_option linter.unusedSimpArgs false
set_option linter.unusedVariables false

theorem sg_add_same (n : Bool) (a b : Nat) : sg n (a + b) = sg n a + sg n b := by cases n <;> simp [sg]; omega
theorem sg_sub_more {n m : Bool} (h : n ≠ m) {a b : Nat} (hl : ¬ a < b) : sg n (a - b) = sg n a + sg m b := by
  cases n <;> cases m <;> simp [sg] at h ⊢ <;> omega
theorem sg_sub_less {n m : Bool} (h : n ≠ m) {a b : Nat} (hl : a < b) : sg m (b - a) = sg n a + sg m b := by
  cases n <;> cases m <;> simp [sg] at h ⊢ <;> omega

theorem sg_mul_nat (n : Bool) (a b : Nat) : sg n (a * b) = sg n a * (b : Int) := by cases n <;> simp [sg]; grind
theorem qv_sum {s n m : Bool} {zs ts xs ys ps qs : List Nat} (hy : V ys ≠ 0) (hq : V qs ≠ 0) (ht : V ts = V ys * V qs) (h : sg s (V zs) = sg n (V xs * V qs) + sg m (V ps * V ys)) : qv s zs ts = qv n xs ys + qv m ps qs := by
  unfold qv
  rw [Rat.mkRat_add_mkRat _ _ hy hq, ht, h, sg_mul_nat, sg_mul_nat]

theorem fmd_opp {n : Bool} {xs ys : List Nat} (h : Fmd n xs ys) : Fmd (!n && decide (0 < xs.length)) xs ys ∧ qv (!n && decide (0 < xs.length)) xs ys = - qv n xs ys := by
  by_cases hx : xs = []
  · subst hx
    have e : (!n && decide (0 < ([] : List Nat).length)) = false := by simp
    rw [e]
    refine ⟨⟨h.1, h.2.1, h.2.2.1, by simp, h.2.2.2.2⟩, ?_⟩
    have z : ∀ m, qv m [] ys = 0 := by intro m; unfold qv; rw [show V [] = 0 from rfl, sg_zero]; simp
    rw [z, z]; rfl
  · have e : (!n && decide (0 < xs.length)) = !n := by simp [List.length_pos_iff, hx]
    rw [e]
    exact ⟨⟨h.1, h.2.1, h.2.2.1, fun h2 => hx h2.2, h.2.2.2.2⟩, qv_neg n xs ys⟩

theorem set0_world {t : TypeId} {u : World} {b : Nat} {n : Bool} {a a' : Option Addr} {l c l' c' : Nat} (B : Box t u b (.bool n) (.slice a l c) (.slice a' l' c')) (x' : Value) :
    ∃ U, U = u.setCell ⟨b, 0, none⟩ x' ∧ (∀ B w, Below B w u → B ≤ b → Below B w U) ∧ (∀ a c xs, Rd u a c xs → Rd U a c xs) ∧ (∀ j, j ≠ b → U.heap[j]? = u.heap[j]?) := by
  have ho : ∀ j, j ≠ b → (u.setCell ⟨b, 0, none⟩ x').heap[j]? = u.heap[j]? := fun j hj => Below.heap_setCell _ ⟨b, 0, none⟩ x' j hj
  exact ⟨_, rfl, fun _ _ h hb => h.setCell (p := ⟨b, 0, none⟩) hb x', fun _ _ _ h => Rd.apart B (by simp [World.setCell]) ho h, ho⟩

end Go.Proofs.Ytdpafdeoepbhaaa

namespace Go.Proofs.Ytdpafdeoepbhaaa
open Go.RowKit Classical
set_option linter.unusedSimpArgs false
set_option linter.unusedVariables false
end Go.Proofs.Ytdpafdeoepbhaaa

namespace Go.Proofs.Ytdpafdeoepbhaaa
open Go.RowKit
set_option linter.unusedSimpArgs false
set_option linter.unusedVariables false

theorem back_two {m : Nat} (h : m ≤ 9223372036854775808) : wrap64 (-(wrap64 (m : Int))) = -(m : Int) := by
  by_cases h9 : m = 9223372036854775808
  · subst h9; decide +kernel
  · rw [back_pos (by omega)]
    unfold wrap64
    omega

end Go.Proofs.Ytdpafdeoepbhaaa

namespace Go.Proofs.Ytdpafdeoepbhaaa
open Go.RowKit Classical
set_option linter.unusedSimpArgs false
set_option linter.unusedVariables false
theorem sgn_ge {q : Rat} : 0 ≤ sgnQ q ↔ 0 ≤ q := by
  unfold sgnQ
  split
  · simp; grind
  · split
    · simp; grind
    · simp; grind
theorem sgn_le {q : Rat} : sgnQ q ≤ 0 ↔ q ≤ 0 := by
  unfold sgnQ
  split
  · simp; grind
  · split
    · simp; grind
    · simp; grind

theorem to14_one {q : Rat} (h : 1 ≤ q) : to14 q = 16384 := by
  have f2 := Rat.lt_floor (x := q * 16384 + 1 / 2)
  unfold to14
  generalize (q * 16384 + 1 / 2).floor = z at f2
  have : ((16383 : Int) : Rat) < ((z : Int) : Rat) := by grind
  have := Rat.intCast_lt_intCast.1 this
  unfold c14
  rw [if_neg (by omega)]
  split <;> omega
theorem to14_mone {q : Rat} (h : q ≤ -1) : to14 q = -16384 := by
  have f1 := Rat.floor_le (q * 16384 + 1 / 2)
  unfold to14
  generalize (q * 16384 + 1 / 2).floor = z at f1
  have : ((z : Int) : Rat) < ((-16383 : Int) : Rat) := by grind
  have := Rat.intCast_lt_intCast.1 this
  unfold c14
  split
  · rfl
  · rw [if_neg (by omega)]; omega
theorem to14_mid {q : Rat} (h1 : -1 < q) (h2 : q < 1) : flN (q * 16384 + 1 / 2).floor = to14 q := by
  have f1 := Rat.floor_le (q * 16384 + 1 / 2)
  have f2 := Rat.lt_floor (x := q * 16384 + 1 / 2)
  unfold to14
  generalize (q * 16384 + 1 / 2).floor = z at f1 f2
  have g1 : ((-16385 : Int) : Rat) < ((z : Int) : Rat) := by grind
  have g2 : ((z : Int) : Rat) < ((16385 : Int) : Rat) := by grind
  have := Rat.intCast_lt_intCast.1 g1
  have := Rat.intCast_lt_intCast.1 g2
  unfold c14 flN flB
  rw [if_pos (by simp; omega), if_neg (by omega), if_neg (by omega)]

end Go.Proofs.Ytdpafdeoepbhaaa
