/-
  foundryref01.double, Mul: the walks.
-/
import Derived.Test.YtefdkajjdaplbaaGreatDoorRAdd
import Derived.Test.YtefdkajjdaplbaaGreatDoorRBit
import Derived.Test.YtefdkajjdaplbaaGreatDoorMul
import Derived.Laws.BitsAllLaws
namespace Go.Proofs.YtefdkajjdaplbaaGreatDoor
open Go.RowKit
set_option linter.unusedSimpArgs false
set_option linter.unusedVariables false

set_option maxHeartbeats 400000 in
set_option maxRecDepth 100000 in
theorem rdouble_any (a : Option Addr) (cap : Nat) (xs : List Nat) (w : World) (h : Rd w a cap xs) (hl : xs.length ≤ 500000000) :
    Calls Tryz.prog 64 #[.slice a xs.length cap, .int .u32 0] w fun e w' => ∃ a' cap' zs, e = .returned (.slice a' zs.length cap') ∧ V zs = 2 * V xs ∧ Tr zs ∧ Res 72 w.heap.size w' a' cap' zs ∧ Below w.heap.size w w' := by
  go_enter Tryz.func64, Tryz.ntmps64
  go_wp2_with fail
  refine (radd_any _ _ _ _ _ _ _ h h hl hl).mono ?_
  rintro e w1 ⟨a1, c1, z1, rfl, hv1, ht1, hr1, hb1⟩
  go_wp2
  go_ret
  exact ⟨a1, c1, z1, rfl, by omega, ht1, hr1, hb1⟩


theorem len_of_mul {zs xs ys : List Nat} {q : Nat} (ht : Tr zs) (lx : Lim xs) (ly : Lim ys) (hv : V zs = V xs * q) (hq : q ≤ V ys) : zs.length ≤ xs.length + ys.length := by
  refine len_le_of_V ht ?_
  rw [hv, Nat.pow_add]
  have h1 := V_lt lx
  have h2 := V_lt ly
  calc V xs * q ≤ V xs * V ys := Nat.mul_le_mul_left _ hq
    _ < 4294967296 ^ xs.length * 4294967296 ^ ys.length := Nat.mul_lt_mul'' h1 h2

set_option maxHeartbeats 1000000 in
set_option maxRecDepth 100000 in
theorem rmul_any (a : Option Addr) (cap : Nat) (xs : List Nat) (b : Option Addr) (cbp : Nat) (ys : List Nat) (w : World) (ha : Rd w a cap xs) (hb : Rd w b cbp ys) (hla : xs.length ≤ 100000000) (hlb : ys.length ≤ 100000000) :
    Calls Tryz.prog 40 #[.slice a xs.length cap, .slice b ys.length cbp] w fun e w' =>
      ∃ a' cap' zs, e = .returned (.slice a' zs.length cap') ∧ V zs = V xs * V ys ∧ Tr zs ∧ Res 72 w.heap.size w' a' cap' zs ∧ Below w.heap.size w w' := by
  go_enter Tryz.func40, Tryz.ntmps40
  go_wp2_with fail
  refine (rbits_any _ _ _ _ (by omega)).mono ?_
  rintro e w' ⟨rfl, rfl⟩
  go_wp2
  go_loopw [5, 6] (fun out i wr => ∃ (k : Nat) (q : Int) (a' : Option Addr) (cap' : Nat) (zs : List Nat), k ≤ 32 * ys.length ∧ q = (k : Int) - 1 ∧ i = .int .i64 q ∧ out = .slice a' zs.length cap' ∧ Tr zs ∧ V zs = V xs * (V ys / 2 ^ k) ∧ Res 72 w.heap.size wr a' cap' zs ∧ Below w.heap.size w wr) (fun _ i _ => (intOf i + 1).toNat)
  case atStart =>
    refine ⟨32 * ys.length, _, none, 0, [], Nat.le_refl _, ?_, rfl, rfl, tr_nil, ?_, ⟨Lim.nil, World.ownsRow_nil _ _ _ _⟩, Below.refl _ _⟩
    · omega
    · rw [Nat.div_eq_of_lt (by rw [← pow_32]; exact V_lt hb.lim)]; rfl
  case round =>
    obtain ⟨k, q, a', cap', zs, hk, hq, rfl, rfl, htr, hv, hres, hnx⟩ := hrel
    have HV : Hid (V zs = V xs * (V ys / 2 ^ k)) := hv
    have hzl := len_of_mul htr ha.lim hb.lim hv (Nat.div_le_self _ _)
    have hsz := hnx.size
    clear hv
    by_cases hk0 : k = 0
    · subst hk0
      obtain rfl : q = -1 := by omega
      clear hq
      go_wp2
      go_ret
      refine ⟨a', cap', zs, rfl, ?_, htr, hres, hnx⟩
      rw [HV.out, Nat.pow_zero, Nat.div_one]
    · obtain ⟨j, rfl⟩ : ∃ j, k = j + 1 := ⟨k - 1, by omega⟩
      obtain rfl : q = (j : Int) := by omega
      clear hq
      have hstep : V ys / 2 ^ j = 2 * (V ys / 2 ^ (j + 1)) + V ys / 2 ^ j % 2 := by
        rw [Nat.pow_succ, ← Nat.div_div_eq_div_mul]; omega
      have HS : Hid (V ys / 2 ^ j = 2 * (V ys / 2 ^ (j + 1)) + V ys / 2 ^ j % 2) := hstep
      clear hstep
      go_wp2_with fail
      refine (rdouble_any _ _ _ _ hres.rd (by omega)).mono ?_
      rintro e w1 ⟨a1, c1, z1, rfl, hv1, ht1, hr1, hb1⟩
      have hb1' : Below w.heap.size w w1 := hnx.trans (hb1.mono hsz)
      have HV1 : Hid (V z1 = V xs * (2 * (V ys / 2 ^ (j + 1)))) := by show _ = _; rw [hv1, HV.out]; exact Nat.mul_left_comm _ _ _
      have hz1 := len_of_mul ht1 ha.lim hb.lim HV1.out (by have := HS.out; have := Nat.div_le_self (V ys) (2 ^ j); omega)
      clear hv1
      go_wp2_with fail
      refine (rbit_any _ _ _ _ _ (hb.below hb1') (by omega)).mono ?_
      rintro e w' ⟨rfl, rfl⟩
      rcases Nat.mod_two_eq_zero_or_one (V ys / 2 ^ j) with hb0 | hb0
      · rw [hb0]
        have HB : Hid (V ys / 2 ^ j % 2 = 0) := hb0
        clear hb0
        go_wp2
        go_roundw
        case rel =>
          refine ⟨j, _, a1, c1, z1, by omega, rfl, by go_num, rfl, ht1, ?_, hr1.mono hsz, hb1'⟩
          have := HS.out; rw [HB.out, Nat.add_zero] at this
          rw [HV1.out, this]
        case measure => simp [intOf]
      · rw [hb0]
        have HB : Hid (V ys / 2 ^ j % 2 = 1) := hb0
        clear hb0
        go_wp2_with fail
        refine (radd_any _ _ _ _ _ _ _ hr1.rd (ha.below hb1') (by omega) (by omega)).mono ?_
        rintro e w2 ⟨a2, c2, z2, rfl, hv2, ht2, hr2, hb2⟩
        have hb2' : Below w.heap.size w w2 := hb1'.trans (hb2.mono hb1'.size)
        have HV2 : Hid (V z2 = V xs * (V ys / 2 ^ j)) := by
          show _ = _
          have := HS.out; rw [HB.out] at this
          rw [hv2, HV1.out, this, Nat.mul_add]; omega
        clear hv2
        go_wp2
        go_roundw
        case rel => exact ⟨j, _, a2, c2, z2, by omega, rfl, by go_num, rfl, ht2, HV2.out, hr2.mono hb1'.size, hb2'⟩
        case measure => simp [intOf]

end Go.Proofs.YtefdkajjdaplbaaGreatDoor
