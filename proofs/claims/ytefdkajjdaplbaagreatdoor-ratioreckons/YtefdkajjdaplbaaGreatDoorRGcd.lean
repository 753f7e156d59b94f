/-
  foundryref01.Small, Gcd: the walks.
-/
import Derived.Test.YtefdkajjdaplbaaGreatDoorGcd
import Derived.Test.YtefdkajjdaplbaaGreatDoorRDiv
namespace Go.Proofs.YtefdkajjdaplbaaGreatDoor
open Go.RowKit
set_option linter.unusedSimpArgs false
set_option linter.unusedVariables false

set_option maxHeartbeats 1000000 in
set_option maxRecDepth 100000 in
theorem rsmall_any (a : Option Addr) (cap : Nat) (xs : List Nat) (w : World) (h : Rd w a cap xs) (hl : xs.length ≤ 1000000000) :
    Calls Tryz.prog 50 #[.slice a xs.length cap] w fun e w' => e = .returned (.tuple #[.int .u64 (smallN (V xs) : Nat), .bool (isSmall (V xs))]) ∧ Below w.heap.size w w' := by
  go_enter Tryz.func50, Tryz.ntmps50
  go_wp2_with fail
  refine (rtrim_any a cap xs _ h hl).mono ?_
  rintro e w1 ⟨aT, cT, rfl, hT, hb1⟩
  have Xr := hT.rd
  have tX := tr_strip xs
  clear h hT
  have HV : Hid (V (strip xs) = V xs) := V_strip xs
  generalize strip xs = X at Xr tX HV ⊢
  have k1 := Xr.le
  have k2 := Xr.cap
  unfold maxLen at k2
  have fX := Xr.fm
  have lX := Xr.lim
  clear Xr
  by_cases hl : 2 < X.length
  · have HG : Hid (¬ V xs < 18446744073709551616) := by show ¬ _; rw [← HV.out]; exact V_three_ge tX hl
    go_wp2
    go_ret2
    exact ⟨by rw [smallN_ge HG.out, isSmall_ge HG.out]; rfl, hb1⟩
  · have HG : Hid (V xs < 18446744073709551616) := by show _ < _; rw [← HV.out]; exact V_two_lt lX (by omega)
    go_wp2
    go_loop [5, 6] (fun n i => ∃ (k m : Nat) (q : Int), k ≤ X.length ∧ q = (k : Int) - 1 ∧ i = .int .i64 q ∧ n = .int .u64 m ∧ m = V (X.drop k)) (fun _ i => (intOf i + 1).toNat)
    case atStart => exact ⟨X.length, 0, _, Nat.le_refl _, rfl, rfl, rfl, by simp [V]⟩
    case round =>
      obtain ⟨k, m, q, hk, hq, rfl, rfl, hm⟩ := hrel
      have HM : Hid (m = V (X.drop k)) := hm
      clear hm
      by_cases hk0 : k = 0
      · subst hk0
        obtain rfl : q = -1 := by omega
        clear hq
        go_wp2
        go_ret2
        refine ⟨?_, hb1⟩
        rw [smallN_lt HG.out, isSmall_lt HG.out, ← HV.out]
        have := HM.out
        rw [List.drop_zero] at this
        rw [← this]
        rfl
      · obtain ⟨j, rfl⟩ : ∃ j, k = j + 1 := ⟨k - 1, by omega⟩
        obtain rfl : q = (j : Int) := by omega
        clear hq
        obtain ⟨bl, ol, rfl, _, hcx⟩ := fX.at (Below.refl _ _) j (by omega)
        obtain ⟨x, hx⟩ : ∃ x, X.getD j 0 = x := ⟨_, rfl⟩
        have bx : x < 4294967296 := by rw [← hx]; exact lX.getD j
        rw [hx] at hcx
        have hd := V_drop X j
        rw [hx, ← HM.out] at hd
        have hlt : V (X.drop j) < 18446744073709551616 := V_two_lt (lX.drop j) (by simp; omega)
        have hb2 : x + 4294967296 * m < 18446744073709551616 := by omega
        have HD : Hid (V (X.drop j) = x + 4294967296 * m) := hd
        clear hx hd hlt
        go_wp2
        go_round
        case rel => exact ⟨j, m * 4294967296 + x, _, by omega, rfl, by go_num, congrArg (Value.int .u64) (by omega), by rw [HD.out]; omega⟩
        case measure => simp [intOf]

set_option maxHeartbeats 2000000 in
set_option maxRecDepth 100000 in
theorem rgcd_any (a : Option Addr) (cap : Nat) (xs : List Nat) (b : Option Addr) (cbp : Nat) (ys : List Nat) (w : World) (ha : Rd w a cap xs) (hb : Rd w b cbp ys) (hla : xs.length ≤ 10000000) (hlb : ys.length ≤ 10000000) :
    Calls Tryz.prog 56 #[.slice a xs.length cap, .slice b ys.length cbp] w fun e w' =>
      ∃ a' cap' zs, e = .returned (.slice a' zs.length cap') ∧ V zs = Nat.gcd (V xs) (V ys) ∧ Tr zs ∧ Res 72 w.heap.size w' a' cap' zs ∧ Below w.heap.size w w' := by
  go_enter Tryz.func56, Tryz.ntmps56
  go_wp2_with fail
  refine (rtrim_any _ _ xs _ ha (by omega)).mono ?_
  rintro e w1 ⟨a1, c1, rfl, hr1, hb1⟩
  have hs1 := hb1.size
  go_wp2_with fail
  refine (rtrim_any _ _ ys _ (hb.below hb1) (by omega)).mono ?_
  rintro e w2 ⟨a2, c2, rfl, hr2, hb2⟩
  have hr1' := hr1.below hb2
  have hbw2 : Below w.heap.size w w2 := hb1.trans (hb2.mono hs1)
  have HV : Hid (V (strip xs) = V xs ∧ V (strip ys) = V ys) := ⟨V_strip xs, V_strip ys⟩
  have t1 := tr_strip xs
  have t2 := tr_strip ys
  have l1 := strip_length_le xs
  have l2 := strip_length_le ys
  generalize strip xs = X0 at hr1 hr1' HV t1 l1 ⊢
  generalize strip ys = Y0 at hr2 HV t2 l2 ⊢
  clear ha hb hr1
  go_wp2
  go_loopg [5, 6] (V Y0) (fun k p q wr => ∃ (aA : Option Addr) (cA : Nat) (X : List Nat) (aB : Option Addr) (cB : Nat) (Y : List Nat), p = .slice aA X.length cA ∧ q = .slice aB Y.length cB ∧ X.length ≤ 10000000 ∧ Y.length ≤ 10000000 ∧ V Y = k ∧ Tr X ∧ Tr Y ∧ Res 72 w.heap.size wr aA cA X ∧ Res 72 w.heap.size wr aB cB Y ∧ Nat.gcd (V X) (V Y) = Nat.gcd (V xs) (V ys) ∧ Below w.heap.size w wr)
  case atStart => exact ⟨a1, c1, X0, a2, c2, Y0, rfl, rfl, by omega, by omega, rfl, t1, t2, hr1', hr2.mono hs1, by rw [HV.out.1, HV.out.2], hbw2⟩
  case round =>
    obtain ⟨aA, cA, X, aB, cB, Y, rfl, rfl, hX, hY, hk, tX, tY, rX, rY, hg, hnx⟩ := hrel
    have HG : Hid (Nat.gcd (V X) (V Y) = Nat.gcd (V xs) (V ys)) := hg
    have HK : Hid (V Y = gk) := hk
    have hsz := hnx.size
    clear hg hk
    by_cases hy0 : Y.length = 0
    · have HY : Hid (V Y = 0) := by show _ = _; rw [List.length_eq_zero_iff.1 hy0]; rfl
      have hyl : ¬ (0 : Int) < (Y.length : Int) := by omega
      clear hy0
      go_wp2
      go_ret
      refine ⟨aA, cA, X, rfl, ?_, tX, rX, hnx⟩
      rw [← HG.out, HY.out, Nat.gcd_zero_right]
    · have hyl : (0 : Int) < (Y.length : Int) := by omega
      have hpos : 0 < V Y := by
        rcases Nat.eq_zero_or_pos (V Y) with h | h
        · exact absurd (by rw [eq_nil_of_V tY h]; rfl) hy0
        · exact h
      have HPOS : Hid (0 < V Y) := hpos
      clear hy0 hpos
      go_wp2_with fail
      refine (rdiv_any _ _ _ _ _ _ _ rX.rd rY.rd hX hY).mono ?_
      rintro e v1 ⟨b1, d1, z1, b2, d2, z2, rfl, hv1, hv2, ht1, ht2, hq1, hq2, hb3⟩
      rw [remN_pos _ HPOS.out] at hv2
      have hlt : V z2 < V Y := by rw [hv2]; exact Nat.mod_lt _ HPOS.out
      have HLT : Hid (V z2 < gk) := by show _ < _; rw [← HK.out]; exact hlt
      have hl2 : z2.length ≤ Y.length := by
        rcases Nat.lt_or_ge Y.length z2.length with h | h
        · have := V_lt_of_length rY.lim ht2 h; omega
        · exact h
      have HG2 : Hid (Nat.gcd (V Y) (V z2) = Nat.gcd (V xs) (V ys)) := by show _ = _; rw [hv2, gcd_step]; exact HG.out
      have rY' := rY.below hb3
      have hbw : Below w.heap.size w v1 := hnx.trans (hb3.mono hsz)
      clear hv1 hv2 hlt hq1 rX
      go_wp2
      go_roundg (V z2)
      case measure => exact HLT.out
      case rel => exact ⟨aB, cB, Y, b2, d2, z2, rfl, rfl, hY, by omega, rfl, tY, ht2, rY', hq2.mono hsz, HG2.out, hbw⟩

end Go.Proofs.YtefdkajjdaplbaaGreatDoor
