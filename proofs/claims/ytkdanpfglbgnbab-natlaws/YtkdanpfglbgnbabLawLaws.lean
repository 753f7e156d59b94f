/-
  foundrylaw01.NatLaws: the walk.
-/
import Derived.Test.YtkdanpfglbgnbabLaw0
import Derived.Test.YtkdanpfglbgnbabSub
import Derived.Test.YtkdanpfglbgnbabMul
import Derived.Test.YtkdanpfglbgnbabLens
namespace Go.Proofs.Ytkdanpfglbgnbab
open Go.RowKit
set_option linter.unusedSimpArgs false
set_option linter.unusedVariables false

set_option maxHeartbeats 4000000 in
set_option maxRecDepth 100000 in
theorem walkNatLaws (a0 : Option Addr) (len0 cap0 : Nat) (z0 : List Int) (a1 : Option Addr) (len1 cap1 : Nat) (z1 : List Int) (a2 : Option Addr) (len2 cap2 : Nat) (z2 : List Int) (w : World) (w0 : IsRow .u32 w a0 len0 cap0 z0) (w1 : IsRow .u32 w a1 len1 cap1 z1) (w2 : IsRow .u32 w a2 len2 cap2 z2) :
    Calls Try.prog 5 #[.slice a0 len0 cap0, .slice a1 len1 cap1, .slice a2 len2 cap2] w fun e w' => e = .returned (.bool true) ∧ Below w.heap.size w w' := by
  obtain ⟨xs, rfl, h0⟩ := w0.rd
  obtain ⟨ys, rfl, h1⟩ := w1.rd
  obtain ⟨zs, rfl, h2⟩ := w2.rd
  clear w0 w1 w2 z0 z1 z2
  have b0 : xs.length ≤ 9223372036854775807 := by have := h0.le; have := h0.cap; unfold maxLen at this; omega
  have b1 : ys.length ≤ 9223372036854775807 := by have := h1.le; have := h1.cap; unfold maxLen at this; omega
  have b2 : zs.length ≤ 9223372036854775807 := by have := h2.le; have := h2.cap; unfold maxLen at this; omega
  go_enter Try.func5, Try.ntmps5
  go_wp2_with fail
  refine (awake_any _).mono ?_
  rintro e v1 ⟨rfl, bel0⟩
  go_wp2_with fail
  refine (few_any _ _ _ _ _ _ _ b0 b1).mono ?_
  rintro e v2 ⟨rfl, rfl⟩
  by_cases hf : xs.length ≤ 12 ∧ ys.length ≤ 12
  · have hd : decide (xs.length ≤ 12 ∧ ys.length ≤ 12) = true := by simp [hf]
    rw [hd]
    have hf1 := hf.1
    have hf2 := hf.2
    clear hf hd
    by_cases hf3 : zs.length ≤ 12
    · clear b0 b1 b2
      have lx := h0.lim
      have ly := h1.lim
      have lz := h2.lim
      go_wp2_with fail
      refine (add_any _ _ _ _ _ _ _ (h0.below bel0) (h1.below bel0) (by omega) (by omega)).mono ?_
      rintro e u1 ⟨a1, c1, z1, rfl, hv1, ht1, hr1, hu1⟩
      have r1 := hr1.rd
      have b1 : z1.length ≤ 13 := add_len ht1 hv1 lx ly (Nat.le_trans hf1 (by decide)) (Nat.le_trans hf2 (by decide))
      have HV1 : Hid (V z1 = V xs + V ys) := hv1
      clear hv1 hr1
      have bel1 : Below w.heap.size w u1 := bel0.trans (hu1.mono bel0.size)
      clear hu1
      go_wp2_with fail
      refine (add_any _ _ _ _ _ _ _ (h1.below bel1) (h0.below bel1) (by omega) (by omega)).mono ?_
      rintro e u2 ⟨a2, c2, z2, rfl, hv2, ht2, hr2, hu2⟩
      have r2 := hr2.rd
      have b2 : z2.length ≤ 13 := add_len ht2 hv2 ly lx (Nat.le_trans hf2 (by decide)) (Nat.le_trans hf1 (by decide))
      have HV2 : Hid (V z2 = V ys + V xs) := hv2
      clear hv2 hr2
      replace r1 := r1.below hu2
      have bel2 : Below w.heap.size w u2 := bel1.trans (hu2.mono bel1.size)
      clear hu2
      have HC3 : Hid (cmpN (V z1) (V z2) = 0) := cmpN_eq (by rw [HV1.out, HV2.out]; exact Nat.add_comm _ _)
      go_wp2_with fail
      refine (cmp_any _ _ _ _ _ _ _ r1 r2).mono ?_
      rintro e u3 ⟨rfl, hu3⟩
      rw [HC3.out]
      clear HC3
      clear r1
      clear r2
      have bel3 : Below w.heap.size w u3 := bel2.trans (hu3.mono bel2.size)
      clear hu3
      go_wp2_with fail
      refine (mul_any _ _ _ _ _ _ _ (h0.below bel3) (h1.below bel3) (by omega) (by omega)).mono ?_
      rintro e u4 ⟨a4, c4, z4, rfl, hv4, ht4, hr4, hu4⟩
      have r4 := hr4.rd
      have b4 : z4.length ≤ 24 := mul_len ht4 hv4 lx ly hf1 hf2
      have HV4 : Hid (V z4 = V xs * V ys) := hv4
      clear hv4 hr4
      have bel4 : Below w.heap.size w u4 := bel3.trans (hu4.mono bel3.size)
      clear hu4
      go_wp2_with fail
      refine (mul_any _ _ _ _ _ _ _ (h1.below bel4) (h0.below bel4) (by omega) (by omega)).mono ?_
      rintro e u5 ⟨a5, c5, z5, rfl, hv5, ht5, hr5, hu5⟩
      have r5 := hr5.rd
      have b5 : z5.length ≤ 24 := mul_len ht5 hv5 ly lx hf2 hf1
      have HV5 : Hid (V z5 = V ys * V xs) := hv5
      clear hv5 hr5
      replace r4 := r4.below hu5
      have bel5 : Below w.heap.size w u5 := bel4.trans (hu5.mono bel4.size)
      clear hu5
      have HC6 : Hid (cmpN (V z4) (V z5) = 0) := cmpN_eq (by rw [HV4.out, HV5.out]; exact Nat.mul_comm _ _)
      go_wp2_with fail
      refine (cmp_any _ _ _ _ _ _ _ r4 r5).mono ?_
      rintro e u6 ⟨rfl, hu6⟩
      rw [HC6.out]
      clear HC6
      clear r4
      clear r5
      have bel6 : Below w.heap.size w u6 := bel5.trans (hu6.mono bel5.size)
      clear hu6
      go_wp2_with fail
      refine (add_any _ _ _ _ _ _ _ (h0.below bel6) (h1.below bel6) (by omega) (by omega)).mono ?_
      rintro e u7 ⟨a7, c7, z7, rfl, hv7, ht7, hr7, hu7⟩
      have r7 := hr7.rd
      have b7 : z7.length ≤ 13 := add_len ht7 hv7 lx ly (Nat.le_trans hf1 (by decide)) (Nat.le_trans hf2 (by decide))
      have HV7 : Hid (V z7 = V xs + V ys) := hv7
      clear hv7 hr7
      have bel7 : Below w.heap.size w u7 := bel6.trans (hu7.mono bel6.size)
      clear hu7
      go_wp2_with fail
      refine (sub_any _ _ _ _ _ _ _ r7 (h1.below bel7) (by omega) (by omega)).mono ?_
      rintro e u8 ⟨a8, c8, z8, rfl, hv8, ht8, hr8, hu8⟩
      have r8 := hr8.rd
      have b8 : z8.length ≤ 13 := sub_len ht8 hv8 r7.lim b7
      have HV8 : Hid (V z8 = V z7 - V ys) := hv8
      clear hv8 hr8
      clear r7
      have bel8 : Below w.heap.size w u8 := bel7.trans (hu8.mono bel7.size)
      clear hu8
      have HC9 : Hid (cmpN (V z8) (V xs) = 0) := cmpN_eq (by rw [HV8.out, HV7.out]; exact Nat.add_sub_cancel _ _)
      go_wp2_with fail
      refine (cmp_any _ _ _ _ _ _ _ r8 (h0.below bel8)).mono ?_
      rintro e u9 ⟨rfl, hu9⟩
      rw [HC9.out]
      clear HC9
      clear r8
      have bel9 : Below w.heap.size w u9 := bel8.trans (hu9.mono bel8.size)
      clear hu9
      go_wp2_with fail
      refine (add_any _ _ _ _ _ _ _ (h0.below bel9) (h1.below bel9) (by omega) (by omega)).mono ?_
      rintro e u10 ⟨a10, c10, z10, rfl, hv10, ht10, hr10, hu10⟩
      have r10 := hr10.rd
      have b10 : z10.length ≤ 13 := add_len ht10 hv10 lx ly (Nat.le_trans hf1 (by decide)) (Nat.le_trans hf2 (by decide))
      have HV10 : Hid (V z10 = V xs + V ys) := hv10
      clear hv10 hr10
      have bel10 : Below w.heap.size w u10 := bel9.trans (hu10.mono bel9.size)
      clear hu10
      go_wp2_with fail
      refine (add_any _ _ _ _ _ _ _ r10 (h2.below bel10) (by omega) (by omega)).mono ?_
      rintro e u11 ⟨a11, c11, z11, rfl, hv11, ht11, hr11, hu11⟩
      have r11 := hr11.rd
      have b11 : z11.length ≤ 14 := add_len ht11 hv11 r10.lim lz (Nat.le_trans b10 (by decide)) (Nat.le_trans hf3 (by decide))
      have HV11 : Hid (V z11 = V z10 + V zs) := hv11
      clear hv11 hr11
      clear r10
      have bel11 : Below w.heap.size w u11 := bel10.trans (hu11.mono bel10.size)
      clear hu11
      go_wp2_with fail
      refine (add_any _ _ _ _ _ _ _ (h1.below bel11) (h2.below bel11) (by omega) (by omega)).mono ?_
      rintro e u12 ⟨a12, c12, z12, rfl, hv12, ht12, hr12, hu12⟩
      have r12 := hr12.rd
      have b12 : z12.length ≤ 13 := add_len ht12 hv12 ly lz (Nat.le_trans hf2 (by decide)) (Nat.le_trans hf3 (by decide))
      have HV12 : Hid (V z12 = V ys + V zs) := hv12
      clear hv12 hr12
      replace r11 := r11.below hu12
      have bel12 : Below w.heap.size w u12 := bel11.trans (hu12.mono bel11.size)
      clear hu12
      go_wp2_with fail
      refine (add_any _ _ _ _ _ _ _ (h0.below bel12) r12 (by omega) (by omega)).mono ?_
      rintro e u13 ⟨a13, c13, z13, rfl, hv13, ht13, hr13, hu13⟩
      have r13 := hr13.rd
      have b13 : z13.length ≤ 14 := add_len ht13 hv13 lx r12.lim (Nat.le_trans hf1 (by decide)) (Nat.le_trans b12 (by decide))
      have HV13 : Hid (V z13 = V xs + V z12) := hv13
      clear hv13 hr13
      replace r11 := r11.below hu13
      clear r12
      have bel13 : Below w.heap.size w u13 := bel12.trans (hu13.mono bel12.size)
      clear hu13
      have HC14 : Hid (cmpN (V z11) (V z13) = 0) := cmpN_eq (by rw [HV11.out, HV10.out, HV13.out, HV12.out]; exact Nat.add_assoc _ _ _)
      go_wp2_with fail
      refine (cmp_any _ _ _ _ _ _ _ r11 r13).mono ?_
      rintro e u14 ⟨rfl, hu14⟩
      rw [HC14.out]
      clear HC14
      clear r11
      clear r13
      have bel14 : Below w.heap.size w u14 := bel13.trans (hu14.mono bel13.size)
      clear hu14
      go_wp2_with fail
      refine (add_any _ _ _ _ _ _ _ (h1.below bel14) (h2.below bel14) (by omega) (by omega)).mono ?_
      rintro e u15 ⟨a15, c15, z15, rfl, hv15, ht15, hr15, hu15⟩
      have r15 := hr15.rd
      have b15 : z15.length ≤ 13 := add_len ht15 hv15 ly lz (Nat.le_trans hf2 (by decide)) (Nat.le_trans hf3 (by decide))
      have HV15 : Hid (V z15 = V ys + V zs) := hv15
      clear hv15 hr15
      have bel15 : Below w.heap.size w u15 := bel14.trans (hu15.mono bel14.size)
      clear hu15
      go_wp2_with fail
      refine (mul_any _ _ _ _ _ _ _ (h0.below bel15) r15 (by omega) (by omega)).mono ?_
      rintro e u16 ⟨a16, c16, z16, rfl, hv16, ht16, hr16, hu16⟩
      have r16 := hr16.rd
      have b16 : z16.length ≤ 25 := mul_len ht16 hv16 lx r15.lim hf1 b15
      have HV16 : Hid (V z16 = V xs * V z15) := hv16
      clear hv16 hr16
      clear r15
      have bel16 : Below w.heap.size w u16 := bel15.trans (hu16.mono bel15.size)
      clear hu16
      go_wp2_with fail
      refine (mul_any _ _ _ _ _ _ _ (h0.below bel16) (h1.below bel16) (by omega) (by omega)).mono ?_
      rintro e u17 ⟨a17, c17, z17, rfl, hv17, ht17, hr17, hu17⟩
      have r17 := hr17.rd
      have b17 : z17.length ≤ 24 := mul_len ht17 hv17 lx ly hf1 hf2
      have HV17 : Hid (V z17 = V xs * V ys) := hv17
      clear hv17 hr17
      replace r16 := r16.below hu17
      have bel17 : Below w.heap.size w u17 := bel16.trans (hu17.mono bel16.size)
      clear hu17
      go_wp2_with fail
      refine (mul_any _ _ _ _ _ _ _ (h0.below bel17) (h2.below bel17) (by omega) (by omega)).mono ?_
      rintro e u18 ⟨a18, c18, z18, rfl, hv18, ht18, hr18, hu18⟩
      have r18 := hr18.rd
      have b18 : z18.length ≤ 24 := mul_len ht18 hv18 lx lz hf1 hf3
      have HV18 : Hid (V z18 = V xs * V zs) := hv18
      clear hv18 hr18
      replace r16 := r16.below hu18
      replace r17 := r17.below hu18
      have bel18 : Below w.heap.size w u18 := bel17.trans (hu18.mono bel17.size)
      clear hu18
      go_wp2_with fail
      refine (add_any _ _ _ _ _ _ _ r17 r18 (by omega) (by omega)).mono ?_
      rintro e u19 ⟨a19, c19, z19, rfl, hv19, ht19, hr19, hu19⟩
      have r19 := hr19.rd
      have b19 : z19.length ≤ 25 := add_len ht19 hv19 r17.lim r18.lim (Nat.le_trans b17 (by decide)) (Nat.le_trans b18 (by decide))
      have HV19 : Hid (V z19 = V z17 + V z18) := hv19
      clear hv19 hr19
      replace r16 := r16.below hu19
      clear r17
      clear r18
      have bel19 : Below w.heap.size w u19 := bel18.trans (hu19.mono bel18.size)
      clear hu19
      have HC20 : Hid (cmpN (V z16) (V z19) = 0) := cmpN_eq (by rw [HV16.out, HV15.out, HV19.out, HV17.out, HV18.out]; exact Nat.mul_add _ _ _)
      go_wp2_with fail
      refine (cmp_any _ _ _ _ _ _ _ r16 r19).mono ?_
      rintro e u20 ⟨rfl, hu20⟩
      rw [HC20.out]
      clear HC20
      clear r16
      clear r19
      have bel20 : Below w.heap.size w u20 := bel19.trans (hu20.mono bel19.size)
      clear hu20
      go_wp2_with fail
      refine (mul_any _ _ _ _ _ _ _ (h0.below bel20) (h1.below bel20) (by omega) (by omega)).mono ?_
      rintro e u21 ⟨a21, c21, z21, rfl, hv21, ht21, hr21, hu21⟩
      have r21 := hr21.rd
      have b21 : z21.length ≤ 24 := mul_len ht21 hv21 lx ly hf1 hf2
      have HV21 : Hid (V z21 = V xs * V ys) := hv21
      clear hv21 hr21
      have bel21 : Below w.heap.size w u21 := bel20.trans (hu21.mono bel20.size)
      clear hu21
      go_wp2_with fail
      refine (mul_any _ _ _ _ _ _ _ r21 (h2.below bel21) (by omega) (by omega)).mono ?_
      rintro e u22 ⟨a22, c22, z22, rfl, hv22, ht22, hr22, hu22⟩
      have r22 := hr22.rd
      have b22 : z22.length ≤ 36 := mul_len ht22 hv22 r21.lim lz b21 hf3
      have HV22 : Hid (V z22 = V z21 * V zs) := hv22
      clear hv22 hr22
      clear r21
      have bel22 : Below w.heap.size w u22 := bel21.trans (hu22.mono bel21.size)
      clear hu22
      go_wp2_with fail
      refine (mul_any _ _ _ _ _ _ _ (h1.below bel22) (h2.below bel22) (by omega) (by omega)).mono ?_
      rintro e u23 ⟨a23, c23, z23, rfl, hv23, ht23, hr23, hu23⟩
      have r23 := hr23.rd
      have b23 : z23.length ≤ 24 := mul_len ht23 hv23 ly lz hf2 hf3
      have HV23 : Hid (V z23 = V ys * V zs) := hv23
      clear hv23 hr23
      replace r22 := r22.below hu23
      have bel23 : Below w.heap.size w u23 := bel22.trans (hu23.mono bel22.size)
      clear hu23
      go_wp2_with fail
      refine (mul_any _ _ _ _ _ _ _ (h0.below bel23) r23 (by omega) (by omega)).mono ?_
      rintro e u24 ⟨a24, c24, z24, rfl, hv24, ht24, hr24, hu24⟩
      have r24 := hr24.rd
      have b24 : z24.length ≤ 36 := mul_len ht24 hv24 lx r23.lim hf1 b23
      have HV24 : Hid (V z24 = V xs * V z23) := hv24
      clear hv24 hr24
      replace r22 := r22.below hu24
      clear r23
      have bel24 : Below w.heap.size w u24 := bel23.trans (hu24.mono bel23.size)
      clear hu24
      have HC25 : Hid (cmpN (V z22) (V z24) = 0) := cmpN_eq (by rw [HV22.out, HV21.out, HV24.out, HV23.out]; exact Nat.mul_assoc _ _ _)
      go_wp2_with fail
      refine (cmp_any _ _ _ _ _ _ _ r22 r24).mono ?_
      rintro e u25 ⟨rfl, hu25⟩
      rw [HC25.out]
      clear HC25
      clear r22
      clear r24
      have bel25 : Below w.heap.size w u25 := bel24.trans (hu25.mono bel24.size)
      clear hu25
      go_wp2
      go_ret
      exact ⟨rfl, bel25⟩
    · have hg : (12 : Int) < (zs.length : Int) := by omega
      go_wp2_with fail
      refine (awake_any _).mono ?_
      rintro e u3 ⟨rfl, hu3⟩
      go_wp2
      go_ret
      exact ⟨rfl, bel0.trans (hu3.mono bel0.size)⟩
  · have hd : decide (xs.length ≤ 12 ∧ ys.length ≤ 12) = false := by simpa using hf
    rw [hd]
    go_wp2_with fail
    refine (awake_any _).mono ?_
    rintro e u3 ⟨rfl, hu3⟩
    go_wp2
    go_ret
    exact ⟨rfl, bel0.trans (hu3.mono bel0.size)⟩

end Go.Proofs.Ytkdanpfglbgnbab
