/-
  foundrylaw01.NatSmall: the walk.
-/
import Derived.Test.YtkdanpfglbgnbabLawDivides
import Derived.Test.YtkdanpfglbgnbabSmall
namespace Go.Proofs.Ytkdanpfglbgnbab
open Go.RowKit
set_option linter.unusedSimpArgs false
set_option linter.unusedVariables false

theorem small_len {zs : List Nat} (ht : Tr zs) (hv : V zs < 18446744073709551616) : zs.length ≤ 2 := len_le_of_V ht hv

set_option maxHeartbeats 4000000 in
theorem walkNatSmall (a0 a1 : Int) (w : World) (w0 : (Lit.int .u32 a0).wf = true) (w1 : (Lit.int .u32 a1).wf = true) :
    Calls Try.prog 7 #[.int .u32 a0, .int .u32 a1] w fun e w' => e = .returned (.bool true) ∧ Below w.heap.size w w' := by
  have hx := wf_u32_bounds w0
  have hy := wf_u32_bounds w1
  obtain ⟨x, rfl⟩ := Int.eq_ofNat_of_zero_le hx.1
  obtain ⟨y, rfl⟩ := Int.eq_ofNat_of_zero_le hy.1
  have bx : x < 4294967296 := by omega
  have byy : y < 4294967296 := by omega
  clear w0 w1 hx hy
  obtain ⟨p, hp⟩ : ∃ p, x * y = p := ⟨_, rfl⟩
  have bp : p ≤ 18446744065119617025 := by rw [← hp]; exact mul_lt_64 bx byy
  have hpi : (x : Int) * (y : Int) = (p : Int) := by rw [← hp]; simp
  have HP : Hid (x * y = p) := hp
  clear hp
  go_enter Try.func7, Try.ntmps7
  go_wp2_with fail
  refine (awake_any _).mono ?_
  rintro e u0 ⟨rfl, bel0⟩
  go_wp2_with fail
  refine (of_any x _ (by omega)).mono ?_
  rintro e u1 ⟨aX, cX, X, rfl, hvX, htX, hrX, hu1⟩
  have rX := hrX.rd
  have lX : X.length ≤ 2 := small_len htX (by omega)
  have bel1 : Below w.heap.size w u1 := bel0.trans (hu1.mono bel0.size)
  have HX : Hid (V X = x) := hvX
  clear hvX hrX hu1
  go_wp2_with fail
  refine (of_any y _ (by omega)).mono ?_
  rintro e u2 ⟨aY, cY, Y, rfl, hvY, htY, hrY, hu2⟩
  have rY := hrY.rd
  have lY : Y.length ≤ 2 := small_len htY (by omega)
  have bel2 : Below w.heap.size w u2 := bel1.trans (hu2.mono bel1.size)
  have HY : Hid (V Y = y) := hvY
  replace rX := rX.below hu2
  clear hvY hrY hu2
  go_wp2_with fail
  refine (add_any _ _ _ _ _ _ _ rX rY (by omega) (by omega)).mono ?_
  rintro e u3 ⟨a3, c3, z3, rfl, hv3, ht3, hr3, hu3⟩
  have r3 := hr3.rd
  have bel3 : Below w.heap.size w u3 := bel2.trans (hu3.mono bel2.size)
  have HS3 : Hid (smallN (V z3) = x + y) := by show _ = _; rw [hv3, HX.out, HY.out]; exact smallN_lt (by omega)
  have HB3 : Hid (isSmall (V z3) = true) := by show _ = _; rw [hv3, HX.out, HY.out]; exact isSmall_lt (by omega)
  replace rX := rX.below hu3
  replace rY := rY.below hu3
  clear hv3 hr3 hu3
  go_wp2_with fail
  refine (small_any _ _ _ _ r3).mono ?_
  rintro e u ⟨rfl, rfl⟩
  rw [HS3.out, HB3.out]
  clear HS3 HB3 r3
  go_wp2_with fail
  refine (mul_any _ _ _ _ _ _ _ rX rY (by omega) (by omega)).mono ?_
  rintro e u4 ⟨a4, c4, z4, rfl, hv4, ht4, hr4, hu4⟩
  have r4 := hr4.rd
  have bel4 : Below w.heap.size w u4 := bel3.trans (hu4.mono bel3.size)
  have HS4 : Hid (smallN (V z4) = p) := by show _ = _; rw [hv4, HX.out, HY.out, HP.out]; exact smallN_lt (by omega)
  have HB4 : Hid (isSmall (V z4) = true) := by show _ = _; rw [hv4, HX.out, HY.out, HP.out]; exact isSmall_lt (by omega)
  replace rX := rX.below hu4
  replace rY := rY.below hu4
  clear hv4 hr4 hu4
  go_wp2_with fail
  refine (small_any _ _ _ _ r4).mono ?_
  rintro e u ⟨rfl, rfl⟩
  rw [HS4.out, HB4.out]
  clear HS4 HB4 r4
  have q1 : (((x + y : Nat) : Int) != (x : Int) + (y : Int)) = false := by rw [bne_eq_false_iff_eq]; omega
  have q1' : ((x : Int) + (y : Int) != (x : Int) + (y : Int)) = false := by simp
  have q2 : ((p : Int) != (p : Int)) = false := by simp
  go_wp2_with fail
  refine (cmp_any _ _ _ _ _ _ _ rX rY).mono ?_
  rintro e u5 ⟨rfl, hu5⟩
  rw [HX.out, HY.out]
  have bel5 : Below w.heap.size w u5 := bel4.trans (hu5.mono bel4.size)
  replace rX := rX.below hu5
  replace rY := rY.below hu5
  clear hu5
  have rest : ∀ (P : Prop), P → P := fun _ h => h
  obtain ⟨cc, hcc⟩ : ∃ cc, cmpN x y = cc := ⟨_, rfl⟩
  have hcl : cc < 0 ↔ x < y := by
    rw [← hcc]; unfold cmpN
    by_cases h : x < y
    · rw [if_pos h]; simp [h]
    · rw [if_neg h]; split <;> simp [h]
  rw [hcc]
  clear hcc rest
  by_cases hlt : x < y
  all_goals
    have hc' : cc < 0 ↔ x < y := hcl
    first
    | (have g1 : cc < 0 := hcl.2 hlt
       have g2 : (x : Int) < (y : Int) := by omega
       clear hcl hc'
       have gb : (decide (cc < 0) != decide ((x : Int) < (y : Int))) = false := by simp [g1, hlt]
       skip)
    | (have g1 : ¬ cc < 0 := fun h => hlt (hcl.1 h)
       have g2 : ¬ (x : Int) < (y : Int) := by omega
       clear hcl hc'
       have gb : (decide (cc < 0) != decide ((x : Int) < (y : Int))) = false := by simp [g1, hlt]
       skip)
    by_cases hy0 : y = 0
    · have hyb : ((y : Int) == 0) = true := beq_iff_eq.2 (by omega)
      first
      | (exfalso; omega)
      | (clear hy0
         go_wp2
         go_ret
         exact ⟨rfl, bel5⟩)
    · have hy1 : ((y : Int) == 0) = false := beq_eq_false_iff_ne.2 (by omega)
      have hyp : 0 < y := by omega
      go_wp2_with fail
      refine (div_any _ _ _ _ _ _ _ rX rY (by omega) (by omega)).mono ?_
      rintro e u6 ⟨a6, c6, z6, a7, c7, z7, rfl, hv6, hv7, ht6, ht7, hr6, hr7, hu6⟩
      have r6 := hr6.rd
      have r7 := hr7.rd
      have bel6 : Below w.heap.size w u6 := bel5.trans (hu6.mono bel5.size)
      have hdl : x / y ≤ x := Nat.div_le_self _ _
      have hml : x % y ≤ x := Nat.mod_le _ _
      obtain ⟨qq, hqq⟩ : ∃ qq, x / y = qq := ⟨_, rfl⟩
      obtain ⟨rr, hrr⟩ : ∃ rr, x % y = rr := ⟨_, rfl⟩
      rw [hqq] at hdl
      rw [hrr] at hml
      have HS6 : Hid (smallN (V z6) = qq) := by show _ = _; rw [hv6, HX.out, HY.out, hqq]; exact smallN_lt (by omega)
      have HS7 : Hid (smallN (V z7) = rr) := by show _ = _; rw [hv7, HX.out, HY.out, remN_pos _ hyp, hrr]; exact smallN_lt (by omega)
      have hqi : (x : Int) / (y : Int) = (qq : Int) := by rw [← hqq]; simp
      have hri : (x : Int) % (y : Int) = (rr : Int) := by rw [← hrr]; simp
      have e1 : ((qq : Int) == (qq : Int)) = true := by simp
      have e2 : ((rr : Int) == (rr : Int)) = true := by simp
      clear hv6 hv7 hr6 hr7 hu6 hqq hrr rX rY
      go_wp2_with fail
      refine (small_any _ _ _ _ r6).mono ?_
      rintro e u ⟨rfl, rfl⟩
      rw [HS6.out]
      generalize isSmall (V z6) = t6
      go_wp2_with fail
      refine (small_any _ _ _ _ r7).mono ?_
      rintro e u ⟨rfl, rfl⟩
      rw [HS7.out]
      generalize isSmall (V z7) = t7
      go_wp2
      go_ret
      exact ⟨ret_bool (by simp), bel6⟩

end Go.Proofs.Ytkdanpfglbgnbab
