/-
  foundrylaw07.BendBytes: the walk.
-/
import Derived.Test.YtdholmnniccbcaaGreatDoorZ14
import Derived.Test.YtdholmnniccbcaaGreatDoorZ28
namespace Go.Proofs.YtdholmnniccbcaaGreatDoor
open Go.RowKit Go.Maps
set_option linter.unusedSimpArgs false
set_option linter.unusedVariables false

set_option maxHeartbeats 4000000 in
set_option maxRecDepth 100000 in
theorem bendBytes_any (a : Option Addr) (cap : Nat) (m : List (List Pr)) (b : Option Addr) (bc : Nat) (xs : List Nat) (w : World) (h : Pzz w a cap m) (hr : Rb w b bc xs) (htab : Pow w) :
    Calls Tryz.prog 4 #[.slice a m.length cap, .slice b xs.length bc] w fun e w' => e = .returned (.bool true) ∧ Below w.heap.size w w' := by
  have z1 := h.lenB
  have z2 : xs.length ≤ 9223372036854775807 := by have h1 := hr.le; have h2 := hr.cap; unfold maxLen at h2; omega
  have HTAB : Hid (Pow w) := htab
  clear htab
  go_enter Tryz.func4, Tryz.ntmps4
  go_wp2_with fail
  refine (awake7_any _ HTAB.out).mono ?_
  rintro e u1 ⟨rfl, hb1⟩
  have hbW := hb1
  replace h := h.below hb1
  replace hr := hr.below hb1
  clear hb1
  go_wp2_with fail
  refine (few7_any a cap m false none none 0 0 0 0 _ h (by decide) (by decide)).mono ?_
  rintro e u2 ⟨q, rfl, _, hb2⟩
  replace h := h.below hb2
  replace hr := hr.below hb2
  replace hbW := hbW.trans (hb2.mono hbW.size)
  clear hb2
  cases q with
  | false =>
    go_wp2_with fail
    refine (awake7_any _ (HTAB.out.below hbW)).mono ?_
    rintro e u3 ⟨rfl, hb3⟩
    replace hbW := hbW.trans (hb3.mono hbW.size)
    clear hb3
    go_wp2
    go_ret
    exact ⟨rfl, hbW⟩
  | true =>
  by_cases hl2 : xs.length ≤ 1000
  rotate_left
  · have g2 : (1000 : Int) < (xs.length : Int) := by omega
    go_wp2_with fail
    refine (awake7_any _ (HTAB.out.below hbW)).mono ?_
    rintro e u3 ⟨rfl, hb3⟩
    replace hbW := hbW.trans (hb3.mono hbW.size)
    clear hb3
    go_wp2
    go_ret
    exact ⟨rfl, hbW⟩
  have g2 : ¬ (1000 : Int) < (xs.length : Int) := by omega
  obtain ⟨e1, he1⟩ : ∃ z, wrPE m = z := ⟨_, rfl⟩
  obtain ⟨e2, he2⟩ : ∃ z, rdPE xs = z := ⟨_, rfl⟩
  have HE : Hid (wrPE m = e1 ∧ rdPE xs = e2) := ⟨he1, he2⟩
  have i1 : (e1 == e1) = true := by simp
  have i2 : (e2 == e2) = true := by simp
  clear he1 he2
  go_wp2_with fail
  refine (cwriteP_any a cap m _ h).mono ?_
  rintro e u3 ⟨a3, c3, rfl, hr3, hb3⟩
  rw [HE.out.1]
  replace h := h.below hb3
  replace hr := hr.below hb3
  replace hbW := hbW.trans (hb3.mono hbW.size)
  clear hb3
  go_wp2_with fail
  refine (swriteP_any a cap m _ h).mono ?_
  rintro e u4 ⟨a4, c4, rfl, hr4, hb4⟩
  rw [HE.out.1]
  replace hr := hr.below hb4
  replace hr3 := hr3.below hb4
  replace hbW := hbW.trans (hb4.mono hbW.size)
  clear hb4 h
  go_wp2_with fail
  refine (creadP_any b bc xs _ hr (by omega)).mono ?_
  rintro e u5 ⟨a5, c5, rfl, hs5, hb5⟩
  rw [HE.out.2]
  replace hr := hr.below hb5
  replace hr3 := hr3.below hb5
  replace hr4 := hr4.below hb5
  replace hbW := hbW.trans (hb5.mono hbW.size)
  clear hb5
  go_wp2_with fail
  refine (sreadP_any b bc xs _ hr (by omega)).mono ?_
  rintro e u6 ⟨a6, c6, rfl, hs6, hb6⟩
  rw [HE.out.2]
  replace hr3 := hr3.below hb6
  replace hr4 := hr4.below hb6
  replace hs5 := hs5.below hb6
  replace hbW := hbW.trans (hb6.mono hbW.size)
  clear hb6 hr
  generalize wrPB m = fl at *
  generalize rdPL xs = mm at *
  go_wp2_with fail
  refine (same8_any a3 a4 c3 c4 fl _ hr3 hr4).mono ?_
  rintro e u7 ⟨rfl, hb7⟩
  replace hs5 := hs5.below hb7
  replace hs6 := hs6.below hb7
  replace hbW := hbW.trans (hb7.mono hbW.size)
  clear hb7 hr3 hr4
  go_wp2_with fail
  refine (ssameP_any a5 a6 c5 c6 mm _ hs5 hs6).mono ?_
  rintro e u8 ⟨rfl, hb8⟩
  replace hbW := hbW.trans (hb8.mono hbW.size)
  clear hb8 hs5 hs6
  go_wp2
  go_ret
  exact ⟨rfl, hbW⟩

end Go.Proofs.YtdholmnniccbcaaGreatDoor
