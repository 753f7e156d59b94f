/-
  foundrylaw07.BendBack: the walk.
-/
import Derived.Test.YtdholmnniccbcaaGreatDoorZ14
import Derived.Test.YtdholmnniccbcaaGreatDoorZ27
import Derived.Test.YtdholmnniccbcaaGreatDoorZ28
namespace Go.Proofs.YtdholmnniccbcaaGreatDoor
open Go.RowKit Go.Maps
set_option linter.unusedSimpArgs false
set_option linter.unusedVariables false

set_option maxHeartbeats 4000000 in
set_option maxRecDepth 100000 in
theorem bendBack_any (a : Option Addr) (cap : Nat) (m : List (List Pr)) (b : Option Addr) (bc : Nat) (xs : List Nat) (w : World) (h : Pzz w a cap m) (hr : Rb w b bc xs) (htab : Pow w) :
    Calls Tryz.prog 5 #[.slice a m.length cap, .slice b xs.length bc] w fun e w' => e = .returned (.bool true) ∧ Below w.heap.size w w' := by
  have z1 := h.lenB
  have z2 : xs.length ≤ 9223372036854775807 := by have h1 := hr.le; have h2 := hr.cap; unfold maxLen at h2; omega
  have HTAB : Hid (Pow w) := htab
  clear htab
  go_enter Tryz.func5, Tryz.ntmps5
  go_wp2_with fail
  refine (awake7_any _ HTAB.out).mono ?_
  rintro e u1 ⟨rfl, hb1⟩
  have hbW := hb1
  replace h := h.below hb1
  replace hr := hr.below hb1
  clear hb1
  go_wp2_with fail
  refine (few7_any a cap m false none none 0 0 0 0 _ h (by decide) (by decide)).mono ?_
  rintro e u2 ⟨q, rfl, _, hb2⟩
  replace h := h.below hb2
  replace hr := hr.below hb2
  replace hbW := hbW.trans (hb2.mono hbW.size)
  clear hb2
  cases q with
  | false =>
    go_wp2_with fail
    refine (awake7_any _ (HTAB.out.below hbW)).mono ?_
    rintro e u3 ⟨rfl, hb3⟩
    replace hbW := hbW.trans (hb3.mono hbW.size)
    clear hb3
    go_wp2
    go_ret
    exact ⟨rfl, hbW⟩
  | true =>
  by_cases hl2 : xs.length ≤ 1000
  rotate_left
  · have g2 : (1000 : Int) < (xs.length : Int) := by omega
    go_wp2_with fail
    refine (awake7_any _ (HTAB.out.below hbW)).mono ?_
    rintro e u3 ⟨rfl, hb3⟩
    replace hbW := hbW.trans (hb3.mono hbW.size)
    clear hb3
    go_wp2
    go_ret
    exact ⟨rfl, hbW⟩
  have g2 : ¬ (1000 : Int) < (xs.length : Int) := by omega
  have hbyt := hr.lim
  have HR : Hid (rdPB xs = true → bnB (rdPL xs) = xs ∧ frL (rdPL xs) = true) := fun hh => bnB_read hbyt hh
  have HR2 : Hid (rdPE xs = (if rdPB xs then 0 else 2) ∧ (rdPB xs = false → rdPL xs = [])) := ⟨rfl, fun e => by simp [rdPL, e]⟩
  have HW : Hid (∀ l, wrPE l = (if frL l then 0 else 1) ∧ wrPB l = if frL l then bnB l else []) := fun l => ⟨rfl, rfl⟩
  clear hbyt
  cases hfr : frL m with
  | true =>
    obtain ⟨q1, q2, _, _⟩ := read_bnB hfr
    have e1 : wrPE m = 0 := by rw [(HW.out m).1, hfr]; rfl
    have e2 : wrPB m = bnB m := by rw [(HW.out m).2, hfr]; rfl
    have HRX : Hid (rdPE (bnB m) = 0 ∧ rdPL (bnB m) = m) := ⟨by simp [rdPE, q1], q2⟩
    have hlx : (bnB m).length ≤ 1000000000 := by have := bnB_le hfr; omega
    have hwr := fun W hW => cwriteP_any a cap m W hW
    rw [e1, e2] at hwr
    clear q1 q2 e1 e2 hfr
    generalize hfx : bnB m = fx at *
    have HFX : Hid (bnB m = fx) := hfx
    clear hfx
    go_wp2_with fail
    refine (hwr _ h).mono ?_
    rintro e u3 ⟨a3, c3, rfl, hr3, hb3⟩
    replace h := h.below hb3
    replace hr := hr.below hb3
    replace hbW := hbW.trans (hb3.mono hbW.size)
    clear hb3 hwr
    go_wp2_with fail
    have hrd := creadP_any a3 c3 fx _ hr3 hlx
    rw [HRX.out.1, HRX.out.2] at hrd
    refine hrd.mono ?_
    rintro e u4 ⟨a4, c4, rfl, hs4, hb4⟩
    replace h := h.below hb4
    replace hr := hr.below hb4
    replace hbW := hbW.trans (hb4.mono hbW.size)
    clear hb4 hrd hr3
    go_wp2_with fail
    refine (ssameP_any a a4 cap c4 m _ h hs4).mono ?_
    rintro e u5 ⟨rfl, hb5⟩
    replace hr := hr.below hb5
    replace hbW := hbW.trans (hb5.mono hbW.size)
    clear hb5 hs4 h
    have hrd := creadP_any b bc xs _ hr (by omega)
    cases hrb : rdPB xs with
    | false =>
      rw [HR2.out.1, HR2.out.2 hrb, hrb] at hrd
      simp only [Bool.false_eq_true, if_false, List.length_nil] at hrd
      go_wp2_with fail
      refine hrd.mono ?_
      rintro e u7 ⟨a7, c7, rfl, _, hb7⟩
      replace hbW := hbW.trans (hb7.mono hbW.size)
      clear hb7 hrd
      go_wp2
      go_ret
      exact ⟨rfl, hbW⟩
    | true =>
      obtain ⟨r1, r2⟩ := HR.out hrb
      have hwr := fun a cap W hW => cwriteP_any a cap (rdPL xs) W hW
      rw [(HW.out (rdPL xs)).1, (HW.out (rdPL xs)).2, r2] at hwr
      rw [HR2.out.1, hrb] at hrd
      simp only [if_true, r1] at hwr hrd
      have HM : Hid (bnB (rdPL xs) = xs) := r1
      clear r1 r2
      generalize rdPL xs = mm at *
      go_wp2_with fail
      refine hrd.mono ?_
      rintro e u7 ⟨a7, c7, rfl, hs7, hb7⟩
      replace hr := hr.below hb7
      replace hbW := hbW.trans (hb7.mono hbW.size)
      clear hb7 hrd
      go_wp2_with fail
      refine (hwr _ _ _ hs7).mono ?_
      rintro e u8 ⟨a8, c8, rfl, hr8, hb8⟩
      replace hr := hr.below hb8
      replace hbW := hbW.trans (hb8.mono hbW.size)
      clear hb8 hwr hs7
      go_wp2_with fail
      refine (same8_any b a8 bc c8 xs _ hr hr8).mono ?_
      rintro e u9 ⟨rfl, hb9⟩
      replace hbW := hbW.trans (hb9.mono hbW.size)
      clear hb9 hr8
      go_wp2
      go_ret
      exact ⟨rfl, hbW⟩
  | false =>
    have e1 : wrPE m = 1 := by rw [(HW.out m).1, hfr]; rfl
    have e2 : wrPB m = [] := by rw [(HW.out m).2, hfr]; rfl
    have hwr := fun W hW => cwriteP_any a cap m W hW
    rw [e1, e2] at hwr
    simp only [List.length_nil] at hwr
    have hrn : rdPB [] = false := by decide +kernel
    have HRX : Hid (rdPE [] = 2 ∧ rdPL [] = []) := ⟨by simp [rdPE, hrn], by simp [rdPL, hrn]⟩
    clear e1 e2 hfr hrn
    go_wp2_with fail
    refine (hwr _ h).mono ?_
    rintro e u3 ⟨a3, c3, rfl, hr3, hb3⟩
    replace h := h.below hb3
    replace hr := hr.below hb3
    replace hbW := hbW.trans (hb3.mono hbW.size)
    clear hb3 hwr
    go_wp2_with fail
    have hrd := creadP_any a3 c3 [] _ hr3 (by simp)
    rw [HRX.out.1, HRX.out.2] at hrd
    simp only [List.length_nil] at hrd
    refine hrd.mono ?_
    rintro e u4 ⟨a4, c4, rfl, hs4, hb4⟩
    replace h := h.below hb4
    replace hr := hr.below hb4
    replace hbW := hbW.trans (hb4.mono hbW.size)
    clear hb4 hrd hr3 hs4 h
    have hrd := creadP_any b bc xs _ hr (by omega)
    cases hrb : rdPB xs with
    | false =>
      rw [HR2.out.1, HR2.out.2 hrb, hrb] at hrd
      simp only [Bool.false_eq_true, if_false, List.length_nil] at hrd
      go_wp2_with fail
      refine hrd.mono ?_
      rintro e u7 ⟨a7, c7, rfl, _, hb7⟩
      replace hbW := hbW.trans (hb7.mono hbW.size)
      clear hb7 hrd
      go_wp2
      go_ret
      exact ⟨rfl, hbW⟩
    | true =>
      obtain ⟨r1, r2⟩ := HR.out hrb
      have hwr := fun a cap W hW => cwriteP_any a cap (rdPL xs) W hW
      rw [(HW.out (rdPL xs)).1, (HW.out (rdPL xs)).2, r2] at hwr
      rw [HR2.out.1, hrb] at hrd
      simp only [if_true, r1] at hwr hrd
      have HM : Hid (bnB (rdPL xs) = xs) := r1
      clear r1 r2
      generalize rdPL xs = mm at *
      go_wp2_with fail
      refine hrd.mono ?_
      rintro e u7 ⟨a7, c7, rfl, hs7, hb7⟩
      replace hr := hr.below hb7
      replace hbW := hbW.trans (hb7.mono hbW.size)
      clear hb7 hrd
      go_wp2_with fail
      refine (hwr _ _ _ hs7).mono ?_
      rintro e u8 ⟨a8, c8, rfl, hr8, hb8⟩
      replace hr := hr.below hb8
      replace hbW := hbW.trans (hb8.mono hbW.size)
      clear hb8 hwr hs7
      go_wp2_with fail
      refine (same8_any b a8 bc c8 xs _ hr hr8).mono ?_
      rintro e u9 ⟨rfl, hb9⟩
      replace hbW := hbW.trans (hb9.mono hbW.size)
      clear hb9 hr8
      go_wp2
      go_ret
      exact ⟨rfl, hbW⟩

end Go.Proofs.YtdholmnniccbcaaGreatDoor
