/-
  foundrylaw06.AxesBack: the walk.
-/
import Derived.Test.YtanppgmhlcifiaaDoorZ16
import Derived.Test.YtanppgmhlcifiaaDoorZ22
import Derived.Test.YtanppgmhlcifiaaDoorZ21
namespace Go.Proofs.YtanppgmhlcifiaaDoor
open Go.RowKit Go.Maps
set_option linter.unusedSimpArgs false
set_option linter.unusedVariables false

theorem As.lenB {w : World} {a : Option Addr} {cap : Nat} {l : List Ax} (h : As w a cap l) : l.length ≤ 9223372036854775807 := by
  have h1 := h.1
  have h2 := h.2.1
  unfold maxLen at h2
  omega

set_option maxHeartbeats 4000000 in
set_option maxRecDepth 100000 in
theorem axesBack_any (a : Option Addr) (cap : Nat) (l : List Ax) (b : Option Addr) (bc : Nat) (xs : List Nat) (w : World) (h : As w a cap l) (hr : Rb w b bc xs) (htab : Pow w) :
    Calls Tryd.prog 4 #[.slice a l.length cap, .slice b xs.length bc] w fun e w' => e = .returned (.bool true) ∧ Below w.heap.size w w' := by
  have z1 := h.lenB
  have z2 : xs.length ≤ 9223372036854775807 := by have h1 := hr.le; have h2 := hr.cap; unfold maxLen at h2; omega
  by_cases hl : l.length ≤ 30
  rotate_left
  · have g1 : (30 : Int) < (l.length : Int) := by omega
    go_enter Tryd.func4, Tryd.ntmps4
    go_wp2_with fail
    refine (awake6_any _ htab).mono ?_
    rintro e u1 ⟨rfl, hb1⟩
    go_wp2_with fail
    refine (awake6_any _ (htab.below hb1)).mono ?_
    rintro e u2 ⟨rfl, hb2⟩
    have hbW := hb1.trans (hb2.mono hb1.size)
    go_wp2
    go_ret
    exact ⟨rfl, hbW⟩
  have g1 : ¬ (30 : Int) < (l.length : Int) := by omega
  by_cases hl2 : xs.length ≤ 1000
  rotate_left
  · have g2 : (1000 : Int) < (xs.length : Int) := by omega
    go_enter Tryd.func4, Tryd.ntmps4
    go_wp2_with fail
    refine (awake6_any _ htab).mono ?_
    rintro e u1 ⟨rfl, hb1⟩
    go_wp2_with fail
    refine (awake6_any _ (htab.below hb1)).mono ?_
    rintro e u2 ⟨rfl, hb2⟩
    have hbW := hb1.trans (hb2.mono hb1.size)
    go_wp2
    go_ret
    exact ⟨rfl, hbW⟩
  have g2 : ¬ (1000 : Int) < (xs.length : Int) := by omega
  have hbyt := hr.lim
  have HR : Hid (rdB xs = true → axB (axR xs) = xs ∧ FrA (axR xs)) := fun hh => axB_read hbyt hh
  have HR2 : Hid (rdE xs = (if rdB xs then 0 else 2) ∧ rdL xs = if rdB xs then axR xs else []) := ⟨rfl, rfl⟩
  have HW : Hid (∀ l, wrE l = (if frA l then 0 else 1) ∧ wrB l = if frA l then axB l else []) := fun l => ⟨rfl, rfl⟩
  clear hbyt
  cases hfr : frA l with
  | true =>
    have hf := frA_iff.1 hfr
    obtain ⟨q1, q2⟩ := read_axB hf
    have e1 : wrE l = 0 := by rw [(HW.out l).1, hfr]; rfl
    have e2 : wrB l = axB l := by rw [(HW.out l).2, hfr]; rfl
    have HRX : Hid (rdE (axB l) = 0 ∧ rdL (axB l) = l) := ⟨by simp [rdE, q1], q2⟩
    have hlx : (axB l).length ≤ 1000000000 := by rw [axB_len (fun t ht => hf.tag ht)]; have := hf.1; omega
    have hwr := fun W hW => cwrite_any a cap l W hW
    rw [e1, e2] at hwr
    clear hf q1 q2 e1 e2
    generalize hfx : axB l = fx at *
    have HFX : Hid (axB l = fx) := hfx
    clear hfx
    go_enter Tryd.func4, Tryd.ntmps4
    go_wp2_with fail
    refine (awake6_any _ htab).mono ?_
    rintro e u1 ⟨rfl, hb1⟩
    have hbW := hb1
    replace h := h.below hb1
    replace hr := hr.below hb1
    clear hb1 htab
    go_wp2_with fail
    refine (hwr _ h).mono ?_
    rintro e u2 ⟨a2, c2, rfl, hr2, hb2⟩
    replace h := h.below hb2
    replace hr := hr.below hb2
    replace hbW := hbW.trans (hb2.mono hbW.size)
    clear hb2 hwr
    go_wp2_with fail
    have hrd := cread_any a2 c2 fx _ hr2 hlx
    rw [HRX.out.1, HRX.out.2] at hrd
    refine hrd.mono ?_
    rintro e u3 ⟨a3, c3, rfl, hs3, hb3⟩
    replace h := h.below hb3
    replace hr := hr.below hb3
    replace hbW := hbW.trans (hb3.mono hbW.size)
    clear hb3 hrd hr2
    go_wp2_with fail
    refine (ssameA_any a a3 cap c3 l _ h hs3).mono ?_
    rintro e u4 ⟨rfl, hb4⟩
    replace h := h.below hb4
    replace hr := hr.below hb4
    replace hbW := hbW.trans (hb4.mono hbW.size)
    clear hb4 hs3
    cases hrb : rdB xs with
    | false =>
      have hrd := cread_any b bc xs _ hr (by omega)
      rw [HR2.out.1, HR2.out.2, hrb] at hrd
      simp only [Bool.false_eq_true, if_false, List.length_nil] at hrd
      go_wp2_with fail
      refine hrd.mono ?_
      rintro e u5 ⟨a5, c5, rfl, _, hb5⟩
      replace h := h.below hb5
      replace hbW := hbW.trans (hb5.mono hbW.size)
      clear hb5 hrd
      go_wp2_with fail
      refine (cformed_any a cap l _ h).mono ?_
      rintro e u6 ⟨rfl, hb6⟩
      rw [hfr]
      replace hbW := hbW.trans (hb6.mono hbW.size)
      clear hb6
      go_wp2
      go_ret
      exact ⟨rfl, hbW⟩
    | true =>
      obtain ⟨r1, r2⟩ := HR.out hrb
      have hrd := cread_any b bc xs _ hr (by omega)
      rw [HR2.out.1, HR2.out.2, hrb] at hrd
      simp only [if_true] at hrd
      have hwr := fun a cap W hW => cwrite_any a cap (axR xs) W hW
      rw [(HW.out (axR xs)).1, (HW.out (axR xs)).2, frA_iff.2 r2] at hwr
      simp only [if_true, r1] at hwr
      have HM : Hid (axB (axR xs) = xs) := r1
      clear r1 r2
      generalize axR xs = m at *
      go_wp2_with fail
      refine hrd.mono ?_
      rintro e u5 ⟨a5, c5, rfl, hs5, hb5⟩
      replace hr := hr.below hb5
      replace hbW := hbW.trans (hb5.mono hbW.size)
      clear hb5 hrd
      go_wp2_with fail
      refine (hwr _ _ _ hs5).mono ?_
      rintro e u6 ⟨a6, c6, rfl, hr6, hb6⟩
      replace hr := hr.below hb6
      replace hbW := hbW.trans (hb6.mono hbW.size)
      clear hb6 hwr hs5
      go_wp2_with fail
      refine (same8_any b a6 bc c6 xs _ hr hr6).mono ?_
      rintro e u7 ⟨rfl, hb7⟩
      replace hbW := hbW.trans (hb7.mono hbW.size)
      clear hb7 hr6
      go_wp2
      go_ret
      exact ⟨rfl, hbW⟩
  | false =>
    have e1 : wrE l = 1 := by rw [(HW.out l).1, hfr]; rfl
    have e2 : wrB l = [] := by rw [(HW.out l).2, hfr]; rfl
    have hwr := fun W hW => cwrite_any a cap l W hW
    rw [e1, e2] at hwr
    simp only [List.length_nil] at hwr
    clear e1 e2
    go_enter Tryd.func4, Tryd.ntmps4
    go_wp2_with fail
    refine (awake6_any _ htab).mono ?_
    rintro e u1 ⟨rfl, hb1⟩
    have hbW := hb1
    replace h := h.below hb1
    replace hr := hr.below hb1
    clear hb1 htab
    go_wp2_with fail
    refine (hwr _ h).mono ?_
    rintro e u2 ⟨a2, c2, rfl, _, hb2⟩
    replace h := h.below hb2
    replace hr := hr.below hb2
    replace hbW := hbW.trans (hb2.mono hbW.size)
    clear hb2 hwr
    cases hrb : rdB xs with
    | false =>
      have hrd := cread_any b bc xs _ hr (by omega)
      rw [HR2.out.1, HR2.out.2, hrb] at hrd
      simp only [Bool.false_eq_true, if_false, List.length_nil] at hrd
      go_wp2_with fail
      refine hrd.mono ?_
      rintro e u5 ⟨a5, c5, rfl, _, hb5⟩
      replace h := h.below hb5
      replace hbW := hbW.trans (hb5.mono hbW.size)
      clear hb5 hrd
      go_wp2_with fail
      refine (cformed_any a cap l _ h).mono ?_
      rintro e u6 ⟨rfl, hb6⟩
      rw [hfr]
      replace hbW := hbW.trans (hb6.mono hbW.size)
      clear hb6
      go_wp2
      go_ret
      exact ⟨rfl, hbW⟩
    | true =>
      obtain ⟨r1, r2⟩ := HR.out hrb
      have hrd := cread_any b bc xs _ hr (by omega)
      rw [HR2.out.1, HR2.out.2, hrb] at hrd
      simp only [if_true] at hrd
      have hwr := fun a cap W hW => cwrite_any a cap (axR xs) W hW
      rw [(HW.out (axR xs)).1, (HW.out (axR xs)).2, frA_iff.2 r2] at hwr
      simp only [if_true, r1] at hwr
      have HM : Hid (axB (axR xs) = xs) := r1
      clear r1 r2
      generalize axR xs = m at *
      go_wp2_with fail
      refine hrd.mono ?_
      rintro e u5 ⟨a5, c5, rfl, hs5, hb5⟩
      replace hr := hr.below hb5
      replace hbW := hbW.trans (hb5.mono hbW.size)
      clear hb5 hrd
      go_wp2_with fail
      refine (hwr _ _ _ hs5).mono ?_
      rintro e u6 ⟨a6, c6, rfl, hr6, hb6⟩
      replace hr := hr.below hb6
      replace hbW := hbW.trans (hb6.mono hbW.size)
      clear hb6 hwr hs5
      go_wp2_with fail
      refine (same8_any b a6 bc c6 xs _ hr hr6).mono ?_
      rintro e u7 ⟨rfl, hb7⟩
      replace hbW := hbW.trans (hb7.mono hbW.size)
      clear hb7 hr6
      go_wp2
      go_ret
      exact ⟨rfl, hbW⟩

end Go.Proofs.YtanppgmhlcifiaaDoor
