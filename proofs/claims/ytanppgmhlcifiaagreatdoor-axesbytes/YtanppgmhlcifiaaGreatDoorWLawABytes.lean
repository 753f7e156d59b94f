/-
  foundrylaw06.AxesBytes: the walk.
-/
import Derived.Test.YtanppgmhlcifiaaGreatDoorZ16
import Derived.Test.YtanppgmhlcifiaaGreatDoorZ26
import Derived.Test.YtanppgmhlcifiaaGreatDoorZ25
namespace Go.Proofs.YtanppgmhlcifiaaGreatDoor
open Go.RowKit Go.Maps
set_option linter.unusedSimpArgs false
set_option linter.unusedVariables false

theorem As.lenB {w : World} {a : Option Addr} {cap : Nat} {l : List Ax} (h : As w a cap l) : l.length ≤ 9223372036854775807 := by
  have h1 := h.1
  have h2 := h.2.1
  unfold maxLen at h2
  omega

set_option maxHeartbeats 4000000 in
set_option maxRecDepth 100000 in
theorem axesBytes_any (a : Option Addr) (cap : Nat) (l : List Ax) (b : Option Addr) (bc : Nat) (xs : List Nat) (w : World) (h : As w a cap l) (hr : Rb w b bc xs) (htab : Pow w) :
    Calls Tryz.prog 4 #[.slice a l.length cap, .slice b xs.length bc] w fun e w' => e = .returned (.bool true) ∧ Below w.heap.size w w' := by
  have z1 := h.lenB
  have z2 : xs.length ≤ 9223372036854775807 := by have h1 := hr.le; have h2 := hr.cap; unfold maxLen at h2; omega
  by_cases hl : l.length ≤ 30
  rotate_left
  · have g1 : (30 : Int) < (l.length : Int) := by omega
    go_enter Tryz.func4, Tryz.ntmps4
    go_wp2_with fail
    refine (awake6_any _ htab).mono ?_
    rintro e u1 ⟨rfl, hb1⟩
    go_wp2_with fail
    refine (awake6_any _ (htab.below hb1)).mono ?_
    rintro e u2 ⟨rfl, hb2⟩
    have hbW := hb1.trans (hb2.mono hb1.size)
    go_wp2
    go_ret
    exact ⟨rfl, hbW⟩
  have g1 : ¬ (30 : Int) < (l.length : Int) := by omega
  by_cases hl2 : xs.length ≤ 1000
  rotate_left
  · have g2 : (1000 : Int) < (xs.length : Int) := by omega
    go_enter Tryz.func4, Tryz.ntmps4
    go_wp2_with fail
    refine (awake6_any _ htab).mono ?_
    rintro e u1 ⟨rfl, hb1⟩
    go_wp2_with fail
    refine (awake6_any _ (htab.below hb1)).mono ?_
    rintro e u2 ⟨rfl, hb2⟩
    have hbW := hb1.trans (hb2.mono hb1.size)
    go_wp2
    go_ret
    exact ⟨rfl, hbW⟩
  have g2 : ¬ (1000 : Int) < (xs.length : Int) := by omega
  obtain ⟨e1, he1⟩ : ∃ e, wrE l = e := ⟨_, rfl⟩
  obtain ⟨e2, he2⟩ : ∃ e, rdE xs = e := ⟨_, rfl⟩
  have HE : Hid (wrE l = e1 ∧ rdE xs = e2) := ⟨he1, he2⟩
  have i1 : (e1 == e1) = true := by simp
  have i2 : (e2 == e2) = true := by simp
  clear he1 he2
  go_enter Tryz.func4, Tryz.ntmps4
  go_wp2_with fail
  refine (awake6_any _ htab).mono ?_
  rintro e u1 ⟨rfl, hb1⟩
  have hbW := hb1
  replace h := h.below hb1
  replace hr := hr.below hb1
  clear hb1 htab
  go_wp2_with fail
  refine (cwrite_any a cap l _ h).mono ?_
  rintro e u2 ⟨a2, c2, rfl, hr2, hb2⟩
  rw [HE.out.1]
  replace h := h.below hb2
  replace hr := hr.below hb2
  replace hbW := hbW.trans (hb2.mono hbW.size)
  clear hb2
  go_wp2_with fail
  refine (swrite_any a cap l _ h).mono ?_
  rintro e u3 ⟨a3, c3, rfl, hr3, hb3⟩
  rw [HE.out.1]
  replace hr := hr.below hb3
  replace hr2 := hr2.below hb3
  replace hbW := hbW.trans (hb3.mono hbW.size)
  clear hb3 h
  go_wp2_with fail
  refine (cread_any b bc xs _ hr (by omega)).mono ?_
  rintro e u4 ⟨a4, c4, rfl, hs4, hb4⟩
  rw [HE.out.2]
  replace hr := hr.below hb4
  replace hr2 := hr2.below hb4
  replace hr3 := hr3.below hb4
  replace hbW := hbW.trans (hb4.mono hbW.size)
  clear hb4
  go_wp2_with fail
  refine (sread_any b bc xs _ hr (by omega)).mono ?_
  rintro e u5 ⟨a5, c5, rfl, hs5, hb5⟩
  rw [HE.out.2]
  replace hr2 := hr2.below hb5
  replace hr3 := hr3.below hb5
  replace hs4 := hs4.below hb5
  replace hbW := hbW.trans (hb5.mono hbW.size)
  clear hb5 hr
  generalize wrB l = fl at *
  generalize rdL xs = m at *
  go_wp2_with fail
  refine (same8_any a2 a3 c2 c3 fl _ hr2 hr3).mono ?_
  rintro e u6 ⟨rfl, hb6⟩
  replace hs4 := hs4.below hb6
  replace hs5 := hs5.below hb6
  replace hbW := hbW.trans (hb6.mono hbW.size)
  clear hb6 hr2 hr3
  go_wp2_with fail
  refine (ssameA_any a4 a5 c4 c5 m _ hs4 hs5).mono ?_
  rintro e u7 ⟨rfl, hb7⟩
  replace hbW := hbW.trans (hb7.mono hbW.size)
  clear hb7 hs4 hs5
  go_wp2
  go_ret
  exact ⟨rfl, hbW⟩

end Go.Proofs.YtanppgmhlcifiaaGreatDoor
