/-
  foundrylaw09.TentsRegions: the walk.
-/
import Derived.Test.YtdhkpgndpgacbaaGreatDoorZ11
import Derived.Test.YtdhkpgndpgacbaaGreatDoorZ12
import Derived.Test.YtdhkpgndpgacbaaGreatDoorZ15
import Derived.Test.YtdhkpgndpgacbaaGreatDoorZ16
namespace Go.Proofs.YtdhkpgndpgacbaaGreatDoor
open Go.RowKit Go.Maps
set_option linter.unusedSimpArgs false
set_option linter.unusedVariables false

set_option maxHeartbeats 4000000 in
set_option maxRecDepth 100000 in
theorem tentsRegions_any (a : Option Addr) (cap : Nat) (l : List Te) (pa : Option Addr) (pc : Nat) (cs : List Int) (n : Int) (w : World) (h : Tz w a cap l) (hp : Ri w pa pc cs) (hn : I64 n) (htab : Pow w) :
    Calls Tryz.prog 3 #[.slice a l.length cap, .slice pa cs.length pc, .int .i64 n] w fun e w' => e = .returned (.bool true) ∧ Below w.heap.size w w' := by
  have k1 := h.lenB
  have k2 := hp.lenB
  have HTAB : Hid (Pow w) := htab
  clear htab
  go_enter Tryz.func3, Tryz.ntmps3
  go_wp2_with fail
  refine (awake9_any _ HTAB.out).mono ?_
  rintro e u1 ⟨rfl, hbW⟩
  replace h := h.below hbW
  replace hp := hp.below hbW
  by_cases hf : l.length ≤ 12 ∧ cs.length ≤ 100
  · obtain ⟨hl, hc⟩ := hf
    have g1 : decide ((12 : Int) < (l.length : Int)) = false := decide_eq_false (by omega)
    have g2 : decide ((100 : Int) < (cs.length : Int)) = false := decide_eq_false (by omega)
    have g3 : ¬ (100 : Int) < (cs.length : Int) := by omega
    go_wp2_with fail
    refine (callT_any a cap l pa pc cs _ h hp (by omega)).mono ?_
    rintro e u2 ⟨v2, rfl, hF2, hb2⟩
    replace h := h.below hb2
    replace hp := hp.below hb2
    replace hbW := hbW.trans (hb2.mono hbW.size)
    clear hb2
    go_wp2_with fail
    refine (plain9_any _ _ _ _ hF2.ct).mono ?_
    rintro e u3 ⟨rfl, hb3⟩
    replace h := h.below hb3
    replace hp := hp.below hb3
    replace hF2 := hF2.below hb3
    replace hbW := hbW.trans (hb3.mono hbW.size)
    clear hb3
    go_wp2_with fail
    refine (sallT_any a cap l pa pc cs _ h hp (by omega)).mono ?_
    rintro e u4 ⟨v4, rfl, hF4, hb4⟩
    replace h := h.below hb4
    replace hF2 := hF2.below hb4
    replace hbW := hbW.trans (hb4.mono hbW.size)
    clear hb4 hp
    go_wp2_with fail
    refine (same3_any _ _ _ _ _ _ _ hF2 hF4 rfl).mono ?_
    rintro e u5 ⟨rfl, hb5⟩
    replace h := h.below hb5
    replace hbW := hbW.trans (hb5.mono hbW.size)
    clear hb5 hF2 hF4
    have hr1 := fun U hU => cregion_any a cap l n U hU
    have hr2 := fun U hU => sregion_any a cap l n U hU
    generalize rgB l n = t1 at hr1 hr2
    have e1 : (t1 == t1) = true := by simp
    go_wp2_with fail
    refine (hr1 _ h).mono ?_
    rintro e u6 ⟨rfl, hb6⟩
    replace h := h.below hb6
    replace hbW := hbW.trans (hb6.mono hbW.size)
    clear hb6 hr1
    go_wp2_with fail
    refine (hr2 _ h).mono ?_
    rintro e u7 ⟨rfl, hb7⟩
    replace h := h.below hb7
    replace hbW := hbW.trans (hb7.mono hbW.size)
    clear hb7 hr2
    go_wp2_with fail
    refine (cpeak_any a cap l _ h (by omega)).mono ?_
    rintro e u8 ⟨a8, c8, rfl, hP8, hb8⟩
    replace h := h.below hb8
    replace hbW := hbW.trans (hb8.mono hbW.size)
    clear hb8 e1
    go_wp2_with fail
    refine (speak_any a cap l _ h (by omega)).mono ?_
    rintro e u9 ⟨a9, c9, rfl, hP9, hb9⟩
    replace h := h.below hb9
    replace hP8 := hP8.below hb9
    replace hbW := hbW.trans (hb9.mono hbW.size)
    clear hb9
    go_wp2_with fail
    refine (ssameI_any a8 a9 c8 c9 _ _ hP8 hP9).mono ?_
    rintro e u10 ⟨rfl, hb10⟩
    replace h := h.below hb10
    replace hbW := hbW.trans (hb10.mono hbW.size)
    clear hb10 hP8 hP9
    have hr1 := fun U hU => ceverywhere_any a cap l U hU
    have hr2 := fun U hU => severywhere_any a cap l U hU
    generalize evB l = t2 at hr1 hr2
    have e1 : (t2 == t2) = true := by simp
    go_wp2_with fail
    refine (hr1 _ h).mono ?_
    rintro e u11 ⟨rfl, hb11⟩
    replace h := h.below hb11
    replace hbW := hbW.trans (hb11.mono hbW.size)
    clear hb11 hr1
    go_wp2_with fail
    refine (hr2 _ h).mono ?_
    rintro e u12 ⟨rfl, hb12⟩
    replace hbW := hbW.trans (hb12.mono hbW.size)
    clear hb12 hr2 h
    go_wp2
    go_ret
    exact ⟨rt_bool (by simp), hbW⟩
  · clear h hp
    by_cases h1 : l.length ≤ 12
    · have g1 : decide ((12 : Int) < (l.length : Int)) = false := decide_eq_false (by omega)
      have g2 : decide ((100 : Int) < (cs.length : Int)) = true := decide_eq_true (by omega)
      have g3 : (100 : Int) < (cs.length : Int) := by omega
      clear hf
      go_wp2_with fail
      refine (awake9_any _ (HTAB.out.below hbW)).mono ?_
      rintro e u2 ⟨rfl, hb2⟩
      replace hbW := hbW.trans (hb2.mono hbW.size)
      clear hb2
      go_wp2
      go_ret
      exact ⟨rfl, hbW⟩
    · have g1 : decide ((12 : Int) < (l.length : Int)) = true := decide_eq_true (by omega)
      clear hf
      go_wp2_with fail
      refine (awake9_any _ (HTAB.out.below hbW)).mono ?_
      rintro e u2 ⟨rfl, hb2⟩
      replace hbW := hbW.trans (hb2.mono hbW.size)
      clear hb2
      go_wp2
      go_ret
      exact ⟨rfl, hbW⟩

end Go.Proofs.YtdhkpgndpgacbaaGreatDoor
