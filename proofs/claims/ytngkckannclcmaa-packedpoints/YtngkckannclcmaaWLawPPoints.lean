/-
  foundrylaw11.PackedPoints: the walk.
-/
import Derived.Test.YtngkckannclcmaaZ7
import Derived.Test.YtngkckannclcmaaZ9
import Derived.Test.YtngkckannclcmaaZ10
import Derived.Test.YtngkckannclcmaaZ11
namespace Go.Proofs.Ytngkckannclcmaa
open Go.RowKit Go.Maps
set_option linter.unusedSimpArgs false
set_option linter.unusedVariables false

set_option maxHeartbeats 4000000 in
set_option maxRecDepth 100000 in
theorem packedPoints_any (C : CodP) (a : Option Addr) (ca : Nat) (l : List Int) (pa : Option Addr) (pc : Nat) (xs : List Nat) (w : World) (hl : Ri w a ca l) (hb : Rb w pa pc xs) :
    Calls Try.prog 3 #[.slice a l.length ca, .slice pa xs.length pc] w fun e w' => e = .returned (.bool true) ∧ Below w.heap.size w w' := by
  have k1 := hl.lenB
  have k3 := hb.le
  have k4 := hb.cap
  unfold maxLen at k4
  have hbW : Below w.heap.size w w := Below.refl _ _
  go_enter Try.func3, Try.ntmps3
  go_wp2_with fail
  refine (awake11_any C _).mono ?_
  rintro e t1 ⟨rfl, hb1⟩
  replace hl := hl.below hb1
  replace hb := hb.below hb1
  replace hbW : Below w.heap.size w t1 := hbW.trans (hb1.mono hbW.size)
  clear hb1 
  by_cases h1 : 3000 < l.length
  · have g1 : (3000 : Int) < (l.length : Int) := by omega
    go_wp2_with fail
    refine (awake11_any C _).mono ?_
    rintro e v9 ⟨rfl, hb9⟩
    replace hbW := hbW.trans (hb9.mono hbW.size)
    clear hb9
    go_wp2
    go_ret
    exact ⟨rfl, hbW⟩
  have g1 : ¬ (3000 : Int) < (l.length : Int) := by omega
  by_cases h2 : 6000 < xs.length
  · have g2 : (6000 : Int) < (xs.length : Int) := by omega
    go_wp2_with fail
    refine (awake11_any C _).mono ?_
    rintro e v9 ⟨rfl, hb9⟩
    replace hbW := hbW.trans (hb9.mono hbW.size)
    clear hb9
    go_wp2
    go_ret
    exact ⟨rfl, hbW⟩
  have g2 : ¬ (6000 : Int) < (xs.length : Int) := by omega
  have hl3 : l.length ≤ 3000 := by omega
  have hx6 : xs.length ≤ 10000 := by omega
  have hx7 : xs.length ≤ 1000000000 := by omega
  clear h1 h2
  go_wp2_with fail
  refine (C.pts _ _ _ _ hl hl3).mono ?_
  rintro e t2 ⟨a1, c1, rfl, hr1, hb2⟩
  replace hl := hl.below hb2
  replace hb := hb.below hb2
  replace hbW : Below w.heap.size w t2 := hbW.trans (hb2.mono hbW.size)
  clear hb2 
  go_wp2_with fail
  refine (sPoints_any _ _ _ _ hl).mono ?_
  rintro e t3 ⟨a2, c2, rfl, hr2, hb3⟩
  replace hl := hl.below hb3
  replace hb := hb.below hb3
  replace hr1 := hr1.below hb3
  replace hbW : Below w.heap.size w t3 := hbW.trans (hb3.mono hbW.size)
  clear hb3 
  go_wp2_with fail
  refine (C.rpts _ _ _ _ hb hx6).mono ?_
  rintro e t4 ⟨a3, c3, rfl, hr3, hb4⟩
  replace hl := hl.below hb4
  replace hb := hb.below hb4
  replace hr1 := hr1.below hb4
  replace hr2 := hr2.below hb4
  replace hbW : Below w.heap.size w t4 := hbW.trans (hb4.mono hbW.size)
  clear hb4 
  go_wp2_with fail
  refine (sReadPoints_any _ _ _ _ hb hx7).mono ?_
  rintro e t5 ⟨a4, c4, rfl, hr4, hb5⟩
  replace hl := hl.below hb5
  replace hb := hb.below hb5
  replace hr1 := hr1.below hb5
  replace hr2 := hr2.below hb5
  replace hr3 := hr3.below hb5
  replace hbW : Below w.heap.size w t5 := hbW.trans (hb5.mono hbW.size)
  clear hb5 
  obtain ⟨e1, he1⟩ : ∃ z, ppE l = z := ⟨_, rfl⟩
  have g3 : (e1 == e1) = true := by simp
  have hsm := fun U h1 h2 => same8g_any a1 a2 c1 c2 (ppB l) (ppB l) U h1 h2
  simp only [decide_true] at hsm
  have hsi := fun U h1 h2 => ssameI_any a3 a4 c3 c4 (rpL xs) U h1 h2
  generalize ppE l = y1 at *
  generalize rpN xs = y2 at *
  generalize rpE xs = y3 at *
  generalize rpL xs = y4 at *
  have g4 : (y1 == y1) = true := by simp
  have g5 : (y2 == y2) = true := by simp
  have g6 : (y3 == y3) = true := by simp
  clear he1 g3
  go_wp2_with fail
  refine (hsm _ hr1 hr2).mono ?_
  rintro e t6 ⟨rfl, hb6⟩
  replace hl := hl.below hb6
  replace hb := hb.below hb6
  replace hr1 := hr1.below hb6
  replace hr2 := hr2.below hb6
  replace hr3 := hr3.below hb6
  replace hr4 := hr4.below hb6
  replace hbW : Below w.heap.size w t6 := hbW.trans (hb6.mono hbW.size)
  clear hb6 
  go_wp2_with fail
  refine (hsi _ hr3 hr4).mono ?_
  rintro e t7 ⟨rfl, hb7⟩
  replace hl := hl.below hb7
  replace hb := hb.below hb7
  replace hr1 := hr1.below hb7
  replace hr2 := hr2.below hb7
  replace hr3 := hr3.below hb7
  replace hr4 := hr4.below hb7
  replace hbW : Below w.heap.size w t7 := hbW.trans (hb7.mono hbW.size)
  clear hb7 
  go_wp2
  go_ret
  exact ⟨rt_bool (by first | rfl | simp), hbW⟩

end Go.Proofs.Ytngkckannclcmaa
