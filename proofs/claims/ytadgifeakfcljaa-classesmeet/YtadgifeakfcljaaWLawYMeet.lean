/-
  foundrylaw19.ClassesMeet: the walk.
-/
import Derived.Test.YtadgifeakfcljaaZ3
import Derived.Test.YtadgifeakfcljaaZ5
namespace Go.Proofs.Ytadgifeakfcljaa
open Go.RowKit Go.Maps
set_option linter.unusedSimpArgs false
set_option linter.unusedVariables false

set_option maxHeartbeats 8000000 in
set_option maxRecDepth 100000 in
theorem classesMeet_any (S : Nat → Prop) (a : Option Addr) (ca : Nat) (L : List Int) (b : Option Addr) (cb : Nat) (ms : List Bool) (i : Int) (q : Option Addr) (cq : Nat) (A : List Int) (sk : Bool) (w : World) (hL : Ri w a ca L) (hm : Gr El.bool S w b cb ms) (hi : I64 i) (hA : Ri w q cq A) :
    Calls Try.prog 4 #[.agg #[.slice a L.length ca, .slice b ms.length cb], .int .i64 i, .agg #[.slice q A.length cq, .bool sk]] w fun e w' => e = .returned (.bool true) ∧ Below w.heap.size w w' := by
  have k1 := hL.lenB
  have k2 := hm.lenB
  have k3 := hA.lenB
  obtain ⟨W0, hW0, X1, Y1, hbW⟩ : ∃ W0, W0 = (w.alloc (.cells #[.slice a L.length ca, .slice b ms.length cb] 25)).alloc (.cells #[.slice q A.length cq, .bool sk] 33) ∧ Bk 25 W0 w.heap.size [.slice a L.length ca, .slice b ms.length cb] ∧ Bk 33 W0 (w.heap.size + 1) [.slice q A.length cq, .bool sk] ∧ Below w.heap.size w W0 := ⟨_, rfl, (Bk.new _ _ _).below (bl1 _), Bk.new1 _ _ _ _, bl2 _ _⟩
  obtain ⟨x0, x1, -⟩ := X1.two
  obtain ⟨z0, z1, -⟩ := Y1.two
  have HL : Hid (∀ U, Below w.heap.size w U → Ri U a ca L) := fun U hU => hL.below hU
  have HM : Hid (∀ U, Below w.heap.size w U → Gr El.bool S U b cb ms) := fun U hU => hm.below hU
  have HA : Hid (∀ U, Below w.heap.size w U → Ri U q cq A) := fun U hU => hA.below hU
  have HI : Hid (I64 i) := hi
  clear hL hm hi hA
  go_enter Try.func4, Try.ntmps4
  go_upto_region 1 with fail
  rw [← hW0]
  clear hW0
  go_wp2_with fail
  refine (awake19_any _).mono ?_
  rintro e y1 ⟨rfl, hb1⟩
  replace hbW := hbW.trans (hb1.mono hbW.size)
  replace X1 := X1.below hb1
  replace Y1 := Y1.below hb1
  clear hb1 x0 x1 z0 z1
  obtain ⟨x0, x1, -⟩ := X1.two
  have hfe := few19_any a ca L b cb ms y1 k1 k2
  cases hf : feB L ms with
  | false =>
    rw [hf] at hfe
    clear hf
    go_wp2_with fail
    refine hfe.mono ?_
    rintro e y2 ⟨rfl, hb2⟩
    replace hbW := hbW.trans (hb2.mono hbW.size)
    clear hfe hb2 x0 x1 X1 Y1
    go_wp2_with fail
    refine (awake19_any _).mono ?_
    rintro e y3 ⟨rfl, hb3⟩
    have hfin := hbW.trans (hb3.mono hbW.size)
    clear hb3
    go_wp2
    go_ret
    exact ⟨rfl, hfin⟩
  | true =>
  rw [hf] at hfe
  have HFE : Hid (L.length ≤ 200 ∧ ms.length ≤ 1000) := feB_iff.1 hf
  clear hf
  go_wp2_with fail
  refine hfe.mono ?_
  rintro e y2 ⟨rfl, hb2⟩
  replace hbW := hbW.trans (hb2.mono hbW.size)
  replace X1 := X1.below hb2
  replace Y1 := Y1.below hb2
  clear hfe hb2 x0 x1
  obtain ⟨x0, x1, -⟩ := X1.two
  obtain ⟨z0, z1, -⟩ := Y1.two
  by_cases hA2 : 200 < A.length
  · have d1 : decide ((200 : Int) < (A.length : Int)) = true := decide_eq_true (by omega)
    have d1n : decide (200 < A.length) = true := decide_eq_true hA2
    clear hA2 X1 Y1
    go_wp2_with fail
    refine (awake19_any _).mono ?_
    rintro e y3 ⟨rfl, hb3⟩
    have hfin := hbW.trans (hb3.mono hbW.size)
    clear hb3
    go_wp2
    go_ret
    exact ⟨rfl, hfin⟩
  have d1 : decide ((200 : Int) < (A.length : Int)) = false := decide_eq_false (by omega)
  have d1n : decide (200 < A.length) = false := decide_eq_false hA2
  have hcm := cmeet_any S a ca L b cb ms i q cq A sk y2 (HL.out _ hbW) (HM.out _ hbW) HI.out (HA.out _ hbW) (by omega)
  go_wp2_with fail
  refine hcm.mono ?_
  rintro e y3 ⟨⟨v3, rfl, hv3⟩, hb3⟩
  replace hbW := hbW.trans (hb3.mono hbW.size)
  replace X1 := X1.below hb3
  replace Y1 := Y1.below hb3
  clear hcm hb3 x0 x1 z0 z1
  obtain ⟨x0, x1, -⟩ := X1.two
  obtain ⟨z0, z1, -⟩ := Y1.two
  obtain ⟨a3, c3, rfl, R3⟩ := hv3.slice
  have hcm := smeet_any S a ca L b cb ms i q cq A sk y3 (HL.out _ hbW) (HM.out _ hbW) HI.out (HA.out _ hbW) (by omega)
  clear hv3
  go_wp2_with fail
  refine hcm.mono ?_
  rintro e y4 ⟨⟨v4, rfl, hv4⟩, hb4⟩
  replace hbW := hbW.trans (hb4.mono hbW.size)
  replace R3 := R3.below hb4
  clear hcm hb4 x0 x1 z0 z1 X1 Y1
  obtain ⟨a4, c4, rfl, R4⟩ := hv4.slice
  have hss := ssameI_any a3 a4 c3 c4 (meL ms L sk i A) y4 R3 R4
  obtain ⟨M, hM⟩ : ∃ M, meL ms L sk i A = M := ⟨_, rfl⟩
  obtain ⟨r, hr⟩ : ∃ r, meB ms L sk i A = r := ⟨_, rfl⟩
  rw [hM] at hss
  try rw [hM]
  try rw [hr]
  have e1 : (r == r) = true := by simp
  clear hv4 R3 R4 hM hr
  go_wp2_with fail
  refine hss.mono ?_
  rintro e y5 ⟨rfl, hb5⟩
  have hfin := hbW.trans (hb5.mono hbW.size)
  clear hss hb5
  go_wp2
  go_ret
  exact ⟨rfl, hfin⟩

end Go.Proofs.Ytadgifeakfcljaa
