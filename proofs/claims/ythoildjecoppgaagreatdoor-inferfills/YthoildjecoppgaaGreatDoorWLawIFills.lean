/-
  foundrylaw13.InferFills: the walk.
-/
import Derived.Test.YthoildjecoppgaaGreatDoorZ24
namespace Go.Proofs.YthoildjecoppgaaGreatDoor
open Go.RowKit Go.Maps
set_option linter.unusedSimpArgs false
set_option linter.unusedVariables false

theorem fillQ_le (ns : List Int) (ts : List Bool) (cs : List Int) : (fillQ ns ts cs).length ≤ 80 := by
  cases h : fitB ns ts cs with
  | false => rw [fillQ_no h]; exact Nat.zero_le _
  | true => rw [fillQ_len h]; exact (fitB_iff.1 h).1.2.2

set_option maxHeartbeats 2000000 in
set_option maxRecDepth 100000 in
theorem inferFills_any (a : Option Addr) (ca : Nat) (ns : List Int) (ta : Option Addr) (tc : Nat) (ts : List Bool) (da : Option Addr) (dc : Nat) (cs : List Int) (w : World) (hn : Ri w a ca ns) (ht : Rl w ta tc ts) (hc : Ri w da dc cs) (htab : Pow w) :
    Calls Tryz.prog 3 #[.slice a ns.length ca, .slice ta ts.length tc, .slice da cs.length dc] w fun e w' => e = .returned (.bool true) ∧ Below w.heap.size w w' := by
  have b1 := hn.lenB
  have b2 := ht.lenB
  have b3 := hc.lenB
  have HB : Hid (Pow w) := htab
  clear htab
  go_enter Tryz.func3, Tryz.ntmps3
  go_wp2_with fail
  refine (awake13_any _ HB.out).mono ?_
  rintro e m1 ⟨rfl, hbW⟩
  have hfw := few13_any ns.length ts.length cs.length m1 b1 b2 b3
  cases hq : decide (ns.length ≤ 200 ∧ ts.length ≤ 200 ∧ cs.length ≤ 200) with
  | false =>
    rw [hq] at hfw
    clear hq
    go_wp2_with fail
    refine hfw.mono ?_
    rintro e m2 ⟨rfl, rfl⟩
    clear hfw
    go_wp2_with fail
    refine (awake13_any _ (HB.out.below hbW)).mono ?_
    rintro e v9 ⟨rfl, hb9⟩
    replace hbW := hbW.trans (hb9.mono hbW.size)
    clear hb9
    go_wp2
    go_ret
    exact ⟨rfl, hbW⟩
  | true =>
    rw [hq] at hfw
    clear hq
    go_wp2_with fail
    refine hfw.mono ?_
    rintro e m2 ⟨rfl, rfl⟩
    replace hn := hn.below hbW
    replace ht := ht.below hbW
    replace hc := hc.below hbW
    have hf1 := cfill_any a ca ns ta tc ts da dc cs m1 hn ht hc
    have hf2 := fun U (hb : Below m1.heap.size m1 U) => sfill_any a ca ns ta tc ts da dc cs U (hn.below hb) (ht.below hb) (hc.below hb)
    have hle := fillQ_le ns ts cs
    generalize fillQ ns ts cs = Q at *
    clear hfw
    go_wp2_with fail
    refine hf1.mono ?_
    rintro e m3 ⟨fa, fc, rfl, hR1, hb3⟩
    have hpl := plain13_any fa fc Q m3 hR1 (by omega)
    clear hf1
    go_wp2_with fail
    refine hpl.mono ?_
    rintro e m4 ⟨ga, gc, rfl, hR2, hb4⟩
    have hb5 := hb3.trans (hb4.mono hb3.size)
    clear hpl hR1 hb3 hb4
    go_wp2_with fail
    refine (hf2 _ hb5).mono ?_
    rintro e m5 ⟨ha, hc', rfl, hR3, hb6⟩
    have hsm := ssameR_any 7 7 ga gc ha hc' Q m5 (hR2.below hb6).1 hR3.1
    have hbF := hbW.trans ((hb5.trans (hb6.mono hb5.size)).mono hbW.size)
    clear hf2 hR2 hR3 hb5 hb6
    go_wp2_with fail
    refine hsm.mono ?_
    rintro e m6 ⟨rfl, hb7⟩
    replace hbF := hbF.trans (hb7.mono hbF.size)
    clear hsm hb7
    go_wp2
    go_ret
    exact ⟨rfl, hbF⟩

end Go.Proofs.YthoildjecoppgaaGreatDoor
