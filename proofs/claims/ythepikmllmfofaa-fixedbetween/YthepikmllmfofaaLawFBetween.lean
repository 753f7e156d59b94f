/-
  foundrylaw03.FixedBetween: the walk.
-/
import Derived.Test.YthepikmllmfofaaT3
import Derived.Test.YthepikmllmfofaaT4
import Derived.Test.YthepikmllmfofaaPair
import Derived.Deep.RegionHeld3
namespace Go.Proofs.Ythepikmllmfofaa
open Go.RowKit Classical
set_option linter.unusedSimpArgs false
set_option linter.unusedVariables false

set_option maxHeartbeats 3000000 in
set_option maxRecDepth 100000 in
theorem walkFixedBetween (a0 a1 b0 b1 z : Int) (w : World) (wa0 : (Lit.int .i64 a0).wf = true) (wa1 : (Lit.int .i64 a1).wf = true) (wb0 : (Lit.int .i64 b0).wf = true) (wb1 : (Lit.int .i64 b1).wf = true)
    (wz : (Lit.int .i64 z).wf = true) :
    Calls Try.prog 4 #[.agg #[.int .i64 a0, .int .i64 a1], .agg #[.int .i64 b0, .int .i64 b1], .int .i64 z] w fun e w' => e = .returned (.bool true) ∧ Below w.heap.size w w' := by
  have ha0 := wf_i64_bounds wa0
  have ha1 := wf_i64_bounds wa1
  have hb0 := wf_i64_bounds wb0
  have hb1' := wf_i64_bounds wb1
  clear wa0 wa1 wb0 wb1 wz
  go_enter Try.func4, Try.ntmps4
  go_wp2_with fail
  refine (awake3_any _).mono ?_
  rintro e u1 ⟨rfl, hb1⟩
  obtain ⟨B1, B2, hbW⟩ := pairs2 hb1
  clear hb1
  obtain ⟨f1, hf1⟩ : ∃ f, clp z a0 a1 = f := ⟨_, rfl⟩
  have F : Hid (clp z a0 a1 = f1) := hf1
  have i1 : (f1 == f1) = true := by simp
  clear hf1
  obtain ⟨p00, p01⟩ := B1.cells
  obtain ⟨p10, p11⟩ := B2.cells
  go_wp2_with fail
  have st : Stg 0 := rfl
  go_region_held3 (fun u => u.cell? ⟨w.heap.size, 0, none⟩ = some (.int .i64 a0) ∧ u.cell? ⟨w.heap.size, 1, none⟩ = some (.int .i64 a1) ∧ u.cell? ⟨w.heap.size + 1, 0, none⟩ = some (.int .i64 b0) ∧ u.cell? ⟨w.heap.size + 1, 1, none⟩ = some (.int .i64 b1)) (go_keep)
    (first
      | (go_at_call 22
         have _sg : Stg 0 := st
         refine (between_any a0 a1 b0 b1 _ ha0 ha1 hb0 hb1').mono ?_
         rintro e u2 ⟨vm, rfl, hm, hb2⟩
         replace hb2 : Below u1.heap.size u1 u2 := Below.drew1.trans hb2
         replace B1 := B1.below hb2
         replace B2 := B2.below hb2
         replace hbW : Below w.heap.size w u2 := hbW.trans (hb2.mono hbW.size)
         clear hb2
         clear st _sg
         have st : Stg 1 := rfl
         clear p00 p01 p10 p11
         obtain ⟨p00, p01⟩ := B1.cells
         obtain ⟨p10, p11⟩ := B2.cells)
      | (go_at_call 12
         have _sg : Stg 1 := st
         refine (plain3_any _ _ _ _ hm.ct).mono ?_
         rintro e u3 ⟨rfl, hb3⟩
         replace hm := hm.below hb3
         replace B1 := B1.below hb3
         replace B2 := B2.below hb3
         replace hbW : Below w.heap.size w u3 := hbW.trans (hb3.mono hbW.size)
         clear hb3
         clear st _sg
         have st : Stg 2 := rfl
         clear p00 p01 p10 p11
         obtain ⟨p00, p01⟩ := B1.cells
         obtain ⟨p10, p11⟩ := B2.cells)
      | (go_at_call 23
         have _sg : Stg 2 := st
         refine (sbetween_any a0 a1 b0 b1 _ ha0 ha1 hb0 hb1').mono ?_
         rintro e u4 ⟨vmr, rfl, hmr, hb4⟩
         replace hm := hm.below hb4
         replace B1 := B1.below hb4
         replace B2 := B2.below hb4
         replace hbW : Below w.heap.size w u4 := hbW.trans (hb4.mono hbW.size)
         clear hb4
         clear st _sg
         have st : Stg 3 := rfl
         clear p00 p01 p10 p11
         obtain ⟨p00, p01⟩ := B1.cells
         obtain ⟨p10, p11⟩ := B2.cells)
      | (go_at_call 17
         have _sg : Stg 3 := st
         refine (same3_any _ _ _ _ _ _ _ hm hmr rfl).mono ?_
         rintro e u5 ⟨rfl, hb5⟩
         replace hm := hm.below hb5
         replace hmr := hmr.below hb5
         replace B1 := B1.below hb5
         replace B2 := B2.below hb5
         replace hbW : Below w.heap.size w u5 := hbW.trans (hb5.mono hbW.size)
         clear hb5
         clear st _sg
         have st : Stg 4 := rfl
         clear p00 p01 p10 p11
         obtain ⟨p00, p01⟩ := B1.cells
         obtain ⟨p10, p11⟩ := B2.cells)
      | (go_at_call 24
         have _sg : Stg 4 := st
         refine (clampB_any z a0 a1 _).mono ?_
         rintro e u6 ⟨rfl, hb6⟩
         replace hm := hm.below hb6
         replace hmr := hmr.below hb6
         replace B1 := B1.below hb6
         replace B2 := B2.below hb6
         replace hbW : Below w.heap.size w u6 := hbW.trans (hb6.mono hbW.size)
         clear hb6
         rw [F.out]
         clear st _sg
         have st : Stg 5 := rfl
         clear p00 p01 p10 p11
         obtain ⟨p00, p01⟩ := B1.cells
         obtain ⟨p10, p11⟩ := B2.cells)
      | (go_at_call 25
         have _sg : Stg 5 := st
         refine (sclampB_any z a0 a1 _).mono ?_
         rintro e u7 ⟨rfl, hb7⟩
         replace hm := hm.below hb7
         replace hmr := hmr.below hb7
         replace B1 := B1.below hb7
         replace B2 := B2.below hb7
         replace hbW : Below w.heap.size w u7 := hbW.trans (hb7.mono hbW.size)
         clear hb7
         rw [F.out]
         clear st _sg
         have st : Stg 6 := rfl
         clear p00 p01 p10 p11
         obtain ⟨p00, p01⟩ := B1.cells
         obtain ⟨p10, p11⟩ := B2.cells))
  clear st
  go_wp2
  go_ret
  exact ⟨rfl, hbW⟩

end Go.Proofs.Ythepikmllmfofaa
