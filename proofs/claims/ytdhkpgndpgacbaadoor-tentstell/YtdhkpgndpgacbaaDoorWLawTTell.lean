/-
  foundrylaw09.TentsTell: the walk.
-/
import Derived.Test.YtdhkpgndpgacbaaDoorZ11
import Derived.Test.YtdhkpgndpgacbaaDoorZ14
namespace Go.Proofs.YtdhkpgndpgacbaaDoor
open Go.RowKit Go.Maps
set_option linter.unusedSimpArgs false
set_option linter.unusedVariables false

set_option maxHeartbeats 4000000 in
set_option maxRecDepth 100000 in
theorem tentsTell_any (t : Te) (c : Int) (w : World) (ht : Tw t) (hc : I64 c) (htab : Pow w) :
    Calls Tryd.prog 3 #[.agg (teC t), .int .i64 c] w fun e w' => e = .returned (.bool true) ∧ Below w.heap.size w w' := by
  unfold teC
  have HTAB : Hid (Pow w) := htab
  have hf1 := fun U => cformT_any t U
  have hf2 := fun U => sformT_any t U
  have hp1 := fun U => cpart_any t c U hc
  have hp2 := fun U => spart_any t c U hc
  generalize tfB t = f at hf1 hf2
  generalize paQ t c = q at hp1 hp2
  have e1 : (f == f) = true := by simp
  obtain ⟨st, pk, en⟩ := t
  dsimp only at *
  clear htab ht hc
  obtain ⟨W, hW, X1, hbW⟩ : ∃ W, W = w.alloc (.cells #[.int .i64 st, .int .i64 pk, .int .i64 en] 23) ∧ Box 23 W w.heap.size (.int .i64 st) (.int .i64 pk) (.int .i64 en) ∧ Below w.heap.size w W := ⟨_, rfl, Box.new _ _ _ _ _, al1 _⟩
  go_enter Tryd.func3, Tryd.ntmps3
  go_wp2_with fail
  rw [← hW]
  clear hW
  refine (awake9_any _ (HTAB.out.below hbW)).mono ?_
  rintro e u1 ⟨rfl, hb1⟩
  replace X1 := X1.below hb1
  replace hbW := hbW.trans (hb1.mono hbW.size)
  clear hb1
  obtain ⟨p00, p01, p02, _⟩ := X1.cells
  go_wp2_with fail
  refine wp_region_held_drew (S := (fun u => u.cell? ⟨w.heap.size, 0, none⟩ = some (.int .i64 st) ∧ u.cell? ⟨w.heap.size, 1, none⟩ = some (.int .i64 pk) ∧ u.cell? ⟨w.heap.size, 2, none⟩ = some (.int .i64 en))) (by kernel_rfl) ?_ (fun hHeld => ?_)
  · (try dsimp only)
    go_keep
  have hdr : Below u1.heap.size u1 u1.drew := Below.drew1
  generalize u1.drew = ud1 at hdr hHeld ⊢
  replace X1 := X1.below hdr
  replace hbW : Below w.heap.size w ud1 := hbW.trans (hdr.mono hbW.size)
  clear hdr
  clear p00 p01 p02
  obtain ⟨p00, p01, p02, _⟩ := X1.cells
  refine hT 0 hHeld ?_
  refine hT 2 hHeld ?_
  refine hCall (i := 1) rfl (by kernel_rfl) (by rfl) (fun K hK => ?_)
  go_simp
  refine (hf1 _).mono ?_
  rintro e u2 ⟨rfl, hb2⟩
  replace X1 := X1.below hb2
  replace hbW : Below w.heap.size w u2 := hbW.trans (hb2.mono hbW.size)
  clear hb2
  clear p00 p01 p02
  obtain ⟨p00, p01, p02, _⟩ := X1.cells
  go_wp2_with fail
  refine hK.out _ _ ?_ (fun hHeld => ?_)
  · (try dsimp only)
    exact ⟨p00, p01, p02⟩
  clear hK K
  try simp only [Act.put, List.setIfInBounds_toArray, List.set_cons_zero, List.set_cons_succ]
  refine hCall (i := 3) rfl (by kernel_rfl) (by rfl) (fun K hK => ?_)
  go_simp
  refine (hf2 _).mono ?_
  rintro e u3 ⟨rfl, hb3⟩
  replace X1 := X1.below hb3
  replace hbW : Below w.heap.size w u3 := hbW.trans (hb3.mono hbW.size)
  clear hb3
  clear p00 p01 p02
  obtain ⟨p00, p01, p02, _⟩ := X1.cells
  go_wp2_with fail
  refine hK.out _ _ ?_ (fun hHeld => ?_)
  · (try dsimp only)
    exact ⟨p00, p01, p02⟩
  clear hK K
  try simp only [Act.put, List.setIfInBounds_toArray, List.set_cons_zero, List.set_cons_succ]
  refine hT 4 hHeld ?_
  refine hT 5 hHeld ?_
  refine hT 6 hHeld ?_
  refine hT 7 hHeld ?_
  refine hT 10 hHeld ?_
  refine hT 11 hHeld ?_
  refine hCall (i := 8) rfl (by kernel_rfl) (by rfl) (fun K hK => ?_)
  go_simp
  refine (hp1 _).mono ?_
  rintro e u4 ⟨v8, rfl, hF8, hb4⟩
  replace X1 := X1.below hb4
  replace hbW : Below w.heap.size w u4 := hbW.trans (hb4.mono hbW.size)
  clear hb4
  clear p00 p01 p02
  obtain ⟨p00, p01, p02, _⟩ := X1.cells
  go_wp2_with fail
  refine hK.out _ _ ?_ (fun hHeld => ?_)
  · (try dsimp only)
    exact ⟨p00, p01, p02⟩
  clear hK K
  try simp only [Act.put, List.setIfInBounds_toArray, List.set_cons_zero, List.set_cons_succ]
  refine hCall (i := 9) rfl (by kernel_rfl) (by rfl) (fun K hK => ?_)
  go_simp
  refine (plain9_any 2 q _ _ hF8.ct).mono ?_
  rintro e u5 ⟨rfl, hb5⟩
  replace hF8 := hF8.below hb5
  replace X1 := X1.below hb5
  replace hbW : Below w.heap.size w u5 := hbW.trans (hb5.mono hbW.size)
  clear hb5
  clear p00 p01 p02
  obtain ⟨p00, p01, p02, _⟩ := X1.cells
  go_wp2_with fail
  refine hK.out _ _ ?_ (fun hHeld => ?_)
  · (try dsimp only)
    exact ⟨p00, p01, p02⟩
  clear hK K
  try simp only [Act.put, List.setIfInBounds_toArray, List.set_cons_zero, List.set_cons_succ]
  refine hCall (i := 12) rfl (by kernel_rfl) (by rfl) (fun K hK => ?_)
  go_simp
  refine (hp2 _).mono ?_
  rintro e u6 ⟨v9, rfl, hF9, hb6⟩
  replace hF8 := hF8.below hb6
  replace X1 := X1.below hb6
  replace hbW : Below w.heap.size w u6 := hbW.trans (hb6.mono hbW.size)
  clear hb6
  clear p00 p01 p02
  obtain ⟨p00, p01, p02, _⟩ := X1.cells
  go_wp2_with fail
  refine hK.out _ _ ?_ (fun hHeld => ?_)
  · (try dsimp only)
    exact ⟨p00, p01, p02⟩
  clear hK K
  try simp only [Act.put, List.setIfInBounds_toArray, List.set_cons_zero, List.set_cons_succ]
  refine hCall (i := 13) rfl (by kernel_rfl) (by rfl) (fun K hK => ?_)
  go_simp
  refine (same3_any 2 2 q q _ _ _ hF8 hF9 rfl).mono ?_
  rintro e u7 ⟨rfl, hb7⟩
  replace hF8 := hF8.below hb7
  replace hF9 := hF9.below hb7
  replace X1 := X1.below hb7
  replace hbW : Below w.heap.size w u7 := hbW.trans (hb7.mono hbW.size)
  clear hb7
  clear p00 p01 p02
  obtain ⟨p00, p01, p02, _⟩ := X1.cells
  go_wp2_with fail
  refine hK.out _ _ ?_ (fun hHeld => ?_)
  · (try dsimp only)
    exact ⟨p00, p01, p02⟩
  clear hK K
  try simp only [Act.put, List.setIfInBounds_toArray, List.set_cons_zero, List.set_cons_succ]
  refine hT 14 hHeld ?_
  refine hT 15 hHeld ?_
  refine wpAnyH_done (by kernel_rfl) ?_ _
  clear hHeld
  go_wp2
  go_ret
  exact ⟨rfl, hbW⟩

end Go.Proofs.YtdhkpgndpgacbaaDoor
