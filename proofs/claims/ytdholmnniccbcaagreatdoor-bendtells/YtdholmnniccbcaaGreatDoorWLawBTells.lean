/-
  foundrylaw07.plain, foundrylaw07.BendTells: the walks.
-/
import Derived.Test.YtdholmnniccbcaaGreatDoorZ14
import Derived.Test.YtdholmnniccbcaaGreatDoorZ20
import Derived.Test.YtdholmnniccbcaaGreatDoorZ21
import Derived.Test.YtdholmnniccbcaaGreatDoorZ11
namespace Go.Proofs.YtdholmnniccbcaaGreatDoor
open Go.RowKit Go.Maps
set_option linter.unusedSimpArgs false
set_option linter.unusedVariables false

open Classical

set_option maxHeartbeats 1000000 in
set_option maxRecDepth 100000 in
/-- foundrylaw07.plain: the same value. -/
theorem plain7_any (k : Nat) (q : Rat) (v : Value) (w : World) (h : Ct w v k q) :
    Calls Tryz.prog 13 #[v] w fun e w' => e = .returned v ∧ Below w.heap.size w w' := by
  obtain ⟨n, xs, ys, ⟨a, c, a', c', rfl, _, _⟩, _⟩ := h
  go_enter Tryz.func13, Tryz.ntmps13
  go_wp2
  exact bodyPost_ret (v := .agg #[.bool n, .slice a xs.length c, .slice a' ys.length c']) (by simp [results, Tryz.results13, go_sem]) rfl ⟨rfl, al2 _ _⟩

set_option maxHeartbeats 8000000 in
set_option maxRecDepth 100000 in
theorem bendTells_any (a : Option Addr) (cap : Nat) (l : List Pr) (n : Bool) (a1 a2 : Option Addr) (c1 c2 : Nat) (xs ys : List Nat) (w : World) (hP : Pz w a cap l) (hx : Rd w a1 c1 xs) (hy : Rd w a2 c2 ys) (htab : Pow w) :
    Calls Tryz.prog 3 #[.slice a l.length cap, .agg #[.bool n, .slice a1 xs.length c1, .slice a2 ys.length c2]] w fun e w' => e = .returned (.bool true) ∧ Below w.heap.size w w' := by
  have HTAB : Hid (Pow w) := htab
  clear htab
  have z0 := hP.lenB
  have z1 : xs.length ≤ 9223372036854775807 := by have := hx.le; have := hx.cap; unfold maxLen at this; omega
  have z2 : ys.length ≤ 9223372036854775807 := by have := hy.le; have := hy.cap; unfold maxLen at this; omega
  obtain ⟨W, hW, B1, hbW⟩ : ∃ W, W = w.alloc (.cells #[.bool n, .slice a1 xs.length c1, .slice a2 ys.length c2] 26) ∧ Box 26 W w.heap.size (.bool n) (.slice a1 xs.length c1) (.slice a2 ys.length c2) ∧ Below w.heap.size w W := ⟨_, rfl, Box.new _ _ _ _ _, al1 _⟩
  replace hP := hP.below hbW
  replace hx := hx.below hbW
  replace hy := hy.below hbW
  go_enter Tryz.func3, Tryz.ntmps3
  go_wp2_with fail
  rw [← hW]
  clear hW
  obtain ⟨p00, p01, p02, _⟩ := B1.cells
  refine (awake7_any _ (HTAB.out.below hbW)).mono ?_
  rintro e u1 ⟨rfl, hb1⟩
  replace hP := hP.below hb1
  replace hx := hx.below hb1
  replace hy := hy.below hb1
  replace B1 := B1.below hb1
  replace hbW : Below w.heap.size w u1 := hbW.trans (hb1.mono hbW.size)
  clear hb1
  clear p00 p01 p02
  obtain ⟨p00, p01, p02, _⟩ := B1.cells
  have sl0 := B1.lt
  go_wp2_with fail
  obtain ⟨W2, hW, hZ, hb9⟩ : ∃ W, W = u1.alloc (.cells #[.slice a l.length cap] 22) ∧ Pzz W (some ⟨u1.heap.size, 0, none⟩) 1 [l] ∧ Below u1.heap.size u1 W := ⟨_, rfl, pzz_one _ _ _ _ hP _, bl1 _⟩
  rw [← hW]
  clear hW sl0
  replace hP := hP.below hb9
  replace hx := hx.below hb9
  replace hy := hy.below hb9
  replace B1 := B1.below hb9
  replace hbW : Below w.heap.size w W2 := hbW.trans (hb9.mono hbW.size)
  clear hb9
  have hfw := few7_any _ 1 [l] n a1 a2 c1 c2 xs.length ys.length _ hZ z1 z2
  rw [show [l].length = 1 from rfl] at hfw
  clear hZ
  clear p00 p01 p02
  obtain ⟨p00, p01, p02, _⟩ := B1.cells
  refine (hfw).mono ?_
  rintro e u2 ⟨q1, rfl, hq1, hb2⟩
  replace hP := hP.below hb2
  replace hx := hx.below hb2
  replace hy := hy.below hb2
  replace B1 := B1.below hb2
  replace hbW : Below w.heap.size w u2 := hbW.trans (hb2.mono hbW.size)
  clear hb2
  clear p00 p01 p02
  obtain ⟨p00, p01, p02, _⟩ := B1.cells
  clear hfw
  have HQ1 : Hid (q1 = true → 1 ≤ 30 ∧ xs.length ≤ 6 ∧ ys.length ≤ 6) := hq1
  clear hq1
  cases q1 with
  | false =>
    go_wp2_with fail
    refine (awake7_any _ (HTAB.out.below hbW)).mono ?_
    rintro e u3 ⟨rfl, hb3⟩
    replace hP := hP.below hb3
    replace hx := hx.below hb3
    replace hy := hy.below hb3
    replace B1 := B1.below hb3
    replace hbW : Below w.heap.size w u3 := hbW.trans (hb3.mono hbW.size)
    clear hb3
    clear p00 p01 p02
    obtain ⟨p00, p01, p02, _⟩ := B1.cells
    go_wp2
    go_ret
    exact ⟨rfl, hbW⟩
  | true =>
  obtain ⟨qx, hqx⟩ : ∃ q, q = if Fmd n xs ys then qv n xs ys else 0 := ⟨_, rfl⟩
  have hX : Ct u2 (.agg #[.bool n, .slice a1 xs.length c1, .slice a2 ys.length c2]) 6 qx := ⟨_, _, _, ⟨_, _, _, _, rfl, hx, hy⟩, (HQ1.out (by simp)).2.1, (HQ1.out (by simp)).2.2, hqx⟩
  clear hqx hx hy
  have hc1 := fun V hV => cformP_any a cap l V hV
  have hc2 := fun V hV => sformP_any a cap l V hV
  have hc3 := fun V hV => cplainP_any a cap l V hV
  have hc4 := fun V hV => splainP_any a cap l V hV
  generalize frP l = t1 at hc1 hc2
  generalize plB l = t2 at hc3 hc4
  have e1 : (t1 == t1) = true := by simp
  have e2 : (t2 == t2) = true := by simp
  go_wp2_with fail
  refine wp_region_held_drew (S := (fun u => u.cell? ⟨w.heap.size, 0, none⟩ = some (.bool n) ∧ u.cell? ⟨w.heap.size, 1, none⟩ = some (.slice a1 xs.length c1) ∧ u.cell? ⟨w.heap.size, 2, none⟩ = some (.slice a2 ys.length c2))) (by kernel_rfl) ?_ (fun hHeld => ?_)
  · (try dsimp only)
    go_keep
  have hdr : Below u2.heap.size u2 u2.drew := Below.drew1
  generalize u2.drew = ud21 at hdr hHeld ⊢
  replace hP := hP.below hdr
  replace hX := hX.below hdr
  replace B1 := B1.below hdr
  replace hbW : Below w.heap.size w ud21 := hbW.trans (hdr.mono hbW.size)
  clear hdr
  clear p00 p01 p02
  obtain ⟨p00, p01, p02, _⟩ := B1.cells
  refine hT 0 hHeld ?_
  refine hT 2 hHeld ?_
  refine hCall (i := 1) rfl (by kernel_rfl) (by rfl) (fun K hK => ?_)
  go_simp
  refine (hc1 _ hP).mono ?_
  rintro e u3 ⟨rfl, hb3⟩
  replace hP := hP.below hb3
  replace hX := hX.below hb3
  replace B1 := B1.below hb3
  replace hbW : Below w.heap.size w u3 := hbW.trans (hb3.mono hbW.size)
  clear hb3
  clear p00 p01 p02
  obtain ⟨p00, p01, p02, _⟩ := B1.cells
  go_wp2_with fail
  refine hK.out _ _ ?_ (fun hHeld => ?_)
  · (try dsimp only)
    exact ⟨p00, p01, p02⟩
  clear hK K
  try simp only [Act.put, List.setIfInBounds_toArray, List.set_cons_zero, List.set_cons_succ]
  refine hCall (i := 3) rfl (by kernel_rfl) (by rfl) (fun K hK => ?_)
  go_simp
  refine (hc2 _ hP).mono ?_
  rintro e u4 ⟨rfl, hb4⟩
  replace hP := hP.below hb4
  replace hX := hX.below hb4
  replace B1 := B1.below hb4
  replace hbW : Below w.heap.size w u4 := hbW.trans (hb4.mono hbW.size)
  clear hb4
  clear p00 p01 p02
  obtain ⟨p00, p01, p02, _⟩ := B1.cells
  go_wp2_with fail
  refine hK.out _ _ ?_ (fun hHeld => ?_)
  · (try dsimp only)
    exact ⟨p00, p01, p02⟩
  clear hK K
  try simp only [Act.put, List.setIfInBounds_toArray, List.set_cons_zero, List.set_cons_succ]
  refine hT 4 hHeld ?_
  refine hT 5 hHeld ?_
  refine hT 6 hHeld ?_
  refine hT 8 hHeld ?_
  refine hCall (i := 7) rfl (by kernel_rfl) (by rfl) (fun K hK => ?_)
  go_simp
  refine (hc3 _ hP).mono ?_
  rintro e u5 ⟨rfl, hb5⟩
  replace hP := hP.below hb5
  replace hX := hX.below hb5
  replace B1 := B1.below hb5
  replace hbW : Below w.heap.size w u5 := hbW.trans (hb5.mono hbW.size)
  clear hb5
  clear p00 p01 p02
  obtain ⟨p00, p01, p02, _⟩ := B1.cells
  go_wp2_with fail
  refine hK.out _ _ ?_ (fun hHeld => ?_)
  · (try dsimp only)
    exact ⟨p00, p01, p02⟩
  clear hK K
  try simp only [Act.put, List.setIfInBounds_toArray, List.set_cons_zero, List.set_cons_succ]
  refine hCall (i := 9) rfl (by kernel_rfl) (by rfl) (fun K hK => ?_)
  go_simp
  refine (hc4 _ hP).mono ?_
  rintro e u6 ⟨rfl, hb6⟩
  replace hP := hP.below hb6
  replace hX := hX.below hb6
  replace B1 := B1.below hb6
  replace hbW : Below w.heap.size w u6 := hbW.trans (hb6.mono hbW.size)
  clear hb6
  clear p00 p01 p02
  obtain ⟨p00, p01, p02, _⟩ := B1.cells
  go_wp2_with fail
  refine hK.out _ _ ?_ (fun hHeld => ?_)
  · (try dsimp only)
    exact ⟨p00, p01, p02⟩
  clear hK K
  try simp only [Act.put, List.setIfInBounds_toArray, List.set_cons_zero, List.set_cons_succ]
  refine hT 10 hHeld ?_
  refine hT 11 hHeld ?_
  refine hT 12 hHeld ?_
  refine hT 13 hHeld ?_
  refine hT 14 hHeld ?_
  refine hT 17 hHeld ?_
  refine hT 18 hHeld ?_
  refine hCall (i := 15) rfl (by kernel_rfl) (by rfl) (fun K hK => ?_)
  go_simp
  refine (cbend_any 6 qx _ a cap l _ hP hX (by decide) (by decide)).mono ?_
  rintro e u7 ⟨v1, rfl, hF1, hb7⟩
  replace hP := hP.below hb7
  replace hX := hX.below hb7
  replace B1 := B1.below hb7
  replace hbW : Below w.heap.size w u7 := hbW.trans (hb7.mono hbW.size)
  clear hb7
  clear p00 p01 p02
  obtain ⟨p00, p01, p02, _⟩ := B1.cells
  go_wp2_with fail
  refine hK.out _ _ ?_ (fun hHeld => ?_)
  · (try dsimp only)
    exact ⟨p00, p01, p02⟩
  clear hK K
  try simp only [Act.put, List.setIfInBounds_toArray, List.set_cons_zero, List.set_cons_succ]
  refine hCall (i := 16) rfl (by kernel_rfl) (by rfl) (fun K hK => ?_)
  go_simp
  refine (plain7_any _ _ _ _ hF1.ct).mono ?_
  rintro e u8 ⟨rfl, hb8⟩
  replace hP := hP.below hb8
  replace hX := hX.below hb8
  replace hF1 := hF1.below hb8
  replace B1 := B1.below hb8
  replace hbW : Below w.heap.size w u8 := hbW.trans (hb8.mono hbW.size)
  clear hb8
  clear p00 p01 p02
  obtain ⟨p00, p01, p02, _⟩ := B1.cells
  go_wp2_with fail
  refine hK.out _ _ ?_ (fun hHeld => ?_)
  · (try dsimp only)
    exact ⟨p00, p01, p02⟩
  clear hK K
  try simp only [Act.put, List.setIfInBounds_toArray, List.set_cons_zero, List.set_cons_succ]
  refine hCall (i := 19) rfl (by kernel_rfl) (by rfl) (fun K hK => ?_)
  go_simp
  refine (plain7_any _ _ _ _ hX).mono ?_
  rintro e u9 ⟨rfl, hb9⟩
  replace hP := hP.below hb9
  replace hX := hX.below hb9
  replace hF1 := hF1.below hb9
  replace B1 := B1.below hb9
  replace hbW : Below w.heap.size w u9 := hbW.trans (hb9.mono hbW.size)
  clear hb9
  clear p00 p01 p02
  obtain ⟨p00, p01, p02, _⟩ := B1.cells
  go_wp2_with fail
  refine hK.out _ _ ?_ (fun hHeld => ?_)
  · (try dsimp only)
    exact ⟨p00, p01, p02⟩
  clear hK K
  try simp only [Act.put, List.setIfInBounds_toArray, List.set_cons_zero, List.set_cons_succ]
  refine hCall (i := 20) rfl (by kernel_rfl) (by rfl) (fun K hK => ?_)
  go_simp
  refine (sbend_any 6 qx _ a cap l _ hP hX (by decide) (by decide)).mono ?_
  rintro e u10 ⟨v2, rfl, hF2, hb10⟩
  replace hP := hP.below hb10
  replace hX := hX.below hb10
  replace hF1 := hF1.below hb10
  replace B1 := B1.below hb10
  replace hbW : Below w.heap.size w u10 := hbW.trans (hb10.mono hbW.size)
  clear hb10
  clear p00 p01 p02
  obtain ⟨p00, p01, p02, _⟩ := B1.cells
  go_wp2_with fail
  refine hK.out _ _ ?_ (fun hHeld => ?_)
  · (try dsimp only)
    exact ⟨p00, p01, p02⟩
  clear hK K
  try simp only [Act.put, List.setIfInBounds_toArray, List.set_cons_zero, List.set_cons_succ]
  refine hCall (i := 21) rfl (by kernel_rfl) (by rfl) (fun K hK => ?_)
  go_simp
  refine (same3_any _ _ _ _ _ _ _ hF1 hF2 rfl).mono ?_
  rintro e u11 ⟨rfl, hb11⟩
  replace hP := hP.below hb11
  replace hX := hX.below hb11
  replace hF1 := hF1.below hb11
  replace hF2 := hF2.below hb11
  replace B1 := B1.below hb11
  replace hbW : Below w.heap.size w u11 := hbW.trans (hb11.mono hbW.size)
  clear hb11 hF1 hF2
  clear p00 p01 p02
  obtain ⟨p00, p01, p02, _⟩ := B1.cells
  go_wp2_with fail
  refine hK.out _ _ ?_ (fun hHeld => ?_)
  · (try dsimp only)
    exact ⟨p00, p01, p02⟩
  clear hK K
  try simp only [Act.put, List.setIfInBounds_toArray, List.set_cons_zero, List.set_cons_succ]
  refine hT 22 hHeld ?_
  refine hT 23 hHeld ?_
  refine wpAnyH_done (by kernel_rfl) ?_ _
  go_wp2
  go_ret
  exact ⟨rfl, hbW⟩

end Go.Proofs.YtdholmnniccbcaaGreatDoor
