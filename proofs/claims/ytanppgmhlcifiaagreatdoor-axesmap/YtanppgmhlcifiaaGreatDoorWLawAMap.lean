/-
  foundrylaw06.plain, foundrylaw06.AxesMap: the walks.
-/
import Derived.Test.YtanppgmhlcifiaaGreatDoorZ16
import Derived.Test.YtanppgmhlcifiaaGreatDoorZ17
import Derived.Test.YtanppgmhlcifiaaGreatDoorZ23
import Derived.Test.YtanppgmhlcifiaaGreatDoorZ24
import Derived.Test.YtanppgmhlcifiaaGreatDoorZ4
namespace Go.Proofs.YtanppgmhlcifiaaGreatDoor
open Go.RowKit Go.Maps
set_option linter.unusedSimpArgs false
set_option linter.unusedVariables false

open Classical

set_option maxHeartbeats 1000000 in
set_option maxRecDepth 100000 in
/-- foundrylaw06.plain: the same value. -/
theorem plain6_any (k : Nat) (q : Rat) (v : Value) (w : World) (h : Ct w v k q) :
    Calls Tryz.prog 7 #[v] w fun e w' => e = .returned v ∧ Below w.heap.size w w' := by
  obtain ⟨n, xs, ys, ⟨a, c, a', c', rfl, _, _⟩, _⟩ := h
  go_enter Tryz.func7, Tryz.ntmps7
  go_wp2
  exact bodyPost_ret (v := .agg #[.bool n, .slice a xs.length c, .slice a' ys.length c']) (by simp [results, Tryz.results7, go_sem]) rfl ⟨rfl, al2 _ _⟩

set_option maxHeartbeats 4000000 in
set_option maxRecDepth 100000 in
theorem axesMap_any (t : Ax) (u : Int) (n : Bool) (a a' : Option Addr) (c c' : Nat) (xs ys : List Nat) (w : World) (ht : Axw t) (hu : I64 u) (hx : Rd w a c xs) (hy : Rd w a' c' ys) (htab : Pow w) :
    Calls Tryz.prog 3 #[.agg (axC t), .int .i64 u, .agg #[.bool n, .slice a xs.length c, .slice a' ys.length c']] w fun e w' => e = .returned (.bool true) ∧ Below w.heap.size w w' := by
  obtain ⟨tx, lo, us, hi⟩ := t
  have HW : Hid (Axw ⟨tx, lo, us, hi⟩) := ht
  have HTAB : Hid (Pow w) := htab
  have z1 : xs.length ≤ 9223372036854775807 := by have := hx.le; have := hx.cap; unfold maxLen at this; omega
  have z2 : ys.length ≤ 9223372036854775807 := by have := hy.le; have := hy.cap; unfold maxLen at this; omega
  obtain ⟨W, hW, X1, B2, hbW⟩ : ∃ W, W = (w.alloc (.cells #[.string tx, .int .i64 lo, .int .i64 us, .int .i64 hi] 23)).alloc (.cells #[.bool n, .slice a xs.length c, .slice a' ys.length c'] 27) ∧ BxA W w.heap.size (.string tx) (.int .i64 lo) (.int .i64 us) (.int .i64 hi) ∧ Box 27 W (w.heap.size + 1) (.bool n) (.slice a xs.length c) (.slice a' ys.length c') ∧ Below w.heap.size w W := ⟨_, rfl, (BxA.new w _ _ _ _).below (bl1 _), Box.new1 _ w _ _ _ _, bl2 _ _⟩
  replace hx := hx.below hbW
  replace hy := hy.below hbW
  unfold axC
  dsimp only
  clear ht htab
  by_cases l1 : xs.length ≤ 6
  rotate_left
  · have g_l1 : (6 : Int) < (xs.length : Int) := by omega
    go_enter Tryz.func3, Tryz.ntmps3
    go_wp2_with fail
    rw [← hW]
    clear hW
    obtain ⟨p00, p01, p02, p03, _⟩ := X1.cells
    obtain ⟨p10, p11, p12, _⟩ := B2.cells
    refine (awake6_any _ (HTAB.out.below hbW)).mono ?_
    rintro e u1 ⟨rfl, hb1⟩
    replace hx := hx.below hb1
    replace hy := hy.below hb1
    replace X1 := X1.below hb1
    replace B2 := B2.below hb1
    replace hbW : Below w.heap.size w u1 := hbW.trans (hb1.mono hbW.size)
    clear hb1
    clear p00 p01 p02 p03 p10 p11 p12
    obtain ⟨p00, p01, p02, p03, _⟩ := X1.cells
    obtain ⟨p10, p11, p12, _⟩ := B2.cells
    go_wp2_with fail
    refine (awake6_any _ (HTAB.out.below hbW)).mono ?_
    rintro e u2 ⟨rfl, hb2⟩
    replace hx := hx.below hb2
    replace hy := hy.below hb2
    replace X1 := X1.below hb2
    replace B2 := B2.below hb2
    replace hbW : Below w.heap.size w u2 := hbW.trans (hb2.mono hbW.size)
    clear hb2
    clear p00 p01 p02 p03 p10 p11 p12
    obtain ⟨p00, p01, p02, p03, _⟩ := X1.cells
    obtain ⟨p10, p11, p12, _⟩ := B2.cells
    go_wp2
    go_ret
    exact ⟨rfl, hbW⟩
  have g_l1 : ¬ (6 : Int) < (xs.length : Int) := by omega
  by_cases l2 : ys.length ≤ 6
  rotate_left
  · have g_l2 : (6 : Int) < (ys.length : Int) := by omega
    go_enter Tryz.func3, Tryz.ntmps3
    go_wp2_with fail
    rw [← hW]
    clear hW
    obtain ⟨p00, p01, p02, p03, _⟩ := X1.cells
    obtain ⟨p10, p11, p12, _⟩ := B2.cells
    refine (awake6_any _ (HTAB.out.below hbW)).mono ?_
    rintro e u1 ⟨rfl, hb1⟩
    replace hx := hx.below hb1
    replace hy := hy.below hb1
    replace X1 := X1.below hb1
    replace B2 := B2.below hb1
    replace hbW : Below w.heap.size w u1 := hbW.trans (hb1.mono hbW.size)
    clear hb1
    clear p00 p01 p02 p03 p10 p11 p12
    obtain ⟨p00, p01, p02, p03, _⟩ := X1.cells
    obtain ⟨p10, p11, p12, _⟩ := B2.cells
    go_wp2_with fail
    refine (awake6_any _ (HTAB.out.below hbW)).mono ?_
    rintro e u2 ⟨rfl, hb2⟩
    replace hx := hx.below hb2
    replace hy := hy.below hb2
    replace X1 := X1.below hb2
    replace B2 := B2.below hb2
    replace hbW : Below w.heap.size w u2 := hbW.trans (hb2.mono hbW.size)
    clear hb2
    clear p00 p01 p02 p03 p10 p11 p12
    obtain ⟨p00, p01, p02, p03, _⟩ := X1.cells
    obtain ⟨p10, p11, p12, _⟩ := B2.cells
    go_wp2
    go_ret
    exact ⟨rfl, hbW⟩
  have g_l2 : ¬ (6 : Int) < (ys.length : Int) := by omega
  go_enter Tryz.func3, Tryz.ntmps3
  go_wp2_with fail
  rw [← hW]
  clear hW
  obtain ⟨p00, p01, p02, p03, _⟩ := X1.cells
  obtain ⟨p10, p11, p12, _⟩ := B2.cells
  refine (awake6_any _ (HTAB.out.below hbW)).mono ?_
  rintro e u1 ⟨rfl, hb1⟩
  replace hx := hx.below hb1
  replace hy := hy.below hb1
  replace X1 := X1.below hb1
  replace B2 := B2.below hb1
  replace hbW : Below w.heap.size w u1 := hbW.trans (hb1.mono hbW.size)
  clear hb1
  clear p00 p01 p02 p03 p10 p11 p12
  obtain ⟨p00, p01, p02, p03, _⟩ := X1.cells
  obtain ⟨p10, p11, p12, _⟩ := B2.cells
  obtain ⟨qx, hqx⟩ : ∃ q, q = if Fmd n xs ys then qv n xs ys else 0 := ⟨_, rfl⟩
  have hX : Ct u1 (.agg #[.bool n, .slice a xs.length c, .slice a' ys.length c']) 6 qx := ⟨_, _, _, ⟨_, _, _, _, rfl, hx, hy⟩, l1, l2, hqx⟩
  clear hqx hx hy
  have hpl := fun V => cplain_any ⟨tx, lo, us, hi⟩ u V HW.out hu
  have spl := fun V => splainA_any ⟨tx, lo, us, hi⟩ u V HW.out hu
  have hus := fun V h1 => cuserQ_any ⟨tx, lo, us, hi⟩ 6 qx (.agg #[.bool n, .slice a xs.length c, .slice a' ys.length c']) V HW.out h1 (by decide) (by decide)
  have sus := fun V h1 => suserQ_any ⟨tx, lo, us, hi⟩ 6 qx (.agg #[.bool n, .slice a xs.length c, .slice a' ys.length c']) V HW.out h1 (by decide) (by decide)
  unfold axC at hpl spl hus sus
  dsimp only at hpl spl hus sus
  go_wp2_with fail
  clear p00 p01 p02 p03 p10 p11 p12
  obtain ⟨p00, p01, p02, p03, _⟩ := X1.cells
  obtain ⟨p10, p11, p12, _⟩ := B2.cells
  refine wp_region_held_drew (S := (fun u => u.cell? ⟨w.heap.size, 0, none⟩ = some (.string tx) ∧ u.cell? ⟨w.heap.size, 1, none⟩ = some (.int .i64 lo) ∧ u.cell? ⟨w.heap.size, 2, none⟩ = some (.int .i64 us) ∧ u.cell? ⟨w.heap.size, 3, none⟩ = some (.int .i64 hi) ∧ u.cell? ⟨(w.heap.size + 1), 0, none⟩ = some (.bool n) ∧ u.cell? ⟨(w.heap.size + 1), 1, none⟩ = some (.slice a xs.length c) ∧ u.cell? ⟨(w.heap.size + 1), 2, none⟩ = some (.slice a' ys.length c'))) (by kernel_rfl) ?_ (fun hHeld => ?_)
  · (try dsimp only)
    go_keep
  have hdr : Below u1.heap.size u1 u1.drew := Below.drew1
  generalize u1.drew = ud100 at hdr hHeld ⊢
  replace hX := hX.below hdr
  replace X1 := X1.below hdr
  replace B2 := B2.below hdr
  replace hbW : Below w.heap.size w ud100 := hbW.trans (hdr.mono hbW.size)
  clear hdr
  clear p00 p01 p02 p03 p10 p11 p12
  obtain ⟨p00, p01, p02, p03, _⟩ := X1.cells
  obtain ⟨p10, p11, p12, _⟩ := B2.cells
  refine hTake (i := 0) (v := ?v101) rfl (by kernel_rfl) (by kernel_rfl) (by kernel_rfl) (fun _ _ _ h => h) (Or.inl ⟨by rfl, ?y101⟩) hHeld ?r101
  case y101 =>
    intro w9 hSw
    (try dsimp only at hSw)
    go_simp
    try with_reducible rfl
  try simp only [Act.put, List.setIfInBounds_toArray, List.set_cons_zero, List.set_cons_succ]
  refine hTake (i := 1) (v := ?v102) rfl (by kernel_rfl) (by kernel_rfl) (by kernel_rfl) (fun _ _ _ h => h) (Or.inl ⟨by rfl, ?y102⟩) hHeld ?r102
  case y102 =>
    intro w9 hSw
    (try dsimp only at hSw)
    go_simp
    try with_reducible rfl
  try simp only [Act.put, List.setIfInBounds_toArray, List.set_cons_zero, List.set_cons_succ]
  refine hTake (i := 4) (v := ?v103) rfl (by kernel_rfl) (by kernel_rfl) (by kernel_rfl) (fun _ _ _ h => h) (Or.inl ⟨by rfl, ?y103⟩) hHeld ?r103
  case y103 =>
    intro w9 hSw
    (try dsimp only at hSw)
    go_simp
    try with_reducible rfl
  try simp only [Act.put, List.setIfInBounds_toArray, List.set_cons_zero, List.set_cons_succ]
  refine hTake (i := 5) (v := ?v104) rfl (by kernel_rfl) (by kernel_rfl) (by kernel_rfl) (fun _ _ _ h => h) (Or.inl ⟨by rfl, ?y104⟩) hHeld ?r104
  case y104 =>
    intro w9 hSw
    (try dsimp only at hSw)
    go_simp
    try with_reducible rfl
  try simp only [Act.put, List.setIfInBounds_toArray, List.set_cons_zero, List.set_cons_succ]
  refine hCall (i := 2) rfl (by kernel_rfl) (by rfl) (fun K hK => ?_)
  go_simp
  refine (hpl _).mono ?_
  rintro e u2 ⟨v1, rfl, hF1, hb2⟩
  replace hX := hX.below hb2
  replace X1 := X1.below hb2
  replace B2 := B2.below hb2
  replace hbW : Below w.heap.size w u2 := hbW.trans (hb2.mono hbW.size)
  clear hb2
  clear p00 p01 p02 p03 p10 p11 p12
  obtain ⟨p00, p01, p02, p03, _⟩ := X1.cells
  obtain ⟨p10, p11, p12, _⟩ := B2.cells
  go_wp2_with fail
  refine hK.out _ _ ?_ (fun hHeld => ?_)
  · (try dsimp only)
    exact ⟨p00, p01, p02, p03, p10, p11, p12⟩
  clear hK K
  try simp only [Act.put, List.setIfInBounds_toArray, List.set_cons_zero, List.set_cons_succ]
  refine hCall (i := 3) rfl (by kernel_rfl) (by rfl) (fun K hK => ?_)
  go_simp
  refine (plain6_any _ _ _ _ hF1.ct).mono ?_
  rintro e u3 ⟨rfl, hb3⟩
  replace hX := hX.below hb3
  replace hF1 := hF1.below hb3
  replace X1 := X1.below hb3
  replace B2 := B2.below hb3
  replace hbW : Below w.heap.size w u3 := hbW.trans (hb3.mono hbW.size)
  clear hb3
  clear p00 p01 p02 p03 p10 p11 p12
  obtain ⟨p00, p01, p02, p03, _⟩ := X1.cells
  obtain ⟨p10, p11, p12, _⟩ := B2.cells
  go_wp2_with fail
  refine hK.out _ _ ?_ (fun hHeld => ?_)
  · (try dsimp only)
    exact ⟨p00, p01, p02, p03, p10, p11, p12⟩
  clear hK K
  try simp only [Act.put, List.setIfInBounds_toArray, List.set_cons_zero, List.set_cons_succ]
  refine hCall (i := 6) rfl (by kernel_rfl) (by rfl) (fun K hK => ?_)
  go_simp
  refine (spl _).mono ?_
  rintro e u4 ⟨v2, rfl, hF2, hb4⟩
  replace hX := hX.below hb4
  replace hF1 := hF1.below hb4
  replace X1 := X1.below hb4
  replace B2 := B2.below hb4
  replace hbW : Below w.heap.size w u4 := hbW.trans (hb4.mono hbW.size)
  clear hb4
  clear p00 p01 p02 p03 p10 p11 p12
  obtain ⟨p00, p01, p02, p03, _⟩ := X1.cells
  obtain ⟨p10, p11, p12, _⟩ := B2.cells
  go_wp2_with fail
  refine hK.out _ _ ?_ (fun hHeld => ?_)
  · (try dsimp only)
    exact ⟨p00, p01, p02, p03, p10, p11, p12⟩
  clear hK K
  try simp only [Act.put, List.setIfInBounds_toArray, List.set_cons_zero, List.set_cons_succ]
  refine hCall (i := 7) rfl (by kernel_rfl) (by rfl) (fun K hK => ?_)
  go_simp
  refine (same3_any _ _ _ _ _ _ _ hF1 hF2 rfl).mono ?_
  rintro e u5 ⟨rfl, hb5⟩
  replace hX := hX.below hb5
  replace hF1 := hF1.below hb5
  replace hF2 := hF2.below hb5
  replace X1 := X1.below hb5
  replace B2 := B2.below hb5
  replace hbW : Below w.heap.size w u5 := hbW.trans (hb5.mono hbW.size)
  clear hb5 hF1 hF2
  clear p00 p01 p02 p03 p10 p11 p12
  obtain ⟨p00, p01, p02, p03, _⟩ := X1.cells
  obtain ⟨p10, p11, p12, _⟩ := B2.cells
  go_wp2_with fail
  refine hK.out _ _ ?_ (fun hHeld => ?_)
  · (try dsimp only)
    exact ⟨p00, p01, p02, p03, p10, p11, p12⟩
  clear hK K
  try simp only [Act.put, List.setIfInBounds_toArray, List.set_cons_zero, List.set_cons_succ]
  refine hTake (i := 8) (v := ?v105) rfl (by kernel_rfl) (by kernel_rfl) (by kernel_rfl) (fun _ _ _ h => h) (Or.inl ⟨by rfl, ?y105⟩) hHeld ?r105
  case y105 =>
    intro w9 hSw
    (try dsimp only at hSw)
    go_simp
    try with_reducible rfl
  try simp only [Act.put, List.setIfInBounds_toArray, List.set_cons_zero, List.set_cons_succ]
  refine hTake (i := 9) (v := ?v106) rfl (by kernel_rfl) (by kernel_rfl) (by kernel_rfl) (fun _ _ _ h => h) (Or.inl ⟨by rfl, ?y106⟩) hHeld ?r106
  case y106 =>
    intro w9 hSw
    (try dsimp only at hSw)
    go_simp
    try with_reducible rfl
  try simp only [Act.put, List.setIfInBounds_toArray, List.set_cons_zero, List.set_cons_succ]
  refine hTake (i := 10) (v := ?v107) rfl (by kernel_rfl) (by kernel_rfl) (by kernel_rfl) (fun _ _ _ h => h) (Or.inl ⟨by rfl, ?y107⟩) hHeld ?r107
  case y107 =>
    intro w9 hSw
    (try dsimp only at hSw)
    go_simp
    try with_reducible rfl
  try simp only [Act.put, List.setIfInBounds_toArray, List.set_cons_zero, List.set_cons_succ]
  refine hTake (i := 13) (v := ?v108) rfl (by kernel_rfl) (by kernel_rfl) (by kernel_rfl) (fun _ _ _ h => h) (Or.inl ⟨by rfl, ?y108⟩) hHeld ?r108
  case y108 =>
    intro w9 hSw
    (try dsimp only at hSw)
    go_simp
    try with_reducible rfl
  try simp only [Act.put, List.setIfInBounds_toArray, List.set_cons_zero, List.set_cons_succ]
  refine hTake (i := 14) (v := ?v109) rfl (by kernel_rfl) (by kernel_rfl) (by kernel_rfl) (fun _ _ _ h => h) (Or.inl ⟨by rfl, ?y109⟩) hHeld ?r109
  case y109 =>
    intro w9 hSw
    (try dsimp only at hSw)
    go_simp
    try with_reducible rfl
  try simp only [Act.put, List.setIfInBounds_toArray, List.set_cons_zero, List.set_cons_succ]
  refine hCall (i := 11) rfl (by kernel_rfl) (by rfl) (fun K hK => ?_)
  go_simp
  refine (hus _ hX).mono ?_
  rintro e u6 ⟨v3, rfl, hF3, hb6⟩
  replace hX := hX.below hb6
  replace X1 := X1.below hb6
  replace B2 := B2.below hb6
  replace hbW : Below w.heap.size w u6 := hbW.trans (hb6.mono hbW.size)
  clear hb6
  clear p00 p01 p02 p03 p10 p11 p12
  obtain ⟨p00, p01, p02, p03, _⟩ := X1.cells
  obtain ⟨p10, p11, p12, _⟩ := B2.cells
  go_wp2_with fail
  refine hK.out _ _ ?_ (fun hHeld => ?_)
  · (try dsimp only)
    exact ⟨p00, p01, p02, p03, p10, p11, p12⟩
  clear hK K
  try simp only [Act.put, List.setIfInBounds_toArray, List.set_cons_zero, List.set_cons_succ]
  refine hCall (i := 12) rfl (by kernel_rfl) (by rfl) (fun K hK => ?_)
  go_simp
  refine (plain6_any _ _ _ _ hF3.ct).mono ?_
  rintro e u7 ⟨rfl, hb7⟩
  replace hX := hX.below hb7
  replace hF3 := hF3.below hb7
  replace X1 := X1.below hb7
  replace B2 := B2.below hb7
  replace hbW : Below w.heap.size w u7 := hbW.trans (hb7.mono hbW.size)
  clear hb7
  clear p00 p01 p02 p03 p10 p11 p12
  obtain ⟨p00, p01, p02, p03, _⟩ := X1.cells
  obtain ⟨p10, p11, p12, _⟩ := B2.cells
  go_wp2_with fail
  refine hK.out _ _ ?_ (fun hHeld => ?_)
  · (try dsimp only)
    exact ⟨p00, p01, p02, p03, p10, p11, p12⟩
  clear hK K
  try simp only [Act.put, List.setIfInBounds_toArray, List.set_cons_zero, List.set_cons_succ]
  refine hCall (i := 15) rfl (by kernel_rfl) (by rfl) (fun K hK => ?_)
  go_simp
  refine (plain6_any _ _ _ _ hX).mono ?_
  rintro e u8 ⟨rfl, hb8⟩
  replace hX := hX.below hb8
  replace hF3 := hF3.below hb8
  replace X1 := X1.below hb8
  replace B2 := B2.below hb8
  replace hbW : Below w.heap.size w u8 := hbW.trans (hb8.mono hbW.size)
  clear hb8
  clear p00 p01 p02 p03 p10 p11 p12
  obtain ⟨p00, p01, p02, p03, _⟩ := X1.cells
  obtain ⟨p10, p11, p12, _⟩ := B2.cells
  go_wp2_with fail
  refine hK.out _ _ ?_ (fun hHeld => ?_)
  · (try dsimp only)
    exact ⟨p00, p01, p02, p03, p10, p11, p12⟩
  clear hK K
  try simp only [Act.put, List.setIfInBounds_toArray, List.set_cons_zero, List.set_cons_succ]
  refine hCall (i := 16) rfl (by kernel_rfl) (by rfl) (fun K hK => ?_)
  go_simp
  refine (sus _ hX).mono ?_
  rintro e u9 ⟨v4, rfl, hF4, hb9⟩
  replace hX := hX.below hb9
  replace hF3 := hF3.below hb9
  replace X1 := X1.below hb9
  replace B2 := B2.below hb9
  replace hbW : Below w.heap.size w u9 := hbW.trans (hb9.mono hbW.size)
  clear hb9
  clear p00 p01 p02 p03 p10 p11 p12
  obtain ⟨p00, p01, p02, p03, _⟩ := X1.cells
  obtain ⟨p10, p11, p12, _⟩ := B2.cells
  go_wp2_with fail
  refine hK.out _ _ ?_ (fun hHeld => ?_)
  · (try dsimp only)
    exact ⟨p00, p01, p02, p03, p10, p11, p12⟩
  clear hK K
  try simp only [Act.put, List.setIfInBounds_toArray, List.set_cons_zero, List.set_cons_succ]
  refine hCall (i := 17) rfl (by kernel_rfl) (by rfl) (fun K hK => ?_)
  go_simp
  refine (same3_any _ _ _ _ _ _ _ hF3 hF4 rfl).mono ?_
  rintro e u10 ⟨rfl, hb10⟩
  replace hX := hX.below hb10
  replace hF3 := hF3.below hb10
  replace hF4 := hF4.below hb10
  replace X1 := X1.below hb10
  replace B2 := B2.below hb10
  replace hbW : Below w.heap.size w u10 := hbW.trans (hb10.mono hbW.size)
  clear hb10 hF3 hF4
  clear p00 p01 p02 p03 p10 p11 p12
  obtain ⟨p00, p01, p02, p03, _⟩ := X1.cells
  obtain ⟨p10, p11, p12, _⟩ := B2.cells
  go_wp2_with fail
  refine hK.out _ _ ?_ (fun hHeld => ?_)
  · (try dsimp only)
    exact ⟨p00, p01, p02, p03, p10, p11, p12⟩
  clear hK K
  try simp only [Act.put, List.setIfInBounds_toArray, List.set_cons_zero, List.set_cons_succ]
  refine hTake (i := 18) (v := ?v110) rfl (by kernel_rfl) (by kernel_rfl) (by kernel_rfl) (fun _ _ _ h => h) (Or.inl ⟨by rfl, ?y110⟩) hHeld ?r110
  case y110 =>
    intro w9 hSw
    (try dsimp only at hSw)
    go_simp
    try with_reducible rfl
  try simp only [Act.put, List.setIfInBounds_toArray, List.set_cons_zero, List.set_cons_succ]
  refine hTake (i := 19) (v := ?v111) rfl (by kernel_rfl) (by kernel_rfl) (by kernel_rfl) (fun _ _ _ h => h) (Or.inl ⟨by rfl, ?y111⟩) hHeld ?r111
  case y111 =>
    intro w9 hSw
    (try dsimp only at hSw)
    go_simp
    try with_reducible rfl
  try simp only [Act.put, List.setIfInBounds_toArray, List.set_cons_zero, List.set_cons_succ]
  refine wpAnyH_done (by kernel_rfl) ?_ _
  go_wp2
  go_ret
  exact ⟨rfl, hbW⟩

end Go.Proofs.YtanppgmhlcifiaaGreatDoor
