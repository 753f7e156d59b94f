/-
  foundrylaw02.RatioReckons: the walk.
-/
import Derived.Test.YtefdkajjdaplbaaGreatDoorS4
import Derived.Test.YtefdkajjdaplbaaGreatDoorQB
import Derived.Deep.Cut
namespace Go.Proofs.YtefdkajjdaplbaaGreatDoor
open Go.RowKit Classical
set_option linter.unusedSimpArgs false
set_option linter.unusedVariables false

set_option maxHeartbeats 8000000 in
set_option maxRecDepth 100000 in
theorem walkRatioReckons (n m : Bool) (a a' b b' : Option Addr) (c c' d d' : Nat) (xs ys ps qs : List Nat) (w : World)
    (hx : Rd w a c xs) (hy : Rd w a' c' ys) (hp : Rd w b d ps) (hq : Rd w b' d' qs) (htab : Pow w) :
    Calls Tryz.prog 3 #[.agg #[.bool n, .slice a xs.length c, .slice a' ys.length c'], .agg #[.bool m, .slice b ps.length d, .slice b' qs.length d']] w fun e w' => e = .returned (.bool true) ∧ Below w.heap.size w w' := by
  have z1 : xs.length ≤ 9223372036854775807 := by have := hx.le; have := hx.cap; unfold maxLen at this; omega
  have z2 : ys.length ≤ 9223372036854775807 := by have := hy.le; have := hy.cap; unfold maxLen at this; omega
  have z3 : ps.length ≤ 9223372036854775807 := by have := hp.le; have := hp.cap; unfold maxLen at this; omega
  have z4 : qs.length ≤ 9223372036854775807 := by have := hq.le; have := hq.cap; unfold maxLen at this; omega
  go_enter Tryz.func3, Tryz.ntmps3
  go_wp2_with fail
  refine (awake2_any _ (htab.below (al2 _ _))).mono ?_
  rintro e u1 ⟨rfl, hb1⟩
  replace hx := (hx.below (al2 _ _)).below hb1
  replace hy := (hy.below (al2 _ _)).below hb1
  replace hp := (hp.below (al2 _ _)).below hb1
  replace hq := (hq.below (al2 _ _)).below hb1
  obtain ⟨B1, B2, hbW⟩ := after2 hb1
  clear hb1
  obtain ⟨p00, p01, p02, _⟩ := B1.cells
  obtain ⟨p10, p11, p12, _⟩ := B2.cells
  go_wp2_with fail
  refine (few2_any _ _ _ _ _ _ _ _ _ _ _ _ _ _ _ z1 z2 z3 z4).mono ?_
  rintro e u2 ⟨rfl, hb2⟩
  replace hx := hx.below hb2
  replace hy := hy.below hb2
  replace hp := hp.below hb2
  replace hq := hq.below hb2
  replace B1 := B1.below hb2
  replace B2 := B2.below hb2
  replace hbW : Below w.heap.size w u2 := hbW.trans (hb2.mono hbW.size)
  clear hb2
  clear p00 p01 p02 p10 p11 p12
  obtain ⟨p00, p01, p02, _⟩ := B1.cells
  obtain ⟨p10, p11, p12, _⟩ := B2.cells
  by_cases hd : ¬ (xs.length ≤ 4 ∧ ys.length ≤ 4 ∧ ps.length ≤ 4 ∧ qs.length ≤ 4)
  · have e1 : decide (xs.length ≤ 4 ∧ ys.length ≤ 4 ∧ ps.length ≤ 4 ∧ qs.length ≤ 4) = false := decide_eq_false hd
    rw [e1]
    clear e1
    go_wp2_with fail
    refine (awake2_any _ (htab.below hbW)).mono ?_
    rintro e uf ⟨rfl, hbf⟩
    go_wp2
    go_ret
    exact ⟨rfl, hbW.trans (hbf.mono hbW.size)⟩
  replace hd := Decidable.not_not.1 hd
  have e1 : decide (xs.length ≤ 4 ∧ ys.length ≤ 4 ∧ ps.length ≤ 4 ∧ qs.length ≤ 4) = true := decide_eq_true hd
  rw [e1]
  clear e1
  obtain ⟨l1, l2, l3, l4⟩ := hd
  clear z1 z2 z3 z4
  obtain ⟨qx, hqx⟩ : ∃ q, q = if Fmd n xs ys then qv n xs ys else 0 := ⟨_, rfl⟩
  obtain ⟨qy, hqy⟩ : ∃ q, q = if Fmd m ps qs then qv m ps qs else 0 := ⟨_, rfl⟩
  have hX : Ct u2 (.agg #[.bool n, .slice a xs.length c, .slice a' ys.length c']) 4 qx := ⟨_, _, _, ⟨_, _, _, _, rfl, hx, hy⟩, l1, l2, hqx⟩
  have hY : Ct u2 (.agg #[.bool m, .slice b ps.length d, .slice b' qs.length d']) 4 qy := ⟨_, _, _, ⟨_, _, _, _, rfl, hp, hq⟩, l3, l4, hqy⟩
  have HX : Hid (qx = if Fmd n xs ys then qv n xs ys else 0) := hqx
  have HY : Hid (qy = if Fmd m ps qs then qv m ps qs else 0) := hqy
  clear hqx hqy
  clear p00 p01 p02 p10 p11 p12
  go_wp2_with fail
  go_cut [5, 6] from 11 (fun s5 s6 wx => ∃ e5 e6, s5 = .pointer (some ⟨e5, 0, none⟩) ∧ s6 = .pointer (some ⟨e6, 0, none⟩) ∧ Box 30 wx e5 (.bool n) (.slice a xs.length c) (.slice a' ys.length c') ∧ Box 30 wx e6 (.bool m) (.slice b ps.length d) (.slice b' qs.length d') ∧ Ct wx (.agg #[.bool n, .slice a xs.length c, .slice a' ys.length c']) 4 qx ∧ Ct wx (.agg #[.bool m, .slice b ps.length d, .slice b' qs.length d']) 4 qy ∧ Box 25 wx w.heap.size (.bool n) (.slice a xs.length c) (.slice a' ys.length c') ∧ Box 25 wx (w.heap.size + 1) (.bool m) (.slice b ps.length d) (.slice b' qs.length d') ∧ Below w.heap.size w wx)
  case first =>
    have st : Stg 0 := rfl
    have hl2 := B2.lt
    obtain ⟨p00, p01, p02, _⟩ := B1.cells
    obtain ⟨p10, p11, p12, _⟩ := B2.cells
    go_region_held3 (fun u => u.cell? ⟨w.heap.size, 0, none⟩ = some (.bool n) ∧ u.cell? ⟨w.heap.size, 1, none⟩ = some (.slice a xs.length c) ∧ u.cell? ⟨w.heap.size, 2, none⟩ = some (.slice a' ys.length c') ∧ u.cell? ⟨w.heap.size + 1, 0, none⟩ = some (.bool m) ∧ u.cell? ⟨w.heap.size + 1, 1, none⟩ = some (.slice b ps.length d) ∧ u.cell? ⟨w.heap.size + 1, 2, none⟩ = some (.slice b' qs.length d')) (first | (go_keep; done) | (with_reducible refine ⟨(cell_sa ?_ ?_).trans p00, (cell_sa ?_ ?_).trans p01, (cell_sa ?_ ?_).trans p02, (cell_sa ?_ ?_).trans p10, (cell_sa ?_ ?_).trans p11, (cell_sa ?_ ?_).trans p12⟩) <;> omega | (with_reducible refine ⟨(cell_s2 ?_ ?_).trans p00, (cell_s2 ?_ ?_).trans p01, (cell_s2 ?_ ?_).trans p02, (cell_s2 ?_ ?_).trans p10, (cell_s2 ?_ ?_).trans p11, (cell_s2 ?_ ?_).trans p12⟩) <;> omega | (with_reducible refine ⟨(cell_set3 ?_).trans p00, (cell_set3 ?_).trans p01, (cell_set3 ?_).trans p02, (cell_set3 ?_).trans p10, (cell_set3 ?_).trans p11, (cell_set3 ?_).trans p12⟩) <;> omega)
      (first
        | (go_at_call 7
           have _sg : Stg 0 := st
           show Calls _ _ _ (World.drew (World.alloc (World.alloc _ _) _)) _
           refine (plain2_any _ _ _ _ _ _ _ _ (hx.below (al2d _ _)) (hy.below (al2d _ _))).mono ?_
           rintro e u50 ⟨rfl, hb50⟩
           obtain ⟨K1, K2, hb50⟩ := after2d hb50
           have hk0 := K1.lt
           have hs50 := hb50.size
           replace hx := hx.below hb50
           replace hy := hy.below hb50
           replace hp := hp.below hb50
           replace hq := hq.below hb50
           replace hX := hX.below hb50
           replace hY := hY.below hb50
           replace B1 := B1.below hb50
           replace B2 := B2.below hb50
           replace hbW : Below w.heap.size w u50 := hbW.trans (hb50.mono hbW.size)
           clear hb50
           clear p00 p01 p02 p10 p11 p12
           obtain ⟨p00, p01, p02, _⟩ := B1.cells
           obtain ⟨p10, p11, p12, _⟩ := B2.cells
           clear st _sg
           have st : Stg 1 := rfl)
        | (go_at_call 7
           have _sg : Stg 0 := st
           show Calls _ _ _ (World.drew (World.alloc _ _)) _
           refine (plain2_any _ _ _ _ _ _ _ _ (hx.below (al1d _)) (hy.below (al1d _))).mono ?_
           rintro e u50 ⟨rfl, hb50⟩
           obtain ⟨K1, hb50⟩ := after1d hb50
           have hk0 := K1.lt
           have hs50 := hb50.size
           replace hx := hx.below hb50
           replace hy := hy.below hb50
           replace hp := hp.below hb50
           replace hq := hq.below hb50
           replace hX := hX.below hb50
           replace hY := hY.below hb50
           replace B1 := B1.below hb50
           replace B2 := B2.below hb50
           replace hbW : Below w.heap.size w u50 := hbW.trans (hb50.mono hbW.size)
           clear hb50
           clear p00 p01 p02 p10 p11 p12
           obtain ⟨p00, p01, p02, _⟩ := B1.cells
           obtain ⟨p10, p11, p12, _⟩ := B2.cells
           clear st _sg
           have st : Stg 1 := rfl)
        | (go_at_call 7
           have _sg : Stg 0 := st
           show Calls _ _ _ (World.drew _) _
           refine (plain2_any _ _ _ _ _ _ _ _ (hx.below (Below.drew1)) (hy.below (Below.drew1))).mono ?_
           rintro e u50 ⟨rfl, hb50⟩
           replace hb50 : Below u2.heap.size u2 u50 := Below.drew1.trans hb50
           have hs50 := hb50.size
           replace hx := hx.below hb50
           replace hy := hy.below hb50
           replace hp := hp.below hb50
           replace hq := hq.below hb50
           replace hX := hX.below hb50
           replace hY := hY.below hb50
           replace B1 := B1.below hb50
           replace B2 := B2.below hb50
           replace hbW : Below w.heap.size w u50 := hbW.trans (hb50.mono hbW.size)
           clear hb50
           clear p00 p01 p02 p10 p11 p12
           obtain ⟨p00, p01, p02, _⟩ := B1.cells
           obtain ⟨p10, p11, p12, _⟩ := B2.cells
           clear st _sg
           have st : Stg 1 := rfl)
        | (go_at_call 7
           have _sg : Stg 1 := st
           show Calls _ _ _ (World.alloc (World.alloc _ _) _) _
           refine (plain2_any _ _ _ _ _ _ _ _ (hp.below (al2 _ _)) (hq.below (al2 _ _))).mono ?_
           rintro e u51 ⟨rfl, hb51⟩
           obtain ⟨K1, K2, hb51⟩ := after2 hb51
           have hs51 := hb51.size
           replace hx := hx.below hb51
           replace hy := hy.below hb51
           replace hp := hp.below hb51
           replace hq := hq.below hb51
           replace hX := hX.below hb51
           replace hY := hY.below hb51
           replace B1 := B1.below hb51
           replace B2 := B2.below hb51
           replace hbW : Below w.heap.size w u51 := hbW.trans (hb51.mono hbW.size)
           clear hb51
           try obtain ⟨k10, k11, k12, k13, k14, k15⟩ := K1.cells
           try have hk1 := K1.lt
           try obtain ⟨k20, k21, k22, k23, k24, k25⟩ := K2.cells
           try have hk2 := K2.lt
           try have hn1 : ¬ (u2.heap.size = u50.heap.size) := by omega
           try have hn2 : ¬ (u50.heap.size = u2.heap.size) := by omega
           clear p00 p01 p02 p10 p11 p12
           obtain ⟨p00, p01, p02, _⟩ := B1.cells
           obtain ⟨p10, p11, p12, _⟩ := B2.cells
           clear st _sg
           have st : Stg 2 := rfl)
        | (go_at_call 7
           have _sg : Stg 1 := st
           show Calls _ _ _ (World.alloc _ _) _
           refine (plain2_any _ _ _ _ _ _ _ _ (hp.below (al1 _)) (hq.below (al1 _))).mono ?_
           rintro e u51 ⟨rfl, hb51⟩
           first
             | (replace K1 := (K1.alloc _).below hb51
                obtain ⟨K2, hb51⟩ := after1 hb51)
             | (obtain ⟨K1, hb51⟩ := after1 hb51)
           have hs51 := hb51.size
           replace hx := hx.below hb51
           replace hy := hy.below hb51
           replace hp := hp.below hb51
           replace hq := hq.below hb51
           replace hX := hX.below hb51
           replace hY := hY.below hb51
           replace B1 := B1.below hb51
           replace B2 := B2.below hb51
           replace hbW : Below w.heap.size w u51 := hbW.trans (hb51.mono hbW.size)
           clear hb51
           try obtain ⟨k10, k11, k12, k13, k14, k15⟩ := K1.cells
           try have hk1 := K1.lt
           try obtain ⟨k20, k21, k22, k23, k24, k25⟩ := K2.cells
           try have hk2 := K2.lt
           try have hn1 : ¬ (u2.heap.size = u50.heap.size) := by omega
           try have hn2 : ¬ (u50.heap.size = u2.heap.size) := by omega
           clear p00 p01 p02 p10 p11 p12
           obtain ⟨p00, p01, p02, _⟩ := B1.cells
           obtain ⟨p10, p11, p12, _⟩ := B2.cells
           clear st _sg
           have st : Stg 2 := rfl)
        | (go_at_call 7
           have _sg : Stg 1 := st
           refine (plain2_any _ _ _ _ _ _ _ _ hp hq).mono ?_
           rintro e u51 ⟨rfl, hb51⟩
           try replace K1 := K1.below hb51
           try replace K2 := K2.below hb51
           have hs51 := hb51.size
           replace hx := hx.below hb51
           replace hy := hy.below hb51
           replace hp := hp.below hb51
           replace hq := hq.below hb51
           replace hX := hX.below hb51
           replace hY := hY.below hb51
           replace B1 := B1.below hb51
           replace B2 := B2.below hb51
           replace hbW : Below w.heap.size w u51 := hbW.trans (hb51.mono hbW.size)
           clear hb51
           try obtain ⟨k10, k11, k12, k13, k14, k15⟩ := K1.cells
           try have hk1 := K1.lt
           try obtain ⟨k20, k21, k22, k23, k24, k25⟩ := K2.cells
           try have hk2 := K2.lt
           try have hn1 : ¬ (u2.heap.size = u50.heap.size) := by omega
           try have hn2 : ¬ (u50.heap.size = u2.heap.size) := by omega
           clear p00 p01 p02 p10 p11 p12
           obtain ⟨p00, p01, p02, _⟩ := B1.cells
           obtain ⟨p10, p11, p12, _⟩ := B2.cells
           clear st _sg
           have st : Stg 2 := rfl))
    all_goals
      go_wp2_with fail
      go_meet
      have hs9 := B2.lt
      first
        | (obtain ⟨U, hU, T⟩ := Sto.two (sto_set K1 (.bool n) (.slice a xs.length c) (.slice a' ys.length c')) (sto_set ((sto_set K1 (.bool n) (.slice a xs.length c) (.slice a' ys.length c')).2.2.2 _ _ _ _ _ (by omega) K2) (.bool m) (.slice b ps.length d) (.slice b' qs.length d')) (by omega)
           rw [← hU]
           exact ⟨_, _, rfl, rfl, T.1, T.2.1, hX.keep T.2.2.2.1, hY.keep T.2.2.2.1, T.2.2.2.2 _ _ _ _ _ (by omega) (by omega) B1, T.2.2.2.2 _ _ _ _ _ (by omega) (by omega) B2, T.2.2.1 _ _ hbW (by omega) (by omega)⟩)
        | (obtain ⟨U, hU, T⟩ := Sto.two (sto_set K2 (.bool n) (.slice a xs.length c) (.slice a' ys.length c')) (sto_set ((sto_set K2 (.bool n) (.slice a xs.length c) (.slice a' ys.length c')).2.2.2 _ _ _ _ _ (by omega) K1) (.bool m) (.slice b ps.length d) (.slice b' qs.length d')) (by omega)
           rw [← hU]
           exact ⟨_, _, rfl, rfl, T.1, T.2.1, hX.keep T.2.2.2.1, hY.keep T.2.2.2.1, T.2.2.2.2 _ _ _ _ _ (by omega) (by omega) B1, T.2.2.2.2 _ _ _ _ _ (by omega) (by omega) B2, T.2.2.1 _ _ hbW (by omega) (by omega)⟩)
        | (obtain ⟨U, hU, T⟩ := Sto.two (sto_set K1 (.bool n) (.slice a xs.length c) (.slice a' ys.length c')) (sto_new' 30 _ (.bool m) (.slice b ps.length d) (.slice b' qs.length d') (k := u51.heap.size) (by simp [World.setCell])) (by omega)
           rw [← hU]
           exact ⟨_, _, rfl, rfl, T.1, T.2.1, hX.keep T.2.2.2.1, hY.keep T.2.2.2.1, T.2.2.2.2 _ _ _ _ _ (by omega) (by omega) B1, T.2.2.2.2 _ _ _ _ _ (by omega) (by omega) B2, T.2.2.1 _ _ hbW (by omega) (by omega)⟩)
        | (obtain ⟨U, hU, T⟩ := Sto.two (sto_set K1 (.bool m) (.slice b ps.length d) (.slice b' qs.length d')) (sto_new' 30 _ (.bool n) (.slice a xs.length c) (.slice a' ys.length c') (k := u51.heap.size) (by simp [World.setCell])) (by omega)
           rw [← hU]
           exact ⟨_, _, rfl, rfl, T.2.1, T.1, hX.keep T.2.2.2.1, hY.keep T.2.2.2.1, T.2.2.2.2 _ _ _ _ _ (by omega) (by omega) B1, T.2.2.2.2 _ _ _ _ _ (by omega) (by omega) B2, T.2.2.1 _ _ hbW (by omega) (by omega)⟩)
        | (obtain ⟨U, hU, T⟩ := Sto.two (sto_new' 30 u51 (.bool n) (.slice a xs.length c) (.slice a' ys.length c') (k := u51.heap.size) (by simp [World.setCell])) (sto_new' 30 _ (.bool m) (.slice b ps.length d) (.slice b' qs.length d') (k := u51.heap.size + 1) (by simp [World.setCell])) (by omega)
           rw [← hU]
           exact ⟨_, _, rfl, rfl, T.1, T.2.1, hX.keep T.2.2.2.1, hY.keep T.2.2.2.1, T.2.2.2.2 _ _ _ _ _ (by omega) (by omega) B1, T.2.2.2.2 _ _ _ _ _ (by omega) (by omega) B2, T.2.2.1 _ _ hbW (by omega) (by omega)⟩)
        | (obtain ⟨U, hU, T⟩ := Sto.two (sto_new' 30 u51 (.bool m) (.slice b ps.length d) (.slice b' qs.length d') (k := u51.heap.size) (by simp [World.setCell])) (sto_new' 30 _ (.bool n) (.slice a xs.length c) (.slice a' ys.length c') (k := u51.heap.size + 1) (by simp [World.setCell])) (by omega)
           rw [← hU]
           exact ⟨_, _, rfl, rfl, T.2.1, T.1, hX.keep T.2.2.2.1, hY.keep T.2.2.2.1, T.2.2.2.2 _ _ _ _ _ (by omega) (by omega) B1, T.2.2.2.2 _ _ _ _ _ (by omega) (by omega) B2, T.2.2.1 _ _ hbW (by omega) (by omega)⟩)
        | trace_state
  case rest =>
  clear hx hy hp hq hX hY B1 B2 hbW
  obtain ⟨e5, e6, rfl, rfl, A5, A6, hX, hY, B1, B2, hbW⟩ := hcut
  obtain ⟨p00, p01, p02, _⟩ := B1.cells
  obtain ⟨p10, p11, p12, _⟩ := B2.cells
  obtain ⟨p20, p21, p22, _⟩ := A5.cells
  obtain ⟨p30, p31, p32, _⟩ := A6.cells
  go_wp2_with fail
  refine (qquo_any 4 4 qx qy _ _ _ hX hY (by decide) (by decide) (by decide) (by decide)).mono ?_
  rintro e u61 ⟨vq, rfl, hFq, hb61⟩
  replace hX := hX.below hb61
  replace hY := hY.below hb61
  replace B1 := B1.below hb61
  replace B2 := B2.below hb61
  replace A5 := A5.below hb61
  replace A6 := A6.below hb61
  replace hbW : Below w.heap.size w u61 := hbW.trans (hb61.mono hbW.size)
  clear hb61
  clear p00 p01 p02 p10 p11 p12 p20 p21 p22 p30 p31 p32
  have hQ := hFq
  obtain ⟨n7, x7, y7, ⟨a7, c7, b7, d7, rfl, _, _⟩, _⟩ := hFq
  obtain ⟨rA50, rA51, rA52, _⟩ := (A5.alloc (.cells #[.bool n7, .slice a7 x7.length c7, .slice b7 y7.length d7] 25)).cells
  obtain ⟨rA60, rA61, rA62, _⟩ := (A6.alloc (.cells #[.bool n7, .slice a7 x7.length c7, .slice b7 y7.length d7] 25)).cells
  obtain ⟨bq, hbq⟩ : ∃ bq, decide (qy ≠ 0) = bq := ⟨_, rfl⟩
  rw [hbq]
  go_wp2_with fail
  refine (squo_any 4 4 qx qy _ _ _ (hX.below (al1 _)) (hY.below (al1 _)) (by decide) (by decide) (by decide) (by decide)).mono ?_
  rintro e u62 ⟨vp, rfl, hFp, hb62⟩
  obtain ⟨BQ, hb62⟩ := after1 hb62
  rw [hbq]
  clear hbq
  replace hX := hX.below hb62
  replace hY := hY.below hb62
  replace hQ := hQ.below hb62
  replace B1 := B1.below hb62
  replace B2 := B2.below hb62
  replace A5 := A5.below hb62
  replace A6 := A6.below hb62
  replace hbW : Below w.heap.size w u62 := hbW.trans (hb62.mono hbW.size)
  clear hb62 rA50 rA51 rA52 rA60 rA61 rA62
  have hP := hFp
  obtain ⟨n9, x9, y9, ⟨a9, c9, b9, d9, rfl, _, _⟩, _⟩ := hFp
  generalize u61.heap.size = e7 at BQ ⊢
  go_wp2_with fail
  obtain ⟨U, hU, BP, hbU⟩ : ∃ U, U = u62.alloc (.cells #[.bool n9, .slice a9 x9.length c9, .slice b9 y9.length d9] 30) ∧ Box 30 U u62.heap.size (.bool n9) (.slice a9 x9.length c9) (.slice b9 y9.length d9) ∧ Below u62.heap.size u62 U := ⟨_, rfl, Box.new _ _ _ _ _, al1 _⟩
  rw [← hU]
  clear hU
  replace hX := hX.below hbU
  replace hY := hY.below hbU
  replace hQ := hQ.below hbU
  replace hP := hP.below hbU
  replace B1 := B1.below hbU
  replace B2 := B2.below hbU
  replace A5 := A5.below hbU
  replace A6 := A6.below hbU
  replace BQ := BQ.below hbU
  replace hbW : Below w.heap.size w U := hbW.trans (hbU.mono hbW.size)
  clear hbU
  generalize u62.heap.size = e9 at BP ⊢
  have e0 : (bq == bq) = true := by simp
  obtain ⟨p00, p01, p02, _⟩ := B1.cells
  obtain ⟨p10, p11, p12, _⟩ := B2.cells
  obtain ⟨p20, p21, p22, _⟩ := A5.cells
  obtain ⟨p30, p31, p32, _⟩ := A6.cells
  obtain ⟨p40, p41, p42, _⟩ := BQ.cells
  obtain ⟨p50, p51, p52, _⟩ := BP.cells
  have st : Stg 0 := rfl
  go_region_held3 (fun u => u.cell? ⟨w.heap.size, 0, none⟩ = some (.bool n) ∧ u.cell? ⟨w.heap.size, 1, none⟩ = some (.slice a xs.length c) ∧ u.cell? ⟨w.heap.size, 2, none⟩ = some (.slice a' ys.length c') ∧ u.cell? ⟨w.heap.size + 1, 0, none⟩ = some (.bool m) ∧ u.cell? ⟨w.heap.size + 1, 1, none⟩ = some (.slice b ps.length d) ∧ u.cell? ⟨w.heap.size + 1, 2, none⟩ = some (.slice b' qs.length d') ∧ u.cell? ⟨e5, 0, none⟩ = some (.bool n) ∧ u.cell? ⟨e5, 1, none⟩ = some (.slice a xs.length c) ∧ u.cell? ⟨e5, 2, none⟩ = some (.slice a' ys.length c') ∧ u.cell? ⟨e6, 0, none⟩ = some (.bool m) ∧ u.cell? ⟨e6, 1, none⟩ = some (.slice b ps.length d) ∧ u.cell? ⟨e6, 2, none⟩ = some (.slice b' qs.length d') ∧ u.cell? ⟨e7, 0, none⟩ = some (.bool n7) ∧ u.cell? ⟨e7, 1, none⟩ = some (.slice a7 x7.length c7) ∧ u.cell? ⟨e7, 2, none⟩ = some (.slice b7 y7.length d7) ∧ u.cell? ⟨e9, 0, none⟩ = some (.bool n9) ∧ u.cell? ⟨e9, 1, none⟩ = some (.slice a9 x9.length c9) ∧ u.cell? ⟨e9, 2, none⟩ = some (.slice b9 y9.length d9)) (go_keep)
    (first
      | (go_at_call 11
         have _sg : Stg 0 := st
         refine (qadd_any 4 4 qx qy _ _ _ (hX.below Below.drew1) (hY.below Below.drew1) (by decide) (by decide) (by decide) (by decide)).mono ?_
         rintro e u71 ⟨vg1, rfl, hg1, hb71⟩
         replace hb71 : Below U.heap.size U u71 := Below.drew1.trans hb71
         replace hX := hX.below hb71
         replace hY := hY.below hb71
         replace hQ := hQ.below hb71
         replace hP := hP.below hb71
         replace B1 := B1.below hb71
         replace B2 := B2.below hb71
         replace A5 := A5.below hb71
         replace A6 := A6.below hb71
         replace BQ := BQ.below hb71
         replace BP := BP.below hb71
         replace hbW : Below w.heap.size w u71 := hbW.trans (hb71.mono hbW.size)
         clear hb71
         clear st _sg
         have st : Stg 1 := rfl
         clear p00 p01 p02 p10 p11 p12 p20 p21 p22 p30 p31 p32 p40 p41 p42 p50 p51 p52
         obtain ⟨p00, p01, p02, _⟩ := B1.cells
         obtain ⟨p10, p11, p12, _⟩ := B2.cells
         obtain ⟨p20, p21, p22, _⟩ := A5.cells
         obtain ⟨p30, p31, p32, _⟩ := A6.cells
         obtain ⟨p40, p41, p42, _⟩ := BQ.cells
         obtain ⟨p50, p51, p52, _⟩ := BP.cells)
      | (go_at_call 12
         have _sg : Stg 1 := st
         refine (sadd_any 4 4 qx qy _ _ _ hX hY (by decide) (by decide) (by decide) (by decide)).mono ?_
         rintro e u72 ⟨vg1r, rfl, hg1r, hb72⟩
         replace hX := hX.below hb72
         replace hY := hY.below hb72
         replace hQ := hQ.below hb72
         replace hP := hP.below hb72
         replace hg1 := hg1.below hb72
         replace B1 := B1.below hb72
         replace B2 := B2.below hb72
         replace A5 := A5.below hb72
         replace A6 := A6.below hb72
         replace BQ := BQ.below hb72
         replace BP := BP.below hb72
         replace hbW : Below w.heap.size w u72 := hbW.trans (hb72.mono hbW.size)
         clear hb72
         clear st _sg
         have st : Stg 2 := rfl
         clear p00 p01 p02 p10 p11 p12 p20 p21 p22 p30 p31 p32 p40 p41 p42 p50 p51 p52
         obtain ⟨p00, p01, p02, _⟩ := B1.cells
         obtain ⟨p10, p11, p12, _⟩ := B2.cells
         obtain ⟨p20, p21, p22, _⟩ := A5.cells
         obtain ⟨p30, p31, p32, _⟩ := A6.cells
         obtain ⟨p40, p41, p42, _⟩ := BQ.cells
         obtain ⟨p50, p51, p52, _⟩ := BP.cells)
      | (go_at_call 10
         have _sg : Stg 2 := st
         refine (sameF_any _ _ _ _ _ _ hg1 hg1r).mono ?_
         rintro e u73 ⟨rfl, hb73⟩
         replace hX := hX.below hb73
         replace hY := hY.below hb73
         replace hQ := hQ.below hb73
         replace hP := hP.below hb73
         replace hg1 := hg1.below hb73
         replace hg1r := hg1r.below hb73
         replace B1 := B1.below hb73
         replace B2 := B2.below hb73
         replace A5 := A5.below hb73
         replace A6 := A6.below hb73
         replace BQ := BQ.below hb73
         replace BP := BP.below hb73
         replace hbW : Below w.heap.size w u73 := hbW.trans (hb73.mono hbW.size)
         clear hb73
         clear st _sg
         have st : Stg 3 := rfl
         clear p00 p01 p02 p10 p11 p12 p20 p21 p22 p30 p31 p32 p40 p41 p42 p50 p51 p52
         obtain ⟨p00, p01, p02, _⟩ := B1.cells
         obtain ⟨p10, p11, p12, _⟩ := B2.cells
         obtain ⟨p20, p21, p22, _⟩ := A5.cells
         obtain ⟨p30, p31, p32, _⟩ := A6.cells
         obtain ⟨p40, p41, p42, _⟩ := BQ.cells
         obtain ⟨p50, p51, p52, _⟩ := BP.cells)
      | (go_at_call 13
         have _sg : Stg 3 := st
         refine (qsub_any 4 4 qx qy _ _ _ hX hY (by decide) (by decide) (by decide) (by decide)).mono ?_
         rintro e u74 ⟨vg2, rfl, hg2, hb74⟩
         replace hX := hX.below hb74
         replace hY := hY.below hb74
         replace hQ := hQ.below hb74
         replace hP := hP.below hb74
         replace hg1 := hg1.below hb74
         replace hg1r := hg1r.below hb74
         replace B1 := B1.below hb74
         replace B2 := B2.below hb74
         replace A5 := A5.below hb74
         replace A6 := A6.below hb74
         replace BQ := BQ.below hb74
         replace BP := BP.below hb74
         replace hbW : Below w.heap.size w u74 := hbW.trans (hb74.mono hbW.size)
         clear hb74
         clear st _sg
         have st : Stg 4 := rfl
         clear p00 p01 p02 p10 p11 p12 p20 p21 p22 p30 p31 p32 p40 p41 p42 p50 p51 p52
         obtain ⟨p00, p01, p02, _⟩ := B1.cells
         obtain ⟨p10, p11, p12, _⟩ := B2.cells
         obtain ⟨p20, p21, p22, _⟩ := A5.cells
         obtain ⟨p30, p31, p32, _⟩ := A6.cells
         obtain ⟨p40, p41, p42, _⟩ := BQ.cells
         obtain ⟨p50, p51, p52, _⟩ := BP.cells)
      | (go_at_call 14
         have _sg : Stg 4 := st
         refine (ssub_any 4 4 qx qy _ _ _ hX hY (by decide) (by decide) (by decide) (by decide)).mono ?_
         rintro e u75 ⟨vg2r, rfl, hg2r, hb75⟩
         replace hX := hX.below hb75
         replace hY := hY.below hb75
         replace hQ := hQ.below hb75
         replace hP := hP.below hb75
         replace hg1 := hg1.below hb75
         replace hg1r := hg1r.below hb75
         replace hg2 := hg2.below hb75
         replace B1 := B1.below hb75
         replace B2 := B2.below hb75
         replace A5 := A5.below hb75
         replace A6 := A6.below hb75
         replace BQ := BQ.below hb75
         replace BP := BP.below hb75
         replace hbW : Below w.heap.size w u75 := hbW.trans (hb75.mono hbW.size)
         clear hb75
         clear st _sg
         have st : Stg 5 := rfl
         clear p00 p01 p02 p10 p11 p12 p20 p21 p22 p30 p31 p32 p40 p41 p42 p50 p51 p52
         obtain ⟨p00, p01, p02, _⟩ := B1.cells
         obtain ⟨p10, p11, p12, _⟩ := B2.cells
         obtain ⟨p20, p21, p22, _⟩ := A5.cells
         obtain ⟨p30, p31, p32, _⟩ := A6.cells
         obtain ⟨p40, p41, p42, _⟩ := BQ.cells
         obtain ⟨p50, p51, p52, _⟩ := BP.cells)
      | (go_at_call 10
         have _sg : Stg 5 := st
         refine (sameF_any _ _ _ _ _ _ hg2 hg2r).mono ?_
         rintro e u76 ⟨rfl, hb76⟩
         replace hX := hX.below hb76
         replace hY := hY.below hb76
         replace hQ := hQ.below hb76
         replace hP := hP.below hb76
         replace hg1 := hg1.below hb76
         replace hg1r := hg1r.below hb76
         replace hg2 := hg2.below hb76
         replace hg2r := hg2r.below hb76
         replace B1 := B1.below hb76
         replace B2 := B2.below hb76
         replace A5 := A5.below hb76
         replace A6 := A6.below hb76
         replace BQ := BQ.below hb76
         replace BP := BP.below hb76
         replace hbW : Below w.heap.size w u76 := hbW.trans (hb76.mono hbW.size)
         clear hb76
         clear st _sg
         have st : Stg 6 := rfl
         clear p00 p01 p02 p10 p11 p12 p20 p21 p22 p30 p31 p32 p40 p41 p42 p50 p51 p52
         obtain ⟨p00, p01, p02, _⟩ := B1.cells
         obtain ⟨p10, p11, p12, _⟩ := B2.cells
         obtain ⟨p20, p21, p22, _⟩ := A5.cells
         obtain ⟨p30, p31, p32, _⟩ := A6.cells
         obtain ⟨p40, p41, p42, _⟩ := BQ.cells
         obtain ⟨p50, p51, p52, _⟩ := BP.cells)
      | (go_at_call 15
         have _sg : Stg 6 := st
         refine (qmul_any 4 4 qx qy _ _ _ hX hY (by decide) (by decide) (by decide) (by decide)).mono ?_
         rintro e u77 ⟨vg3, rfl, hg3, hb77⟩
         replace hX := hX.below hb77
         replace hY := hY.below hb77
         replace hQ := hQ.below hb77
         replace hP := hP.below hb77
         replace hg1 := hg1.below hb77
         replace hg1r := hg1r.below hb77
         replace hg2 := hg2.below hb77
         replace hg2r := hg2r.below hb77
         replace B1 := B1.below hb77
         replace B2 := B2.below hb77
         replace A5 := A5.below hb77
         replace A6 := A6.below hb77
         replace BQ := BQ.below hb77
         replace BP := BP.below hb77
         replace hbW : Below w.heap.size w u77 := hbW.trans (hb77.mono hbW.size)
         clear hb77
         clear st _sg
         have st : Stg 7 := rfl
         clear p00 p01 p02 p10 p11 p12 p20 p21 p22 p30 p31 p32 p40 p41 p42 p50 p51 p52
         obtain ⟨p00, p01, p02, _⟩ := B1.cells
         obtain ⟨p10, p11, p12, _⟩ := B2.cells
         obtain ⟨p20, p21, p22, _⟩ := A5.cells
         obtain ⟨p30, p31, p32, _⟩ := A6.cells
         obtain ⟨p40, p41, p42, _⟩ := BQ.cells
         obtain ⟨p50, p51, p52, _⟩ := BP.cells)
      | (go_at_call 16
         have _sg : Stg 7 := st
         refine (smul_any 4 4 qx qy _ _ _ hX hY (by decide) (by decide) (by decide) (by decide)).mono ?_
         rintro e u78 ⟨vg3r, rfl, hg3r, hb78⟩
         replace hX := hX.below hb78
         replace hY := hY.below hb78
         replace hQ := hQ.below hb78
         replace hP := hP.below hb78
         replace hg1 := hg1.below hb78
         replace hg1r := hg1r.below hb78
         replace hg2 := hg2.below hb78
         replace hg2r := hg2r.below hb78
         replace hg3 := hg3.below hb78
         replace B1 := B1.below hb78
         replace B2 := B2.below hb78
         replace A5 := A5.below hb78
         replace A6 := A6.below hb78
         replace BQ := BQ.below hb78
         replace BP := BP.below hb78
         replace hbW : Below w.heap.size w u78 := hbW.trans (hb78.mono hbW.size)
         clear hb78
         clear st _sg
         have st : Stg 8 := rfl
         clear p00 p01 p02 p10 p11 p12 p20 p21 p22 p30 p31 p32 p40 p41 p42 p50 p51 p52
         obtain ⟨p00, p01, p02, _⟩ := B1.cells
         obtain ⟨p10, p11, p12, _⟩ := B2.cells
         obtain ⟨p20, p21, p22, _⟩ := A5.cells
         obtain ⟨p30, p31, p32, _⟩ := A6.cells
         obtain ⟨p40, p41, p42, _⟩ := BQ.cells
         obtain ⟨p50, p51, p52, _⟩ := BP.cells)
      | (go_at_call 10
         have _sg : Stg 8 := st
         refine (sameF_any _ _ _ _ _ _ hg3 hg3r).mono ?_
         rintro e u79 ⟨rfl, hb79⟩
         replace hX := hX.below hb79
         replace hY := hY.below hb79
         replace hQ := hQ.below hb79
         replace hP := hP.below hb79
         replace hg1 := hg1.below hb79
         replace hg1r := hg1r.below hb79
         replace hg2 := hg2.below hb79
         replace hg2r := hg2r.below hb79
         replace hg3 := hg3.below hb79
         replace hg3r := hg3r.below hb79
         replace B1 := B1.below hb79
         replace B2 := B2.below hb79
         replace A5 := A5.below hb79
         replace A6 := A6.below hb79
         replace BQ := BQ.below hb79
         replace BP := BP.below hb79
         replace hbW : Below w.heap.size w u79 := hbW.trans (hb79.mono hbW.size)
         clear hb79
         clear st _sg
         have st : Stg 9 := rfl
         clear p00 p01 p02 p10 p11 p12 p20 p21 p22 p30 p31 p32 p40 p41 p42 p50 p51 p52
         obtain ⟨p00, p01, p02, _⟩ := B1.cells
         obtain ⟨p10, p11, p12, _⟩ := B2.cells
         obtain ⟨p20, p21, p22, _⟩ := A5.cells
         obtain ⟨p30, p31, p32, _⟩ := A6.cells
         obtain ⟨p40, p41, p42, _⟩ := BQ.cells
         obtain ⟨p50, p51, p52, _⟩ := BP.cells)
      | (go_at_call 10
         have _sg : Stg 9 := st
         refine (sameF_any _ _ _ _ _ _ hQ hP).mono ?_
         rintro e u80 ⟨rfl, hb80⟩
         replace hX := hX.below hb80
         replace hY := hY.below hb80
         replace hQ := hQ.below hb80
         replace hP := hP.below hb80
         replace hg1 := hg1.below hb80
         replace hg1r := hg1r.below hb80
         replace hg2 := hg2.below hb80
         replace hg2r := hg2r.below hb80
         replace hg3 := hg3.below hb80
         replace hg3r := hg3r.below hb80
         replace B1 := B1.below hb80
         replace B2 := B2.below hb80
         replace A5 := A5.below hb80
         replace A6 := A6.below hb80
         replace BQ := BQ.below hb80
         replace BP := BP.below hb80
         replace hbW : Below w.heap.size w u80 := hbW.trans (hb80.mono hbW.size)
         clear hb80
         clear st _sg
         have st : Stg 10 := rfl
         clear p00 p01 p02 p10 p11 p12 p20 p21 p22 p30 p31 p32 p40 p41 p42 p50 p51 p52
         obtain ⟨p00, p01, p02, _⟩ := B1.cells
         obtain ⟨p10, p11, p12, _⟩ := B2.cells
         obtain ⟨p20, p21, p22, _⟩ := A5.cells
         obtain ⟨p30, p31, p32, _⟩ := A6.cells
         obtain ⟨p40, p41, p42, _⟩ := BQ.cells
         obtain ⟨p50, p51, p52, _⟩ := BP.cells)
      | (go_at_call 17
         have _sg : Stg 10 := st
         refine (qcmp_any 4 4 qx qy _ _ _ hX hY (by decide) (by decide) (by decide) (by decide)).mono ?_
         rintro e u81 ⟨rfl, hb81⟩
         replace hX := hX.below hb81
         replace hY := hY.below hb81
         replace hQ := hQ.below hb81
         replace hP := hP.below hb81
         replace hg1 := hg1.below hb81
         replace hg1r := hg1r.below hb81
         replace hg2 := hg2.below hb81
         replace hg2r := hg2r.below hb81
         replace hg3 := hg3.below hb81
         replace hg3r := hg3r.below hb81
         replace B1 := B1.below hb81
         replace B2 := B2.below hb81
         replace A5 := A5.below hb81
         replace A6 := A6.below hb81
         replace BQ := BQ.below hb81
         replace BP := BP.below hb81
         replace hbW : Below w.heap.size w u81 := hbW.trans (hb81.mono hbW.size)
         clear hb81
         generalize hsq : sgnQ (qx - qy) = sq
         clear st _sg
         have st : Stg 11 := rfl
         clear p00 p01 p02 p10 p11 p12 p20 p21 p22 p30 p31 p32 p40 p41 p42 p50 p51 p52
         obtain ⟨p00, p01, p02, _⟩ := B1.cells
         obtain ⟨p10, p11, p12, _⟩ := B2.cells
         obtain ⟨p20, p21, p22, _⟩ := A5.cells
         obtain ⟨p30, p31, p32, _⟩ := A6.cells
         obtain ⟨p40, p41, p42, _⟩ := BQ.cells
         obtain ⟨p50, p51, p52, _⟩ := BP.cells)
      | (go_at_call 18
         have _sg : Stg 11 := st
         refine (scmp_any 4 4 qx qy _ _ _ hX hY (by decide) (by decide) (by decide) (by decide)).mono ?_
         rintro e u82 ⟨rfl, hb82⟩
         replace hX := hX.below hb82
         replace hY := hY.below hb82
         replace hQ := hQ.below hb82
         replace hP := hP.below hb82
         replace hg1 := hg1.below hb82
         replace hg1r := hg1r.below hb82
         replace hg2 := hg2.below hb82
         replace hg2r := hg2r.below hb82
         replace hg3 := hg3.below hb82
         replace hg3r := hg3r.below hb82
         replace B1 := B1.below hb82
         replace B2 := B2.below hb82
         replace A5 := A5.below hb82
         replace A6 := A6.below hb82
         replace BQ := BQ.below hb82
         replace BP := BP.below hb82
         replace hbW : Below w.heap.size w u82 := hbW.trans (hb82.mono hbW.size)
         clear hb82
         rw [hsq]
         clear st _sg
         have st : Stg 12 := rfl
         clear p00 p01 p02 p10 p11 p12 p20 p21 p22 p30 p31 p32 p40 p41 p42 p50 p51 p52
         obtain ⟨p00, p01, p02, _⟩ := B1.cells
         obtain ⟨p10, p11, p12, _⟩ := B2.cells
         obtain ⟨p20, p21, p22, _⟩ := A5.cells
         obtain ⟨p30, p31, p32, _⟩ := A6.cells
         obtain ⟨p40, p41, p42, _⟩ := BQ.cells
         obtain ⟨p50, p51, p52, _⟩ := BP.cells))
  clear st
  go_wp2
  go_ret
  exact ⟨ret_bool (by simp), hbW⟩

end Go.Proofs.YtefdkajjdaplbaaGreatDoor
