/-
  foundrylaw02.RatioOnce: the walk.
-/
import Derived.Test.YtefdkajjdaplbaaDoorLawField
import Derived.Test.YtefdkajjdaplbaaDoorOnce0
import Derived.Test.YtefdkajjdaplbaaDoorOnce1
import Derived.Deep.Cut
namespace Go.Proofs.YtefdkajjdaplbaaDoor
open Go.RowKit Classical
set_option linter.unusedSimpArgs false
set_option linter.unusedVariables false

set_option maxHeartbeats 8000000 in
set_option maxRecDepth 100000 in
theorem walkRatioOnce (n m : Bool) (a a' b b' : Option Addr) (c c' d d' : Nat) (xs ys ps qs : List Nat) (w : World)
    (hx : Rd w a c xs) (hy : Rd w a' c' ys) (hp : Rd w b d ps) (hq : Rd w b' d' qs) (htab : Pow w) :
    Calls Tryd.prog 5 #[.agg #[.bool n, .slice a xs.length c, .slice a' ys.length c'], .agg #[.bool m, .slice b ps.length d, .slice b' qs.length d']] w fun e w' => e = .returned (.bool true) ∧ Below w.heap.size w w' := by
  have z1 : xs.length ≤ 9223372036854775807 := by have := hx.le; have := hx.cap; unfold maxLen at this; omega
  have z2 : ys.length ≤ 9223372036854775807 := by have := hy.le; have := hy.cap; unfold maxLen at this; omega
  have z3 : ps.length ≤ 9223372036854775807 := by have := hp.le; have := hp.cap; unfold maxLen at this; omega
  have z4 : qs.length ≤ 9223372036854775807 := by have := hq.le; have := hq.cap; unfold maxLen at this; omega
  go_enter Tryd.func5, Tryd.ntmps5
  go_wp2_with fail
  refine (awake2_any _ (htab.below (al2 _ _))).mono ?_
  rintro e u1 ⟨rfl, hb1⟩
  replace hx := (hx.below (al2 _ _)).below hb1
  replace hy := (hy.below (al2 _ _)).below hb1
  replace hp := (hp.below (al2 _ _)).below hb1
  replace hq := (hq.below (al2 _ _)).below hb1
  obtain ⟨B1, B2, hbW⟩ := after2 hb1
  clear hb1
  obtain ⟨p00, p01, p02, _⟩ := B1.cells
  obtain ⟨p10, p11, p12, _⟩ := B2.cells
  go_wp2_with fail
  refine (few2_any _ _ _ _ _ _ _ _ _ _ _ _ _ _ _ z1 z2 z3 z4).mono ?_
  rintro e u2 ⟨rfl, hb2⟩
  replace hx := hx.below hb2
  replace hy := hy.below hb2
  replace hp := hp.below hb2
  replace hq := hq.below hb2
  replace B1 := B1.below hb2
  replace B2 := B2.below hb2
  replace hbW : Below w.heap.size w u2 := hbW.trans (hb2.mono hbW.size)
  clear hb2
  clear p00 p01 p02 p10 p11 p12
  obtain ⟨p00, p01, p02, _⟩ := B1.cells
  obtain ⟨p10, p11, p12, _⟩ := B2.cells
  by_cases hd : ¬ (xs.length ≤ 4 ∧ ys.length ≤ 4 ∧ ps.length ≤ 4 ∧ qs.length ≤ 4)
  · have e1 : decide (xs.length ≤ 4 ∧ ys.length ≤ 4 ∧ ps.length ≤ 4 ∧ qs.length ≤ 4) = false := decide_eq_false hd
    rw [e1]
    clear e1
    go_wp2_with fail
    refine (awake2_any _ (htab.below hbW)).mono ?_
    rintro e uf ⟨rfl, hbf⟩
    go_wp2
    go_ret
    exact ⟨rfl, hbW.trans (hbf.mono hbW.size)⟩
  replace hd := Decidable.not_not.1 hd
  have e1 : decide (xs.length ≤ 4 ∧ ys.length ≤ 4 ∧ ps.length ≤ 4 ∧ qs.length ≤ 4) = true := decide_eq_true hd
  rw [e1]
  clear e1
  obtain ⟨l1, l2, l3, l4⟩ := hd
  clear z1 z2 z3 z4
  obtain ⟨qx, hqx⟩ : ∃ q, q = if Fmd n xs ys then qv n xs ys else 0 := ⟨_, rfl⟩
  obtain ⟨qy, hqy⟩ : ∃ q, q = if Fmd m ps qs then qv m ps qs else 0 := ⟨_, rfl⟩
  have hX : Ct u2 (.agg #[.bool n, .slice a xs.length c, .slice a' ys.length c']) 4 qx := ⟨_, _, _, ⟨_, _, _, _, rfl, hx, hy⟩, l1, l2, hqx⟩
  have hY : Ct u2 (.agg #[.bool m, .slice b ps.length d, .slice b' qs.length d']) 4 qy := ⟨_, _, _, ⟨_, _, _, _, rfl, hp, hq⟩, l3, l4, hqy⟩
  have HX : Hid (qx = if Fmd n xs ys then qv n xs ys else 0) := hqx
  have HY : Hid (qy = if Fmd m ps qs then qv m ps qs else 0) := hqy
  clear hqx hqy
  clear p00 p01 p02 p10 p11 p12
  go_wp2_with fail
  go_cut [5, 6] from 7 (fun s5 s6 wx => ∃ e5 e6 n5 a5 c5 x5 b5 d5 y5 n6 a6 c6 x6 b6 d6 y6, s5 = .pointer (some ⟨e5, 0, none⟩) ∧ s6 = .pointer (some ⟨e6, 0, none⟩) ∧ Box 30 wx e5 (.bool n5) (.slice a5 x5.length c5) (.slice b5 y5.length d5) ∧ Box 30 wx e6 (.bool n6) (.slice a6 x6.length c6) (.slice b6 y6.length d6) ∧ Two wx n5 a5 c5 x5 b5 d5 y5 n6 a6 c6 x6 b6 d6 y6 (qx + qy) ∧ Rd wx a c xs ∧ Rd wx a' c' ys ∧ Rd wx b d ps ∧ Rd wx b' d' qs ∧ Ct wx (.agg #[.bool n, .slice a xs.length c, .slice a' ys.length c']) 4 qx ∧ Ct wx (.agg #[.bool m, .slice b ps.length d, .slice b' qs.length d']) 4 qy ∧ Box 30 wx w.heap.size (.bool n) (.slice a xs.length c) (.slice a' ys.length c') ∧ Box 30 wx (w.heap.size + 1) (.bool m) (.slice b ps.length d) (.slice b' qs.length d') ∧ Below w.heap.size w wx)
  case first =>
    have st : Stg 0 := rfl
    have hl2 := B2.lt
    obtain ⟨p00, p01, p02, _⟩ := B1.cells
    obtain ⟨p10, p11, p12, _⟩ := B2.cells
    go_region_held3 (fun u => u.cell? ⟨w.heap.size, 0, none⟩ = some (.bool n) ∧ u.cell? ⟨w.heap.size, 1, none⟩ = some (.slice a xs.length c) ∧ u.cell? ⟨w.heap.size, 2, none⟩ = some (.slice a' ys.length c') ∧ u.cell? ⟨w.heap.size + 1, 0, none⟩ = some (.bool m) ∧ u.cell? ⟨w.heap.size + 1, 1, none⟩ = some (.slice b ps.length d) ∧ u.cell? ⟨w.heap.size + 1, 2, none⟩ = some (.slice b' qs.length d')) (first | (go_keep; done) | (with_reducible refine ⟨(cell_sa ?_ ?_).trans p00, (cell_sa ?_ ?_).trans p01, (cell_sa ?_ ?_).trans p02, (cell_sa ?_ ?_).trans p10, (cell_sa ?_ ?_).trans p11, (cell_sa ?_ ?_).trans p12⟩) <;> omega | (with_reducible refine ⟨(cell_s2 ?_ ?_).trans p00, (cell_s2 ?_ ?_).trans p01, (cell_s2 ?_ ?_).trans p02, (cell_s2 ?_ ?_).trans p10, (cell_s2 ?_ ?_).trans p11, (cell_s2 ?_ ?_).trans p12⟩) <;> omega | (with_reducible refine ⟨(cell_set3 ?_).trans p00, (cell_set3 ?_).trans p01, (cell_set3 ?_).trans p02, (cell_set3 ?_).trans p10, (cell_set3 ?_).trans p11, (cell_set3 ?_).trans p12⟩) <;> omega)
      (first
        | (go_at_call 15
           have _sg : Stg 0 := st
           show Calls _ _ _ (World.drew (World.alloc (World.alloc _ _) _)) _
           refine (qadd_any 4 4 qx qy _ _ _ (hX.below (al2d _ _)) (hY.below (al2d _ _)) (by decide) (by decide) (by decide) (by decide)).mono ?_
           rintro e u50 ⟨v5, rfl, hF5, hb50⟩
           obtain ⟨K1, K2, hb50⟩ := after2d hb50
           have hk0 := K1.lt
           have hs50 := hb50.size
           replace hx := hx.below hb50
           replace hy := hy.below hb50
           replace hp := hp.below hb50
           replace hq := hq.below hb50
           replace hX := hX.below hb50
           replace hY := hY.below hb50
           replace B1 := B1.below hb50
           replace B2 := B2.below hb50
           replace hbW : Below w.heap.size w u50 := hbW.trans (hb50.mono hbW.size)
           clear hb50
           clear p00 p01 p02 p10 p11 p12
           obtain ⟨p00, p01, p02, _⟩ := B1.cells
           obtain ⟨p10, p11, p12, _⟩ := B2.cells
           clear st _sg
           have st : Stg 1 := rfl)
        | (go_at_call 15
           have _sg : Stg 0 := st
           show Calls _ _ _ (World.drew (World.alloc _ _)) _
           refine (qadd_any 4 4 qx qy _ _ _ (hX.below (al1d _)) (hY.below (al1d _)) (by decide) (by decide) (by decide) (by decide)).mono ?_
           rintro e u50 ⟨v5, rfl, hF5, hb50⟩
           obtain ⟨K1, hb50⟩ := after1d hb50
           have hk0 := K1.lt
           have hs50 := hb50.size
           replace hx := hx.below hb50
           replace hy := hy.below hb50
           replace hp := hp.below hb50
           replace hq := hq.below hb50
           replace hX := hX.below hb50
           replace hY := hY.below hb50
           replace B1 := B1.below hb50
           replace B2 := B2.below hb50
           replace hbW : Below w.heap.size w u50 := hbW.trans (hb50.mono hbW.size)
           clear hb50
           clear p00 p01 p02 p10 p11 p12
           obtain ⟨p00, p01, p02, _⟩ := B1.cells
           obtain ⟨p10, p11, p12, _⟩ := B2.cells
           clear st _sg
           have st : Stg 1 := rfl)
        | (go_at_call 15
           have _sg : Stg 0 := st
           show Calls _ _ _ (World.drew _) _
           refine (qadd_any 4 4 qx qy _ _ _ (hX.below (Below.drew1)) (hY.below (Below.drew1)) (by decide) (by decide) (by decide) (by decide)).mono ?_
           rintro e u50 ⟨v5, rfl, hF5, hb50⟩
           replace hb50 : Below u2.heap.size u2 u50 := Below.drew1.trans hb50
           have hs50 := hb50.size
           replace hx := hx.below hb50
           replace hy := hy.below hb50
           replace hp := hp.below hb50
           replace hq := hq.below hb50
           replace hX := hX.below hb50
           replace hY := hY.below hb50
           replace B1 := B1.below hb50
           replace B2 := B2.below hb50
           replace hbW : Below w.heap.size w u50 := hbW.trans (hb50.mono hbW.size)
           clear hb50
           clear p00 p01 p02 p10 p11 p12
           obtain ⟨p00, p01, p02, _⟩ := B1.cells
           obtain ⟨p10, p11, p12, _⟩ := B2.cells
           clear st _sg
           have st : Stg 1 := rfl)
        | (go_at_call 15
           have _sg : Stg 1 := st
           show Calls _ _ _ (World.alloc (World.alloc _ _) _) _
           refine (qadd_any 4 4 qy qx _ _ _ (hY.below (al2 _ _)) (hX.below (al2 _ _)) (by decide) (by decide) (by decide) (by decide)).mono ?_
           rintro e u51 ⟨v6, rfl, hF6, hb51⟩
           obtain ⟨K1, K2, hb51⟩ := after2 hb51
           have hs51 := hb51.size
           replace hF5 := hF5.below hb51
           replace hx := hx.below hb51
           replace hy := hy.below hb51
           replace hp := hp.below hb51
           replace hq := hq.below hb51
           replace hX := hX.below hb51
           replace hY := hY.below hb51
           replace B1 := B1.below hb51
           replace B2 := B2.below hb51
           replace hbW : Below w.heap.size w u51 := hbW.trans (hb51.mono hbW.size)
           obtain ⟨n5, x5, y5, ⟨a5, c5, b5, d5, rfl, r5, t5⟩, f5⟩ := hF5
           obtain ⟨n6, x6, y6, ⟨a6, c6, b6, d6, rfl, r6, t6⟩, f6⟩ := hF6
           clear hb51
           try obtain ⟨k10, k11, k12, k13, k14, k15⟩ := K1.cells
           try have hk1 := K1.lt
           try obtain ⟨k20, k21, k22, k23, k24, k25⟩ := K2.cells
           try have hk2 := K2.lt
           try have hn1 : ¬ (u2.heap.size = u50.heap.size) := by omega
           try have hn2 : ¬ (u50.heap.size = u2.heap.size) := by omega
           clear p00 p01 p02 p10 p11 p12
           obtain ⟨p00, p01, p02, _⟩ := B1.cells
           obtain ⟨p10, p11, p12, _⟩ := B2.cells
           clear st _sg
           have st : Stg 2 := rfl)
        | (go_at_call 15
           have _sg : Stg 1 := st
           show Calls _ _ _ (World.alloc _ _) _
           refine (qadd_any 4 4 qy qx _ _ _ (hY.below (al1 _)) (hX.below (al1 _)) (by decide) (by decide) (by decide) (by decide)).mono ?_
           rintro e u51 ⟨v6, rfl, hF6, hb51⟩
           first
             | (replace K1 := (K1.alloc _).below hb51
                obtain ⟨K2, hb51⟩ := after1 hb51)
             | (obtain ⟨K1, hb51⟩ := after1 hb51)
           have hs51 := hb51.size
           replace hF5 := hF5.below hb51
           replace hx := hx.below hb51
           replace hy := hy.below hb51
           replace hp := hp.below hb51
           replace hq := hq.below hb51
           replace hX := hX.below hb51
           replace hY := hY.below hb51
           replace B1 := B1.below hb51
           replace B2 := B2.below hb51
           replace hbW : Below w.heap.size w u51 := hbW.trans (hb51.mono hbW.size)
           obtain ⟨n5, x5, y5, ⟨a5, c5, b5, d5, rfl, r5, t5⟩, f5⟩ := hF5
           obtain ⟨n6, x6, y6, ⟨a6, c6, b6, d6, rfl, r6, t6⟩, f6⟩ := hF6
           clear hb51
           try obtain ⟨k10, k11, k12, k13, k14, k15⟩ := K1.cells
           try have hk1 := K1.lt
           try obtain ⟨k20, k21, k22, k23, k24, k25⟩ := K2.cells
           try have hk2 := K2.lt
           try have hn1 : ¬ (u2.heap.size = u50.heap.size) := by omega
           try have hn2 : ¬ (u50.heap.size = u2.heap.size) := by omega
           clear p00 p01 p02 p10 p11 p12
           obtain ⟨p00, p01, p02, _⟩ := B1.cells
           obtain ⟨p10, p11, p12, _⟩ := B2.cells
           clear st _sg
           have st : Stg 2 := rfl)
        | (go_at_call 15
           have _sg : Stg 1 := st
           refine (qadd_any 4 4 qy qx _ _ _ hY hX (by decide) (by decide) (by decide) (by decide)).mono ?_
           rintro e u51 ⟨v6, rfl, hF6, hb51⟩
           try replace K1 := K1.below hb51
           try replace K2 := K2.below hb51
           have hs51 := hb51.size
           replace hF5 := hF5.below hb51
           replace hx := hx.below hb51
           replace hy := hy.below hb51
           replace hp := hp.below hb51
           replace hq := hq.below hb51
           replace hX := hX.below hb51
           replace hY := hY.below hb51
           replace B1 := B1.below hb51
           replace B2 := B2.below hb51
           replace hbW : Below w.heap.size w u51 := hbW.trans (hb51.mono hbW.size)
           obtain ⟨n5, x5, y5, ⟨a5, c5, b5, d5, rfl, r5, t5⟩, f5⟩ := hF5
           obtain ⟨n6, x6, y6, ⟨a6, c6, b6, d6, rfl, r6, t6⟩, f6⟩ := hF6
           clear hb51
           try obtain ⟨k10, k11, k12, k13, k14, k15⟩ := K1.cells
           try have hk1 := K1.lt
           try obtain ⟨k20, k21, k22, k23, k24, k25⟩ := K2.cells
           try have hk2 := K2.lt
           try have hn1 : ¬ (u2.heap.size = u50.heap.size) := by omega
           try have hn2 : ¬ (u50.heap.size = u2.heap.size) := by omega
           clear p00 p01 p02 p10 p11 p12
           obtain ⟨p00, p01, p02, _⟩ := B1.cells
           obtain ⟨p10, p11, p12, _⟩ := B2.cells
           clear st _sg
           have st : Stg 2 := rfl))
    all_goals
      go_wp2_with fail
      go_meet
      have hs9 := B2.lt
      first
        | (obtain ⟨U, hU, T⟩ := Sto.two (sto_set K1 (.bool n5) (.slice a5 x5.length c5) (.slice b5 y5.length d5)) (sto_set ((sto_set K1 (.bool n5) (.slice a5 x5.length c5) (.slice b5 y5.length d5)).2.2.2 _ _ _ _ _ (by omega) K2) (.bool n6) (.slice a6 x6.length c6) (.slice b6 y6.length d6)) (by omega)
           rw [← hU]
           exact ⟨_, _, n5, a5, c5, x5, b5, d5, y5, n6, a6, c6, x6, b6, d6, y6, rfl, rfl, T.1, T.2.1, ⟨T.2.2.2.1 _ _ _ r5, T.2.2.2.1 _ _ _ t5, T.2.2.2.1 _ _ _ r6, T.2.2.2.1 _ _ _ t6, f5.1, f5.2.1, f5.2.2.1, f5.2.2.2, f6.1, f6.2.1, f6.2.2.1, by rw [f6.2.2.2]; exact Rat.add_comm _ _⟩, T.2.2.2.1 _ _ _ hx, T.2.2.2.1 _ _ _ hy, T.2.2.2.1 _ _ _ hp, T.2.2.2.1 _ _ _ hq, hX.keep T.2.2.2.1, hY.keep T.2.2.2.1, T.2.2.2.2 _ _ _ _ _ (by omega) (by omega) B1, T.2.2.2.2 _ _ _ _ _ (by omega) (by omega) B2, T.2.2.1 _ _ hbW (by omega) (by omega)⟩)
        | (obtain ⟨U, hU, T⟩ := Sto.two (sto_set K2 (.bool n5) (.slice a5 x5.length c5) (.slice b5 y5.length d5)) (sto_set ((sto_set K2 (.bool n5) (.slice a5 x5.length c5) (.slice b5 y5.length d5)).2.2.2 _ _ _ _ _ (by omega) K1) (.bool n6) (.slice a6 x6.length c6) (.slice b6 y6.length d6)) (by omega)
           rw [← hU]
           exact ⟨_, _, n5, a5, c5, x5, b5, d5, y5, n6, a6, c6, x6, b6, d6, y6, rfl, rfl, T.1, T.2.1, ⟨T.2.2.2.1 _ _ _ r5, T.2.2.2.1 _ _ _ t5, T.2.2.2.1 _ _ _ r6, T.2.2.2.1 _ _ _ t6, f5.1, f5.2.1, f5.2.2.1, f5.2.2.2, f6.1, f6.2.1, f6.2.2.1, by rw [f6.2.2.2]; exact Rat.add_comm _ _⟩, T.2.2.2.1 _ _ _ hx, T.2.2.2.1 _ _ _ hy, T.2.2.2.1 _ _ _ hp, T.2.2.2.1 _ _ _ hq, hX.keep T.2.2.2.1, hY.keep T.2.2.2.1, T.2.2.2.2 _ _ _ _ _ (by omega) (by omega) B1, T.2.2.2.2 _ _ _ _ _ (by omega) (by omega) B2, T.2.2.1 _ _ hbW (by omega) (by omega)⟩)
        | (obtain ⟨U, hU, T⟩ := Sto.two (sto_set K1 (.bool n5) (.slice a5 x5.length c5) (.slice b5 y5.length d5)) (sto_new' 30 _ (.bool n6) (.slice a6 x6.length c6) (.slice b6 y6.length d6) (k := u51.heap.size) (by simp [World.setCell])) (by omega)
           rw [← hU]
           exact ⟨_, _, n5, a5, c5, x5, b5, d5, y5, n6, a6, c6, x6, b6, d6, y6, rfl, rfl, T.1, T.2.1, ⟨T.2.2.2.1 _ _ _ r5, T.2.2.2.1 _ _ _ t5, T.2.2.2.1 _ _ _ r6, T.2.2.2.1 _ _ _ t6, f5.1, f5.2.1, f5.2.2.1, f5.2.2.2, f6.1, f6.2.1, f6.2.2.1, by rw [f6.2.2.2]; exact Rat.add_comm _ _⟩, T.2.2.2.1 _ _ _ hx, T.2.2.2.1 _ _ _ hy, T.2.2.2.1 _ _ _ hp, T.2.2.2.1 _ _ _ hq, hX.keep T.2.2.2.1, hY.keep T.2.2.2.1, T.2.2.2.2 _ _ _ _ _ (by omega) (by omega) B1, T.2.2.2.2 _ _ _ _ _ (by omega) (by omega) B2, T.2.2.1 _ _ hbW (by omega) (by omega)⟩)
        | (obtain ⟨U, hU, T⟩ := Sto.two (sto_set K1 (.bool n6) (.slice a6 x6.length c6) (.slice b6 y6.length d6)) (sto_new' 30 _ (.bool n5) (.slice a5 x5.length c5) (.slice b5 y5.length d5) (k := u51.heap.size) (by simp [World.setCell])) (by omega)
           rw [← hU]
           exact ⟨_, _, n5, a5, c5, x5, b5, d5, y5, n6, a6, c6, x6, b6, d6, y6, rfl, rfl, T.2.1, T.1, ⟨T.2.2.2.1 _ _ _ r5, T.2.2.2.1 _ _ _ t5, T.2.2.2.1 _ _ _ r6, T.2.2.2.1 _ _ _ t6, f5.1, f5.2.1, f5.2.2.1, f5.2.2.2, f6.1, f6.2.1, f6.2.2.1, by rw [f6.2.2.2]; exact Rat.add_comm _ _⟩, T.2.2.2.1 _ _ _ hx, T.2.2.2.1 _ _ _ hy, T.2.2.2.1 _ _ _ hp, T.2.2.2.1 _ _ _ hq, hX.keep T.2.2.2.1, hY.keep T.2.2.2.1, T.2.2.2.2 _ _ _ _ _ (by omega) (by omega) B1, T.2.2.2.2 _ _ _ _ _ (by omega) (by omega) B2, T.2.2.1 _ _ hbW (by omega) (by omega)⟩)
        | (obtain ⟨U, hU, T⟩ := Sto.two (sto_new' 30 u51 (.bool n5) (.slice a5 x5.length c5) (.slice b5 y5.length d5) (k := u51.heap.size) (by simp [World.setCell])) (sto_new' 30 _ (.bool n6) (.slice a6 x6.length c6) (.slice b6 y6.length d6) (k := u51.heap.size + 1) (by simp [World.setCell])) (by omega)
           rw [← hU]
           exact ⟨_, _, n5, a5, c5, x5, b5, d5, y5, n6, a6, c6, x6, b6, d6, y6, rfl, rfl, T.1, T.2.1, ⟨T.2.2.2.1 _ _ _ r5, T.2.2.2.1 _ _ _ t5, T.2.2.2.1 _ _ _ r6, T.2.2.2.1 _ _ _ t6, f5.1, f5.2.1, f5.2.2.1, f5.2.2.2, f6.1, f6.2.1, f6.2.2.1, by rw [f6.2.2.2]; exact Rat.add_comm _ _⟩, T.2.2.2.1 _ _ _ hx, T.2.2.2.1 _ _ _ hy, T.2.2.2.1 _ _ _ hp, T.2.2.2.1 _ _ _ hq, hX.keep T.2.2.2.1, hY.keep T.2.2.2.1, T.2.2.2.2 _ _ _ _ _ (by omega) (by omega) B1, T.2.2.2.2 _ _ _ _ _ (by omega) (by omega) B2, T.2.2.1 _ _ hbW (by omega) (by omega)⟩)
        | (obtain ⟨U, hU, T⟩ := Sto.two (sto_new' 30 u51 (.bool n6) (.slice a6 x6.length c6) (.slice b6 y6.length d6) (k := u51.heap.size) (by simp [World.setCell])) (sto_new' 30 _ (.bool n5) (.slice a5 x5.length c5) (.slice b5 y5.length d5) (k := u51.heap.size + 1) (by simp [World.setCell])) (by omega)
           rw [← hU]
           exact ⟨_, _, n5, a5, c5, x5, b5, d5, y5, n6, a6, c6, x6, b6, d6, y6, rfl, rfl, T.2.1, T.1, ⟨T.2.2.2.1 _ _ _ r5, T.2.2.2.1 _ _ _ t5, T.2.2.2.1 _ _ _ r6, T.2.2.2.1 _ _ _ t6, f5.1, f5.2.1, f5.2.2.1, f5.2.2.2, f6.1, f6.2.1, f6.2.2.1, by rw [f6.2.2.2]; exact Rat.add_comm _ _⟩, T.2.2.2.1 _ _ _ hx, T.2.2.2.1 _ _ _ hy, T.2.2.2.1 _ _ _ hp, T.2.2.2.1 _ _ _ hq, hX.keep T.2.2.2.1, hY.keep T.2.2.2.1, T.2.2.2.2 _ _ _ _ _ (by omega) (by omega) B1, T.2.2.2.2 _ _ _ _ _ (by omega) (by omega) B2, T.2.2.1 _ _ hbW (by omega) (by omega)⟩)
        | trace_state
  case rest =>
  clear hx hy hp hq hX hY B1 B2 hbW
  obtain ⟨e5, e6, n5, a5, c5, x5, b5, d5, y5, n6, a6, c6, x6, b6, d6, y6, rfl, rfl, B5, B6, hT, hx, hy, hp, hq, hX, hY, B1, B2, hbW⟩ := hcut
  obtain ⟨r5, t5, r6, t6, f5, l5, l5', v5, f6, l6, l6', v6⟩ := hT
  have hsame : decide (n5 = n6 ∧ x5 = x6 ∧ y5 = y6) = true := decide_eq_true (Fmd.uniq f5 f6 r5.lim t5.lim r6.lim t6.lim (v5.trans v6.symm))
  have h5 : Fr wc (.agg #[.bool n5, .slice a5 x5.length c5, .slice b5 y5.length d5]) 9 (qx + qy) := ⟨_, _, _, ⟨_, _, _, _, rfl, r5, t5⟩, f5, l5, l5', v5⟩
  clear f5 f6 l5 l5' l6 l6' v5 v6
  obtain ⟨p00, p01, p02, _⟩ := B1.cells
  obtain ⟨p10, p11, p12, _⟩ := B2.cells
  obtain ⟨p20, p21, p22, _⟩ := B5.cells
  obtain ⟨p30, p31, p32, _⟩ := B6.cells
  go_wp2_with fail
  have st : Stg 0 := rfl
  go_region_held3 (fun u => u.cell? ⟨w.heap.size, 0, none⟩ = some (.bool n) ∧ u.cell? ⟨w.heap.size, 1, none⟩ = some (.slice a xs.length c) ∧ u.cell? ⟨w.heap.size, 2, none⟩ = some (.slice a' ys.length c') ∧ u.cell? ⟨w.heap.size + 1, 0, none⟩ = some (.bool m) ∧ u.cell? ⟨w.heap.size + 1, 1, none⟩ = some (.slice b ps.length d) ∧ u.cell? ⟨w.heap.size + 1, 2, none⟩ = some (.slice b' qs.length d') ∧ u.cell? ⟨e5, 0, none⟩ = some (.bool n5) ∧ u.cell? ⟨e5, 1, none⟩ = some (.slice a5 x5.length c5) ∧ u.cell? ⟨e5, 2, none⟩ = some (.slice b5 y5.length d5) ∧ u.cell? ⟨e6, 0, none⟩ = some (.bool n6) ∧ u.cell? ⟨e6, 1, none⟩ = some (.slice a6 x6.length c6) ∧ u.cell? ⟨e6, 2, none⟩ = some (.slice b6 y6.length d6)) (go_keep)
    (first
      | (go_at_call 13
         have _sg : Stg 0 := st
         refine (formedF_any 9 _ _ _ (h5.below Below.drew1) (by decide)).mono ?_
         rintro e u61 ⟨rfl, hb61⟩
         replace hb61 : Below wc.heap.size wc u61 := Below.drew1.trans hb61
         replace hx := hx.below hb61
         replace hy := hy.below hb61
         replace hp := hp.below hb61
         replace hq := hq.below hb61
         replace hX := hX.below hb61
         replace hY := hY.below hb61
         replace r5 := r5.below hb61
         replace t5 := t5.below hb61
         replace r6 := r6.below hb61
         replace t6 := t6.below hb61
         replace h5 := h5.below hb61
         replace B1 := B1.below hb61
         replace B2 := B2.below hb61
         replace B5 := B5.below hb61
         replace B6 := B6.below hb61
         replace hbW : Below w.heap.size w u61 := hbW.trans (hb61.mono hbW.size)
         clear hb61
         clear st _sg
         have st : Stg 1 := rfl
         clear p00 p01 p02 p10 p11 p12 p20 p21 p22 p30 p31 p32
         obtain ⟨p00, p01, p02, _⟩ := B1.cells
         obtain ⟨p10, p11, p12, _⟩ := B2.cells
         obtain ⟨p20, p21, p22, _⟩ := B5.cells
         obtain ⟨p30, p31, p32, _⟩ := B6.cells)
      | (go_at_call 16
         have _sg : Stg 1 := st
         refine (qmul_any 4 4 qx qy _ _ _ hX hY (by decide) (by decide) (by decide) (by decide)).mono ?_
         rintro e u62 ⟨vm, rfl, hm, hb62⟩
         replace hx := hx.below hb62
         replace hy := hy.below hb62
         replace hp := hp.below hb62
         replace hq := hq.below hb62
         replace hX := hX.below hb62
         replace hY := hY.below hb62
         replace r5 := r5.below hb62
         replace t5 := t5.below hb62
         replace r6 := r6.below hb62
         replace t6 := t6.below hb62
         replace h5 := h5.below hb62
         replace B1 := B1.below hb62
         replace B2 := B2.below hb62
         replace B5 := B5.below hb62
         replace B6 := B6.below hb62
         replace hbW : Below w.heap.size w u62 := hbW.trans (hb62.mono hbW.size)
         clear hb62
         clear st _sg
         have st : Stg 2 := rfl
         clear p00 p01 p02 p10 p11 p12 p20 p21 p22 p30 p31 p32
         obtain ⟨p00, p01, p02, _⟩ := B1.cells
         obtain ⟨p10, p11, p12, _⟩ := B2.cells
         obtain ⟨p20, p21, p22, _⟩ := B5.cells
         obtain ⟨p30, p31, p32, _⟩ := B6.cells)
      | (go_at_call 13
         have _sg : Stg 2 := st
         refine (formedF_any 8 _ _ _ hm (by decide)).mono ?_
         rintro e u63 ⟨rfl, hb63⟩
         replace hx := hx.below hb63
         replace hy := hy.below hb63
         replace hp := hp.below hb63
         replace hq := hq.below hb63
         replace hX := hX.below hb63
         replace hY := hY.below hb63
         replace r5 := r5.below hb63
         replace t5 := t5.below hb63
         replace r6 := r6.below hb63
         replace t6 := t6.below hb63
         replace h5 := h5.below hb63
         replace hm := hm.below hb63
         replace B1 := B1.below hb63
         replace B2 := B2.below hb63
         replace B5 := B5.below hb63
         replace B6 := B6.below hb63
         replace hbW : Below w.heap.size w u63 := hbW.trans (hb63.mono hbW.size)
         clear hb63
         clear st _sg
         have st : Stg 3 := rfl
         clear p00 p01 p02 p10 p11 p12 p20 p21 p22 p30 p31 p32
         obtain ⟨p00, p01, p02, _⟩ := B1.cells
         obtain ⟨p10, p11, p12, _⟩ := B2.cells
         obtain ⟨p20, p21, p22, _⟩ := B5.cells
         obtain ⟨p30, p31, p32, _⟩ := B6.cells)
      | (go_at_call 17
         have _sg : Stg 3 := st
         refine (qsub_any 4 4 qx qy _ _ _ hX hY (by decide) (by decide) (by decide) (by decide)).mono ?_
         rintro e u64 ⟨vs, rfl, hs, hb64⟩
         replace hx := hx.below hb64
         replace hy := hy.below hb64
         replace hp := hp.below hb64
         replace hq := hq.below hb64
         replace hX := hX.below hb64
         replace hY := hY.below hb64
         replace r5 := r5.below hb64
         replace t5 := t5.below hb64
         replace r6 := r6.below hb64
         replace t6 := t6.below hb64
         replace h5 := h5.below hb64
         replace hm := hm.below hb64
         replace B1 := B1.below hb64
         replace B2 := B2.below hb64
         replace B5 := B5.below hb64
         replace B6 := B6.below hb64
         replace hbW : Below w.heap.size w u64 := hbW.trans (hb64.mono hbW.size)
         clear hb64
         clear st _sg
         have st : Stg 4 := rfl
         clear p00 p01 p02 p10 p11 p12 p20 p21 p22 p30 p31 p32
         obtain ⟨p00, p01, p02, _⟩ := B1.cells
         obtain ⟨p10, p11, p12, _⟩ := B2.cells
         obtain ⟨p20, p21, p22, _⟩ := B5.cells
         obtain ⟨p30, p31, p32, _⟩ := B6.cells)
      | (go_at_call 13
         have _sg : Stg 4 := st
         refine (formedF_any 9 _ _ _ hs (by decide)).mono ?_
         rintro e u65 ⟨rfl, hb65⟩
         replace hx := hx.below hb65
         replace hy := hy.below hb65
         replace hp := hp.below hb65
         replace hq := hq.below hb65
         replace hX := hX.below hb65
         replace hY := hY.below hb65
         replace r5 := r5.below hb65
         replace t5 := t5.below hb65
         replace r6 := r6.below hb65
         replace t6 := t6.below hb65
         replace h5 := h5.below hb65
         replace hm := hm.below hb65
         replace hs := hs.below hb65
         replace B1 := B1.below hb65
         replace B2 := B2.below hb65
         replace B5 := B5.below hb65
         replace B6 := B6.below hb65
         replace hbW : Below w.heap.size w u65 := hbW.trans (hb65.mono hbW.size)
         clear hb65
         clear st _sg
         have st : Stg 5 := rfl
         clear p00 p01 p02 p10 p11 p12 p20 p21 p22 p30 p31 p32
         obtain ⟨p00, p01, p02, _⟩ := B1.cells
         obtain ⟨p10, p11, p12, _⟩ := B2.cells
         obtain ⟨p20, p21, p22, _⟩ := B5.cells
         obtain ⟨p30, p31, p32, _⟩ := B6.cells)
      | (go_at_call 21
         have _sg : Stg 5 := st
         refine (plain2_any _ _ _ _ _ _ _ _ r6 t6).mono ?_
         rintro e u66 ⟨rfl, hb66⟩
         replace hx := hx.below hb66
         replace hy := hy.below hb66
         replace hp := hp.below hb66
         replace hq := hq.below hb66
         replace hX := hX.below hb66
         replace hY := hY.below hb66
         replace r5 := r5.below hb66
         replace t5 := t5.below hb66
         replace r6 := r6.below hb66
         replace t6 := t6.below hb66
         replace h5 := h5.below hb66
         replace hm := hm.below hb66
         replace hs := hs.below hb66
         replace B1 := B1.below hb66
         replace B2 := B2.below hb66
         replace B5 := B5.below hb66
         replace B6 := B6.below hb66
         replace hbW : Below w.heap.size w u66 := hbW.trans (hb66.mono hbW.size)
         clear hb66
         clear st _sg
         have st : Stg 6 := rfl
         clear p00 p01 p02 p10 p11 p12 p20 p21 p22 p30 p31 p32
         obtain ⟨p00, p01, p02, _⟩ := B1.cells
         obtain ⟨p10, p11, p12, _⟩ := B2.cells
         obtain ⟨p20, p21, p22, _⟩ := B5.cells
         obtain ⟨p30, p31, p32, _⟩ := B6.cells)
      | (go_at_call 20
         have _sg : Stg 6 := st
         refine (same2_any _ _ _ _ _ _ _ _ _ _ _ _ _ _ _ r5 t5 r6 t6).mono ?_
         rintro e u67 ⟨rfl, hb67⟩
         replace hx := hx.below hb67
         replace hy := hy.below hb67
         replace hp := hp.below hb67
         replace hq := hq.below hb67
         replace hX := hX.below hb67
         replace hY := hY.below hb67
         replace r5 := r5.below hb67
         replace t5 := t5.below hb67
         replace r6 := r6.below hb67
         replace t6 := t6.below hb67
         replace h5 := h5.below hb67
         replace hm := hm.below hb67
         replace hs := hs.below hb67
         replace B1 := B1.below hb67
         replace B2 := B2.below hb67
         replace B5 := B5.below hb67
         replace B6 := B6.below hb67
         replace hbW : Below w.heap.size w u67 := hbW.trans (hb67.mono hbW.size)
         clear hb67
         rw [hsame]
         clear st _sg
         have st : Stg 7 := rfl
         clear p00 p01 p02 p10 p11 p12 p20 p21 p22 p30 p31 p32
         obtain ⟨p00, p01, p02, _⟩ := B1.cells
         obtain ⟨p10, p11, p12, _⟩ := B2.cells
         obtain ⟨p20, p21, p22, _⟩ := B5.cells
         obtain ⟨p30, p31, p32, _⟩ := B6.cells))
  clear st
  clear hm hs
  clear r5 t5 r6 t6 h5 B5 B6 hsame p00 p01 p02 p10 p11 p12 p20 p21 p22 p30 p31 p32
  obtain ⟨p00, p01, p02, _⟩ := B1.cells
  obtain ⟨p10, p11, p12, _⟩ := B2.cells
  go_wp2_with fail
  refine (formed_any _ _ _ _ _ _ _ _ hx hy (by omega) (by omega)).mono ?_
  rintro e u68 ⟨rfl, hb68⟩
  replace hx := hx.below hb68
  replace hy := hy.below hb68
  replace hp := hp.below hb68
  replace hq := hq.below hb68
  replace hX := hX.below hb68
  replace hY := hY.below hb68
  replace B1 := B1.below hb68
  replace B2 := B2.below hb68
  replace hbW : Below w.heap.size w u68 := hbW.trans (hb68.mono hbW.size)
  clear hb68
  clear p00 p01 p02 p10 p11 p12
  obtain ⟨p00, p01, p02, _⟩ := B1.cells
  obtain ⟨p10, p11, p12, _⟩ := B2.cells
  by_cases hd : ¬ (Fmd n xs ys)
  · have e1 : decide (Fmd n xs ys) = false := decide_eq_false hd
    rw [e1]
    clear e1
    go_wp2
    go_ret
    exact ⟨rfl, hbW⟩
  replace hd := Decidable.not_not.1 hd
  have e1 : decide (Fmd n xs ys) = true := decide_eq_true hd
  rw [e1]
  clear e1
  have f1 : Fmd n xs ys := hd
  clear hd
  clear p00 p01 p02 p10 p11 p12
  obtain ⟨p00, p01, p02, _⟩ := B1.cells
  obtain ⟨p10, p11, p12, _⟩ := B2.cells
  go_wp2_with fail
  refine (formed_any _ _ _ _ _ _ _ _ hp hq (by omega) (by omega)).mono ?_
  rintro e u69 ⟨rfl, hb69⟩
  replace hx := hx.below hb69
  replace hy := hy.below hb69
  replace hp := hp.below hb69
  replace hq := hq.below hb69
  replace hX := hX.below hb69
  replace hY := hY.below hb69
  replace B1 := B1.below hb69
  replace B2 := B2.below hb69
  replace hbW : Below w.heap.size w u69 := hbW.trans (hb69.mono hbW.size)
  clear hb69
  clear p00 p01 p02 p10 p11 p12
  obtain ⟨p00, p01, p02, _⟩ := B1.cells
  obtain ⟨p10, p11, p12, _⟩ := B2.cells
  by_cases hd : ¬ (Fmd m ps qs)
  · have e1 : decide (Fmd m ps qs) = false := decide_eq_false hd
    rw [e1]
    clear e1
    go_wp2
    go_ret
    exact ⟨rfl, hbW⟩
  replace hd := Decidable.not_not.1 hd
  have e1 : decide (Fmd m ps qs) = true := decide_eq_true hd
  rw [e1]
  clear e1
  have f2 : Fmd m ps qs := hd
  clear hd
  have ex : qv n xs ys = qx := by rw [HX.out, if_pos f1]
  have ey : qv m ps qs = qy := by rw [HY.out, if_pos f2]
  have u1x := hx.lim
  have u1y := hy.lim
  have u1p := hp.lim
  have u1q := hq.lim
  have iff1 : (n = m ∧ xs = ps ∧ ys = qs) ↔ qx = qy := ⟨fun ⟨h1, h2, h3⟩ => by rw [← ex, ← ey, h1, h2, h3], fun h => Fmd.uniq f1 f2 u1x u1y u1p u1q (by rw [ex, ey, h])⟩
  have key : (qx = qy ∧ sgnQ (qx - qy) = 0) ∨ (qx ≠ qy ∧ (sgnQ (qx - qy) = 1 ∨ sgnQ (qx - qy) = -1)) := by
    by_cases h : qx = qy
    · exact .inl ⟨h, sgn_same h⟩
    · refine .inr ⟨h, ?_⟩
      unfold sgnQ
      rw [if_neg (by grind)]
      split
      · exact .inr rfl
      · exact .inl rfl
  clear f1 f2 ex ey u1x u1y u1p u1q
  go_wp2_with fail
  obtain ⟨s1, es1⟩ : ∃ s : ByteArray, (⟨(txt qx).toArray⟩ : ByteArray) = s := ⟨_, rfl⟩
  obtain ⟨s2, es2⟩ : ∃ s : ByteArray, (⟨(txt qy).toArray⟩ : ByteArray) = s := ⟨_, rfl⟩
  rcases key with ⟨hE, hs⟩ | ⟨hE, hs⟩
  · have hP : decide (n = m ∧ xs = ps ∧ ys = qs) = true := decide_eq_true (iff1.2 hE)
    have e12 : s1 = s2 := by rw [← es1, ← es2, hE]
    subst e12
    clear iff1 hE
    obtain ⟨p00, p01, p02, _⟩ := B1.cells
    obtain ⟨p10, p11, p12, _⟩ := B2.cells
    have st : Stg 0 := rfl
    go_region_held3 (fun u => u.cell? ⟨w.heap.size, 0, none⟩ = some (.bool n) ∧ u.cell? ⟨w.heap.size, 1, none⟩ = some (.slice a xs.length c) ∧ u.cell? ⟨w.heap.size, 2, none⟩ = some (.slice a' ys.length c') ∧ u.cell? ⟨w.heap.size + 1, 0, none⟩ = some (.bool m) ∧ u.cell? ⟨w.heap.size + 1, 1, none⟩ = some (.slice b ps.length d) ∧ u.cell? ⟨w.heap.size + 1, 2, none⟩ = some (.slice b' qs.length d')) (go_keep)
      (first
        | (go_at_call 14
           have _sg : Stg 0 := st
           refine (qcmp_any 4 4 qx qy _ _ _ (hX.below Below.drew1) (hY.below Below.drew1) (by decide) (by decide) (by decide) (by decide)).mono ?_
           rintro e u70 ⟨rfl, hb70⟩
           replace hb70 : Below u69.heap.size u69 u70 := Below.drew1.trans hb70
           replace hx := hx.below hb70
           replace hy := hy.below hb70
           replace hp := hp.below hb70
           replace hq := hq.below hb70
           replace hX := hX.below hb70
           replace hY := hY.below hb70
           replace B1 := B1.below hb70
           replace B2 := B2.below hb70
           replace hbW : Below w.heap.size w u70 := hbW.trans (hb70.mono hbW.size)
           clear hb70
           rw [hs]
           clear st _sg
           have st : Stg 1 := rfl
           clear p00 p01 p02 p10 p11 p12
           obtain ⟨p00, p01, p02, _⟩ := B1.cells
           obtain ⟨p10, p11, p12, _⟩ := B2.cells)
        | (go_at_call 21
           have _sg : Stg 1 := st
           refine (plain2_any _ _ _ _ _ _ _ _ hp hq).mono ?_
           rintro e u71 ⟨rfl, hb71⟩
           replace hx := hx.below hb71
           replace hy := hy.below hb71
           replace hp := hp.below hb71
           replace hq := hq.below hb71
           replace hX := hX.below hb71
           replace hY := hY.below hb71
           replace B1 := B1.below hb71
           replace B2 := B2.below hb71
           replace hbW : Below w.heap.size w u71 := hbW.trans (hb71.mono hbW.size)
           clear hb71
           clear st _sg
           have st : Stg 2 := rfl
           clear p00 p01 p02 p10 p11 p12
           obtain ⟨p00, p01, p02, _⟩ := B1.cells
           obtain ⟨p10, p11, p12, _⟩ := B2.cells)
        | (go_at_call 20
           have _sg : Stg 2 := st
           refine (same2_any _ _ _ _ _ _ _ _ _ _ _ _ _ _ _ hx hy hp hq).mono ?_
           rintro e u72 ⟨rfl, hb72⟩
           replace hx := hx.below hb72
           replace hy := hy.below hb72
           replace hp := hp.below hb72
           replace hq := hq.below hb72
           replace hX := hX.below hb72
           replace hY := hY.below hb72
           replace B1 := B1.below hb72
           replace B2 := B2.below hb72
           replace hbW : Below w.heap.size w u72 := hbW.trans (hb72.mono hbW.size)
           clear hb72
           rw [hP]
           clear st _sg
           have st : Stg 3 := rfl
           clear p00 p01 p02 p10 p11 p12
           obtain ⟨p00, p01, p02, _⟩ := B1.cells
           obtain ⟨p10, p11, p12, _⟩ := B2.cells)
        | (go_at_call 14
           have _sg : Stg 3 := st
           refine (qcmp_any 4 4 qx qy _ _ _ hX hY (by decide) (by decide) (by decide) (by decide)).mono ?_
           rintro e u73 ⟨rfl, hb73⟩
           replace hx := hx.below hb73
           replace hy := hy.below hb73
           replace hp := hp.below hb73
           replace hq := hq.below hb73
           replace hX := hX.below hb73
           replace hY := hY.below hb73
           replace B1 := B1.below hb73
           replace B2 := B2.below hb73
           replace hbW : Below w.heap.size w u73 := hbW.trans (hb73.mono hbW.size)
           clear hb73
           rw [hs]
           clear st _sg
           have st : Stg 4 := rfl
           clear p00 p01 p02 p10 p11 p12
           obtain ⟨p00, p01, p02, _⟩ := B1.cells
           obtain ⟨p10, p11, p12, _⟩ := B2.cells)
        | (go_at_call 22
           have _sg : Stg 4 := st
           refine (qtext_any 4 qx _ _ hX (by decide) (by decide) (htab.below hbW)).mono ?_
           rintro e u74 ⟨rfl, hb74⟩
           replace hx := hx.below hb74
           replace hy := hy.below hb74
           replace hp := hp.below hb74
           replace hq := hq.below hb74
           replace hX := hX.below hb74
           replace hY := hY.below hb74
           replace B1 := B1.below hb74
           replace B2 := B2.below hb74
           replace hbW : Below w.heap.size w u74 := hbW.trans (hb74.mono hbW.size)
           clear hb74
           rw [es1]
           clear st _sg
           have st : Stg 5 := rfl
           clear p00 p01 p02 p10 p11 p12
           obtain ⟨p00, p01, p02, _⟩ := B1.cells
           obtain ⟨p10, p11, p12, _⟩ := B2.cells)
        | (go_at_call 22
           have _sg : Stg 5 := st
           refine (qtext_any 4 qy _ _ hY (by decide) (by decide) (htab.below hbW)).mono ?_
           rintro e u75 ⟨rfl, hb75⟩
           replace hx := hx.below hb75
           replace hy := hy.below hb75
           replace hp := hp.below hb75
           replace hq := hq.below hb75
           replace hX := hX.below hb75
           replace hY := hY.below hb75
           replace B1 := B1.below hb75
           replace B2 := B2.below hb75
           replace hbW : Below w.heap.size w u75 := hbW.trans (hb75.mono hbW.size)
           clear hb75
           rw [es2]
           clear st _sg
           have st : Stg 6 := rfl
           clear p00 p01 p02 p10 p11 p12
           obtain ⟨p00, p01, p02, _⟩ := B1.cells
           obtain ⟨p10, p11, p12, _⟩ := B2.cells))
    clear st
    go_wp2
    go_ret
    exact ⟨ret_bool (by simp), hbW⟩
  · have hP : decide (n = m ∧ xs = ps ∧ ys = qs) = false := decide_eq_false (fun h => hE (iff1.1 h))
    have e12 : ¬ s1.toList = s2.toList := by
      rw [← es1, ← es2, Go.ByteArray.toList_mk, Go.ByteArray.toList_mk]
      exact fun h => hE (txt_inj h)
    clear iff1 hE
    rcases hs with hs | hs
    all_goals
      obtain ⟨p00, p01, p02, _⟩ := B1.cells
      obtain ⟨p10, p11, p12, _⟩ := B2.cells
      have st : Stg 0 := rfl
      go_region_held3 (fun u => u.cell? ⟨w.heap.size, 0, none⟩ = some (.bool n) ∧ u.cell? ⟨w.heap.size, 1, none⟩ = some (.slice a xs.length c) ∧ u.cell? ⟨w.heap.size, 2, none⟩ = some (.slice a' ys.length c') ∧ u.cell? ⟨w.heap.size + 1, 0, none⟩ = some (.bool m) ∧ u.cell? ⟨w.heap.size + 1, 1, none⟩ = some (.slice b ps.length d) ∧ u.cell? ⟨w.heap.size + 1, 2, none⟩ = some (.slice b' qs.length d')) (go_keep)
        (first
          | (go_at_call 14
             have _sg : Stg 0 := st
             refine (qcmp_any 4 4 qx qy _ _ _ (hX.below Below.drew1) (hY.below Below.drew1) (by decide) (by decide) (by decide) (by decide)).mono ?_
             rintro e u70 ⟨rfl, hb70⟩
             replace hb70 : Below u69.heap.size u69 u70 := Below.drew1.trans hb70
             replace hx := hx.below hb70
             replace hy := hy.below hb70
             replace hp := hp.below hb70
             replace hq := hq.below hb70
             replace hX := hX.below hb70
             replace hY := hY.below hb70
             replace B1 := B1.below hb70
             replace B2 := B2.below hb70
             replace hbW : Below w.heap.size w u70 := hbW.trans (hb70.mono hbW.size)
             clear hb70
             rw [hs]
             clear st _sg
             have st : Stg 1 := rfl
             clear p00 p01 p02 p10 p11 p12
             obtain ⟨p00, p01, p02, _⟩ := B1.cells
             obtain ⟨p10, p11, p12, _⟩ := B2.cells)
          | (go_at_call 21
             have _sg : Stg 1 := st
             refine (plain2_any _ _ _ _ _ _ _ _ hp hq).mono ?_
             rintro e u71 ⟨rfl, hb71⟩
             replace hx := hx.below hb71
             replace hy := hy.below hb71
             replace hp := hp.below hb71
             replace hq := hq.below hb71
             replace hX := hX.below hb71
             replace hY := hY.below hb71
             replace B1 := B1.below hb71
             replace B2 := B2.below hb71
             replace hbW : Below w.heap.size w u71 := hbW.trans (hb71.mono hbW.size)
             clear hb71
             clear st _sg
             have st : Stg 2 := rfl
             clear p00 p01 p02 p10 p11 p12
             obtain ⟨p00, p01, p02, _⟩ := B1.cells
             obtain ⟨p10, p11, p12, _⟩ := B2.cells)
          | (go_at_call 20
             have _sg : Stg 2 := st
             refine (same2_any _ _ _ _ _ _ _ _ _ _ _ _ _ _ _ hx hy hp hq).mono ?_
             rintro e u72 ⟨rfl, hb72⟩
             replace hx := hx.below hb72
             replace hy := hy.below hb72
             replace hp := hp.below hb72
             replace hq := hq.below hb72
             replace hX := hX.below hb72
             replace hY := hY.below hb72
             replace B1 := B1.below hb72
             replace B2 := B2.below hb72
             replace hbW : Below w.heap.size w u72 := hbW.trans (hb72.mono hbW.size)
             clear hb72
             rw [hP]
             clear st _sg
             have st : Stg 3 := rfl
             clear p00 p01 p02 p10 p11 p12
             obtain ⟨p00, p01, p02, _⟩ := B1.cells
             obtain ⟨p10, p11, p12, _⟩ := B2.cells)
          | (go_at_call 14
             have _sg : Stg 3 := st
             refine (qcmp_any 4 4 qx qy _ _ _ hX hY (by decide) (by decide) (by decide) (by decide)).mono ?_
             rintro e u73 ⟨rfl, hb73⟩
             replace hx := hx.below hb73
             replace hy := hy.below hb73
             replace hp := hp.below hb73
             replace hq := hq.below hb73
             replace hX := hX.below hb73
             replace hY := hY.below hb73
             replace B1 := B1.below hb73
             replace B2 := B2.below hb73
             replace hbW : Below w.heap.size w u73 := hbW.trans (hb73.mono hbW.size)
             clear hb73
             rw [hs]
             clear st _sg
             have st : Stg 4 := rfl
             clear p00 p01 p02 p10 p11 p12
             obtain ⟨p00, p01, p02, _⟩ := B1.cells
             obtain ⟨p10, p11, p12, _⟩ := B2.cells)
          | (go_at_call 22
             have _sg : Stg 4 := st
             refine (qtext_any 4 qx _ _ hX (by decide) (by decide) (htab.below hbW)).mono ?_
             rintro e u74 ⟨rfl, hb74⟩
             replace hx := hx.below hb74
             replace hy := hy.below hb74
             replace hp := hp.below hb74
             replace hq := hq.below hb74
             replace hX := hX.below hb74
             replace hY := hY.below hb74
             replace B1 := B1.below hb74
             replace B2 := B2.below hb74
             replace hbW : Below w.heap.size w u74 := hbW.trans (hb74.mono hbW.size)
             clear hb74
             rw [es1]
             clear st _sg
             have st : Stg 5 := rfl
             clear p00 p01 p02 p10 p11 p12
             obtain ⟨p00, p01, p02, _⟩ := B1.cells
             obtain ⟨p10, p11, p12, _⟩ := B2.cells)
          | (go_at_call 22
             have _sg : Stg 5 := st
             refine (qtext_any 4 qy _ _ hY (by decide) (by decide) (htab.below hbW)).mono ?_
             rintro e u75 ⟨rfl, hb75⟩
             replace hx := hx.below hb75
             replace hy := hy.below hb75
             replace hp := hp.below hb75
             replace hq := hq.below hb75
             replace hX := hX.below hb75
             replace hY := hY.below hb75
             replace B1 := B1.below hb75
             replace B2 := B2.below hb75
             replace hbW : Below w.heap.size w u75 := hbW.trans (hb75.mono hbW.size)
             clear hb75
             rw [es2]
             clear st _sg
             have st : Stg 6 := rfl
             clear p00 p01 p02 p10 p11 p12
             obtain ⟨p00, p01, p02, _⟩ := B1.cells
             obtain ⟨p10, p11, p12, _⟩ := B2.cells))
      clear st
      go_wp2
      go_ret
      exact ⟨ret_bool (by simp [e12]), hbW⟩

end Go.Proofs.YtefdkajjdaplbaaDoor
