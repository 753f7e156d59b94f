/-
  foundrylaw02.RatioRounds: the walk.
-/
import Derived.Test.YtefdkajjdaplbaaDoorLawField
import Derived.Deep.Cut
namespace Go.Proofs.YtefdkajjdaplbaaDoor
open Go.RowKit Classical
set_option linter.unusedSimpArgs false
set_option linter.unusedVariables false

theorem flB_of {z : Int} (h1 : -9223372036854775808 ≤ z) (h2 : z < 9223372036854775808) : flB z = true := by unfold flB; simp [h1, h2]
theorem flN_of {z : Int} (h1 : -9223372036854775808 ≤ z) (h2 : z < 9223372036854775808) : flN z = z := by unfold flN; rw [if_pos (flB_of h1 h2)]
theorem flB_bounds {z : Int} (h : flB z = true) : -9223372036854775808 ≤ z ∧ z < 9223372036854775808 := by unfold flB at h; simpa using h
theorem floor_half (z : Int) : ((z : Rat) + 1 / 2).floor = z := by
  have h1 : z ≤ ((z : Rat) + 1 / 2).floor := by rw [Rat.le_floor_iff]; grind
  have h2 : ((z : Rat) + 1 / 2).floor < z + 1 := by
    rw [Rat.floor_lt_iff]
    have : ((z + 1 : Int) : Rat) = (z : Rat) + 1 := by simp
    rw [this]; grind
  omega
theorem sgn_neg {q : Rat} (h : q < 0) : sgnQ q = -1 := by unfold sgnQ; rw [if_neg (by grind), if_pos h]
theorem sgn_pos {q : Rat} (h : 0 < q) : sgnQ q = 1 := by unfold sgnQ; rw [if_neg (by grind), if_neg (by grind)]
theorem sgn_le {q : Rat} (h : q ≤ 0) : sgnQ q ≤ 0 := by
  by_cases h0 : q = 0
  · rw [sgnQ_zero.2 h0]; decide
  · rw [sgn_neg (by grind)]; decide
theorem sgn_ge {q : Rat} (h : 0 ≤ q) : 0 ≤ sgnQ q := by
  by_cases h0 : q = 0
  · rw [sgnQ_zero.2 h0]; decide
  · rw [sgn_pos (by grind)]; decide

set_option maxHeartbeats 8000000 in
set_option maxRecDepth 100000 in
theorem walkRatioRounds (n : Bool) (a a' : Option Addr) (c c' : Nat) (xs ys : List Nat) (z : Int) (w : World)
    (hx : Rd w a c xs) (hy : Rd w a' c' ys) (wz : (Lit.int .i64 z).wf = true) (htab : Pow w) :
    Calls Tryd.prog 6 #[.agg #[.bool n, .slice a xs.length c, .slice a' ys.length c'], .int .i64 z] w fun e w' => e = .returned (.bool true) ∧ Below w.heap.size w w' := by
  have z1 : xs.length ≤ 9223372036854775807 := by have := hx.le; have := hx.cap; unfold maxLen at this; omega
  have z2 : ys.length ≤ 9223372036854775807 := by have := hy.le; have := hy.cap; unfold maxLen at this; omega
  have hz := wf_i64_bounds wz
  clear wz
  go_enter Tryd.func6, Tryd.ntmps6
  go_wp2_with fail
  refine (awake2_any _ (htab.below (al1 _))).mono ?_
  rintro e u1 ⟨rfl, hb1⟩
  replace hx := (hx.below (al1 _)).below hb1
  replace hy := (hy.below (al1 _)).below hb1
  obtain ⟨B1, hbW⟩ := after1 hb1
  clear hb1
  obtain ⟨p00, p01, p02, _⟩ := B1.cells
  go_wp2_with fail
  refine (few2_any _ _ _ _ _ _ _ _ _ _ _ _ _ _ _ z1 z2 z1 z2).mono ?_
  rintro e u2 ⟨rfl, hb2⟩
  replace hx := hx.below hb2
  replace hy := hy.below hb2
  replace B1 := B1.below hb2
  replace hbW : Below w.heap.size w u2 := hbW.trans (hb2.mono hbW.size)
  clear hb2
  clear p00 p01 p02
  obtain ⟨p00, p01, p02, _⟩ := B1.cells
  by_cases hd : ¬ (xs.length ≤ 4 ∧ ys.length ≤ 4 ∧ xs.length ≤ 4 ∧ ys.length ≤ 4)
  · have e1 : decide (xs.length ≤ 4 ∧ ys.length ≤ 4 ∧ xs.length ≤ 4 ∧ ys.length ≤ 4) = false := decide_eq_false hd
    rw [e1]
    clear e1
    go_wp2_with fail
    refine (awake2_any _ (htab.below hbW)).mono ?_
    rintro e uf ⟨rfl, hbf⟩
    go_wp2
    go_ret
    exact ⟨rfl, hbW.trans (hbf.mono hbW.size)⟩
  replace hd := Decidable.not_not.1 hd
  have e1 : decide (xs.length ≤ 4 ∧ ys.length ≤ 4 ∧ xs.length ≤ 4 ∧ ys.length ≤ 4) = true := decide_eq_true hd
  rw [e1]
  clear e1
  obtain ⟨l1, l2, _, _⟩ := hd
  clear p00 p01 p02
  obtain ⟨p00, p01, p02, _⟩ := B1.cells
  go_wp2_with fail
  refine (formed_any _ _ _ _ _ _ _ _ hx hy (by omega) (by omega)).mono ?_
  rintro e u3 ⟨rfl, hb3⟩
  replace hx := hx.below hb3
  replace hy := hy.below hb3
  replace B1 := B1.below hb3
  replace hbW : Below w.heap.size w u3 := hbW.trans (hb3.mono hbW.size)
  clear hb3
  clear p00 p01 p02
  obtain ⟨p00, p01, p02, _⟩ := B1.cells
  by_cases hd : ¬ (Fmd n xs ys)
  · have e1 : decide (Fmd n xs ys) = false := decide_eq_false hd
    rw [e1]
    clear e1
    go_wp2_with fail
    refine (awake2_any _ (htab.below hbW)).mono ?_
    rintro e uf ⟨rfl, hbf⟩
    go_wp2
    go_ret
    exact ⟨rfl, hbW.trans (hbf.mono hbW.size)⟩
  replace hd := Decidable.not_not.1 hd
  have e1 : decide (Fmd n xs ys) = true := decide_eq_true hd
  rw [e1]
  clear e1
  have f1 : Fmd n xs ys := hd
  clear hd
  obtain ⟨qx, hX⟩ : ∃ q, Ct u3 (.agg #[.bool n, .slice a xs.length c, .slice a' ys.length c']) 4 q := ⟨_, Fr.ct ⟨_, _, _, ⟨_, _, _, _, rfl, hx, hy⟩, f1, l1, l2, rfl⟩⟩
  clear hx hy f1 z1 z2
  clear p00 p01 p02
  obtain ⟨p00, p01, p02, _⟩ := B1.cells
  go_wp2_with fail
  refine (whole_any z _ hz.1 hz.2).mono ?_
  rintro e u4 ⟨vz, rfl, hF, hb4⟩
  replace hX := hX.below hb4
  replace B1 := B1.below hb4
  replace hbW : Below w.heap.size w u4 := hbW.trans (hb4.mono hbW.size)
  clear hb4
  clear p00 p01 p02
  obtain ⟨p00, p01, p02, _⟩ := B1.cells
  go_wp2_with fail
  refine (qfloor_any 2 _ _ _ hF.ct (by decide) (by decide)).mono ?_
  rintro e u5 ⟨rfl, hb5⟩
  replace hX := hX.below hb5
  replace B1 := B1.below hb5
  replace hbW : Below w.heap.size w u5 := hbW.trans (hb5.mono hbW.size)
  clear hb5
  clear p00 p01 p02
  obtain ⟨p00, p01, p02, _⟩ := B1.cells
  rw [Rat.floor_intCast, flN_of hz.1 hz.2, flB_of hz.1 hz.2]
  clear hF
  go_wp2_with fail
  refine (whole_any z _ hz.1 hz.2).mono ?_
  rintro e u6 ⟨vz', rfl, hF, hb6⟩
  replace hX := hX.below hb6
  replace B1 := B1.below hb6
  replace hbW : Below w.heap.size w u6 := hbW.trans (hb6.mono hbW.size)
  clear hb6
  clear p00 p01 p02
  obtain ⟨p00, p01, p02, _⟩ := B1.cells
  go_wp2_with fail
  refine (qround_any 2 _ _ _ hF.ct (by decide) (by decide)).mono ?_
  rintro e u7 ⟨rfl, hb7⟩
  replace hX := hX.below hb7
  replace B1 := B1.below hb7
  replace hbW : Below w.heap.size w u7 := hbW.trans (hb7.mono hbW.size)
  clear hb7
  clear p00 p01 p02
  obtain ⟨p00, p01, p02, _⟩ := B1.cells
  rw [floor_half, flN_of hz.1 hz.2, flB_of hz.1 hz.2]
  clear hF
  have gz : (z != z) = false := by simp
  go_wp2_with fail
  refine (make_any 1 2 _ (by decide) (by decide) (by decide) (by decide)).mono ?_
  rintro e u8 ⟨vh, rfl, hFh, hb8⟩
  replace hX := hX.below hb8
  replace B1 := B1.below hb8
  replace hbW : Below w.heap.size w u8 := hbW.trans (hb8.mono hbW.size)
  clear hb8
  clear p00 p01 p02
  obtain ⟨p00, p01, p02, _⟩ := B1.cells
  clear gz
  have hH : Ct u8 vh 2 (1 / 2) := hFh.ct
  obtain ⟨n1, x1, y1, ⟨a1, c1, b1, d1, rfl, _, _⟩, _⟩ := hFh
  go_wp2_with fail
  refine (whole_any 1 _ (by decide) (by decide)).mono ?_
  rintro e u9 ⟨vo, rfl, hFo, hb9⟩
  replace hX := hX.below hb9
  replace hH := hH.below hb9
  replace B1 := B1.below hb9
  replace hbW : Below w.heap.size w u9 := hbW.trans (hb9.mono hbW.size)
  clear hb9
  clear p00 p01 p02
  obtain ⟨p00, p01, p02, _⟩ := B1.cells
  have hO : Ct u9 vo 2 1 := hFo.ct
  obtain ⟨n2, x2, y2, ⟨a2, c2, b2, d2, rfl, _, _⟩, _⟩ := hFo
  clear p00 p01 p02
  obtain ⟨p00, p01, p02, _⟩ := ((B1.alloc (.cells #[.bool n1, .slice a1 x1.length c1, .slice b1 y1.length d1] 30)).alloc (.cells #[.bool n2, .slice a2 x2.length c2, .slice b2 y2.length d2] 30)).cells
  go_wp2_with fail
  refine (qfloor_any 4 qx _ _ (hX.below (al2 _ _)) (by decide) (by decide)).mono ?_
  rintro e u10 ⟨rfl, hb10⟩
  obtain ⟨BH, BO, hb10⟩ := after2 hb10
  replace hX := hX.below hb10
  replace hH := hH.below hb10
  replace hO := hO.below hb10
  replace B1 := B1.below hb10
  replace hbW : Below w.heap.size w u10 := hbW.trans (hb10.mono hbW.size)
  clear hb10 p00 p01 p02
  generalize u9.heap.size = bh at BH BO ⊢
  obtain ⟨fl, hfl⟩ : ∃ fl, qx.floor = fl := ⟨_, rfl⟩
  have e1 : (fl : Rat) ≤ qx := by rw [← hfl]; exact Rat.floor_le qx
  have e2 : qx < (fl : Rat) + 1 := by have := Rat.lt_floor_add_one qx; rw [hfl] at this; simpa using this
  rw [hfl]
  clear hfl
  go_wp2_with fail
  go_cut [11, 12, 81] from 16 (fun s11 s12 s81 wx => s81 = .bool false ∧ Ct wx (.agg #[.bool n, .slice a xs.length c, .slice a' ys.length c']) 4 qx ∧ Ct wx (.agg #[.bool n1, .slice a1 x1.length c1, .slice b1 y1.length d1]) 2 (1 / 2) ∧ Box 30 wx w.heap.size (.bool n) (.slice a xs.length c) (.slice a' ys.length c') ∧ Box 30 wx bh (.bool n1) (.slice a1 x1.length c1) (.slice b1 y1.length d1) ∧ Below w.heap.size w wx)
  case first =>
    cases hg : flB fl with
    | false =>
      go_quiet (fail)
      go_wp2_with fail
      go_meet
      exact ⟨rfl, hX.below (below_drewN (Below.refl _ _) _), hH.below (below_drewN (Below.refl _ _) _), B1.below (below_drewN (Below.refl _ _) _), BH.below (below_drewN (Below.refl _ _) _), below_drewN hbW _⟩
    | true =>
      have hfb := flB_bounds hg
      rw [flN_of hfb.1 hfb.2]
      have key : sgnQ ((fl : Rat) - qx) = 0 ∨ sgnQ ((fl : Rat) - qx) = -1 := by
        by_cases h0 : (fl : Rat) - qx = 0
        · exact .inl (sgnQ_zero.2 h0)
        · exact .inr (sgn_neg (by grind))
      clear hg
      rcases key with hs | hs
      all_goals
        obtain ⟨p00, p01, p02, _⟩ := B1.cells
        obtain ⟨p10, p11, p12, _⟩ := BH.cells
        obtain ⟨p20, p21, p22, _⟩ := BO.cells
        have st : Stg 0 := rfl
        go_region_held3 (fun u => u.cell? ⟨w.heap.size, 0, none⟩ = some (.bool n) ∧ u.cell? ⟨w.heap.size, 1, none⟩ = some (.slice a xs.length c) ∧ u.cell? ⟨w.heap.size, 2, none⟩ = some (.slice a' ys.length c') ∧ u.cell? ⟨bh, 0, none⟩ = some (.bool n1) ∧ u.cell? ⟨bh, 1, none⟩ = some (.slice a1 x1.length c1) ∧ u.cell? ⟨bh, 2, none⟩ = some (.slice b1 y1.length d1) ∧ u.cell? ⟨bh + 1, 0, none⟩ = some (.bool n2) ∧ u.cell? ⟨bh + 1, 1, none⟩ = some (.slice a2 x2.length c2) ∧ u.cell? ⟨bh + 1, 2, none⟩ = some (.slice b2 y2.length d2)) (go_keep)
          (first
            | (go_at_call 24
               have _sg : Stg 0 := st
               refine (whole_any fl _ hfb.1 hfb.2).mono ?_
               rintro e u11 ⟨vw1, rfl, hF, hb11⟩
               replace hb11 : Below u10.heap.size u10 u11 := Below.drew1.trans hb11
               replace hX := hX.below hb11
               replace hH := hH.below hb11
               replace hO := hO.below hb11
               replace B1 := B1.below hb11
               replace BH := BH.below hb11
               replace BO := BO.below hb11
               replace hbW : Below w.heap.size w u11 := hbW.trans (hb11.mono hbW.size)
               clear hb11
               have hw1 := hF.ct
               clear hF
               clear st _sg
               have st : Stg 1 := rfl
               clear p00 p01 p02 p10 p11 p12 p20 p21 p22
               obtain ⟨p00, p01, p02, _⟩ := B1.cells
               obtain ⟨p10, p11, p12, _⟩ := BH.cells
               obtain ⟨p20, p21, p22, _⟩ := BO.cells)
            | (go_at_call 14
               have _sg : Stg 1 := st
               refine (qcmp_any 2 4 (fl : Rat) qx _ _ _ hw1 hX (by decide) (by decide) (by decide) (by decide)).mono ?_
               rintro e u12 ⟨rfl, hb12⟩
               replace hX := hX.below hb12
               replace hH := hH.below hb12
               replace hO := hO.below hb12
               replace hw1 := hw1.below hb12
               replace B1 := B1.below hb12
               replace BH := BH.below hb12
               replace BO := BO.below hb12
               replace hbW : Below w.heap.size w u12 := hbW.trans (hb12.mono hbW.size)
               clear hb12
               rw [hs]
               clear st _sg
               have st : Stg 2 := rfl
               clear p00 p01 p02 p10 p11 p12 p20 p21 p22
               obtain ⟨p00, p01, p02, _⟩ := B1.cells
               obtain ⟨p10, p11, p12, _⟩ := BH.cells
               obtain ⟨p20, p21, p22, _⟩ := BO.cells)
            | (go_at_call 24
               have _sg : Stg 2 := st
               refine (whole_any fl _ hfb.1 hfb.2).mono ?_
               rintro e u13 ⟨vw2, rfl, hF, hb13⟩
               replace hX := hX.below hb13
               replace hH := hH.below hb13
               replace hO := hO.below hb13
               replace hw1 := hw1.below hb13
               replace B1 := B1.below hb13
               replace BH := BH.below hb13
               replace BO := BO.below hb13
               replace hbW : Below w.heap.size w u13 := hbW.trans (hb13.mono hbW.size)
               clear hb13
               have hw2 := hF.ct
               clear hF
               clear st _sg
               have st : Stg 3 := rfl
               clear p00 p01 p02 p10 p11 p12 p20 p21 p22
               obtain ⟨p00, p01, p02, _⟩ := B1.cells
               obtain ⟨p10, p11, p12, _⟩ := BH.cells
               obtain ⟨p20, p21, p22, _⟩ := BO.cells)
            | (go_at_call 15
               have _sg : Stg 3 := st
               refine (qadd_any 2 2 (fl : Rat) 1 _ _ _ hw2 hO (by decide) (by decide) (by decide) (by decide)).mono ?_
               rintro e u14 ⟨vw3, rfl, hF, hb14⟩
               replace hX := hX.below hb14
               replace hH := hH.below hb14
               replace hO := hO.below hb14
               replace hw1 := hw1.below hb14
               replace hw2 := hw2.below hb14
               replace B1 := B1.below hb14
               replace BH := BH.below hb14
               replace BO := BO.below hb14
               replace hbW : Below w.heap.size w u14 := hbW.trans (hb14.mono hbW.size)
               clear hb14
               have hw3 := hF.ct
               clear hF
               clear st _sg
               have st : Stg 4 := rfl
               clear p00 p01 p02 p10 p11 p12 p20 p21 p22
               obtain ⟨p00, p01, p02, _⟩ := B1.cells
               obtain ⟨p10, p11, p12, _⟩ := BH.cells
               obtain ⟨p20, p21, p22, _⟩ := BO.cells)
            | (go_at_call 14
               have _sg : Stg 4 := st
               refine (qcmp_any 5 4 ((fl : Rat) + 1) qx _ _ _ hw3 hX (by decide) (by decide) (by decide) (by decide)).mono ?_
               rintro e u15 ⟨rfl, hb15⟩
               replace hX := hX.below hb15
               replace hH := hH.below hb15
               replace hO := hO.below hb15
               replace hw1 := hw1.below hb15
               replace hw2 := hw2.below hb15
               replace hw3 := hw3.below hb15
               replace B1 := B1.below hb15
               replace BH := BH.below hb15
               replace BO := BO.below hb15
               replace hbW : Below w.heap.size w u15 := hbW.trans (hb15.mono hbW.size)
               clear hb15
               rw [sgn_pos (q := (fl : Rat) + 1 - qx) (by grind)]
               clear st _sg
               have st : Stg 5 := rfl
               clear p00 p01 p02 p10 p11 p12 p20 p21 p22
               obtain ⟨p00, p01, p02, _⟩ := B1.cells
               obtain ⟨p10, p11, p12, _⟩ := BH.cells
               obtain ⟨p20, p21, p22, _⟩ := BO.cells))
        clear st
        go_wp2_with fail
        go_meet
        exact ⟨rfl, hX, hH, B1, BH, hbW⟩
  case rest =>
  clear hX hH hO B1 BH BO hbW e1 e2
  obtain ⟨rfl, hX, hH, B1, BH, hbW⟩ := hcut
  obtain ⟨p00, p01, p02, _⟩ := B1.cells
  obtain ⟨p10, p11, p12, _⟩ := BH.cells
  go_wp2_with fail
  refine (qround_any 4 qx _ _ hX (by decide) (by decide)).mono ?_
  rintro e u16 ⟨rfl, hb16⟩
  replace hX := hX.below hb16
  replace hH := hH.below hb16
  replace B1 := B1.below hb16
  replace BH := BH.below hb16
  replace hbW : Below w.heap.size w u16 := hbW.trans (hb16.mono hbW.size)
  clear hb16
  clear p00 p01 p02 p10 p11 p12
  obtain ⟨rr, hrr⟩ : ∃ rr, (qx + 1 / 2).floor = rr := ⟨_, rfl⟩
  have e1 : (rr : Rat) ≤ qx + 1 / 2 := by rw [← hrr]; exact Rat.floor_le _
  have e2 : qx + 1 / 2 < (rr : Rat) + 1 := by have := Rat.lt_floor_add_one (qx + 1 / 2); rw [hrr] at this; simpa using this
  rw [hrr]
  clear hrr
  cases hg : flB rr with
  | false =>
    go_wp2
    go_ret
    exact ⟨rfl, hbW⟩
  | true =>
  have hfb := flB_bounds hg
  rw [flN_of hfb.1 hfb.2]
  clear hg
  go_wp2_with fail
  go_cut [15] from 16 (fun s15 wx => ∃ bp n3 a3 x3 c3 b3 y3 d3, s15 = .pointer (some ⟨bp, 0, none⟩) ∧ Box 30 wx bp (.bool n3) (.slice a3 x3 c3) (.slice b3 y3 d3) ∧ Ct wx (.agg #[.bool n3, .slice a3 x3 c3, .slice b3 y3 d3]) 7 (qx - rr) ∧ Ct wx (.agg #[.bool n1, .slice a1 x1.length c1, .slice b1 y1.length d1]) 2 (1 / 2) ∧ Box 30 wx bh (.bool n1) (.slice a1 x1.length c1) (.slice b1 y1.length d1) ∧ Below w.heap.size w wx)
  case first =>
    have st : Stg 0 := rfl
    have hl1 := B1.lt
    have hl2 := BH.lt
    obtain ⟨p00, p01, p02, _⟩ := B1.cells
    obtain ⟨p10, p11, p12, _⟩ := BH.cells
    go_region_held3 (fun u => u.cell? ⟨w.heap.size, 0, none⟩ = some (.bool n) ∧ u.cell? ⟨w.heap.size, 1, none⟩ = some (.slice a xs.length c) ∧ u.cell? ⟨w.heap.size, 2, none⟩ = some (.slice a' ys.length c') ∧ u.cell? ⟨bh, 0, none⟩ = some (.bool n1) ∧ u.cell? ⟨bh, 1, none⟩ = some (.slice a1 x1.length c1) ∧ u.cell? ⟨bh, 2, none⟩ = some (.slice b1 y1.length d1)) (first | (go_keep; done) | (refine ⟨(cell_set3 (by omega)).trans p00, (cell_set3 (by omega)).trans p01, (cell_set3 (by omega)).trans p02, (cell_set3 (by omega)).trans p10, (cell_set3 (by omega)).trans p11, (cell_set3 (by omega)).trans p12⟩))
      (first
        | (go_at_call 24
           have _sg : Stg 0 := st
           refine (whole_any rr _ hfb.1 hfb.2).mono ?_
           rintro e u50 ⟨vw, rfl, hFw, hb50⟩
           replace hb50 : Below u16.heap.size u16 u50 := Below.drew1.trans hb50
           have hs50 := hb50.size
           replace hX := hX.below hb50
           replace hH := hH.below hb50
           replace B1 := B1.below hb50
           replace BH := BH.below hb50
           replace hbW : Below w.heap.size w u50 := hbW.trans (hb50.mono hbW.size)
           have hw := hFw.ct
           clear hFw hb50
           clear p00 p01 p02 p10 p11 p12
           obtain ⟨p00, p01, p02, _⟩ := B1.cells
           obtain ⟨p10, p11, p12, _⟩ := BH.cells
           clear st _sg
           have st : Stg 1 := rfl)
        | (go_at_call 24
           have _sg : Stg 0 := st
           refine (whole_any rr _ hfb.1 hfb.2).mono ?_
           rintro e u50 ⟨vw, rfl, hFw, hb50⟩
           obtain ⟨K1, hb50⟩ := after1d hb50
           have hs50 := hb50.size
           replace hX := hX.below hb50
           replace hH := hH.below hb50
           replace B1 := B1.below hb50
           replace BH := BH.below hb50
           replace hbW : Below w.heap.size w u50 := hbW.trans (hb50.mono hbW.size)
           have hw := hFw.ct
           clear hFw hb50
           clear p00 p01 p02 p10 p11 p12
           obtain ⟨p00, p01, p02, _⟩ := B1.cells
           obtain ⟨p10, p11, p12, _⟩ := BH.cells
           clear st _sg
           have st : Stg 1 := rfl)
        | (go_at_call 17
           have _sg : Stg 1 := st
           refine (qsub_any 4 2 qx (rr : Rat) _ _ _ hX hw (by decide) (by decide) (by decide) (by decide)).mono ?_
           rintro e u51 ⟨vt, rfl, hFt, hb51⟩
           try replace K1 := K1.below hb51
           replace hX := hX.below hb51
           replace hH := hH.below hb51
           replace B1 := B1.below hb51
           replace BH := BH.below hb51
           replace hbW : Below w.heap.size w u51 := hbW.trans (hb51.mono hbW.size)
           have ht := hFt.ct
           obtain ⟨n3, x3, y3, ⟨a3, c3, b3, d3, rfl, _, _⟩, _⟩ := hFt
           clear hb51 hw
           try obtain ⟨k0, k1, k2, k3, k4, k5⟩ := K1.cells
           try have hk := K1.lt
           clear p00 p01 p02 p10 p11 p12
           obtain ⟨p00, p01, p02, _⟩ := B1.cells
           obtain ⟨p10, p11, p12, _⟩ := BH.cells
           clear st _sg
           have st : Stg 2 := rfl)
        | (go_at_call 17
           have _sg : Stg 1 := st
           refine (qsub_any 4 2 qx (rr : Rat) _ _ _ (hX.below (al1 _)) (hw.below (al1 _)) (by decide) (by decide) (by decide) (by decide)).mono ?_
           rintro e u51 ⟨vt, rfl, hFt, hb51⟩
           obtain ⟨K1, hb51⟩ := after1 hb51
           replace hX := hX.below hb51
           replace hH := hH.below hb51
           replace B1 := B1.below hb51
           replace BH := BH.below hb51
           replace hbW : Below w.heap.size w u51 := hbW.trans (hb51.mono hbW.size)
           have ht := hFt.ct
           obtain ⟨n3, x3, y3, ⟨a3, c3, b3, d3, rfl, _, _⟩, _⟩ := hFt
           clear hb51 hw
           obtain ⟨k0, k1, k2, k3, k4, k5⟩ := K1.cells
           have hk := K1.lt
           clear p00 p01 p02 p10 p11 p12
           obtain ⟨p00, p01, p02, _⟩ := B1.cells
           obtain ⟨p10, p11, p12, _⟩ := BH.cells
           clear st _sg
           have st : Stg 2 := rfl))
    all_goals
      go_wp2_with fail
      go_meet
      have hs51 := B1.lt
      have hs52 := BH.lt
      first
        | (have s := sto_set K1 (.bool n3) (.slice a3 x3.length c3) (.slice b3 y3.length d3)
           exact ⟨_, _, _, _, _, _, _, _, rfl, s.1, ht.sto s, hH.sto s, s.2.2.2 _ _ _ _ _ (by omega) BH, s.2.1 _ _ hbW (by omega)⟩)
        | (have s := sto_new 30 u51 (.bool n3) (.slice a3 x3.length c3) (.slice b3 y3.length d3)
           exact ⟨_, _, _, _, _, _, _, _, rfl, s.1, ht.sto s, hH.sto s, s.2.2.2 _ _ _ _ _ (by omega) BH, s.2.1 _ _ hbW (by omega)⟩)
        | trace_state
  case rest =>
  clear hX hH B1 BH hbW
  obtain ⟨bp, n3, a3, x3, c3, b3, y3, d3, rfl, BD, hD, hH, BH, hbW⟩ := hcut
  obtain ⟨p00, p01, p02, _⟩ := BD.cells
  obtain ⟨p10, p11, p12, _⟩ := BH.cells
  go_wp2_with fail
  have st : Stg 0 := rfl
  go_region_held3 (fun u => u.cell? ⟨bp, 0, none⟩ = some (.bool n3) ∧ u.cell? ⟨bp, 1, none⟩ = some (.slice a3 x3 c3) ∧ u.cell? ⟨bp, 2, none⟩ = some (.slice b3 y3 d3) ∧ u.cell? ⟨bh, 0, none⟩ = some (.bool n1) ∧ u.cell? ⟨bh, 1, none⟩ = some (.slice a1 x1.length c1) ∧ u.cell? ⟨bh, 2, none⟩ = some (.slice b1 y1.length d1)) (go_keep)
    (first
      | (go_at_call 14
         have _sg : Stg 0 := st
         refine (qcmp_any 7 2 (qx - rr) (1 / 2) _ _ _ (hD.below Below.drew1) (hH.below Below.drew1) (by decide) (by decide) (by decide) (by decide)).mono ?_
         rintro e u17 ⟨rfl, hb17⟩
         replace hb17 : Below wc.heap.size wc u17 := Below.drew1.trans hb17
         replace hD := hD.below hb17
         replace hH := hH.below hb17
         replace BD := BD.below hb17
         replace BH := BH.below hb17
         replace hbW : Below w.heap.size w u17 := hbW.trans (hb17.mono hbW.size)
         clear hb17
         rw [sgn_neg (q := qx - rr - 1 / 2) (by grind)]
         clear st _sg
         have st : Stg 1 := rfl
         clear p00 p01 p02 p10 p11 p12
         obtain ⟨p00, p01, p02, _⟩ := BD.cells
         obtain ⟨p10, p11, p12, _⟩ := BH.cells)
      | (go_at_call 26
         have _sg : Stg 1 := st
         refine (make_any (-1) 2 _ (by decide) (by decide) (by decide) (by decide)).mono ?_
         rintro e u18 ⟨vm, rfl, hF, hb18⟩
         replace hD := hD.below hb18
         replace hH := hH.below hb18
         replace BD := BD.below hb18
         replace BH := BH.below hb18
         replace hbW : Below w.heap.size w u18 := hbW.trans (hb18.mono hbW.size)
         clear hb18
         have hm : Ct u18 vm 2 (-1 / 2) := hF.ct
         clear hF
         clear st _sg
         have st : Stg 2 := rfl
         clear p00 p01 p02 p10 p11 p12
         obtain ⟨p00, p01, p02, _⟩ := BD.cells
         obtain ⟨p10, p11, p12, _⟩ := BH.cells)
      | (go_at_call 14
         have _sg : Stg 2 := st
         refine (qcmp_any 7 2 (qx - rr) (-1 / 2) _ _ _ hD hm (by decide) (by decide) (by decide) (by decide)).mono ?_
         rintro e u19 ⟨rfl, hb19⟩
         replace hD := hD.below hb19
         replace hH := hH.below hb19
         replace hm := hm.below hb19
         replace BD := BD.below hb19
         replace BH := BH.below hb19
         replace hbW : Below w.heap.size w u19 := hbW.trans (hb19.mono hbW.size)
         clear hb19
         have g1 : 0 ≤ sgnQ (qx - rr - -1 / 2) := sgn_ge (by grind)
         generalize sgnQ (qx - rr - -1 / 2) = s1 at g1 ⊢
         clear st _sg
         have st : Stg 3 := rfl
         clear p00 p01 p02 p10 p11 p12
         obtain ⟨p00, p01, p02, _⟩ := BD.cells
         obtain ⟨p10, p11, p12, _⟩ := BH.cells))
  clear st
  go_wp2
  go_ret
  exact ⟨ret_bool (by simp [g1]), hbW⟩

end Go.Proofs.YtefdkajjdaplbaaDoor
