/-
  foundrylaw02.RatioField: the walk.
-/
import Derived.Test.YtefdkajjdaplbaaDoorQ9
import Derived.Deep.Cut
namespace Go.Proofs.YtefdkajjdaplbaaDoor
open Go.RowKit Classical
set_option linter.unusedSimpArgs false
set_option linter.unusedVariables false

theorem sgn_same {q r : Rat} (h : q = r) : sgnQ (q - r) = 0 := by rw [sgnQ_zero, h]; grind

set_option maxHeartbeats 8000000 in
set_option maxRecDepth 100000 in
theorem walkRatioField (n m o : Bool) (a a' b b' f f' : Option Addr) (c c' d d' g g' : Nat) (xs ys ps qs ts us : List Nat) (w : World)
    (hx : Rd w a c xs) (hy : Rd w a' c' ys) (hp : Rd w b d ps) (hq : Rd w b' d' qs) (ht : Rd w f g ts) (hu : Rd w f' g' us) (htab : Pow w) :
    Calls Tryd.prog 4 #[.agg #[.bool n, .slice a xs.length c, .slice a' ys.length c'], .agg #[.bool m, .slice b ps.length d, .slice b' qs.length d'], .agg #[.bool o, .slice f ts.length g, .slice f' us.length g']] w fun e w' => e = .returned (.bool true) ∧ Below w.heap.size w w' := by
  have z1 : xs.length ≤ 9223372036854775807 := by have := hx.le; have := hx.cap; unfold maxLen at this; omega
  have z2 : ys.length ≤ 9223372036854775807 := by have := hy.le; have := hy.cap; unfold maxLen at this; omega
  have z3 : ps.length ≤ 9223372036854775807 := by have := hp.le; have := hp.cap; unfold maxLen at this; omega
  have z4 : qs.length ≤ 9223372036854775807 := by have := hq.le; have := hq.cap; unfold maxLen at this; omega
  have z5 : ts.length ≤ 9223372036854775807 := by have := ht.le; have := ht.cap; unfold maxLen at this; omega
  have z6 : us.length ≤ 9223372036854775807 := by have := hu.le; have := hu.cap; unfold maxLen at this; omega
  go_enter Tryd.func4, Tryd.ntmps4
  go_wp2_with fail
  refine (awake2_any _ (htab.below (al3 _ _ _))).mono ?_
  rintro e u1 ⟨rfl, hb1⟩
  replace hx := (hx.below (al3 _ _ _)).below hb1
  replace hy := (hy.below (al3 _ _ _)).below hb1
  replace hp := (hp.below (al3 _ _ _)).below hb1
  replace hq := (hq.below (al3 _ _ _)).below hb1
  replace ht := (ht.below (al3 _ _ _)).below hb1
  replace hu := (hu.below (al3 _ _ _)).below hb1
  obtain ⟨B1, B2, B3, hbW⟩ := after3 hb1
  clear hb1
  obtain ⟨p00, p01, p02, _⟩ := B1.cells
  obtain ⟨p10, p11, p12, _⟩ := B2.cells
  obtain ⟨p20, p21, p22, _⟩ := B3.cells
  go_wp2_with fail
  refine (few2_any _ _ _ _ _ _ _ _ _ _ _ _ _ _ _ z1 z2 z3 z4).mono ?_
  rintro e u2 ⟨rfl, hb2⟩
  replace hx := hx.below hb2
  replace hy := hy.below hb2
  replace hp := hp.below hb2
  replace hq := hq.below hb2
  replace ht := ht.below hb2
  replace hu := hu.below hb2
  replace B1 := B1.below hb2
  replace B2 := B2.below hb2
  replace B3 := B3.below hb2
  replace hbW : Below w.heap.size w u2 := hbW.trans (hb2.mono hbW.size)
  clear hb2
  clear p00 p01 p02 p10 p11 p12 p20 p21 p22
  obtain ⟨p00, p01, p02, _⟩ := B1.cells
  obtain ⟨p10, p11, p12, _⟩ := B2.cells
  obtain ⟨p20, p21, p22, _⟩ := B3.cells
  by_cases hd : ¬ (xs.length ≤ 4 ∧ ys.length ≤ 4 ∧ ps.length ≤ 4 ∧ qs.length ≤ 4)
  · have e1 : decide (xs.length ≤ 4 ∧ ys.length ≤ 4 ∧ ps.length ≤ 4 ∧ qs.length ≤ 4) = false := decide_eq_false hd
    rw [e1]
    clear e1
    go_wp2_with fail
    refine (awake2_any _ (htab.below hbW)).mono ?_
    rintro e uf ⟨rfl, hbf⟩
    go_wp2
    go_ret
    exact ⟨rfl, hbW.trans (hbf.mono hbW.size)⟩
  replace hd := Decidable.not_not.1 hd
  have e1 : decide (xs.length ≤ 4 ∧ ys.length ≤ 4 ∧ ps.length ≤ 4 ∧ qs.length ≤ 4) = true := decide_eq_true hd
  rw [e1]
  clear e1
  obtain ⟨l1, l2, l3, l4⟩ := hd
  clear p00 p01 p02 p10 p11 p12 p20 p21 p22
  obtain ⟨p00, p01, p02, _⟩ := B1.cells
  obtain ⟨p10, p11, p12, _⟩ := B2.cells
  obtain ⟨p20, p21, p22, _⟩ := B3.cells
  go_wp2_with fail
  refine (few2_any _ _ _ _ _ _ _ _ _ _ _ _ _ _ _ z5 z6 z5 z6).mono ?_
  rintro e u3 ⟨rfl, hb3⟩
  replace hx := hx.below hb3
  replace hy := hy.below hb3
  replace hp := hp.below hb3
  replace hq := hq.below hb3
  replace ht := ht.below hb3
  replace hu := hu.below hb3
  replace B1 := B1.below hb3
  replace B2 := B2.below hb3
  replace B3 := B3.below hb3
  replace hbW : Below w.heap.size w u3 := hbW.trans (hb3.mono hbW.size)
  clear hb3
  clear p00 p01 p02 p10 p11 p12 p20 p21 p22
  obtain ⟨p00, p01, p02, _⟩ := B1.cells
  obtain ⟨p10, p11, p12, _⟩ := B2.cells
  obtain ⟨p20, p21, p22, _⟩ := B3.cells
  by_cases hd : ¬ (ts.length ≤ 4 ∧ us.length ≤ 4 ∧ ts.length ≤ 4 ∧ us.length ≤ 4)
  · have e1 : decide (ts.length ≤ 4 ∧ us.length ≤ 4 ∧ ts.length ≤ 4 ∧ us.length ≤ 4) = false := decide_eq_false hd
    rw [e1]
    clear e1
    go_wp2_with fail
    refine (awake2_any _ (htab.below hbW)).mono ?_
    rintro e uf ⟨rfl, hbf⟩
    go_wp2
    go_ret
    exact ⟨rfl, hbW.trans (hbf.mono hbW.size)⟩
  replace hd := Decidable.not_not.1 hd
  have e1 : decide (ts.length ≤ 4 ∧ us.length ≤ 4 ∧ ts.length ≤ 4 ∧ us.length ≤ 4) = true := decide_eq_true hd
  rw [e1]
  clear e1
  obtain ⟨l5, l6, _, _⟩ := hd
  clear p00 p01 p02 p10 p11 p12 p20 p21 p22
  obtain ⟨p00, p01, p02, _⟩ := B1.cells
  obtain ⟨p10, p11, p12, _⟩ := B2.cells
  obtain ⟨p20, p21, p22, _⟩ := B3.cells
  go_wp2_with fail
  refine (formed_any _ _ _ _ _ _ _ _ hx hy (by omega) (by omega)).mono ?_
  rintro e u4 ⟨rfl, hb4⟩
  replace hx := hx.below hb4
  replace hy := hy.below hb4
  replace hp := hp.below hb4
  replace hq := hq.below hb4
  replace ht := ht.below hb4
  replace hu := hu.below hb4
  replace B1 := B1.below hb4
  replace B2 := B2.below hb4
  replace B3 := B3.below hb4
  replace hbW : Below w.heap.size w u4 := hbW.trans (hb4.mono hbW.size)
  clear hb4
  clear p00 p01 p02 p10 p11 p12 p20 p21 p22
  obtain ⟨p00, p01, p02, _⟩ := B1.cells
  obtain ⟨p10, p11, p12, _⟩ := B2.cells
  obtain ⟨p20, p21, p22, _⟩ := B3.cells
  by_cases hd : ¬ (Fmd n xs ys)
  · have e1 : decide (Fmd n xs ys) = false := decide_eq_false hd
    rw [e1]
    clear e1
    go_wp2_with fail
    refine (awake2_any _ (htab.below hbW)).mono ?_
    rintro e uf ⟨rfl, hbf⟩
    go_wp2
    go_ret
    exact ⟨rfl, hbW.trans (hbf.mono hbW.size)⟩
  replace hd := Decidable.not_not.1 hd
  have e1 : decide (Fmd n xs ys) = true := decide_eq_true hd
  rw [e1]
  clear e1
  have f1 : Fmd n xs ys := hd
  clear hd
  clear p00 p01 p02 p10 p11 p12 p20 p21 p22
  obtain ⟨p00, p01, p02, _⟩ := B1.cells
  obtain ⟨p10, p11, p12, _⟩ := B2.cells
  obtain ⟨p20, p21, p22, _⟩ := B3.cells
  go_wp2_with fail
  refine (formed_any _ _ _ _ _ _ _ _ hp hq (by omega) (by omega)).mono ?_
  rintro e u5 ⟨rfl, hb5⟩
  replace hx := hx.below hb5
  replace hy := hy.below hb5
  replace hp := hp.below hb5
  replace hq := hq.below hb5
  replace ht := ht.below hb5
  replace hu := hu.below hb5
  replace B1 := B1.below hb5
  replace B2 := B2.below hb5
  replace B3 := B3.below hb5
  replace hbW : Below w.heap.size w u5 := hbW.trans (hb5.mono hbW.size)
  clear hb5
  clear p00 p01 p02 p10 p11 p12 p20 p21 p22
  obtain ⟨p00, p01, p02, _⟩ := B1.cells
  obtain ⟨p10, p11, p12, _⟩ := B2.cells
  obtain ⟨p20, p21, p22, _⟩ := B3.cells
  by_cases hd : ¬ (Fmd m ps qs)
  · have e1 : decide (Fmd m ps qs) = false := decide_eq_false hd
    rw [e1]
    clear e1
    go_wp2_with fail
    refine (awake2_any _ (htab.below hbW)).mono ?_
    rintro e uf ⟨rfl, hbf⟩
    go_wp2
    go_ret
    exact ⟨rfl, hbW.trans (hbf.mono hbW.size)⟩
  replace hd := Decidable.not_not.1 hd
  have e1 : decide (Fmd m ps qs) = true := decide_eq_true hd
  rw [e1]
  clear e1
  have f2 : Fmd m ps qs := hd
  clear hd
  clear p00 p01 p02 p10 p11 p12 p20 p21 p22
  obtain ⟨p00, p01, p02, _⟩ := B1.cells
  obtain ⟨p10, p11, p12, _⟩ := B2.cells
  obtain ⟨p20, p21, p22, _⟩ := B3.cells
  go_wp2_with fail
  refine (formed_any _ _ _ _ _ _ _ _ ht hu (by omega) (by omega)).mono ?_
  rintro e u6 ⟨rfl, hb6⟩
  replace hx := hx.below hb6
  replace hy := hy.below hb6
  replace hp := hp.below hb6
  replace hq := hq.below hb6
  replace ht := ht.below hb6
  replace hu := hu.below hb6
  replace B1 := B1.below hb6
  replace B2 := B2.below hb6
  replace B3 := B3.below hb6
  replace hbW : Below w.heap.size w u6 := hbW.trans (hb6.mono hbW.size)
  clear hb6
  clear p00 p01 p02 p10 p11 p12 p20 p21 p22
  obtain ⟨p00, p01, p02, _⟩ := B1.cells
  obtain ⟨p10, p11, p12, _⟩ := B2.cells
  obtain ⟨p20, p21, p22, _⟩ := B3.cells
  by_cases hd : ¬ (Fmd o ts us)
  · have e1 : decide (Fmd o ts us) = false := decide_eq_false hd
    rw [e1]
    clear e1
    go_wp2_with fail
    refine (awake2_any _ (htab.below hbW)).mono ?_
    rintro e uf ⟨rfl, hbf⟩
    go_wp2
    go_ret
    exact ⟨rfl, hbW.trans (hbf.mono hbW.size)⟩
  replace hd := Decidable.not_not.1 hd
  have e1 : decide (Fmd o ts us) = true := decide_eq_true hd
  rw [e1]
  clear e1
  have f3 : Fmd o ts us := hd
  clear hd
  obtain ⟨qx, hX⟩ : ∃ q, Ct u6 (.agg #[.bool n, .slice a xs.length c, .slice a' ys.length c']) 4 q := ⟨_, Fr.ct ⟨_, _, _, ⟨_, _, _, _, rfl, hx, hy⟩, f1, l1, l2, rfl⟩⟩
  obtain ⟨qy, hY⟩ : ∃ q, Ct u6 (.agg #[.bool m, .slice b ps.length d, .slice b' qs.length d']) 4 q := ⟨_, Fr.ct ⟨_, _, _, ⟨_, _, _, _, rfl, hp, hq⟩, f2, l3, l4, rfl⟩⟩
  obtain ⟨qz, hZ⟩ : ∃ q, Ct u6 (.agg #[.bool o, .slice f ts.length g, .slice f' us.length g']) 4 q := ⟨_, Fr.ct ⟨_, _, _, ⟨_, _, _, _, rfl, ht, hu⟩, f3, l5, l6, rfl⟩⟩
  clear hx hy hp hq ht hu f1 f2 f3
  clear p00 p01 p02 p10 p11 p12 p20 p21 p22
  obtain ⟨p00, p01, p02, _⟩ := B1.cells
  obtain ⟨p10, p11, p12, _⟩ := B2.cells
  obtain ⟨p20, p21, p22, _⟩ := B3.cells
  go_wp2_with fail
  have st : Stg 0 := rfl
  go_region_held3 (fun u => u.cell? ⟨w.heap.size, 0, none⟩ = some (.bool n) ∧ u.cell? ⟨w.heap.size, 1, none⟩ = some (.slice a xs.length c) ∧ u.cell? ⟨w.heap.size, 2, none⟩ = some (.slice a' ys.length c') ∧ u.cell? ⟨w.heap.size + 1, 0, none⟩ = some (.bool m) ∧ u.cell? ⟨w.heap.size + 1, 1, none⟩ = some (.slice b ps.length d) ∧ u.cell? ⟨w.heap.size + 1, 2, none⟩ = some (.slice b' qs.length d') ∧ u.cell? ⟨w.heap.size + 1 + 1, 0, none⟩ = some (.bool o) ∧ u.cell? ⟨w.heap.size + 1 + 1, 1, none⟩ = some (.slice f ts.length g) ∧ u.cell? ⟨w.heap.size + 1 + 1, 2, none⟩ = some (.slice f' us.length g')) (go_keep)
    (first
      | (go_at_call 15
         have _sg : Stg 0 := st
         refine (qadd_any 4 4 (qx) (qy) _ _ _ (hX.below Below.drew1) (hY.below Below.drew1) (by decide) (by decide) (by decide) (by decide)).mono ?_
         rintro e u7 ⟨va1, rfl, hFa1, hb7⟩
         replace hb7 : Below u6.heap.size u6 u7 := Below.drew1.trans hb7
         replace hX := hX.below hb7
         replace hY := hY.below hb7
         replace hZ := hZ.below hb7
         replace B1 := B1.below hb7
         replace B2 := B2.below hb7
         replace B3 := B3.below hb7
         replace hbW : Below w.heap.size w u7 := hbW.trans (hb7.mono hbW.size)
         have ha1 := hFa1.ct
         clear hFa1 hb7
         clear st _sg
         have st : Stg 1 := rfl
         clear p00 p01 p02 p10 p11 p12 p20 p21 p22
         obtain ⟨p00, p01, p02, _⟩ := B1.cells
         obtain ⟨p10, p11, p12, _⟩ := B2.cells
         obtain ⟨p20, p21, p22, _⟩ := B3.cells)
      | (go_at_call 15
         have _sg : Stg 1 := st
         refine (qadd_any 4 4 (qy) (qx) _ _ _ hY hX (by decide) (by decide) (by decide) (by decide)).mono ?_
         rintro e u8 ⟨va2, rfl, hFa2, hb8⟩
         replace hX := hX.below hb8
         replace hY := hY.below hb8
         replace hZ := hZ.below hb8
         replace ha1 := ha1.below hb8
         replace B1 := B1.below hb8
         replace B2 := B2.below hb8
         replace B3 := B3.below hb8
         replace hbW : Below w.heap.size w u8 := hbW.trans (hb8.mono hbW.size)
         have ha2 := hFa2.ct
         clear hFa2 hb8
         clear st _sg
         have st : Stg 2 := rfl
         clear p00 p01 p02 p10 p11 p12 p20 p21 p22
         obtain ⟨p00, p01, p02, _⟩ := B1.cells
         obtain ⟨p10, p11, p12, _⟩ := B2.cells
         obtain ⟨p20, p21, p22, _⟩ := B3.cells)
      | (go_at_call 14
         have _sg : Stg 2 := st
         refine (qcmp_any 9 9 ((qx) + (qy)) ((qy) + (qx)) _ _ _ ha1 ha2 (by decide) (by decide) (by decide) (by decide)).mono ?_
         rintro e u9 ⟨rfl, hb9⟩
         rw [sgn_same (q := (qx) + (qy)) (r := (qy) + (qx)) (by grind)]
         replace hX := hX.below hb9
         replace hY := hY.below hb9
         replace hZ := hZ.below hb9
         replace ha1 := ha1.below hb9
         replace ha2 := ha2.below hb9
         replace B1 := B1.below hb9
         replace B2 := B2.below hb9
         replace B3 := B3.below hb9
         replace hbW : Below w.heap.size w u9 := hbW.trans (hb9.mono hbW.size)
         clear hb9
         clear st _sg
         have st : Stg 3 := rfl
         clear p00 p01 p02 p10 p11 p12 p20 p21 p22
         obtain ⟨p00, p01, p02, _⟩ := B1.cells
         obtain ⟨p10, p11, p12, _⟩ := B2.cells
         obtain ⟨p20, p21, p22, _⟩ := B3.cells)
      | (go_at_call 16
         have _sg : Stg 3 := st
         refine (qmul_any 4 4 (qx) (qy) _ _ _ hX hY (by decide) (by decide) (by decide) (by decide)).mono ?_
         rintro e u10 ⟨vm1, rfl, hFm1, hb10⟩
         replace hX := hX.below hb10
         replace hY := hY.below hb10
         replace hZ := hZ.below hb10
         replace ha1 := ha1.below hb10
         replace ha2 := ha2.below hb10
         replace B1 := B1.below hb10
         replace B2 := B2.below hb10
         replace B3 := B3.below hb10
         replace hbW : Below w.heap.size w u10 := hbW.trans (hb10.mono hbW.size)
         have hm1 := hFm1.ct
         clear hFm1 hb10
         clear st _sg
         have st : Stg 4 := rfl
         clear p00 p01 p02 p10 p11 p12 p20 p21 p22
         obtain ⟨p00, p01, p02, _⟩ := B1.cells
         obtain ⟨p10, p11, p12, _⟩ := B2.cells
         obtain ⟨p20, p21, p22, _⟩ := B3.cells)
      | (go_at_call 16
         have _sg : Stg 4 := st
         refine (qmul_any 4 4 (qy) (qx) _ _ _ hY hX (by decide) (by decide) (by decide) (by decide)).mono ?_
         rintro e u11 ⟨vm2, rfl, hFm2, hb11⟩
         replace hX := hX.below hb11
         replace hY := hY.below hb11
         replace hZ := hZ.below hb11
         replace ha1 := ha1.below hb11
         replace ha2 := ha2.below hb11
         replace hm1 := hm1.below hb11
         replace B1 := B1.below hb11
         replace B2 := B2.below hb11
         replace B3 := B3.below hb11
         replace hbW : Below w.heap.size w u11 := hbW.trans (hb11.mono hbW.size)
         have hm2 := hFm2.ct
         clear hFm2 hb11
         clear st _sg
         have st : Stg 5 := rfl
         clear p00 p01 p02 p10 p11 p12 p20 p21 p22
         obtain ⟨p00, p01, p02, _⟩ := B1.cells
         obtain ⟨p10, p11, p12, _⟩ := B2.cells
         obtain ⟨p20, p21, p22, _⟩ := B3.cells)
      | (go_at_call 14
         have _sg : Stg 5 := st
         refine (qcmp_any 8 8 ((qx) * (qy)) ((qy) * (qx)) _ _ _ hm1 hm2 (by decide) (by decide) (by decide) (by decide)).mono ?_
         rintro e u12 ⟨rfl, hb12⟩
         rw [sgn_same (q := (qx) * (qy)) (r := (qy) * (qx)) (by grind)]
         replace hX := hX.below hb12
         replace hY := hY.below hb12
         replace hZ := hZ.below hb12
         replace ha1 := ha1.below hb12
         replace ha2 := ha2.below hb12
         replace hm1 := hm1.below hb12
         replace hm2 := hm2.below hb12
         replace B1 := B1.below hb12
         replace B2 := B2.below hb12
         replace B3 := B3.below hb12
         replace hbW : Below w.heap.size w u12 := hbW.trans (hb12.mono hbW.size)
         clear hb12
         clear st _sg
         have st : Stg 6 := rfl
         clear p00 p01 p02 p10 p11 p12 p20 p21 p22
         obtain ⟨p00, p01, p02, _⟩ := B1.cells
         obtain ⟨p10, p11, p12, _⟩ := B2.cells
         obtain ⟨p20, p21, p22, _⟩ := B3.cells)
      | (go_at_call 15
         have _sg : Stg 6 := st
         refine (qadd_any 4 4 (qx) (qy) _ _ _ hX hY (by decide) (by decide) (by decide) (by decide)).mono ?_
         rintro e u13 ⟨va3, rfl, hFa3, hb13⟩
         replace hX := hX.below hb13
         replace hY := hY.below hb13
         replace hZ := hZ.below hb13
         replace ha1 := ha1.below hb13
         replace ha2 := ha2.below hb13
         replace hm1 := hm1.below hb13
         replace hm2 := hm2.below hb13
         replace B1 := B1.below hb13
         replace B2 := B2.below hb13
         replace B3 := B3.below hb13
         replace hbW : Below w.heap.size w u13 := hbW.trans (hb13.mono hbW.size)
         have ha3 := hFa3.ct
         clear hFa3 hb13
         clear st _sg
         have st : Stg 7 := rfl
         clear p00 p01 p02 p10 p11 p12 p20 p21 p22
         obtain ⟨p00, p01, p02, _⟩ := B1.cells
         obtain ⟨p10, p11, p12, _⟩ := B2.cells
         obtain ⟨p20, p21, p22, _⟩ := B3.cells)
      | (go_at_call 17
         have _sg : Stg 7 := st
         refine (qsub_any 9 4 ((qx) + (qy)) (qy) _ _ _ ha3 hY (by decide) (by decide) (by decide) (by decide)).mono ?_
         rintro e u14 ⟨vs1, rfl, hFs1, hb14⟩
         replace hX := hX.below hb14
         replace hY := hY.below hb14
         replace hZ := hZ.below hb14
         replace ha1 := ha1.below hb14
         replace ha2 := ha2.below hb14
         replace hm1 := hm1.below hb14
         replace hm2 := hm2.below hb14
         replace ha3 := ha3.below hb14
         replace B1 := B1.below hb14
         replace B2 := B2.below hb14
         replace B3 := B3.below hb14
         replace hbW : Below w.heap.size w u14 := hbW.trans (hb14.mono hbW.size)
         have hs1 := hFs1.ct
         clear hFs1 hb14
         clear st _sg
         have st : Stg 8 := rfl
         clear p00 p01 p02 p10 p11 p12 p20 p21 p22
         obtain ⟨p00, p01, p02, _⟩ := B1.cells
         obtain ⟨p10, p11, p12, _⟩ := B2.cells
         obtain ⟨p20, p21, p22, _⟩ := B3.cells)
      | (go_at_call 14
         have _sg : Stg 8 := st
         refine (qcmp_any 14 4 (((qx) + (qy)) - (qy)) (qx) _ _ _ hs1 hX (by decide) (by decide) (by decide) (by decide)).mono ?_
         rintro e u15 ⟨rfl, hb15⟩
         rw [sgn_same (q := ((qx) + (qy)) - (qy)) (r := qx) (by grind)]
         replace hX := hX.below hb15
         replace hY := hY.below hb15
         replace hZ := hZ.below hb15
         replace ha1 := ha1.below hb15
         replace ha2 := ha2.below hb15
         replace hm1 := hm1.below hb15
         replace hm2 := hm2.below hb15
         replace ha3 := ha3.below hb15
         replace hs1 := hs1.below hb15
         replace B1 := B1.below hb15
         replace B2 := B2.below hb15
         replace B3 := B3.below hb15
         replace hbW : Below w.heap.size w u15 := hbW.trans (hb15.mono hbW.size)
         clear hb15
         clear st _sg
         have st : Stg 9 := rfl
         clear p00 p01 p02 p10 p11 p12 p20 p21 p22
         obtain ⟨p00, p01, p02, _⟩ := B1.cells
         obtain ⟨p10, p11, p12, _⟩ := B2.cells
         obtain ⟨p20, p21, p22, _⟩ := B3.cells))
  clear st
  clear ha1 ha2 hm1 hm2 ha3 hs1
  go_wp2_with fail
  have st : Stg 0 := rfl
  go_region_held3 (fun u => u.cell? ⟨w.heap.size, 0, none⟩ = some (.bool n) ∧ u.cell? ⟨w.heap.size, 1, none⟩ = some (.slice a xs.length c) ∧ u.cell? ⟨w.heap.size, 2, none⟩ = some (.slice a' ys.length c') ∧ u.cell? ⟨w.heap.size + 1, 0, none⟩ = some (.bool m) ∧ u.cell? ⟨w.heap.size + 1, 1, none⟩ = some (.slice b ps.length d) ∧ u.cell? ⟨w.heap.size + 1, 2, none⟩ = some (.slice b' qs.length d') ∧ u.cell? ⟨w.heap.size + 1 + 1, 0, none⟩ = some (.bool o) ∧ u.cell? ⟨w.heap.size + 1 + 1, 1, none⟩ = some (.slice f ts.length g) ∧ u.cell? ⟨w.heap.size + 1 + 1, 2, none⟩ = some (.slice f' us.length g')) (go_keep)
    (first
      | (go_at_call 15
         have _sg : Stg 0 := st
         refine (qadd_any 4 4 (qx) (qy) _ _ _ (hX.below Below.drew1) (hY.below Below.drew1) (by decide) (by decide) (by decide) (by decide)).mono ?_
         rintro e u16 ⟨va1, rfl, hFa1, hb16⟩
         replace hb16 : Below u15.heap.size u15 u16 := Below.drew1.trans hb16
         replace hX := hX.below hb16
         replace hY := hY.below hb16
         replace hZ := hZ.below hb16
         replace B1 := B1.below hb16
         replace B2 := B2.below hb16
         replace B3 := B3.below hb16
         replace hbW : Below w.heap.size w u16 := hbW.trans (hb16.mono hbW.size)
         have ha1 := hFa1.ct
         clear hFa1 hb16
         clear st _sg
         have st : Stg 1 := rfl
         clear p00 p01 p02 p10 p11 p12 p20 p21 p22
         obtain ⟨p00, p01, p02, _⟩ := B1.cells
         obtain ⟨p10, p11, p12, _⟩ := B2.cells
         obtain ⟨p20, p21, p22, _⟩ := B3.cells)
      | (go_at_call 15
         have _sg : Stg 1 := st
         refine (qadd_any 9 4 ((qx) + (qy)) (qz) _ _ _ ha1 hZ (by decide) (by decide) (by decide) (by decide)).mono ?_
         rintro e u17 ⟨va2, rfl, hFa2, hb17⟩
         replace hX := hX.below hb17
         replace hY := hY.below hb17
         replace hZ := hZ.below hb17
         replace ha1 := ha1.below hb17
         replace B1 := B1.below hb17
         replace B2 := B2.below hb17
         replace B3 := B3.below hb17
         replace hbW : Below w.heap.size w u17 := hbW.trans (hb17.mono hbW.size)
         have ha2 := hFa2.ct
         clear hFa2 hb17
         clear st _sg
         have st : Stg 2 := rfl
         clear p00 p01 p02 p10 p11 p12 p20 p21 p22
         obtain ⟨p00, p01, p02, _⟩ := B1.cells
         obtain ⟨p10, p11, p12, _⟩ := B2.cells
         obtain ⟨p20, p21, p22, _⟩ := B3.cells)
      | (go_at_call 15
         have _sg : Stg 2 := st
         refine (qadd_any 4 4 (qy) (qz) _ _ _ hY hZ (by decide) (by decide) (by decide) (by decide)).mono ?_
         rintro e u18 ⟨va3, rfl, hFa3, hb18⟩
         replace hX := hX.below hb18
         replace hY := hY.below hb18
         replace hZ := hZ.below hb18
         replace ha1 := ha1.below hb18
         replace ha2 := ha2.below hb18
         replace B1 := B1.below hb18
         replace B2 := B2.below hb18
         replace B3 := B3.below hb18
         replace hbW : Below w.heap.size w u18 := hbW.trans (hb18.mono hbW.size)
         have ha3 := hFa3.ct
         clear hFa3 hb18
         clear st _sg
         have st : Stg 3 := rfl
         clear p00 p01 p02 p10 p11 p12 p20 p21 p22
         obtain ⟨p00, p01, p02, _⟩ := B1.cells
         obtain ⟨p10, p11, p12, _⟩ := B2.cells
         obtain ⟨p20, p21, p22, _⟩ := B3.cells)
      | (go_at_call 15
         have _sg : Stg 3 := st
         refine (qadd_any 4 9 (qx) ((qy) + (qz)) _ _ _ hX ha3 (by decide) (by decide) (by decide) (by decide)).mono ?_
         rintro e u19 ⟨va4, rfl, hFa4, hb19⟩
         replace hX := hX.below hb19
         replace hY := hY.below hb19
         replace hZ := hZ.below hb19
         replace ha1 := ha1.below hb19
         replace ha2 := ha2.below hb19
         replace ha3 := ha3.below hb19
         replace B1 := B1.below hb19
         replace B2 := B2.below hb19
         replace B3 := B3.below hb19
         replace hbW : Below w.heap.size w u19 := hbW.trans (hb19.mono hbW.size)
         have ha4 := hFa4.ct
         clear hFa4 hb19
         clear st _sg
         have st : Stg 4 := rfl
         clear p00 p01 p02 p10 p11 p12 p20 p21 p22
         obtain ⟨p00, p01, p02, _⟩ := B1.cells
         obtain ⟨p10, p11, p12, _⟩ := B2.cells
         obtain ⟨p20, p21, p22, _⟩ := B3.cells)
      | (go_at_call 14
         have _sg : Stg 4 := st
         refine (qcmp_any 14 14 (((qx) + (qy)) + (qz)) ((qx) + ((qy) + (qz))) _ _ _ ha2 ha4 (by decide) (by decide) (by decide) (by decide)).mono ?_
         rintro e u20 ⟨rfl, hb20⟩
         rw [sgn_same (q := ((qx) + (qy)) + (qz)) (r := (qx) + ((qy) + (qz))) (by grind)]
         replace hX := hX.below hb20
         replace hY := hY.below hb20
         replace hZ := hZ.below hb20
         replace ha1 := ha1.below hb20
         replace ha2 := ha2.below hb20
         replace ha3 := ha3.below hb20
         replace ha4 := ha4.below hb20
         replace B1 := B1.below hb20
         replace B2 := B2.below hb20
         replace B3 := B3.below hb20
         replace hbW : Below w.heap.size w u20 := hbW.trans (hb20.mono hbW.size)
         clear hb20
         clear st _sg
         have st : Stg 5 := rfl
         clear p00 p01 p02 p10 p11 p12 p20 p21 p22
         obtain ⟨p00, p01, p02, _⟩ := B1.cells
         obtain ⟨p10, p11, p12, _⟩ := B2.cells
         obtain ⟨p20, p21, p22, _⟩ := B3.cells)
      | (go_at_call 15
         have _sg : Stg 5 := st
         refine (qadd_any 4 4 (qy) (qz) _ _ _ hY hZ (by decide) (by decide) (by decide) (by decide)).mono ?_
         rintro e u21 ⟨vb1, rfl, hFb1, hb21⟩
         replace hX := hX.below hb21
         replace hY := hY.below hb21
         replace hZ := hZ.below hb21
         replace ha1 := ha1.below hb21
         replace ha2 := ha2.below hb21
         replace ha3 := ha3.below hb21
         replace ha4 := ha4.below hb21
         replace B1 := B1.below hb21
         replace B2 := B2.below hb21
         replace B3 := B3.below hb21
         replace hbW : Below w.heap.size w u21 := hbW.trans (hb21.mono hbW.size)
         have hb1 := hFb1.ct
         clear hFb1 hb21
         clear st _sg
         have st : Stg 6 := rfl
         clear p00 p01 p02 p10 p11 p12 p20 p21 p22
         obtain ⟨p00, p01, p02, _⟩ := B1.cells
         obtain ⟨p10, p11, p12, _⟩ := B2.cells
         obtain ⟨p20, p21, p22, _⟩ := B3.cells)
      | (go_at_call 16
         have _sg : Stg 6 := st
         refine (qmul_any 4 9 (qx) ((qy) + (qz)) _ _ _ hX hb1 (by decide) (by decide) (by decide) (by decide)).mono ?_
         rintro e u22 ⟨vm1, rfl, hFm1, hb22⟩
         replace hX := hX.below hb22
         replace hY := hY.below hb22
         replace hZ := hZ.below hb22
         replace ha1 := ha1.below hb22
         replace ha2 := ha2.below hb22
         replace ha3 := ha3.below hb22
         replace ha4 := ha4.below hb22
         replace hb1 := hb1.below hb22
         replace B1 := B1.below hb22
         replace B2 := B2.below hb22
         replace B3 := B3.below hb22
         replace hbW : Below w.heap.size w u22 := hbW.trans (hb22.mono hbW.size)
         have hm1 := hFm1.ct
         clear hFm1 hb22
         clear st _sg
         have st : Stg 7 := rfl
         clear p00 p01 p02 p10 p11 p12 p20 p21 p22
         obtain ⟨p00, p01, p02, _⟩ := B1.cells
         obtain ⟨p10, p11, p12, _⟩ := B2.cells
         obtain ⟨p20, p21, p22, _⟩ := B3.cells)
      | (go_at_call 16
         have _sg : Stg 7 := st
         refine (qmul_any 4 4 (qx) (qy) _ _ _ hX hY (by decide) (by decide) (by decide) (by decide)).mono ?_
         rintro e u23 ⟨vm2, rfl, hFm2, hb23⟩
         replace hX := hX.below hb23
         replace hY := hY.below hb23
         replace hZ := hZ.below hb23
         replace ha1 := ha1.below hb23
         replace ha2 := ha2.below hb23
         replace ha3 := ha3.below hb23
         replace ha4 := ha4.below hb23
         replace hb1 := hb1.below hb23
         replace hm1 := hm1.below hb23
         replace B1 := B1.below hb23
         replace B2 := B2.below hb23
         replace B3 := B3.below hb23
         replace hbW : Below w.heap.size w u23 := hbW.trans (hb23.mono hbW.size)
         have hm2 := hFm2.ct
         clear hFm2 hb23
         clear st _sg
         have st : Stg 8 := rfl
         clear p00 p01 p02 p10 p11 p12 p20 p21 p22
         obtain ⟨p00, p01, p02, _⟩ := B1.cells
         obtain ⟨p10, p11, p12, _⟩ := B2.cells
         obtain ⟨p20, p21, p22, _⟩ := B3.cells)
      | (go_at_call 16
         have _sg : Stg 8 := st
         refine (qmul_any 4 4 (qx) (qz) _ _ _ hX hZ (by decide) (by decide) (by decide) (by decide)).mono ?_
         rintro e u24 ⟨vm3, rfl, hFm3, hb24⟩
         replace hX := hX.below hb24
         replace hY := hY.below hb24
         replace hZ := hZ.below hb24
         replace ha1 := ha1.below hb24
         replace ha2 := ha2.below hb24
         replace ha3 := ha3.below hb24
         replace ha4 := ha4.below hb24
         replace hb1 := hb1.below hb24
         replace hm1 := hm1.below hb24
         replace hm2 := hm2.below hb24
         replace B1 := B1.below hb24
         replace B2 := B2.below hb24
         replace B3 := B3.below hb24
         replace hbW : Below w.heap.size w u24 := hbW.trans (hb24.mono hbW.size)
         have hm3 := hFm3.ct
         clear hFm3 hb24
         clear st _sg
         have st : Stg 9 := rfl
         clear p00 p01 p02 p10 p11 p12 p20 p21 p22
         obtain ⟨p00, p01, p02, _⟩ := B1.cells
         obtain ⟨p10, p11, p12, _⟩ := B2.cells
         obtain ⟨p20, p21, p22, _⟩ := B3.cells)
      | (go_at_call 15
         have _sg : Stg 9 := st
         refine (qadd_any 8 8 ((qx) * (qy)) ((qx) * (qz)) _ _ _ hm2 hm3 (by decide) (by decide) (by decide) (by decide)).mono ?_
         rintro e u25 ⟨va5, rfl, hFa5, hb25⟩
         replace hX := hX.below hb25
         replace hY := hY.below hb25
         replace hZ := hZ.below hb25
         replace ha1 := ha1.below hb25
         replace ha2 := ha2.below hb25
         replace ha3 := ha3.below hb25
         replace ha4 := ha4.below hb25
         replace hb1 := hb1.below hb25
         replace hm1 := hm1.below hb25
         replace hm2 := hm2.below hb25
         replace hm3 := hm3.below hb25
         replace B1 := B1.below hb25
         replace B2 := B2.below hb25
         replace B3 := B3.below hb25
         replace hbW : Below w.heap.size w u25 := hbW.trans (hb25.mono hbW.size)
         have ha5 := hFa5.ct
         clear hFa5 hb25
         clear st _sg
         have st : Stg 10 := rfl
         clear p00 p01 p02 p10 p11 p12 p20 p21 p22
         obtain ⟨p00, p01, p02, _⟩ := B1.cells
         obtain ⟨p10, p11, p12, _⟩ := B2.cells
         obtain ⟨p20, p21, p22, _⟩ := B3.cells)
      | (go_at_call 14
         have _sg : Stg 10 := st
         refine (qcmp_any 13 17 ((qx) * ((qy) + (qz))) (((qx) * (qy)) + ((qx) * (qz))) _ _ _ hm1 ha5 (by decide) (by decide) (by decide) (by decide)).mono ?_
         rintro e u26 ⟨rfl, hb26⟩
         rw [sgn_same (q := (qx) * ((qy) + (qz))) (r := ((qx) * (qy)) + ((qx) * (qz))) (by grind)]
         replace hX := hX.below hb26
         replace hY := hY.below hb26
         replace hZ := hZ.below hb26
         replace ha1 := ha1.below hb26
         replace ha2 := ha2.below hb26
         replace ha3 := ha3.below hb26
         replace ha4 := ha4.below hb26
         replace hb1 := hb1.below hb26
         replace hm1 := hm1.below hb26
         replace hm2 := hm2.below hb26
         replace hm3 := hm3.below hb26
         replace ha5 := ha5.below hb26
         replace B1 := B1.below hb26
         replace B2 := B2.below hb26
         replace B3 := B3.below hb26
         replace hbW : Below w.heap.size w u26 := hbW.trans (hb26.mono hbW.size)
         clear hb26
         clear st _sg
         have st : Stg 11 := rfl
         clear p00 p01 p02 p10 p11 p12 p20 p21 p22
         obtain ⟨p00, p01, p02, _⟩ := B1.cells
         obtain ⟨p10, p11, p12, _⟩ := B2.cells
         obtain ⟨p20, p21, p22, _⟩ := B3.cells))
  clear st
  clear ha1 ha2 ha3 ha4 hb1 hm1 hm2 hm3 ha5
  go_wp2_with fail
  clear p00 p01 p02 p10 p11 p12 p20 p21 p22
  clear hZ
  go_cut [7, 8] from 9 (fun s7 s8 wx => ∃ bp n1 a1 x1 c1 b1 y1 d1, s7 = .pointer (some ⟨bp, 0, none⟩) ∧ s8 = .bool (decide (qy ≠ 0)) ∧ Box 30 wx bp (.bool n1) (.slice a1 x1 c1) (.slice b1 y1 d1) ∧ Ct wx (.agg #[.bool n1, .slice a1 x1 c1, .slice b1 y1 d1]) 12 (qx * qy / qy) ∧ Ct wx (.agg #[.bool n, .slice a xs.length c, .slice a' ys.length c']) 4 qx ∧ Ct wx (.agg #[.bool m, .slice b ps.length d, .slice b' qs.length d']) 4 qy ∧ Box 30 wx w.heap.size (.bool n) (.slice a xs.length c) (.slice a' ys.length c') ∧ Box 30 wx (w.heap.size + 1) (.bool m) (.slice b ps.length d) (.slice b' qs.length d') ∧ Below w.heap.size w wx)
  case first =>
    have st : Stg 0 := rfl
    obtain ⟨p10, p11, p12, _⟩ := B1.cells
    obtain ⟨p20, p21, p22, _⟩ := B2.cells
    obtain ⟨p30, p31, p32, _⟩ := B3.cells
    have hlt := B3.lt
    go_region_held3 (fun u => u.cell? ⟨w.heap.size, 0, none⟩ = some (.bool n) ∧ u.cell? ⟨w.heap.size, 1, none⟩ = some (.slice a xs.length c) ∧ u.cell? ⟨w.heap.size, 2, none⟩ = some (.slice a' ys.length c') ∧ u.cell? ⟨w.heap.size + 1, 0, none⟩ = some (.bool m) ∧ u.cell? ⟨w.heap.size + 1, 1, none⟩ = some (.slice b ps.length d) ∧ u.cell? ⟨w.heap.size + 1, 2, none⟩ = some (.slice b' qs.length d') ∧ u.cell? ⟨w.heap.size + 1 + 1, 0, none⟩ = some (.bool o) ∧ u.cell? ⟨w.heap.size + 1 + 1, 1, none⟩ = some (.slice f ts.length g) ∧ u.cell? ⟨w.heap.size + 1 + 1, 2, none⟩ = some (.slice f' us.length g')) (first | (go_keep; done) | (refine ⟨(cell_set3 (by omega)).trans p10, (cell_set3 (by omega)).trans p11, (cell_set3 (by omega)).trans p12, (cell_set3 (by omega)).trans p20, (cell_set3 (by omega)).trans p21, (cell_set3 (by omega)).trans p22, (cell_set3 (by omega)).trans p30, (cell_set3 (by omega)).trans p31, (cell_set3 (by omega)).trans p32⟩))
      (first
      | (go_at_call 16
         have _sg : Stg 0 := st
         refine (qmul_any 4 4 qx qy _ _ _ (hX.below (Below.drew1)) (hY.below (Below.drew1)) (by decide) (by decide) (by decide) (by decide)).mono ?_
         rintro e u30 ⟨vm, rfl, hFm, hb30⟩
         replace hb30 : Below u26.heap.size u26 u30 := Below.drew1.trans hb30
         have hs30 := hb30.size
         replace hX := hX.below hb30
         replace hY := hY.below hb30
         replace B1 := B1.below hb30
         replace B2 := B2.below hb30
         replace B3 := B3.below hb30
         replace hbW : Below w.heap.size w u30 := hbW.trans (hb30.mono hbW.size)
         have hm := hFm.ct
         clear hFm
         clear hb30
         clear p10 p11 p12 p20 p21 p22 p30 p31 p32
         obtain ⟨p10, p11, p12, _⟩ := B1.cells
         obtain ⟨p20, p21, p22, _⟩ := B2.cells
         obtain ⟨p30, p31, p32, _⟩ := B3.cells
         clear st _sg
         have st : Stg 1 := rfl)
      | (go_at_call 16
         have _sg : Stg 0 := st
         refine (qmul_any 4 4 qx qy _ _ _ (hX.below (al1d _)) (hY.below (al1d _)) (by decide) (by decide) (by decide) (by decide)).mono ?_
         rintro e u30 ⟨vm, rfl, hFm, hb30⟩
         obtain ⟨K1, hb30⟩ := after1d hb30
         have hs30 := hb30.size
         replace hX := hX.below hb30
         replace hY := hY.below hb30
         replace B1 := B1.below hb30
         replace B2 := B2.below hb30
         replace B3 := B3.below hb30
         replace hbW : Below w.heap.size w u30 := hbW.trans (hb30.mono hbW.size)
         have hm := hFm.ct
         clear hFm
         clear hb30
         clear p10 p11 p12 p20 p21 p22 p30 p31 p32
         obtain ⟨p10, p11, p12, _⟩ := B1.cells
         obtain ⟨p20, p21, p22, _⟩ := B2.cells
         obtain ⟨p30, p31, p32, _⟩ := B3.cells
         clear st _sg
         have st : Stg 1 := rfl)
      | (go_at_call 18
         have _sg : Stg 1 := st
         refine (qquo_any 8 4 (qx * qy) qy _ _ _ hm hY (by decide) (by decide) (by decide) (by decide)).mono ?_
         rintro e u31 ⟨vt, rfl, hFt, hb31⟩
         try replace K1 := K1.below hb31
         replace hX := hX.below hb31
         replace hY := hY.below hb31
         replace B1 := B1.below hb31
         replace B2 := B2.below hb31
         replace B3 := B3.below hb31
         replace hbW : Below w.heap.size w u31 := hbW.trans (hb31.mono hbW.size)
         have ht := hFt.ct
         obtain ⟨n1, x1, y1, ⟨a1, c1, b1, d1, rfl, _, _⟩, _⟩ := hFt
         clear hb31 hm
         try obtain ⟨k0, k1, k2, k3, k4, k5⟩ := K1.cells
         try have hk := K1.lt
         clear p10 p11 p12 p20 p21 p22 p30 p31 p32
         obtain ⟨p10, p11, p12, _⟩ := B1.cells
         obtain ⟨p20, p21, p22, _⟩ := B2.cells
         obtain ⟨p30, p31, p32, _⟩ := B3.cells
         clear st _sg
         have st : Stg 2 := rfl)
      | (go_at_call 18
         have _sg : Stg 1 := st
         refine (qquo_any 8 4 (qx * qy) qy _ _ _ (hm.below (al1 _)) (hY.below (al1 _)) (by decide) (by decide) (by decide) (by decide)).mono ?_
         rintro e u31 ⟨vt, rfl, hFt, hb31⟩
         obtain ⟨K1, hb31⟩ := after1 hb31
         replace hX := hX.below hb31
         replace hY := hY.below hb31
         replace B1 := B1.below hb31
         replace B2 := B2.below hb31
         replace B3 := B3.below hb31
         replace hbW : Below w.heap.size w u31 := hbW.trans (hb31.mono hbW.size)
         have ht := hFt.ct
         obtain ⟨n1, x1, y1, ⟨a1, c1, b1, d1, rfl, _, _⟩, _⟩ := hFt
         clear hb31 hm
         obtain ⟨k0, k1, k2, k3, k4, k5⟩ := K1.cells
         have hk := K1.lt
         clear p10 p11 p12 p20 p21 p22 p30 p31 p32
         obtain ⟨p10, p11, p12, _⟩ := B1.cells
         obtain ⟨p20, p21, p22, _⟩ := B2.cells
         obtain ⟨p30, p31, p32, _⟩ := B3.cells
         clear st _sg
         have st : Stg 2 := rfl))
    all_goals
      go_wp2_with fail
      go_meet
      have hs31 : w.heap.size + 1 + 1 < u31.heap.size := B3.lt
      first
        | (have s := sto_set K1 (.bool n1) (.slice a1 x1.length c1) (.slice b1 y1.length d1)
           exact ⟨_, _, _, _, _, _, _, _, rfl, (by simp), s.1, ht.sto s, hX.sto s, hY.sto s, s.2.2.2 _ _ _ _ _ (by omega) B1, s.2.2.2 _ _ _ _ _ (by omega) B2, s.2.1 _ _ hbW (by omega)⟩)
        | (have s := sto_new 30 u31 (.bool n1) (.slice a1 x1.length c1) (.slice b1 y1.length d1)
           exact ⟨_, _, _, _, _, _, _, _, rfl, (by simp), s.1, ht.sto s, hX.sto s, hY.sto s, s.2.2.2 _ _ _ _ _ (by omega) B1, s.2.2.2 _ _ _ _ _ (by omega) B2, s.2.1 _ _ hbW (by omega)⟩)
        | trace_state
  case rest =>
  obtain ⟨bp, n1, a1, x1, c1, b1, y1, d1, rfl, rfl, Bq, hQ, hX, hY, B1, B2, hbW⟩ := hcut
  obtain ⟨p10, p11, p12, _⟩ := B1.cells
  obtain ⟨p20, p21, p22, _⟩ := B2.cells
  obtain ⟨q0, q1, q2, _⟩ := Bq.cells
  go_wp2_with fail
  refine (qsign_any 4 qy _ _ hY (by decide) (by decide)).mono ?_
  rintro e u40 ⟨rfl, hb40⟩
  replace hX := hX.below hb40
  replace hQ := hQ.below hb40
  replace B1 := B1.below hb40
  replace Bq := Bq.below hb40
  replace hbW : Below w.heap.size w u40 := hbW.trans (hb40.mono hbW.size)
  clear p10 p11 p12 p20 p21 p22 q0 q1 q2 hb40
  obtain ⟨p10, p11, p12, _⟩ := B1.cells
  obtain ⟨q0, q1, q2, _⟩ := Bq.cells
  by_cases h0 : qy = 0
  · have e1 : decide (qy ≠ 0) = false := by simp [h0]
    have e2 : sgnQ qy = 0 := sgnQ_zero.2 h0
    rw [e1, e2]
    go_wp2
    go_ret
    exact ⟨rfl, hbW⟩
  · have e1 : decide (qy ≠ 0) = true := by simp [h0]
    have e2 : (sgnQ qy != 0) = true := by simp; exact fun h => h0 (sgnQ_zero.1 h)
    have HQ : Hid (qx * qy / qy = qx) := by show _ = _; grind
    generalize sgnQ qy = sq at e2 ⊢
    rw [e1]
    clear e1
    go_wp2_with fail
    refine (qcmp_any 12 4 _ _ _ _ _ hQ hX (by decide) (by decide) (by decide) (by decide)).mono ?_
    rintro e u41 ⟨rfl, hb41⟩
    rw [sgn_same HQ.out]
    replace hbW : Below w.heap.size w u41 := hbW.trans (hb41.mono hbW.size)
    go_wp2
    go_ret
    exact ⟨rfl, hbW⟩

end Go.Proofs.YtefdkajjdaplbaaDoor
