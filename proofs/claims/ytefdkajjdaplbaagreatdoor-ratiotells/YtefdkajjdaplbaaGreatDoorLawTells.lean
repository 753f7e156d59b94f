/-
  foundrylaw02.RatioTells: the walk.
-/
import Derived.Test.YtefdkajjdaplbaaGreatDoorS5
import Derived.Test.YtefdkajjdaplbaaGreatDoorQB
namespace Go.Proofs.YtefdkajjdaplbaaGreatDoor
open Go.RowKit Classical
set_option linter.unusedSimpArgs false
set_option linter.unusedVariables false

set_option maxHeartbeats 8000000 in
set_option maxRecDepth 100000 in
theorem walkRatioTells (n : Bool) (a a' : Option Addr) (c c' : Nat) (xs ys : List Nat) (z d : Int) (w : World)
    (hx : Rd w a c xs) (hy : Rd w a' c' ys) (wz : (Lit.int .i64 z).wf = true) (wd : (Lit.int .i64 d).wf = true) (htab : Pow w) :
    Calls Tryz.prog 4 #[.agg #[.bool n, .slice a xs.length c, .slice a' ys.length c'], .int .i64 z, .int .i64 d] w fun e w' => e = .returned (.bool true) ∧ Below w.heap.size w w' := by
  have z1 : xs.length ≤ 9223372036854775807 := by have := hx.le; have := hx.cap; unfold maxLen at this; omega
  have z2 : ys.length ≤ 9223372036854775807 := by have := hy.le; have := hy.cap; unfold maxLen at this; omega
  have hz := wf_i64_bounds wz
  have hd := wf_i64_bounds wd
  clear wz wd
  go_enter Tryz.func4, Tryz.ntmps4
  go_wp2_with fail
  refine (awake2_any _ (htab.below (al1 _))).mono ?_
  rintro e u1 ⟨rfl, hb1⟩
  replace hx := (hx.below (al1 _)).below hb1
  replace hy := (hy.below (al1 _)).below hb1
  obtain ⟨B1, hbW⟩ := after1 hb1
  clear hb1
  obtain ⟨p00, p01, p02, _⟩ := B1.cells
  go_wp2_with fail
  refine (few2_any _ _ _ _ _ _ _ _ _ _ _ _ _ _ _ z1 z2 z1 z2).mono ?_
  rintro e u2 ⟨rfl, hb2⟩
  replace hx := hx.below hb2
  replace hy := hy.below hb2
  replace B1 := B1.below hb2
  replace hbW : Below w.heap.size w u2 := hbW.trans (hb2.mono hbW.size)
  clear hb2 z1 z2
  clear p00 p01 p02
  obtain ⟨p00, p01, p02, _⟩ := B1.cells
  by_cases hf : ¬ (xs.length ≤ 4 ∧ ys.length ≤ 4 ∧ xs.length ≤ 4 ∧ ys.length ≤ 4)
  · have e1 : decide (xs.length ≤ 4 ∧ ys.length ≤ 4 ∧ xs.length ≤ 4 ∧ ys.length ≤ 4) = false := decide_eq_false hf
    rw [e1]
    clear e1
    go_wp2_with fail
    refine (awake2_any _ (htab.below hbW)).mono ?_
    rintro e uf ⟨rfl, hbf⟩
    go_wp2
    go_ret
    exact ⟨rfl, hbW.trans (hbf.mono hbW.size)⟩
  replace hf := Decidable.not_not.1 hf
  have e1 : decide (xs.length ≤ 4 ∧ ys.length ≤ 4 ∧ xs.length ≤ 4 ∧ ys.length ≤ 4) = true := decide_eq_true hf
  rw [e1]
  clear e1
  obtain ⟨l1, l2, _, _⟩ := hf
  obtain ⟨qx, hqx⟩ : ∃ q, q = if Fmd n xs ys then qv n xs ys else 0 := ⟨_, rfl⟩
  have hX : Ct u2 (.agg #[.bool n, .slice a xs.length c, .slice a' ys.length c']) 4 qx := ⟨_, _, _, ⟨_, _, _, _, rfl, hx, hy⟩, l1, l2, hqx⟩
  clear hqx
  go_wp2_with fail
  refine (plain2_any _ _ _ _ _ _ _ _ hx hy).mono ?_
  rintro e u3 ⟨rfl, hb3⟩
  replace hx := hx.below hb3
  replace hy := hy.below hb3
  replace hX := hX.below hb3
  replace B1 := B1.below hb3
  replace hbW : Below w.heap.size w u3 := hbW.trans (hb3.mono hbW.size)
  clear hb3
  clear p00 p01 p02
  obtain ⟨p00, p01, p02, _⟩ := (B1.alloc (.cells #[.bool n, .slice a xs.length c, .slice a' ys.length c'] 30)).cells
  go_wp2_with fail
  refine (qfloor_any 4 qx _ _ (hX.below (al1 _)) (by decide) (by decide)).mono ?_
  rintro e u4 ⟨rfl, hb4⟩
  obtain ⟨A7, hb4⟩ := after1 hb4
  replace hx := hx.below hb4
  replace hy := hy.below hb4
  replace hX := hX.below hb4
  replace B1 := B1.below hb4
  replace hbW : Below w.heap.size w u4 := hbW.trans (hb4.mono hbW.size)
  clear hb4 p00 p01 p02
  generalize u3.heap.size = e7 at A7 ⊢
  obtain ⟨p00, p01, p02, _⟩ := B1.cells
  obtain ⟨p10, p11, p12, _⟩ := A7.cells
  obtain ⟨f1, hf1⟩ : ∃ f1, flN qx.floor = f1 := ⟨_, rfl⟩
  obtain ⟨g1, hg1⟩ : ∃ g1, flB qx.floor = g1 := ⟨_, rfl⟩
  obtain ⟨f2, hf2⟩ : ∃ f2, flN (qx + 1 / 2).floor = f2 := ⟨_, rfl⟩
  obtain ⟨g2, hg2⟩ : ∃ g2, flB (qx + 1 / 2).floor = g2 := ⟨_, rfl⟩
  rw [hf1, hg1]
  go_wp2_with fail
  refine (sfloor_any 4 qx _ _ hX (by decide) (by decide)).mono ?_
  rintro e u5 ⟨rfl, hb5⟩
  replace hx := hx.below hb5
  replace hy := hy.below hb5
  replace hX := hX.below hb5
  replace B1 := B1.below hb5
  replace A7 := A7.below hb5
  replace hbW : Below w.heap.size w u5 := hbW.trans (hb5.mono hbW.size)
  clear hb5
  clear p00 p01 p02 p10 p11 p12
  obtain ⟨p00, p01, p02, _⟩ := B1.cells
  obtain ⟨p10, p11, p12, _⟩ := A7.cells
  rw [hf1, hg1]
  go_wp2_with fail
  refine (qround_any 4 qx _ _ hX (by decide) (by decide)).mono ?_
  rintro e u6 ⟨rfl, hb6⟩
  replace hx := hx.below hb6
  replace hy := hy.below hb6
  replace hX := hX.below hb6
  replace B1 := B1.below hb6
  replace A7 := A7.below hb6
  replace hbW : Below w.heap.size w u6 := hbW.trans (hb6.mono hbW.size)
  clear hb6
  clear p00 p01 p02 p10 p11 p12
  obtain ⟨p00, p01, p02, _⟩ := B1.cells
  obtain ⟨p10, p11, p12, _⟩ := A7.cells
  rw [hf2, hg2]
  go_wp2_with fail
  refine (sround_any 4 qx _ _ hX (by decide) (by decide)).mono ?_
  rintro e u7 ⟨rfl, hb7⟩
  replace hx := hx.below hb7
  replace hy := hy.below hb7
  replace hX := hX.below hb7
  replace B1 := B1.below hb7
  replace A7 := A7.below hb7
  replace hbW : Below w.heap.size w u7 := hbW.trans (hb7.mono hbW.size)
  clear hb7
  clear p00 p01 p02 p10 p11 p12
  obtain ⟨p00, p01, p02, _⟩ := B1.cells
  obtain ⟨p10, p11, p12, _⟩ := A7.cells
  rw [hf2, hg2]
  have i1 : (f1 == f1) = true := by simp
  have i2 : (g1 == g1) = true := by simp
  have i3 : (f2 == f2) = true := by simp
  have i4 : (g2 == g2) = true := by simp
  clear hf1 hg1 hf2 hg2
  obtain ⟨bf, hbf⟩ : ∃ bf, decide (Fmd n xs ys) = bf := ⟨_, rfl⟩
  have i5 : (bf == bf) = true := by simp
  obtain ⟨sq, hsq⟩ : ∃ sq, sgnQ qx = sq := ⟨_, rfl⟩
  have i6 : (sq == sq) = true := by simp
  obtain ⟨s1, es1⟩ : ∃ s : ByteArray, (⟨(txt qx).toArray⟩ : ByteArray) = s := ⟨_, rfl⟩
  go_wp2_with fail
  have st : Stg 0 := rfl
  go_region_held3 (fun u => u.cell? ⟨w.heap.size, 0, none⟩ = some (.bool n) ∧ u.cell? ⟨w.heap.size, 1, none⟩ = some (.slice a xs.length c) ∧ u.cell? ⟨w.heap.size, 2, none⟩ = some (.slice a' ys.length c') ∧ u.cell? ⟨e7, 0, none⟩ = some (.bool n) ∧ u.cell? ⟨e7, 1, none⟩ = some (.slice a xs.length c) ∧ u.cell? ⟨e7, 2, none⟩ = some (.slice a' ys.length c')) (go_keep)
    (first
      | (go_at_call 23
         have _sg : Stg 0 := st
         refine (formed_any _ _ _ _ _ _ _ _ (hx.below Below.drew1) (hy.below Below.drew1) (by omega) (by omega)).mono ?_
         rintro e u8 ⟨rfl, hb8⟩
         replace hb8 : Below u7.heap.size u7 u8 := Below.drew1.trans hb8
         replace hx := hx.below hb8
         replace hy := hy.below hb8
         replace hX := hX.below hb8
         replace B1 := B1.below hb8
         replace A7 := A7.below hb8
         replace hbW : Below w.heap.size w u8 := hbW.trans (hb8.mono hbW.size)
         clear hb8
         rw [hbf]
         clear st _sg
         have st : Stg 1 := rfl
         clear p00 p01 p02 p10 p11 p12
         obtain ⟨p00, p01, p02, _⟩ := B1.cells
         obtain ⟨p10, p11, p12, _⟩ := A7.cells)
      | (go_at_call 24
         have _sg : Stg 1 := st
         refine (sformed_any _ _ _ _ _ _ _ _ hx hy (by omega) (by omega)).mono ?_
         rintro e u9 ⟨rfl, hb9⟩
         replace hx := hx.below hb9
         replace hy := hy.below hb9
         replace hX := hX.below hb9
         replace B1 := B1.below hb9
         replace A7 := A7.below hb9
         replace hbW : Below w.heap.size w u9 := hbW.trans (hb9.mono hbW.size)
         clear hb9
         rw [hbf]
         clear st _sg
         have st : Stg 2 := rfl
         clear p00 p01 p02 p10 p11 p12
         obtain ⟨p00, p01, p02, _⟩ := B1.cells
         obtain ⟨p10, p11, p12, _⟩ := A7.cells)
      | (go_at_call 25
         have _sg : Stg 2 := st
         refine (qsign_any 4 qx _ _ hX (by decide) (by decide)).mono ?_
         rintro e u10 ⟨rfl, hb10⟩
         replace hx := hx.below hb10
         replace hy := hy.below hb10
         replace hX := hX.below hb10
         replace B1 := B1.below hb10
         replace A7 := A7.below hb10
         replace hbW : Below w.heap.size w u10 := hbW.trans (hb10.mono hbW.size)
         clear hb10
         rw [hsq]
         clear st _sg
         have st : Stg 3 := rfl
         clear p00 p01 p02 p10 p11 p12
         obtain ⟨p00, p01, p02, _⟩ := B1.cells
         obtain ⟨p10, p11, p12, _⟩ := A7.cells)
      | (go_at_call 26
         have _sg : Stg 3 := st
         refine (ssign_any 4 qx _ _ hX (by decide) (by decide)).mono ?_
         rintro e u11 ⟨rfl, hb11⟩
         replace hx := hx.below hb11
         replace hy := hy.below hb11
         replace hX := hX.below hb11
         replace B1 := B1.below hb11
         replace A7 := A7.below hb11
         replace hbW : Below w.heap.size w u11 := hbW.trans (hb11.mono hbW.size)
         clear hb11
         rw [hsq]
         clear st _sg
         have st : Stg 4 := rfl
         clear p00 p01 p02 p10 p11 p12
         obtain ⟨p00, p01, p02, _⟩ := B1.cells
         obtain ⟨p10, p11, p12, _⟩ := A7.cells)
      | (go_at_call 27
         have _sg : Stg 4 := st
         refine (qtext_any 4 qx _ _ hX (by decide) (by decide) (htab.below hbW)).mono ?_
         rintro e u12 ⟨rfl, hb12⟩
         replace hx := hx.below hb12
         replace hy := hy.below hb12
         replace hX := hX.below hb12
         replace B1 := B1.below hb12
         replace A7 := A7.below hb12
         replace hbW : Below w.heap.size w u12 := hbW.trans (hb12.mono hbW.size)
         clear hb12
         rw [es1]
         clear st _sg
         have st : Stg 5 := rfl
         clear p00 p01 p02 p10 p11 p12
         obtain ⟨p00, p01, p02, _⟩ := B1.cells
         obtain ⟨p10, p11, p12, _⟩ := A7.cells)
      | (go_at_call 28
         have _sg : Stg 5 := st
         refine (stext_any 4 qx _ _ hX (by decide) (by decide)).mono ?_
         rintro e u13 ⟨rfl, hb13⟩
         replace hx := hx.below hb13
         replace hy := hy.below hb13
         replace hX := hX.below hb13
         replace B1 := B1.below hb13
         replace A7 := A7.below hb13
         replace hbW : Below w.heap.size w u13 := hbW.trans (hb13.mono hbW.size)
         clear hb13
         rw [es1]
         clear st _sg
         have st : Stg 6 := rfl
         clear p00 p01 p02 p10 p11 p12
         obtain ⟨p00, p01, p02, _⟩ := B1.cells
         obtain ⟨p10, p11, p12, _⟩ := A7.cells)
      | (go_at_call 29
         have _sg : Stg 6 := st
         refine (make_any z d _ hz.1 hz.2 hd.1 hd.2).mono ?_
         rintro e u14 ⟨vm, rfl, hm, hb14⟩
         replace hx := hx.below hb14
         replace hy := hy.below hb14
         replace hX := hX.below hb14
         replace B1 := B1.below hb14
         replace A7 := A7.below hb14
         replace hbW : Below w.heap.size w u14 := hbW.trans (hb14.mono hbW.size)
         clear hb14
         clear st _sg
         have st : Stg 7 := rfl
         clear p00 p01 p02 p10 p11 p12
         obtain ⟨p00, p01, p02, _⟩ := B1.cells
         obtain ⟨p10, p11, p12, _⟩ := A7.cells)
      | (go_at_call 30
         have _sg : Stg 7 := st
         refine (smake_any z d _ hz.1 hz.2 hd.1 hd.2).mono ?_
         rintro e u15 ⟨vmr, rfl, hmr, hb15⟩
         replace hx := hx.below hb15
         replace hy := hy.below hb15
         replace hX := hX.below hb15
         replace hm := hm.below hb15
         replace B1 := B1.below hb15
         replace A7 := A7.below hb15
         replace hbW : Below w.heap.size w u15 := hbW.trans (hb15.mono hbW.size)
         clear hb15
         clear st _sg
         have st : Stg 8 := rfl
         clear p00 p01 p02 p10 p11 p12
         obtain ⟨p00, p01, p02, _⟩ := B1.cells
         obtain ⟨p10, p11, p12, _⟩ := A7.cells)
      | (go_at_call 10
         have _sg : Stg 8 := st
         refine (sameF_any _ _ _ _ _ _ hm hmr).mono ?_
         rintro e u16 ⟨rfl, hb16⟩
         replace hx := hx.below hb16
         replace hy := hy.below hb16
         replace hX := hX.below hb16
         replace hm := hm.below hb16
         replace hmr := hmr.below hb16
         replace B1 := B1.below hb16
         replace A7 := A7.below hb16
         replace hbW : Below w.heap.size w u16 := hbW.trans (hb16.mono hbW.size)
         clear hb16
         clear st _sg
         have st : Stg 9 := rfl
         clear p00 p01 p02 p10 p11 p12
         obtain ⟨p00, p01, p02, _⟩ := B1.cells
         obtain ⟨p10, p11, p12, _⟩ := A7.cells)
      | (go_at_call 31
         have _sg : Stg 9 := st
         refine (whole_any z _ hz.1 hz.2).mono ?_
         rintro e u17 ⟨vw, rfl, hw, hb17⟩
         replace hx := hx.below hb17
         replace hy := hy.below hb17
         replace hX := hX.below hb17
         replace hm := hm.below hb17
         replace hmr := hmr.below hb17
         replace B1 := B1.below hb17
         replace A7 := A7.below hb17
         replace hbW : Below w.heap.size w u17 := hbW.trans (hb17.mono hbW.size)
         clear hb17
         clear st _sg
         have st : Stg 10 := rfl
         clear p00 p01 p02 p10 p11 p12
         obtain ⟨p00, p01, p02, _⟩ := B1.cells
         obtain ⟨p10, p11, p12, _⟩ := A7.cells)
      | (go_at_call 32
         have _sg : Stg 10 := st
         refine (swhole_any z _ hz.1 hz.2).mono ?_
         rintro e u18 ⟨vwr, rfl, hwr, hb18⟩
         replace hx := hx.below hb18
         replace hy := hy.below hb18
         replace hX := hX.below hb18
         replace hm := hm.below hb18
         replace hmr := hmr.below hb18
         replace hw := hw.below hb18
         replace B1 := B1.below hb18
         replace A7 := A7.below hb18
         replace hbW : Below w.heap.size w u18 := hbW.trans (hb18.mono hbW.size)
         clear hb18
         clear st _sg
         have st : Stg 11 := rfl
         clear p00 p01 p02 p10 p11 p12
         obtain ⟨p00, p01, p02, _⟩ := B1.cells
         obtain ⟨p10, p11, p12, _⟩ := A7.cells)
      | (go_at_call 10
         have _sg : Stg 11 := st
         refine (sameF_any _ _ _ _ _ _ hw hwr).mono ?_
         rintro e u19 ⟨rfl, hb19⟩
         replace hx := hx.below hb19
         replace hy := hy.below hb19
         replace hX := hX.below hb19
         replace hm := hm.below hb19
         replace hmr := hmr.below hb19
         replace hw := hw.below hb19
         replace hwr := hwr.below hb19
         replace B1 := B1.below hb19
         replace A7 := A7.below hb19
         replace hbW : Below w.heap.size w u19 := hbW.trans (hb19.mono hbW.size)
         clear hb19
         clear st _sg
         have st : Stg 12 := rfl
         clear p00 p01 p02 p10 p11 p12
         obtain ⟨p00, p01, p02, _⟩ := B1.cells
         obtain ⟨p10, p11, p12, _⟩ := A7.cells))
  clear st
  go_wp2
  go_ret
  exact ⟨rfl, hbW⟩

end Go.Proofs.YtefdkajjdaplbaaGreatDoor
