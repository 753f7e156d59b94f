/-
  foundrylaw03.FixedTells: the walk.
-/
import Derived.Test.YthepikmllmfofaaT3
import Derived.Test.YthepikmllmfofaaT4
import Derived.Deep.RegionHeld3
namespace Go.Proofs.Ythepikmllmfofaa
open Go.RowKit Classical
set_option linter.unusedSimpArgs false
set_option linter.unusedVariables false

set_option maxHeartbeats 3000000 in
set_option maxRecDepth 100000 in
theorem walkFixedTells (n : Bool) (a a' : Option Addr) (c c' : Nat) (xs ys : List Nat) (z : Int) (w : World)
    (hx : Rd w a c xs) (hy : Rd w a' c' ys) (wz : (Lit.int .i64 z).wf = true) :
    Calls Try.prog 3 #[.agg #[.bool n, .slice a xs.length c, .slice a' ys.length c'], .int .i64 z] w fun e w' => e = .returned (.bool true) ∧ Below w.heap.size w w' := by
  have z1 : xs.length ≤ 9223372036854775807 := by have := hx.le; have := hx.cap; unfold maxLen at this; omega
  have z2 : ys.length ≤ 9223372036854775807 := by have := hy.le; have := hy.cap; unfold maxLen at this; omega
  have hz := wf_i64_bounds wz
  clear wz
  go_enter Try.func3, Try.ntmps3
  go_wp2_with fail
  refine (awake3_any _).mono ?_
  rintro e u1 ⟨rfl, hb1⟩
  replace hx := (hx.below (al1 _)).below hb1
  replace hy := (hy.below (al1 _)).below hb1
  obtain ⟨B1, hbW⟩ := after1 hb1
  clear hb1
  obtain ⟨p00, p01, p02, _⟩ := B1.cells
  go_wp2_with fail
  refine (few3_any _ _ _ _ _ _ _ _ z1 z2).mono ?_
  rintro e u2 ⟨rfl, hb2⟩
  replace hx := hx.below hb2
  replace hy := hy.below hb2
  replace B1 := B1.below hb2
  replace hbW : Below w.heap.size w u2 := hbW.trans (hb2.mono hbW.size)
  clear hb2
  clear p00 p01 p02
  obtain ⟨p00, p01, p02, _⟩ := B1.cells
  clear z1 z2
  by_cases hf : ¬ (xs.length ≤ 6 ∧ ys.length ≤ 6)
  · have e1 : decide (xs.length ≤ 6 ∧ ys.length ≤ 6) = false := decide_eq_false hf
    rw [e1]
    clear e1
    go_wp2_with fail
    refine (awake3_any _).mono ?_
    rintro e uf ⟨rfl, hbf⟩
    go_wp2
    go_ret
    exact ⟨rfl, hbW.trans (hbf.mono hbW.size)⟩
  replace hf := Decidable.not_not.1 hf
  have e1 : decide (xs.length ≤ 6 ∧ ys.length ≤ 6) = true := decide_eq_true hf
  rw [e1]
  clear e1
  obtain ⟨l1, l2⟩ := hf
  obtain ⟨qx, hqx⟩ : ∃ q, q = if Fmd n xs ys then qv n xs ys else 0 := ⟨_, rfl⟩
  have hX : Ct u2 (.agg #[.bool n, .slice a xs.length c, .slice a' ys.length c']) 6 qx := ⟨_, _, _, ⟨_, _, _, _, rfl, hx, hy⟩, l1, l2, hqx⟩
  clear hqx
  obtain ⟨f1, hf1⟩ : ∃ f, fldN (qx + 1 / 2).floor = f := ⟨_, rfl⟩
  obtain ⟨f2, hf2⟩ : ∃ f, fldE (qx + 1 / 2).floor = f := ⟨_, rfl⟩
  obtain ⟨f3, hf3⟩ : ∃ f, to14 qx = f := ⟨_, rfl⟩
  obtain ⟨f4, hf4⟩ : ∃ f, crd z = f := ⟨_, rfl⟩
  have F : Hid (fldN (qx + 1 / 2).floor = f1 ∧ fldE (qx + 1 / 2).floor = f2 ∧ to14 qx = f3 ∧ crd z = f4) := ⟨hf1, hf2, hf3, hf4⟩
  clear hf1 hf2 hf3 hf4
  go_wp2_with fail
  refine (field_any 6 qx _ _ hX (by decide) (by decide)).mono ?_
  rintro e u3 ⟨rfl, hb3⟩
  replace hx := hx.below hb3
  replace hy := hy.below hb3
  replace hX := hX.below hb3
  replace B1 := B1.below hb3
  replace hbW : Below w.heap.size w u3 := hbW.trans (hb3.mono hbW.size)
  clear hb3
  clear p00 p01 p02
  obtain ⟨p00, p01, p02, _⟩ := B1.cells
  rw [F.out.1, F.out.2.1]
  go_wp2_with fail
  refine (plain3_any 6 qx _ _ hX).mono ?_
  rintro e u4 ⟨rfl, hb4⟩
  replace hx := hx.below hb4
  replace hy := hy.below hb4
  replace hX := hX.below hb4
  replace B1 := B1.below hb4
  replace hbW : Below w.heap.size w u4 := hbW.trans (hb4.mono hbW.size)
  clear hb4
  clear p00 p01 p02
  obtain ⟨p00, p01, p02, _⟩ := B1.cells
  go_wp2_with fail
  refine (sfield_any 6 qx _ _ hX (by decide) (by decide)).mono ?_
  rintro e u5 ⟨rfl, hb5⟩
  replace hx := hx.below hb5
  replace hy := hy.below hb5
  replace hX := hX.below hb5
  replace B1 := B1.below hb5
  replace hbW : Below w.heap.size w u5 := hbW.trans (hb5.mono hbW.size)
  clear hb5
  clear p00 p01 p02
  obtain ⟨p00, p01, p02, _⟩ := B1.cells
  rw [F.out.1, F.out.2.1]
  have i1 : (f1 == f1) = true := by simp
  have i2 : (f2 == f2) = true := by simp
  have i3 : (f3 == f3) = true := by simp
  have i4 : (f4 == f4) = true := by simp
  go_wp2_with fail
  have st : Stg 0 := rfl
  go_region_held3 (fun u => u.cell? ⟨w.heap.size, 0, none⟩ = some (.bool n) ∧ u.cell? ⟨w.heap.size, 1, none⟩ = some (.slice a xs.length c) ∧ u.cell? ⟨w.heap.size, 2, none⟩ = some (.slice a' ys.length c')) (go_keep)
    (first
      | (go_at_call 13
         have _sg : Stg 0 := st
         refine (to14_any 6 qx _ _ (hX.below Below.drew1) (by decide) (by decide)).mono ?_
         rintro e u6 ⟨rfl, hb6⟩
         replace hb6 : Below u5.heap.size u5 u6 := Below.drew1.trans hb6
         replace hx := hx.below hb6
         replace hy := hy.below hb6
         replace hX := hX.below hb6
         replace B1 := B1.below hb6
         replace hbW : Below w.heap.size w u6 := hbW.trans (hb6.mono hbW.size)
         clear hb6
         rw [F.out.2.2.1]
         clear st _sg
         have st : Stg 1 := rfl
         clear p00 p01 p02
         obtain ⟨p00, p01, p02, _⟩ := B1.cells)
      | (go_at_call 12
         have _sg : Stg 1 := st
         refine (plain3_any 6 qx _ _ hX).mono ?_
         rintro e u7 ⟨rfl, hb7⟩
         replace hx := hx.below hb7
         replace hy := hy.below hb7
         replace hX := hX.below hb7
         replace B1 := B1.below hb7
         replace hbW : Below w.heap.size w u7 := hbW.trans (hb7.mono hbW.size)
         clear hb7
         clear st _sg
         have st : Stg 2 := rfl
         clear p00 p01 p02
         obtain ⟨p00, p01, p02, _⟩ := B1.cells)
      | (go_at_call 14
         have _sg : Stg 2 := st
         refine (sto14_any 6 qx _ _ hX (by decide) (by decide)).mono ?_
         rintro e u8 ⟨rfl, hb8⟩
         replace hx := hx.below hb8
         replace hy := hy.below hb8
         replace hX := hX.below hb8
         replace B1 := B1.below hb8
         replace hbW : Below w.heap.size w u8 := hbW.trans (hb8.mono hbW.size)
         clear hb8
         rw [F.out.2.2.1]
         clear st _sg
         have st : Stg 3 := rfl
         clear p00 p01 p02
         obtain ⟨p00, p01, p02, _⟩ := B1.cells)
      | (go_at_call 15
         have _sg : Stg 3 := st
         refine (coordB_any z _).mono ?_
         rintro e u9 ⟨rfl, hb9⟩
         replace hx := hx.below hb9
         replace hy := hy.below hb9
         replace hX := hX.below hb9
         replace B1 := B1.below hb9
         replace hbW : Below w.heap.size w u9 := hbW.trans (hb9.mono hbW.size)
         clear hb9
         rw [F.out.2.2.2]
         clear st _sg
         have st : Stg 4 := rfl
         clear p00 p01 p02
         obtain ⟨p00, p01, p02, _⟩ := B1.cells)
      | (go_at_call 16
         have _sg : Stg 4 := st
         refine (scoordB_any z _).mono ?_
         rintro e u10 ⟨rfl, hb10⟩
         replace hx := hx.below hb10
         replace hy := hy.below hb10
         replace hX := hX.below hb10
         replace B1 := B1.below hb10
         replace hbW : Below w.heap.size w u10 := hbW.trans (hb10.mono hbW.size)
         clear hb10
         rw [F.out.2.2.2]
         clear st _sg
         have st : Stg 5 := rfl
         clear p00 p01 p02
         obtain ⟨p00, p01, p02, _⟩ := B1.cells)
      | (go_at_call 18
         have _sg : Stg 5 := st
         refine (of14_any z _ hz.1 hz.2).mono ?_
         rintro e u11 ⟨vm, rfl, hm, hb11⟩
         replace hx := hx.below hb11
         replace hy := hy.below hb11
         replace hX := hX.below hb11
         replace B1 := B1.below hb11
         replace hbW : Below w.heap.size w u11 := hbW.trans (hb11.mono hbW.size)
         clear hb11
         clear st _sg
         have st : Stg 6 := rfl
         clear p00 p01 p02
         obtain ⟨p00, p01, p02, _⟩ := B1.cells)
      | (go_at_call 12
         have _sg : Stg 6 := st
         refine (plain3_any _ _ _ _ hm.ct).mono ?_
         rintro e u12 ⟨rfl, hb12⟩
         replace hx := hx.below hb12
         replace hy := hy.below hb12
         replace hX := hX.below hb12
         replace hm := hm.below hb12
         replace B1 := B1.below hb12
         replace hbW : Below w.heap.size w u12 := hbW.trans (hb12.mono hbW.size)
         clear hb12
         clear st _sg
         have st : Stg 7 := rfl
         clear p00 p01 p02
         obtain ⟨p00, p01, p02, _⟩ := B1.cells)
      | (go_at_call 19
         have _sg : Stg 7 := st
         refine (sof14_any z _ hz.1 hz.2).mono ?_
         rintro e u13 ⟨vmr, rfl, hmr, hb13⟩
         replace hx := hx.below hb13
         replace hy := hy.below hb13
         replace hX := hX.below hb13
         replace hm := hm.below hb13
         replace B1 := B1.below hb13
         replace hbW : Below w.heap.size w u13 := hbW.trans (hb13.mono hbW.size)
         clear hb13
         clear st _sg
         have st : Stg 8 := rfl
         clear p00 p01 p02
         obtain ⟨p00, p01, p02, _⟩ := B1.cells)
      | (go_at_call 17
         have _sg : Stg 8 := st
         refine (same3_any _ _ _ _ _ _ _ hm hmr rfl).mono ?_
         rintro e u14 ⟨rfl, hb14⟩
         replace hx := hx.below hb14
         replace hy := hy.below hb14
         replace hX := hX.below hb14
         replace hm := hm.below hb14
         replace hmr := hmr.below hb14
         replace B1 := B1.below hb14
         replace hbW : Below w.heap.size w u14 := hbW.trans (hb14.mono hbW.size)
         clear hb14
         clear st _sg
         have st : Stg 9 := rfl
         clear p00 p01 p02
         obtain ⟨p00, p01, p02, _⟩ := B1.cells)
      | (go_at_call 20
         have _sg : Stg 9 := st
         refine (of16_any z _ hz.1 hz.2).mono ?_
         rintro e u15 ⟨vw, rfl, hw, hb15⟩
         replace hx := hx.below hb15
         replace hy := hy.below hb15
         replace hX := hX.below hb15
         replace hm := hm.below hb15
         replace hmr := hmr.below hb15
         replace B1 := B1.below hb15
         replace hbW : Below w.heap.size w u15 := hbW.trans (hb15.mono hbW.size)
         clear hb15
         clear st _sg
         have st : Stg 10 := rfl
         clear p00 p01 p02
         obtain ⟨p00, p01, p02, _⟩ := B1.cells)
      | (go_at_call 12
         have _sg : Stg 10 := st
         refine (plain3_any _ _ _ _ hw.ct).mono ?_
         rintro e u16 ⟨rfl, hb16⟩
         replace hx := hx.below hb16
         replace hy := hy.below hb16
         replace hX := hX.below hb16
         replace hm := hm.below hb16
         replace hmr := hmr.below hb16
         replace hw := hw.below hb16
         replace B1 := B1.below hb16
         replace hbW : Below w.heap.size w u16 := hbW.trans (hb16.mono hbW.size)
         clear hb16
         clear st _sg
         have st : Stg 11 := rfl
         clear p00 p01 p02
         obtain ⟨p00, p01, p02, _⟩ := B1.cells)
      | (go_at_call 21
         have _sg : Stg 11 := st
         refine (sof16_any z _ hz.1 hz.2).mono ?_
         rintro e u17 ⟨vwr, rfl, hwr, hb17⟩
         replace hx := hx.below hb17
         replace hy := hy.below hb17
         replace hX := hX.below hb17
         replace hm := hm.below hb17
         replace hmr := hmr.below hb17
         replace hw := hw.below hb17
         replace B1 := B1.below hb17
         replace hbW : Below w.heap.size w u17 := hbW.trans (hb17.mono hbW.size)
         clear hb17
         clear st _sg
         have st : Stg 12 := rfl
         clear p00 p01 p02
         obtain ⟨p00, p01, p02, _⟩ := B1.cells)
      | (go_at_call 17
         have _sg : Stg 12 := st
         refine (same3_any _ _ _ _ _ _ _ hw hwr rfl).mono ?_
         rintro e u18 ⟨rfl, hb18⟩
         replace hx := hx.below hb18
         replace hy := hy.below hb18
         replace hX := hX.below hb18
         replace hm := hm.below hb18
         replace hmr := hmr.below hb18
         replace hw := hw.below hb18
         replace hwr := hwr.below hb18
         replace B1 := B1.below hb18
         replace hbW : Below w.heap.size w u18 := hbW.trans (hb18.mono hbW.size)
         clear hb18
         clear st _sg
         have st : Stg 13 := rfl
         clear p00 p01 p02
         obtain ⟨p00, p01, p02, _⟩ := B1.cells))
  clear st
  go_wp2
  go_ret
  exact ⟨rfl, hbW⟩

end Go.Proofs.Ythepikmllmfofaa
