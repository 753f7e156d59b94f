/-
  foundrylaw10.StoreOnce: the walk.
-/
import Derived.Test.YtjefaccpmoignaaZ15
import Derived.Test.YtjefaccpmoignaaZ24
import Derived.Deep.CutRange
namespace Go.Proofs.Ytjefaccpmoignaa
open Go.RowKit Go.Maps
set_option linter.unusedSimpArgs false
set_option linter.unusedVariables false

theorem half1 : (((1 : Int) : Rat) / ((2 : Int) : Rat)) = 1 / 2 := by decide +kernel
theorem half2 : (((-1 : Int) : Rat) / ((2 : Int) : Rat)) = -1 / 2 := by decide +kernel
/-- The two tests of what was rounded. -/
theorem once_le (q : Rat) : sgnQ ((((q + 1 / 2).floor : Int) : Rat) - q - ((1 : Int) : Rat) / ((2 : Int) : Rat)) ≤ 0 := by
  rw [half1]
  have h := (near_half q).1
  rcases Int.lt_or_le 0 (sgnQ ((((q + 1 / 2).floor : Int) : Rat) - q - 1 / 2)) with h1 | h1
  · have := sgn_pos.1 h1
    grind
  · exact h1
theorem once_gt (q : Rat) : 0 < sgnQ ((((q + 1 / 2).floor : Int) : Rat) - q - ((-1 : Int) : Rat) / ((2 : Int) : Rat)) := by
  rw [half2]
  exact sgn_pos.2 (near_half q).2
theorem fld_cases (z : Int) : (fldE z = 0 ∧ fldN z = z ∧ -32768 ≤ z ∧ z ≤ 32767) ∨ (fldE z = 4 ∧ fldN z = 0 ∧ ¬ (-32768 ≤ z ∧ z ≤ 32767)) := by
  by_cases h : -32768 ≤ z ∧ z ≤ 32767
  · exact .inl ⟨if_pos h, if_pos h, h.1, h.2⟩
  · exact .inr ⟨if_neg h, if_neg h, h⟩

set_option maxHeartbeats 8000000 in
set_option maxRecDepth 100000 in
theorem storeOnce_any (a : Option Addr) (ca : Nat) (b : Option Addr) (cb : Nat) (s : Sr) (x r : Int) (pa : Option Addr) (pc : Nat) (cs : List Int) (w : World) (hg : Tzz w a ca s.rg) (hm : Rii w b cb s.rw) (hp : Ri w pa pc cs) (hx : I64 x) (hr : I64 r) :
    Calls Try.prog 7 #[.agg #[.slice a s.rg.length ca, .slice b s.rw.length cb], .agg #[.int .i64 x, .int .i64 r], .slice pa cs.length pc] w fun e w' => e = .returned (.bool true) ∧ Below w.heap.size w w' := by
  have k1 := hg.lenB
  have k2 := hm.lenB
  have k3 := hp.lenB
  have hfi := fun U => cfits_any a ca b cb s x r U k2 hx hr
  obtain ⟨W, hW, X1, X2, hbW⟩ : ∃ W, W = (w.alloc (.cells #[.slice a s.rg.length ca, .slice b s.rw.length cb] 25)).alloc (.cells #[.int .i64 x, .int .i64 r] 39) ∧ BxS W w.heap.size (.slice a s.rg.length ca) (.slice b s.rw.length cb) ∧ BxL W (w.heap.size + 1) (.int .i64 x) (.int .i64 r) ∧ Below w.heap.size w W := ⟨_, rfl, (BxS.new _ _ _).below (bl1 _), BxL.new1 _ _ _ _, bl2 _ _⟩
  replace hg := hg.below hbW
  replace hm := hm.below hbW
  replace hp := hp.below hbW
  go_enter Try.func7, Try.ntmps7
  go_wp2_with fail
  rw [← hW]
  clear hW
  refine (awake10_any _).mono ?_
  rintro e t1 ⟨rfl, hb1⟩
  replace hg := hg.below hb1
  replace hm := hm.below hb1
  replace hp := hp.below hb1
  replace X1 := X1.below hb1
  replace X2 := X2.below hb1
  replace hbW : Below w.heap.size w t1 := hbW.trans (hb1.mono hbW.size)
  clear hb1
  obtain ⟨p00, p01, _⟩ := X1.cells
  obtain ⟨p10, p11, _⟩ := X2.cells
  go_wp2_with fail
  refine (few10_any a ca b cb s _ hg hm).mono ?_
  rintro e t2 ⟨q, rfl, hq, hb2⟩
  clear p00 p01 p10 p11
  replace hg := hg.below hb2
  replace hm := hm.below hb2
  replace hp := hp.below hb2
  replace X1 := X1.below hb2
  replace X2 := X2.below hb2
  replace hbW : Below w.heap.size w t2 := hbW.trans (hb2.mono hbW.size)
  clear hb2
  obtain ⟨p00, p01, _⟩ := X1.cells
  obtain ⟨p10, p11, _⟩ := X2.cells
  cases q with
  | false =>
    clear hq
    go_wp2_with fail
    refine (awake10_any _).mono ?_
    rintro e v9 ⟨rfl, hb9⟩
    replace hbW := hbW.trans (hb9.mono hbW.size)
    clear hb9
    go_wp2
    go_ret
    exact ⟨rfl, hbW⟩
  | true =>
    obtain ⟨hq1, hq2⟩ := hq rfl
    clear hq
    by_cases h100 : 100 < cs.length
    · have g1 : decide ((100 : Int) < (cs.length : Int)) = true := decide_eq_true (by omega)
      go_wp2_with fail
      refine (awake10_any _).mono ?_
      rintro e v9 ⟨rfl, hb9⟩
      replace hbW := hbW.trans (hb9.mono hbW.size)
      clear hb9
      go_wp2
      go_ret
      exact ⟨rfl, hbW⟩
    have g1 : decide ((100 : Int) < (cs.length : Int)) = false := decide_eq_false (by omega)
    cases hf : fiS s x r with
    | false =>
      simp only [hf] at hfi
      clear hf
      go_wp2_with fail
      refine (hfi _).mono ?_
      rintro e t3 ⟨rfl, hb3⟩
      clear p00 p01 p10 p11
      replace hg := hg.below hb3
      replace hm := hm.below hb3
      replace hp := hp.below hb3
      replace X1 := X1.below hb3
      replace X2 := X2.below hb3
      replace hbW : Below w.heap.size w t3 := hbW.trans (hb3.mono hbW.size)
      clear hb3
      obtain ⟨p00, p01, _⟩ := X1.cells
      obtain ⟨p10, p11, _⟩ := X2.cells
      go_wp2_with fail
      refine (awake10_any _).mono ?_
      rintro e v9 ⟨rfl, hb9⟩
      replace hbW := hbW.trans (hb9.mono hbW.size)
      clear hb9
      go_wp2
      go_ret
      exact ⟨rfl, hbW⟩
    | true =>
      have HR : Hid (roN s x r cs = fldN (vaQ s x r cs + 1 / 2).floor ∧ roE s x r cs = fldE (vaQ s x r cs + 1 / 2).floor) := by
        show _ ∧ _
        constructor
        · rw [roN, hf]; rfl
        · rw [roE, hf]; rfl
      have hva := fun U h1 h2 h3 => cvalue_any a ca b cb s x r pa pc cs U h1 h2 h3 hx hr (by omega) hq2
      have hro := fun U h1 h2 h3 => crounded_any a ca b cb s x r pa pc cs U h1 h2 h3 hx hr (by omega) hq2
      simp only [HR.out.1, HR.out.2] at hro
      obtain ⟨q, hqv⟩ : ∃ q, vaQ s x r cs = q := ⟨_, rfl⟩
      simp only [hqv] at hva hro
      simp only [hf] at hfi
      clear hf HR hqv
      go_wp2_with fail
      refine (hfi _).mono ?_
      rintro e t3 ⟨rfl, hb3⟩
      clear p00 p01 p10 p11
      replace hg := hg.below hb3
      replace hm := hm.below hb3
      replace hp := hp.below hb3
      replace X1 := X1.below hb3
      replace X2 := X2.below hb3
      replace hbW : Below w.heap.size w t3 := hbW.trans (hb3.mono hbW.size)
      clear hb3
      obtain ⟨p00, p01, _⟩ := X1.cells
      obtain ⟨p10, p11, _⟩ := X2.cells
      clear hfi g1 h100
      go_wp2_with fail
      refine (hva _ hg hm hp).mono ?_
      rintro e z1 ⟨v8, rfl, hF8, hb8⟩
      clear p00 p01 p10 p11
      replace hg := hg.below hb8
      replace hm := hm.below hb8
      replace hp := hp.below hb8
      replace X1 := X1.below hb8
      replace X2 := X2.below hb8
      replace hbW : Below w.heap.size w z1 := hbW.trans (hb8.mono hbW.size)
      clear hb8 hva
      obtain ⟨n8, x8, y8, ⟨a8, c8, b8, d8, rfl, hx8, hy8⟩, hF8⟩ := hF8
      obtain ⟨U, hU, P8, hb9⟩ : ∃ U, U = z1.alloc (.cells #[.bool n8, .slice a8 x8.length c8, .slice b8 y8.length d8] 49) ∧ Box 49 U z1.heap.size (.bool n8) (.slice a8 x8.length c8) (.slice b8 y8.length d8) ∧ Below z1.heap.size z1 U := ⟨_, rfl, Box.new _ _ _ _ _, al1 _⟩
      have hF8 : Fr U (.agg #[.bool n8, .slice a8 x8.length c8, .slice b8 y8.length d8]) 1003 q := Fr.below ⟨_, _, _, ⟨_, _, _, _, rfl, hx8, hy8⟩, hF8⟩ hb9
      have zW := hbW.size
      replace hg := hg.below hb9
      replace hm := hm.below hb9
      replace hp := hp.below hb9
      replace X1 := X1.below hb9
      replace X2 := X2.below hb9
      replace hbW : Below w.heap.size w U := hbW.trans (hb9.mono hbW.size)
      obtain ⟨p00, p01, _⟩ := X1.cells
      obtain ⟨p10, p11, _⟩ := X2.cells
      clear hx8 hy8 hb9
      go_upto_region 4 with fail
      rw [← hU]
      clear hU
      generalize z1.heap.size = g8 at *
      go_wp2_with fail
      refine (hro _ hg hm hp).mono ?_
      rintro e t4 ⟨rfl, hb4⟩
      clear p00 p01 p10 p11
      replace hg := hg.below hb4
      replace hm := hm.below hb4
      replace hp := hp.below hb4
      replace hF8 := hF8.below hb4
      replace X1 := X1.below hb4
      replace X2 := X2.below hb4
      replace P8 := P8.below hb4
      replace hbW : Below w.heap.size w t4 := hbW.trans (hb4.mono hbW.size)
      clear hb4
      obtain ⟨p00, p01, _⟩ := X1.cells
      obtain ⟨p10, p11, _⟩ := X2.cells
      obtain ⟨p20, p21, p22, _⟩ := P8.cells
      clear hro hg hm hp
      have HO1 := once_le q
      have HO2 := once_gt q
      obtain ⟨z, hz⟩ : ∃ z, (q + 1 / 2).floor = z := ⟨_, rfl⟩
      have HZ : Hid ((q + 1 / 2).floor = z) := hz
      rw [hz] at HO1 HO2 ⊢
      clear hz
      rcases fld_cases z with ⟨hfe, hfn, hz1, hz2⟩ | ⟨hfe, hfn, hno⟩
      · rw [hfe, hfn]
        clear hfe hfn
        have HFD : Hid (fdB z = true) := fdB_iff.2 ⟨hz1, hz2⟩
        have hfd := fun U => sFieldB_any z U
        simp only [HFD.out] at hfd
        obtain ⟨c1, hc1⟩ : ∃ c, sgnQ (((z : Int) : Rat) - q - ((1 : Int) : Rat) / ((2 : Int) : Rat)) = c := ⟨_, rfl⟩
        obtain ⟨c2, hc2⟩ : ∃ c, sgnQ (((z : Int) : Rat) - q - ((-1 : Int) : Rat) / ((2 : Int) : Rat)) = c := ⟨_, rfl⟩
        have HC1 : Hid (sgnQ (((z : Int) : Rat) - q - ((1 : Int) : Rat) / ((2 : Int) : Rat)) = c1) := hc1
        have HC2 : Hid (sgnQ (((z : Int) : Rat) - q - ((-1 : Int) : Rat) / ((2 : Int) : Rat)) = c2) := hc2
        rw [hc1] at HO1
        rw [hc2] at HO2
        have g4 : decide (c1 ≤ 0) = true := decide_eq_true HO1
        have g5 : decide (0 < c2) = true := decide_eq_true HO2
        clear hc1 hc2 HFD HZ
        go_upto_region 8 with fail
        have HBW : Hid (Below w.heap.size w t4) := hbW
        go_cut [12] from 13 to 85 (fun s12 wx => ∃ (g9 : Nat) (n9 : Bool) (a9 : Option Addr) (x9 c9 : Nat) (b9 : Option Addr) (y9 d9 : Nat), s12 = .pointer (some ⟨g9, 0, none⟩) ∧ Box 49 wx g9 (.bool n9) (.slice a9 x9 c9) (.slice b9 y9 d9) ∧ Fr wx (.agg #[.bool n9, .slice a9 x9 c9, .slice b9 y9 d9]) 1006 (((z : Int) : Rat) - q) ∧ Below t4.heap.size t4 wx)
        case first =>
          have hbR : Below t4.heap.size t4 t4 := Below.refl _ _
          have HP8 : Hid (Box 49 t4 g8 (.bool n8) (.slice a8 x8.length c8) (.slice b8 y8.length d8)) := P8
          clear p00 p01 p10 p11 p20 p21 p22
          obtain ⟨p00, p01, p02, _⟩ := P8.cells
          refine wp_region_held_drew (S := (fun u => u.cell? ⟨g8, 0, none⟩ = some (.bool n8) ∧ u.cell? ⟨g8, 1, none⟩ = some (.slice a8 x8.length c8) ∧ u.cell? ⟨g8, 2, none⟩ = some (.slice b8 y8.length d8))) (by kernel_rfl) ?_ (fun hHeld => ?_)
          · (try dsimp only)
            go_keep
          have hdr : Below t4.heap.size t4 t4.drew := Below.drew1
          generalize t4.drew = ud1 at hdr hHeld ⊢
          replace hF8 := hF8.below hdr
          replace P8 := P8.below hdr
          replace hbW : Below w.heap.size w ud1 := hbW.trans (hdr.mono hbW.size)
          replace hbR : Below t4.heap.size t4 ud1 := hbR.trans (hdr.mono hbR.size)
          clear hdr
          clear p00 p01 p02
          obtain ⟨p00, p01, p02, _⟩ := P8.cells
          refine hT 0 hHeld ?_
          refine hT 2 hHeld ?_
          refine wpAnyH_ready (rs := [1, 4]) (by kernel_rfl) (by simp) (hCons (i := 1) rfl (by rfl) (fun K hK => ?_) (hCons (i := 4) rfl (by rfl) (fun K hK => ?_) AllReadyH.nil))
          · go_simp
            refine (whole_any z _ (by omega) (by omega)).mono ?_
            rintro e u5 ⟨v5, rfl, hF5, hb5⟩
            replace hF8 := hF8.below hb5
            replace P8 := P8.below hb5
            replace hbW : Below w.heap.size w u5 := hbW.trans (hb5.mono hbW.size)
            replace hbR : Below t4.heap.size t4 u5 := hbR.trans (hb5.mono hbR.size)
            clear hb5
            clear p00 p01 p02
            obtain ⟨p00, p01, p02, _⟩ := P8.cells
            go_wp2_with fail
            refine hK.out _ _ ?_ (fun hHeld => ?_)
            · (try dsimp only)
              exact ⟨p00, p01, p02⟩
            clear hK K
            try simp only [Act.put, List.setIfInBounds_toArray, List.set_cons_zero, List.set_cons_succ]
            refine wpAnyH_ready (rs := [3, 4]) (by kernel_rfl) (by simp) (hCons (i := 3) rfl (by rfl) (fun K hK => ?_) (hCons (i := 4) rfl (by rfl) (fun K hK => ?_) AllReadyH.nil))
            · go_simp
              refine (qsub_any 2 1003 _ _ _ _ _ hF5.ct hF8.ct (by decide) (by decide) (by decide) (by decide)).mono ?_
              rintro e u6 ⟨v9, rfl, hF9, hb6⟩
              replace hF8 := hF8.below hb6
              replace hF5 := hF5.below hb6
              replace P8 := P8.below hb6
              replace hbW : Below w.heap.size w u6 := hbW.trans (hb6.mono hbW.size)
              replace hbR : Below t4.heap.size t4 u6 := hbR.trans (hb6.mono hbR.size)
              clear hb6
              obtain ⟨n9, x9, y9, ⟨a9, c9, b9, d9, rfl, hx9, hy9⟩, hF9⟩ := hF9
              clear p00 p01 p02
              obtain ⟨p00, p01, p02, _⟩ := P8.cells
              go_wp2_with fail
              refine hK.out _ _ ?_ (fun hHeld => ?_)
              · (try dsimp only)
                exact ⟨p00, p01, p02⟩
              clear hK K
              try simp only [Act.put, List.setIfInBounds_toArray, List.set_cons_zero, List.set_cons_succ]
              refine hCall (i := 4) rfl (by kernel_rfl) (by rfl) (fun K hK => ?_)
              go_simp
              obtain ⟨u67, hU, B9, hb9⟩ : ∃ U, U = u6.alloc (.cells #[.bool false, .slice none 0 0, .slice none 0 0] 49) ∧ Box 49 U u6.heap.size (.bool false) (.slice none 0 0) (.slice none 0 0) ∧ Below u6.heap.size u6 U := ⟨_, rfl, Box.new _ _ _ _ _, al1 _⟩
              rw [← hU]
              clear hU
              have n81 := hbR.size
              have n82 := hbW.size
              replace hF8 := hF8.below hb9
              replace hF5 := hF5.below hb9
              replace hx9 := hx9.below hb9
              replace hy9 := hy9.below hb9
              replace P8 := P8.below hb9
              replace hbW : Below w.heap.size w u67 := hbW.trans (hb9.mono hbW.size)
              replace hbR : Below t4.heap.size t4 u67 := hbR.trans (hb9.mono hbR.size)
              clear hb9
              generalize u6.heap.size = g9 at B9 n81 n82 ⊢
              clear p00 p01 p02
              obtain ⟨p00, p01, p02, _⟩ := P8.cells
              obtain ⟨p10, p11, p12, _⟩ := B9.cells
              refine hK.out _ _ ?_ (fun hHeld => ?_)
              · (try dsimp only)
                exact ⟨p00, p01, p02⟩
              clear hK K
              try simp only [Act.put, List.setIfInBounds_toArray, List.set_cons_zero, List.set_cons_succ]
              refine hCall (i := 5) rfl (by kernel_rfl) (by rfl) (fun K hK => ?_)
              go_simp
              obtain ⟨u68, hU, A9, hbU, hK9, ho⟩ := set3_world B9 (.bool n9) (.slice a9 x9.length c9) (.slice b9 y9.length d9)
              rw [← hU]
              clear hU
              replace hbW := hbU _ _ hbW (by omega)
              replace hbR := hbU _ _ hbR (by omega)
              replace hx9 := hK9 _ _ _ hx9
              replace hy9 := hK9 _ _ _ hy9
              clear hbU hK9 ho P8
              have P8 := HP8.out.below hbR
              clear p00 p01 p02 p10 p11 p12
              obtain ⟨p00, p01, p02, _⟩ := P8.cells
              refine hK.out _ _ ?_ (fun hHeld => ?_)
              · (try dsimp only)
                exact ⟨p00, p01, p02⟩
              clear hK K
              try simp only [Act.put, List.setIfInBounds_toArray, List.set_cons_zero, List.set_cons_succ]
              refine wpAnyH_done (by kernel_rfl) ?_ _
              clear hHeld
              go_wp2_with fail
              go_meet
              exact ⟨g9, _, _, _, _, _, _, _, rfl, A9, ⟨_, _, _, ⟨_, _, _, _, rfl, hx9, hy9⟩, hF9⟩, hbR⟩
            · go_simp
              obtain ⟨u66, hU, B9, hb9⟩ : ∃ U, U = u5.alloc (.cells #[.bool false, .slice none 0 0, .slice none 0 0] 49) ∧ Box 49 U u5.heap.size (.bool false) (.slice none 0 0) (.slice none 0 0) ∧ Below u5.heap.size u5 U := ⟨_, rfl, Box.new _ _ _ _ _, al1 _⟩
              rw [← hU]
              clear hU
              have n81 := hbR.size
              have n82 := hbW.size
              replace hF8 := hF8.below hb9
              replace hF5 := hF5.below hb9
              replace P8 := P8.below hb9
              replace hbW : Below w.heap.size w u66 := hbW.trans (hb9.mono hbW.size)
              replace hbR : Below t4.heap.size t4 u66 := hbR.trans (hb9.mono hbR.size)
              clear hb9
              generalize u5.heap.size = g9 at B9 n81 n82 ⊢
              clear p00 p01 p02
              obtain ⟨p00, p01, p02, _⟩ := P8.cells
              obtain ⟨p10, p11, p12, _⟩ := B9.cells
              refine hK.out _ _ ?_ (fun hHeld => ?_)
              · (try dsimp only)
                exact ⟨p00, p01, p02⟩
              clear hK K
              try simp only [Act.put, List.setIfInBounds_toArray, List.set_cons_zero, List.set_cons_succ]
              refine hCall (i := 3) rfl (by kernel_rfl) (by rfl) (fun K hK => ?_)
              go_simp
              refine (qsub_any 2 1003 _ _ _ _ _ hF5.ct hF8.ct (by decide) (by decide) (by decide) (by decide)).mono ?_
              rintro e u7 ⟨v9, rfl, hF9, hb7⟩
              replace hF8 := hF8.below hb7
              replace hF5 := hF5.below hb7
              replace P8 := P8.below hb7
              replace B9 := B9.below hb7
              replace hbW : Below w.heap.size w u7 := hbW.trans (hb7.mono hbW.size)
              replace hbR : Below t4.heap.size t4 u7 := hbR.trans (hb7.mono hbR.size)
              clear hb7
              obtain ⟨n9, x9, y9, ⟨a9, c9, b9, d9, rfl, hx9, hy9⟩, hF9⟩ := hF9
              clear p00 p01 p02 p10 p11 p12
              obtain ⟨p00, p01, p02, _⟩ := P8.cells
              obtain ⟨p10, p11, p12, _⟩ := B9.cells
              go_wp2_with fail
              refine hK.out _ _ ?_ (fun hHeld => ?_)
              · (try dsimp only)
                exact ⟨p00, p01, p02⟩
              clear hK K
              try simp only [Act.put, List.setIfInBounds_toArray, List.set_cons_zero, List.set_cons_succ]
              refine hCall (i := 5) rfl (by kernel_rfl) (by rfl) (fun K hK => ?_)
              go_simp
              obtain ⟨u68, hU, A9, hbU, hK9, ho⟩ := set3_world B9 (.bool n9) (.slice a9 x9.length c9) (.slice b9 y9.length d9)
              rw [← hU]
              clear hU
              replace hbW := hbU _ _ hbW (by omega)
              replace hbR := hbU _ _ hbR (by omega)
              replace hx9 := hK9 _ _ _ hx9
              replace hy9 := hK9 _ _ _ hy9
              clear hbU hK9 ho P8
              have P8 := HP8.out.below hbR
              clear p00 p01 p02 p10 p11 p12
              obtain ⟨p00, p01, p02, _⟩ := P8.cells
              refine hK.out _ _ ?_ (fun hHeld => ?_)
              · (try dsimp only)
                exact ⟨p00, p01, p02⟩
              clear hK K
              try simp only [Act.put, List.setIfInBounds_toArray, List.set_cons_zero, List.set_cons_succ]
              refine wpAnyH_done (by kernel_rfl) ?_ _
              clear hHeld
              go_wp2_with fail
              go_meet
              exact ⟨g9, _, _, _, _, _, _, _, rfl, A9, ⟨_, _, _, ⟨_, _, _, _, rfl, hx9, hy9⟩, hF9⟩, hbR⟩
          · go_simp
            obtain ⟨u65, hU, B9, hb9⟩ : ∃ U, U = ud1.alloc (.cells #[.bool false, .slice none 0 0, .slice none 0 0] 49) ∧ Box 49 U ud1.heap.size (.bool false) (.slice none 0 0) (.slice none 0 0) ∧ Below ud1.heap.size ud1 U := ⟨_, rfl, Box.new _ _ _ _ _, al1 _⟩
            rw [← hU]
            clear hU
            have n81 := hbR.size
            have n82 := hbW.size
            replace hF8 := hF8.below hb9
            replace P8 := P8.below hb9
            replace hbW : Below w.heap.size w u65 := hbW.trans (hb9.mono hbW.size)
            replace hbR : Below t4.heap.size t4 u65 := hbR.trans (hb9.mono hbR.size)
            clear hb9
            generalize ud1.heap.size = g9 at B9 n81 n82 ⊢
            clear p00 p01 p02
            obtain ⟨p00, p01, p02, _⟩ := P8.cells
            obtain ⟨p10, p11, p12, _⟩ := B9.cells
            refine hK.out _ _ ?_ (fun hHeld => ?_)
            · (try dsimp only)
              exact ⟨p00, p01, p02⟩
            clear hK K
            try simp only [Act.put, List.setIfInBounds_toArray, List.set_cons_zero, List.set_cons_succ]
            refine hCall (i := 1) rfl (by kernel_rfl) (by rfl) (fun K hK => ?_)
            go_simp
            refine (whole_any z _ (by omega) (by omega)).mono ?_
            rintro e u6 ⟨v5, rfl, hF5, hb6⟩
            replace hF8 := hF8.below hb6
            replace P8 := P8.below hb6
            replace B9 := B9.below hb6
            replace hbW : Below w.heap.size w u6 := hbW.trans (hb6.mono hbW.size)
            replace hbR : Below t4.heap.size t4 u6 := hbR.trans (hb6.mono hbR.size)
            clear hb6
            clear p00 p01 p02 p10 p11 p12
            obtain ⟨p00, p01, p02, _⟩ := P8.cells
            obtain ⟨p10, p11, p12, _⟩ := B9.cells
            go_wp2_with fail
            refine hK.out _ _ ?_ (fun hHeld => ?_)
            · (try dsimp only)
              exact ⟨p00, p01, p02⟩
            clear hK K
            try simp only [Act.put, List.setIfInBounds_toArray, List.set_cons_zero, List.set_cons_succ]
            refine hCall (i := 3) rfl (by kernel_rfl) (by rfl) (fun K hK => ?_)
            go_simp
            refine (qsub_any 2 1003 _ _ _ _ _ hF5.ct hF8.ct (by decide) (by decide) (by decide) (by decide)).mono ?_
            rintro e u7 ⟨v9, rfl, hF9, hb7⟩
            replace hF8 := hF8.below hb7
            replace hF5 := hF5.below hb7
            replace P8 := P8.below hb7
            replace B9 := B9.below hb7
            replace hbW : Below w.heap.size w u7 := hbW.trans (hb7.mono hbW.size)
            replace hbR : Below t4.heap.size t4 u7 := hbR.trans (hb7.mono hbR.size)
            clear hb7
            obtain ⟨n9, x9, y9, ⟨a9, c9, b9, d9, rfl, hx9, hy9⟩, hF9⟩ := hF9
            clear p00 p01 p02 p10 p11 p12
            obtain ⟨p00, p01, p02, _⟩ := P8.cells
            obtain ⟨p10, p11, p12, _⟩ := B9.cells
            go_wp2_with fail
            refine hK.out _ _ ?_ (fun hHeld => ?_)
            · (try dsimp only)
              exact ⟨p00, p01, p02⟩
            clear hK K
            try simp only [Act.put, List.setIfInBounds_toArray, List.set_cons_zero, List.set_cons_succ]
            refine hCall (i := 5) rfl (by kernel_rfl) (by rfl) (fun K hK => ?_)
            go_simp
            obtain ⟨u68, hU, A9, hbU, hK9, ho⟩ := set3_world B9 (.bool n9) (.slice a9 x9.length c9) (.slice b9 y9.length d9)
            rw [← hU]
            clear hU
            replace hbW := hbU _ _ hbW (by omega)
            replace hbR := hbU _ _ hbR (by omega)
            replace hx9 := hK9 _ _ _ hx9
            replace hy9 := hK9 _ _ _ hy9
            clear hbU hK9 ho P8
            have P8 := HP8.out.below hbR
            clear p00 p01 p02 p10 p11 p12
            obtain ⟨p00, p01, p02, _⟩ := P8.cells
            refine hK.out _ _ ?_ (fun hHeld => ?_)
            · (try dsimp only)
              exact ⟨p00, p01, p02⟩
            clear hK K
            try simp only [Act.put, List.setIfInBounds_toArray, List.set_cons_zero, List.set_cons_succ]
            refine wpAnyH_done (by kernel_rfl) ?_ _
            clear hHeld
            go_wp2_with fail
            go_meet
            exact ⟨g9, _, _, _, _, _, _, _, rfl, A9, ⟨_, _, _, ⟨_, _, _, _, rfl, hx9, hy9⟩, hF9⟩, hbR⟩
        case rest =>
          clear P8 hF8 hbW p00 p01 p10 p11 p20 p21 p22
          obtain ⟨g9, n9, a9, x9, c9, b9, y9, d9, rfl, P9, hF9, hbR⟩ := hcut
          have hbW := HBW.out.trans (hbR.mono HBW.out.size)
          clear hbR
          generalize ((z : Int) : Rat) - q = qd at *
          go_wp2_with fail
          obtain ⟨p00, p01, p02, _⟩ := P9.cells
          refine wp_region_held_drew (S := (fun u => u.cell? ⟨g9, 0, none⟩ = some (.bool n9) ∧ u.cell? ⟨g9, 1, none⟩ = some (.slice a9 x9 c9) ∧ u.cell? ⟨g9, 2, none⟩ = some (.slice b9 y9 d9))) (by kernel_rfl) ?_ (fun hHeld => ?_)
          · (try dsimp only)
            go_keep
          have hdr : Below wc.heap.size wc wc.drew := Below.drew1
          generalize wc.drew = ud2 at hdr hHeld ⊢
          replace hF9 := hF9.below hdr
          replace P9 := P9.below hdr
          replace hbW : Below w.heap.size w ud2 := hbW.trans (hdr.mono hbW.size)
          clear hdr
          clear p00 p01 p02
          obtain ⟨p00, p01, p02, _⟩ := P9.cells
          refine hT 0 hHeld ?_
          refine hCall (i := 1) rfl (by kernel_rfl) (by rfl) (fun K hK => ?_)
          go_simp
          refine (make_any 1 2 _ (by decide) (by decide) (by decide) (by decide)).mono ?_
          rintro e u5 ⟨v5, rfl, hF5, hb5⟩
          replace hF9 := hF9.below hb5
          replace P9 := P9.below hb5
          replace hbW : Below w.heap.size w u5 := hbW.trans (hb5.mono hbW.size)
          clear hb5
          clear p00 p01 p02
          obtain ⟨p00, p01, p02, _⟩ := P9.cells
          go_wp2_with fail
          refine hK.out _ _ ?_ (fun hHeld => ?_)
          · (try dsimp only)
            exact ⟨p00, p01, p02⟩
          clear hK K
          try simp only [Act.put, List.setIfInBounds_toArray, List.set_cons_zero, List.set_cons_succ]
          refine hCall (i := 2) rfl (by kernel_rfl) (by rfl) (fun K hK => ?_)
          go_simp
          refine (qcmp_any 1006 2 _ _ _ _ _ hF9.ct hF5.ct (by decide) (by decide) (by decide) (by decide)).mono ?_
          rintro e u6 ⟨rfl, hb6⟩
          replace hF9 := hF9.below hb6
          replace hF5 := hF5.below hb6
          replace P9 := P9.below hb6
          replace hbW : Below w.heap.size w u6 := hbW.trans (hb6.mono hbW.size)
          clear hb6
          rw [HC1.out]
          clear p00 p01 p02
          obtain ⟨p00, p01, p02, _⟩ := P9.cells
          go_wp2_with fail
          refine hK.out _ _ ?_ (fun hHeld => ?_)
          · (try dsimp only)
            exact ⟨p00, p01, p02⟩
          clear hK K
          try simp only [Act.put, List.setIfInBounds_toArray, List.set_cons_zero, List.set_cons_succ]
          refine hT 3 hHeld ?_
          refine hT 4 hHeld ?_
          refine hT 5 hHeld ?_
          refine hCall (i := 6) rfl (by kernel_rfl) (by rfl) (fun K hK => ?_)
          go_simp
          refine (make_any (-1) 2 _ (by decide) (by decide) (by decide) (by decide)).mono ?_
          rintro e u7 ⟨v6, rfl, hF6, hb7⟩
          replace hF9 := hF9.below hb7
          replace hF5 := hF5.below hb7
          replace P9 := P9.below hb7
          replace hbW : Below w.heap.size w u7 := hbW.trans (hb7.mono hbW.size)
          clear hb7
          clear p00 p01 p02
          obtain ⟨p00, p01, p02, _⟩ := P9.cells
          go_wp2_with fail
          refine hK.out _ _ ?_ (fun hHeld => ?_)
          · (try dsimp only)
            exact ⟨p00, p01, p02⟩
          clear hK K
          try simp only [Act.put, List.setIfInBounds_toArray, List.set_cons_zero, List.set_cons_succ]
          refine hCall (i := 7) rfl (by kernel_rfl) (by rfl) (fun K hK => ?_)
          go_simp
          refine (qcmp_any 1006 2 _ _ _ _ _ hF9.ct hF6.ct (by decide) (by decide) (by decide) (by decide)).mono ?_
          rintro e u8 ⟨rfl, hb8⟩
          replace hF9 := hF9.below hb8
          replace hF5 := hF5.below hb8
          replace hF6 := hF6.below hb8
          replace P9 := P9.below hb8
          replace hbW : Below w.heap.size w u8 := hbW.trans (hb8.mono hbW.size)
          clear hb8
          rw [HC2.out]
          clear p00 p01 p02
          obtain ⟨p00, p01, p02, _⟩ := P9.cells
          go_wp2_with fail
          refine hK.out _ _ ?_ (fun hHeld => ?_)
          · (try dsimp only)
            exact ⟨p00, p01, p02⟩
          clear hK K
          try simp only [Act.put, List.setIfInBounds_toArray, List.set_cons_zero, List.set_cons_succ]
          refine hT 8 hHeld ?_
          refine hT 9 hHeld ?_
          refine hT 10 hHeld ?_
          refine hT 11 hHeld ?_
          refine hCall (i := 12) rfl (by kernel_rfl) (by rfl) (fun K hK => ?_)
          go_simp
          refine (hfd _).mono ?_
          rintro e u9 ⟨rfl, hb9⟩
          replace hF9 := hF9.below hb9
          replace hF5 := hF5.below hb9
          replace hF6 := hF6.below hb9
          replace P9 := P9.below hb9
          replace hbW : Below w.heap.size w u9 := hbW.trans (hb9.mono hbW.size)
          clear hb9
          clear p00 p01 p02
          obtain ⟨p00, p01, p02, _⟩ := P9.cells
          go_wp2_with fail
          refine hK.out _ _ ?_ (fun hHeld => ?_)
          · (try dsimp only)
            exact ⟨p00, p01, p02⟩
          clear hK K
          try simp only [Act.put, List.setIfInBounds_toArray, List.set_cons_zero, List.set_cons_succ]
          refine hT 13 hHeld ?_
          refine hT 14 hHeld ?_
          refine wpAnyH_done (by kernel_rfl) ?_ _
          clear hHeld
          go_wp2
          go_ret
          exact ⟨rt_bool (by first | rfl | simp), hbW⟩
      · rw [hfe, hfn]
        clear hfe hfn HO1 HO2
        have hrd := fun v U hU => qround_any 1003 q v U hU (by decide) (by decide)
        simp only [HZ.out] at hrd
        clear HZ
        go_wp2_with fail
        refine (hrd _ _ hF8.ct).mono ?_
        rintro e t5 ⟨rfl, hb5⟩
        clear p00 p01 p10 p11 p20 p21 p22
        replace hF8 := hF8.below hb5
        replace P8 := P8.below hb5
        replace hbW : Below w.heap.size w t5 := hbW.trans (hb5.mono hbW.size)
        clear hb5 hrd hF8
        obtain ⟨p00, p01, p02, _⟩ := P8.cells
        by_cases hb : flB z = true
        · have e1 : flN z = z := by
            unfold flN
            rw [if_pos hb]
          rw [e1, hb]
          by_cases h1 : z < -32768
          · have g2 : decide (z < -32768) = true := decide_eq_true h1
            clear hno
            go_wp2
            go_ret
            exact ⟨rt_bool (by first | rfl | simp), hbW⟩
          · have g2 : decide (z < -32768) = false := decide_eq_false h1
            have g3 : decide (32767 < z) = true := decide_eq_true (by omega)
            clear hno
            go_wp2
            go_ret
            exact ⟨rt_bool (by first | rfl | simp), hbW⟩
        · have hb : flB z = false := by simpa using hb
          rw [hb]
          generalize flN z = y at *
          clear hno
          go_wp2
          go_ret
          exact ⟨rt_bool (by first | rfl | simp), hbW⟩

end Go.Proofs.Ytjefaccpmoignaa
