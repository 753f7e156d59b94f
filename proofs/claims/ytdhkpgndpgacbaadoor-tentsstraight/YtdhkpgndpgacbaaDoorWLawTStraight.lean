/-
  foundrylaw09.TentsStraight: the walk.
-/
import Derived.Test.YtdhkpgndpgacbaaDoorZ11
import Derived.Test.YtdhkpgndpgacbaaDoorZ14
import Derived.Deep.CutRange
namespace Go.Proofs.YtdhkpgndpgacbaaDoor
open Go.RowKit Go.Maps
set_option linter.unusedSimpArgs false
set_option linter.unusedVariables false

set_option maxHeartbeats 8000000 in
set_option maxRecDepth 100000 in
theorem tentsStraight_any (t : Te) (w : World) (ht : Tw t) (htab : Pow w) :
    Calls Tryd.prog 5 #[.agg (teC t)] w fun e w' => e = .returned (.bool true) ∧ Below w.heap.size w w' := by
  unfold teC
  have HTAB : Hid (Pow w) := htab
  have hf1 := fun U => cformT_any t U
  clear htab
  obtain ⟨W, hW, X1, hbW⟩ : ∃ W, W = w.alloc (.cells #[.int .i64 t.st, .int .i64 t.pk, .int .i64 t.en] 23) ∧ Box 23 W w.heap.size (.int .i64 t.st) (.int .i64 t.pk) (.int .i64 t.en) ∧ Below w.heap.size w W := ⟨_, rfl, Box.new _ _ _ _ _, al1 _⟩
  cases hf : tfB t with
  | false =>
    simp only [hf] at hf1
    clear hf
    obtain ⟨st, pk, en⟩ := t
    dsimp only at *
    go_enter Tryd.func5, Tryd.ntmps5
    go_wp2_with fail
    rw [← hW]
    clear hW
    refine (awake9_any _ (HTAB.out.below hbW)).mono ?_
    rintro e u1 ⟨rfl, hb1⟩
    replace X1 := X1.below hb1
    replace hbW := hbW.trans (hb1.mono hbW.size)
    clear hb1
    obtain ⟨p00, p01, p02, _⟩ := X1.cells
    go_wp2_with fail
    refine (hf1 _).mono ?_
    rintro e u2 ⟨rfl, hb2⟩
    replace hbW := hbW.trans (hb2.mono hbW.size)
    clear hb2 hf1 X1 p00 p01 p02
    go_wp2_with fail
    refine (awake9_any _ (HTAB.out.below hbW)).mono ?_
    rintro e u3 ⟨rfl, hb3⟩
    replace hbW := hbW.trans (hb3.mono hbW.size)
    clear hb3
    go_wp2
    go_ret
    exact ⟨rfl, hbW⟩
  | true =>
    simp only [hf] at hf1
    by_cases h0 : t.pk = 0
    · have g0 : (t.pk == 0) = true := by simp [h0]
      clear h0 hf ht
      obtain ⟨st, pk, en⟩ := t
      dsimp only at *
      go_enter Tryd.func5, Tryd.ntmps5
      go_wp2_with fail
      rw [← hW]
      clear hW
      refine (awake9_any _ (HTAB.out.below hbW)).mono ?_
      rintro e u1 ⟨rfl, hb1⟩
      replace X1 := X1.below hb1
      replace hbW := hbW.trans (hb1.mono hbW.size)
      clear hb1
      obtain ⟨p00, p01, p02, _⟩ := X1.cells
      go_wp2_with fail
      refine (hf1 _).mono ?_
      rintro e u2 ⟨rfl, hb2⟩
      replace X1 := X1.below hb2
      replace hbW := hbW.trans (hb2.mono hbW.size)
      clear hb2 hf1 p00 p01 p02
      obtain ⟨p00, p01, p02, _⟩ := X1.cells
      go_wp2_with fail
      refine (awake9_any _ (HTAB.out.below hbW)).mono ?_
      rintro e u3 ⟨rfl, hb3⟩
      replace hbW := hbW.trans (hb3.mono hbW.size)
      clear hb3
      go_wp2
      go_ret
      exact ⟨rfl, hbW⟩
    · have g0 : (t.pk == 0) = false := by simp [h0]
      have hbd := tfB_iff.1 hf
      unfold TfT at hbd
      have hse : (t.st < t.pk ∨ t.st = t.pk) ∧ (t.pk < t.en ∨ t.en = t.pk) := by omega
      have HLO : Hid (t.st < t.pk → ∀ d, t.pk - t.st = 2 * d → paQ t (t.st + d) = ((1 : Int) : Rat) / ((2 : Int) : Rat)) := fun h1 d hd => paQ_low hf h0 h1 d hd
      have HHI : Hid (t.pk < t.en → ∀ d, t.en - t.pk = 2 * d → paQ t (t.pk + d) = ((1 : Int) : Rat) / ((2 : Int) : Rat)) := fun h1 d hd => paQ_high hf h0 h1 d hd
      have HPA : Hid (∀ c, I64 c → ∀ U, Calls Tryd.prog 12 #[.agg #[.int .i64 t.st, .int .i64 t.pk, .int .i64 t.en], .int .i64 c] U fun e w' => ∃ v', e = .returned v' ∧ Fr w' v' 2 (paQ t c) ∧ Below U.heap.size U w') := fun c hc U => cpart_any t c U hc
      have HS : Hid (sgnQ (((1 : Int) : Rat) / ((2 : Int) : Rat) - ((1 : Int) : Rat) / ((2 : Int) : Rat)) = 0) := sgn_eq0.2 rfl
      have hb0 : -16384 ≤ t.st ∧ t.st ≤ 16384 ∧ -16384 ≤ t.pk ∧ t.pk ≤ 16384 ∧ -16384 ≤ t.en ∧ t.en ≤ 16384 := by omega
      clear h0 hf ht hbd
      obtain ⟨st, pk, en⟩ := t
      dsimp only at *
      have hk1 : IntKind.i64.wrap (pk - st) = pk - st := wrapi64 (by omega) (by omega)
      have hk2 : IntKind.i64.wrap (en - pk) = en - pk := wrapi64 (by omega) (by omega)
      go_enter Tryd.func5, Tryd.ntmps5
      go_wp2_with fail
      rw [← hW]
      clear hW
      refine (awake9_any _ (HTAB.out.below hbW)).mono ?_
      rintro e u1 ⟨rfl, hb1⟩
      replace X1 := X1.below hb1
      replace hbW := hbW.trans (hb1.mono hbW.size)
      clear hb1
      obtain ⟨p00, p01, p02, _⟩ := X1.cells
      go_wp2_with fail
      refine (hf1 _).mono ?_
      rintro e u2 ⟨rfl, hb2⟩
      replace X1 := X1.below hb2
      replace hbW := hbW.trans (hb2.mono hbW.size)
      clear hb2 hf1 p00 p01 p02
      obtain ⟨p00, p01, p02, _⟩ := X1.cells
      go_wp2_with fail
      refine (make_any 1 2 _ (by decide) (by decide) (by decide) (by decide)).mono ?_
      rintro e u3 ⟨v5, rfl, hF5, hb3⟩
      replace X1 := X1.below hb3
      replace hbW := hbW.trans (hb3.mono hbW.size)
      clear hb3 p00 p01 p02
      obtain ⟨n5, x5, y5, ⟨a5, c5, b5, d5, rfl, hx5, hy5⟩, hF5⟩ := hF5
      obtain ⟨V, hV, X5, hb4⟩ : ∃ V, V = u3.alloc (.cells #[.bool n5, .slice a5 x5.length c5, .slice b5 y5.length d5] 34) ∧ Box 34 V u3.heap.size (.bool n5) (.slice a5 x5.length c5) (.slice b5 y5.length d5) ∧ Below u3.heap.size u3 V := ⟨_, rfl, Box.new _ _ _ _ _, al1 _⟩
      have hF5 : Fr V (.agg #[.bool n5, .slice a5 x5.length c5, .slice b5 y5.length d5]) 2 (((1 : Int) : Rat) / ((2 : Int) : Rat)) := Fr.below ⟨_, _, _, ⟨_, _, _, _, rfl, hx5, hy5⟩, hF5⟩ hb4
      clear hx5 hy5
      go_upto_region 4 with fail
      rw [← hV]
      clear hV
      replace X1 := X1.below hb4
      replace hbW := hbW.trans (hb4.mono hbW.size)
      generalize u3.heap.size = g5 at X5 ⊢
      clear hb4
      go_cut [47] from 18 to 46 (fun s47 wx => s47 = .bool false ∧ Box 23 wx w.heap.size (.int .i64 st) (.int .i64 pk) (.int .i64 en) ∧ Box 34 wx g5 (.bool n5) (.slice a5 x5.length c5) (.slice b5 y5.length d5) ∧ Fr wx (.agg #[.bool n5, .slice a5 x5.length c5, .slice b5 y5.length d5]) 2 (((1 : Int) : Rat) / ((2 : Int) : Rat)) ∧ Below w.heap.size w wx)
      case first =>
        obtain ⟨p00, p01, p02, _⟩ := X1.cells
        obtain ⟨p10, p11, p12, _⟩ := X5.cells
        rcases hse.1 with h1 | h1
        · have g1 : decide (st < pk) = true := decide_eq_true h1
          by_cases h2 : (pk - st) % 2 = 0
          · obtain ⟨d, hd⟩ : ∃ d, pk - st = 2 * d := ⟨(pk - st) / 2, by omega⟩
            have hm : (pk - st).tmod 2 = 0 := by rw [Int.tmod_eq_emod_of_nonneg (by omega)]; omega
            have hdv : (pk - st).tdiv 2 = d := by rw [Int.tdiv_eq_ediv_of_nonneg (by omega)]; omega
            have hw1 : IntKind.i64.wrap d = d := wrapi64 (by omega) (by omega)
            have hw2 : IntKind.i64.wrap (st + d) = st + d := wrapi64 (by omega) (by omega)
            have hpa := HPA.out (st + d) ⟨by omega, by omega⟩
            simp only [HLO.out (by omega) d hd] at hpa
            have HD : Hid (pk - st = 2 * d) := hd
            clear hd
            refine wp_region_held_drew (S := (fun u => u.cell? ⟨w.heap.size, 0, none⟩ = some (.int .i64 st) ∧ u.cell? ⟨w.heap.size, 1, none⟩ = some (.int .i64 pk) ∧ u.cell? ⟨w.heap.size, 2, none⟩ = some (.int .i64 en) ∧ u.cell? ⟨g5, 0, none⟩ = some (.bool n5) ∧ u.cell? ⟨g5, 1, none⟩ = some (.slice a5 x5.length c5) ∧ u.cell? ⟨g5, 2, none⟩ = some (.slice b5 y5.length d5))) (by kernel_rfl) ?_ (fun hHeld => ?_)
            · (try dsimp only)
              go_keep
            have hdr : Below V.heap.size V V.drew := Below.drew1
            generalize V.drew = ud3 at hdr hHeld ⊢
            replace hF5 := hF5.below hdr
            replace X1 := X1.below hdr
            replace X5 := X5.below hdr
            replace hbW : Below w.heap.size w ud3 := hbW.trans (hdr.mono hbW.size)
            clear hdr
            clear p00 p01 p02 p10 p11 p12
            obtain ⟨p00, p01, p02, _⟩ := X1.cells
            obtain ⟨p10, p11, p12, _⟩ := X5.cells
            refine hT 0 hHeld ?_
            refine hT 1 hHeld ?_
            refine hT 2 hHeld ?_
            refine hT 3 hHeld ?_
            refine hT 4 hHeld ?_
            refine hT 5 hHeld ?_
            refine hT 6 hHeld ?_
            refine hT 7 hHeld ?_
            refine hT 8 hHeld ?_
            refine hT 9 hHeld ?_
            refine hT 10 hHeld ?_
            refine hT 11 hHeld ?_
            refine hT 12 hHeld ?_
            refine hT 13 hHeld ?_
            refine hT 14 hHeld ?_
            refine hT 15 hHeld ?_
            refine hT 16 hHeld ?_
            refine hT 17 hHeld ?_
            refine hT 18 hHeld ?_
            refine hT 19 hHeld ?_
            refine hT 20 hHeld ?_
            refine hT 21 hHeld ?_
            refine hT 22 hHeld ?_
            refine hT 23 hHeld ?_
            refine hT 24 hHeld ?_
            refine hT 26 hHeld ?_
            refine hCall (i := 25) rfl (by kernel_rfl) (by rfl) (fun K hK => ?_)
            go_simp
            refine (hpa _).mono ?_
            rintro e u5 ⟨v8, rfl, hF8, hb5⟩
            replace hF5 := hF5.below hb5
            replace X1 := X1.below hb5
            replace X5 := X5.below hb5
            replace hbW : Below w.heap.size w u5 := hbW.trans (hb5.mono hbW.size)
            clear hb5
            clear p00 p01 p02 p10 p11 p12
            obtain ⟨p00, p01, p02, _⟩ := X1.cells
            obtain ⟨p10, p11, p12, _⟩ := X5.cells
            go_wp2_with fail
            refine hK.out _ _ ?_ (fun hHeld => ?_)
            · (try dsimp only)
              exact ⟨p00, p01, p02, p10, p11, p12⟩
            clear hK K
            try simp only [Act.put, List.setIfInBounds_toArray, List.set_cons_zero, List.set_cons_succ]
            refine hCall (i := 27) rfl (by kernel_rfl) (by rfl) (fun K hK => ?_)
            go_simp
            refine (qcmp_any 2 2 _ _ _ _ _ hF8.ct hF5.ct (by decide) (by decide) (by decide) (by decide)).mono ?_
            rintro e u6 ⟨rfl, hb6⟩
            replace hF5 := hF5.below hb6
            replace hF8 := hF8.below hb6
            replace X1 := X1.below hb6
            replace X5 := X5.below hb6
            replace hbW : Below w.heap.size w u6 := hbW.trans (hb6.mono hbW.size)
            clear hb6
            rw [HS.out]
            clear p00 p01 p02 p10 p11 p12
            obtain ⟨p00, p01, p02, _⟩ := X1.cells
            obtain ⟨p10, p11, p12, _⟩ := X5.cells
            go_wp2_with fail
            refine hK.out _ _ ?_ (fun hHeld => ?_)
            · (try dsimp only)
              exact ⟨p00, p01, p02, p10, p11, p12⟩
            clear hK K
            try simp only [Act.put, List.setIfInBounds_toArray, List.set_cons_zero, List.set_cons_succ]
            refine hT 28 hHeld ?_
            refine hT 29 hHeld ?_
            refine wpAnyH_done (by kernel_rfl) ?_ _
            clear hHeld
            go_wp2_with fail
            go_meet
            exact ⟨rfl, X1, X5, hF5, hbW⟩
          · have hm : (pk - st).tmod 2 = 1 := by rw [Int.tmod_eq_emod_of_nonneg (by omega)]; omega
            refine wp_region_held_drew (S := (fun u => u.cell? ⟨w.heap.size, 0, none⟩ = some (.int .i64 st) ∧ u.cell? ⟨w.heap.size, 1, none⟩ = some (.int .i64 pk) ∧ u.cell? ⟨w.heap.size, 2, none⟩ = some (.int .i64 en) ∧ u.cell? ⟨g5, 0, none⟩ = some (.bool n5) ∧ u.cell? ⟨g5, 1, none⟩ = some (.slice a5 x5.length c5) ∧ u.cell? ⟨g5, 2, none⟩ = some (.slice b5 y5.length d5))) (by kernel_rfl) ?_ (fun hHeld => ?_)
            · (try dsimp only)
              go_keep
            have hdr : Below V.heap.size V V.drew := Below.drew1
            generalize V.drew = ud4 at hdr hHeld ⊢
            replace hF5 := hF5.below hdr
            replace X1 := X1.below hdr
            replace X5 := X5.below hdr
            replace hbW : Below w.heap.size w ud4 := hbW.trans (hdr.mono hbW.size)
            clear hdr
            clear p00 p01 p02 p10 p11 p12
            obtain ⟨p00, p01, p02, _⟩ := X1.cells
            obtain ⟨p10, p11, p12, _⟩ := X5.cells
            refine hT 0 hHeld ?_
            refine hT 1 hHeld ?_
            refine hT 2 hHeld ?_
            refine hT 3 hHeld ?_
            refine hT 4 hHeld ?_
            refine hT 5 hHeld ?_
            refine hT 6 hHeld ?_
            refine hT 7 hHeld ?_
            refine hT 8 hHeld ?_
            refine hT 9 hHeld ?_
            refine hT 10 hHeld ?_
            refine hT 11 hHeld ?_
            refine hT 12 hHeld ?_
            refine hT 13 hHeld ?_
            refine hT 14 hHeld ?_
            refine hN 15 hHeld ?_
            refine hN 16 hHeld ?_
            refine hN 17 hHeld ?_
            refine hN 18 hHeld ?_
            refine hN 19 hHeld ?_
            refine hN 20 hHeld ?_
            refine hN 21 hHeld ?_
            refine hN 22 hHeld ?_
            refine hN 23 hHeld ?_
            refine hN 24 hHeld ?_
            refine hN 25 hHeld ?_
            refine hN 26 hHeld ?_
            refine hN 27 hHeld ?_
            refine hN 28 hHeld ?_
            refine hT 29 hHeld ?_
            refine wpAnyH_done (by kernel_rfl) ?_ _
            clear hHeld
            go_wp2_with fail
            go_meet
            exact ⟨rfl, X1, X5, hF5, hbW⟩
        · have g1 : decide (st < pk) = false := decide_eq_false (by omega)
          refine wp_region_held_drew (S := (fun u => u.cell? ⟨w.heap.size, 0, none⟩ = some (.int .i64 st) ∧ u.cell? ⟨w.heap.size, 1, none⟩ = some (.int .i64 pk) ∧ u.cell? ⟨w.heap.size, 2, none⟩ = some (.int .i64 en) ∧ u.cell? ⟨g5, 0, none⟩ = some (.bool n5) ∧ u.cell? ⟨g5, 1, none⟩ = some (.slice a5 x5.length c5) ∧ u.cell? ⟨g5, 2, none⟩ = some (.slice b5 y5.length d5))) (by kernel_rfl) ?_ (fun hHeld => ?_)
          · (try dsimp only)
            go_keep
          have hdr : Below V.heap.size V V.drew := Below.drew1
          generalize V.drew = ud5 at hdr hHeld ⊢
          replace hF5 := hF5.below hdr
          replace X1 := X1.below hdr
          replace X5 := X5.below hdr
          replace hbW : Below w.heap.size w ud5 := hbW.trans (hdr.mono hbW.size)
          clear hdr
          clear p00 p01 p02 p10 p11 p12
          obtain ⟨p00, p01, p02, _⟩ := X1.cells
          obtain ⟨p10, p11, p12, _⟩ := X5.cells
          refine hT 0 hHeld ?_
          refine hT 1 hHeld ?_
          refine hT 2 hHeld ?_
          refine hT 3 hHeld ?_
          refine hT 4 hHeld ?_
          refine hT 5 hHeld ?_
          refine hN 6 hHeld ?_
          refine hN 7 hHeld ?_
          refine hN 8 hHeld ?_
          refine hN 9 hHeld ?_
          refine hN 10 hHeld ?_
          refine hN 11 hHeld ?_
          refine hN 12 hHeld ?_
          refine hT 13 hHeld ?_
          refine hT 14 hHeld ?_
          refine hN 15 hHeld ?_
          refine hN 16 hHeld ?_
          refine hN 17 hHeld ?_
          refine hN 18 hHeld ?_
          refine hN 19 hHeld ?_
          refine hN 20 hHeld ?_
          refine hN 21 hHeld ?_
          refine hN 22 hHeld ?_
          refine hN 23 hHeld ?_
          refine hN 24 hHeld ?_
          refine hN 25 hHeld ?_
          refine hN 26 hHeld ?_
          refine hN 27 hHeld ?_
          refine hN 28 hHeld ?_
          refine hT 29 hHeld ?_
          refine wpAnyH_done (by kernel_rfl) ?_ _
          clear hHeld
          go_wp2_with fail
          go_meet
          exact ⟨rfl, X1, X5, hF5, hbW⟩
      case rest =>
        clear X1 X5 hF5 hbW
        obtain ⟨rfl, X1, X5, hF5, hbW⟩ := hcut
        go_wp2_with fail
        obtain ⟨p00, p01, p02, _⟩ := X1.cells
        obtain ⟨p10, p11, p12, _⟩ := X5.cells
        rcases hse.2 with h1 | h1
        · have g1 : (en == pk) = false := beq_eq_false_iff_ne.2 (by omega)
          by_cases h2 : (en - pk) % 2 = 0
          · obtain ⟨d, hd⟩ : ∃ d, en - pk = 2 * d := ⟨(en - pk) / 2, by omega⟩
            have hm : (en - pk).tmod 2 = 0 := by rw [Int.tmod_eq_emod_of_nonneg (by omega)]; omega
            have hdv : (en - pk).tdiv 2 = d := by rw [Int.tdiv_eq_ediv_of_nonneg (by omega)]; omega
            have hw1 : IntKind.i64.wrap d = d := wrapi64 (by omega) (by omega)
            have hw2 : IntKind.i64.wrap (pk + d) = pk + d := wrapi64 (by omega) (by omega)
            have hpa := HPA.out (pk + d) ⟨by omega, by omega⟩
            simp only [HHI.out (by omega) d hd] at hpa
            have HD : Hid (en - pk = 2 * d) := hd
            clear hd
            refine wp_region_held_drew (S := (fun u => u.cell? ⟨w.heap.size, 0, none⟩ = some (.int .i64 st) ∧ u.cell? ⟨w.heap.size, 1, none⟩ = some (.int .i64 pk) ∧ u.cell? ⟨w.heap.size, 2, none⟩ = some (.int .i64 en) ∧ u.cell? ⟨g5, 0, none⟩ = some (.bool n5) ∧ u.cell? ⟨g5, 1, none⟩ = some (.slice a5 x5.length c5) ∧ u.cell? ⟨g5, 2, none⟩ = some (.slice b5 y5.length d5))) (by kernel_rfl) ?_ (fun hHeld => ?_)
            · (try dsimp only)
              go_keep
            have hdr : Below wc.heap.size wc wc.drew := Below.drew1
            generalize wc.drew = ud6 at hdr hHeld ⊢
            replace hF5 := hF5.below hdr
            replace X1 := X1.below hdr
            replace X5 := X5.below hdr
            replace hbW : Below w.heap.size w ud6 := hbW.trans (hdr.mono hbW.size)
            clear hdr
            clear p00 p01 p02 p10 p11 p12
            obtain ⟨p00, p01, p02, _⟩ := X1.cells
            obtain ⟨p10, p11, p12, _⟩ := X5.cells
            refine hT 0 hHeld ?_
            refine hT 1 hHeld ?_
            refine hT 2 hHeld ?_
            refine hT 3 hHeld ?_
            refine hT 4 hHeld ?_
            refine hT 5 hHeld ?_
            refine hT 6 hHeld ?_
            refine hT 7 hHeld ?_
            refine hT 8 hHeld ?_
            refine hT 9 hHeld ?_
            refine hT 10 hHeld ?_
            refine hT 11 hHeld ?_
            refine hT 12 hHeld ?_
            refine hT 13 hHeld ?_
            refine hT 14 hHeld ?_
            refine hT 15 hHeld ?_
            refine hT 16 hHeld ?_
            refine hT 17 hHeld ?_
            refine hT 18 hHeld ?_
            refine hT 19 hHeld ?_
            refine hT 20 hHeld ?_
            refine hT 21 hHeld ?_
            refine hT 22 hHeld ?_
            refine hT 23 hHeld ?_
            refine hT 24 hHeld ?_
            refine hT 26 hHeld ?_
            refine hCall (i := 25) rfl (by kernel_rfl) (by rfl) (fun K hK => ?_)
            go_simp
            refine (hpa _).mono ?_
            rintro e u5 ⟨v8, rfl, hF8, hb5⟩
            replace hF5 := hF5.below hb5
            replace X1 := X1.below hb5
            replace X5 := X5.below hb5
            replace hbW : Below w.heap.size w u5 := hbW.trans (hb5.mono hbW.size)
            clear hb5
            clear p00 p01 p02 p10 p11 p12
            obtain ⟨p00, p01, p02, _⟩ := X1.cells
            obtain ⟨p10, p11, p12, _⟩ := X5.cells
            go_wp2_with fail
            refine hK.out _ _ ?_ (fun hHeld => ?_)
            · (try dsimp only)
              exact ⟨p00, p01, p02, p10, p11, p12⟩
            clear hK K
            try simp only [Act.put, List.setIfInBounds_toArray, List.set_cons_zero, List.set_cons_succ]
            refine hCall (i := 27) rfl (by kernel_rfl) (by rfl) (fun K hK => ?_)
            go_simp
            refine (qcmp_any 2 2 _ _ _ _ _ hF8.ct hF5.ct (by decide) (by decide) (by decide) (by decide)).mono ?_
            rintro e u6 ⟨rfl, hb6⟩
            replace hF5 := hF5.below hb6
            replace hF8 := hF8.below hb6
            replace X1 := X1.below hb6
            replace X5 := X5.below hb6
            replace hbW : Below w.heap.size w u6 := hbW.trans (hb6.mono hbW.size)
            clear hb6
            rw [HS.out]
            clear p00 p01 p02 p10 p11 p12
            obtain ⟨p00, p01, p02, _⟩ := X1.cells
            obtain ⟨p10, p11, p12, _⟩ := X5.cells
            go_wp2_with fail
            refine hK.out _ _ ?_ (fun hHeld => ?_)
            · (try dsimp only)
              exact ⟨p00, p01, p02, p10, p11, p12⟩
            clear hK K
            try simp only [Act.put, List.setIfInBounds_toArray, List.set_cons_zero, List.set_cons_succ]
            refine hT 28 hHeld ?_
            refine hT 29 hHeld ?_
            refine hT 30 hHeld ?_
            refine wpAnyH_done (by kernel_rfl) ?_ _
            clear hHeld
            go_wp2
            go_ret
            exact ⟨rfl, hbW⟩
          · have hm : (en - pk).tmod 2 = 1 := by rw [Int.tmod_eq_emod_of_nonneg (by omega)]; omega
            refine wp_region_held_drew (S := (fun u => u.cell? ⟨w.heap.size, 0, none⟩ = some (.int .i64 st) ∧ u.cell? ⟨w.heap.size, 1, none⟩ = some (.int .i64 pk) ∧ u.cell? ⟨w.heap.size, 2, none⟩ = some (.int .i64 en) ∧ u.cell? ⟨g5, 0, none⟩ = some (.bool n5) ∧ u.cell? ⟨g5, 1, none⟩ = some (.slice a5 x5.length c5) ∧ u.cell? ⟨g5, 2, none⟩ = some (.slice b5 y5.length d5))) (by kernel_rfl) ?_ (fun hHeld => ?_)
            · (try dsimp only)
              go_keep
            have hdr : Below wc.heap.size wc wc.drew := Below.drew1
            generalize wc.drew = ud7 at hdr hHeld ⊢
            replace hF5 := hF5.below hdr
            replace X1 := X1.below hdr
            replace X5 := X5.below hdr
            replace hbW : Below w.heap.size w ud7 := hbW.trans (hdr.mono hbW.size)
            clear hdr
            clear p00 p01 p02 p10 p11 p12
            obtain ⟨p00, p01, p02, _⟩ := X1.cells
            obtain ⟨p10, p11, p12, _⟩ := X5.cells
            refine hT 0 hHeld ?_
            refine hT 1 hHeld ?_
            refine hT 2 hHeld ?_
            refine hT 3 hHeld ?_
            refine hT 4 hHeld ?_
            refine hT 5 hHeld ?_
            refine hT 6 hHeld ?_
            refine hT 7 hHeld ?_
            refine hT 8 hHeld ?_
            refine hT 9 hHeld ?_
            refine hT 10 hHeld ?_
            refine hT 11 hHeld ?_
            refine hT 12 hHeld ?_
            refine hT 13 hHeld ?_
            refine hT 14 hHeld ?_
            refine hN 15 hHeld ?_
            refine hN 16 hHeld ?_
            refine hN 17 hHeld ?_
            refine hN 18 hHeld ?_
            refine hN 19 hHeld ?_
            refine hN 20 hHeld ?_
            refine hN 21 hHeld ?_
            refine hN 22 hHeld ?_
            refine hN 23 hHeld ?_
            refine hN 24 hHeld ?_
            refine hN 25 hHeld ?_
            refine hN 26 hHeld ?_
            refine hN 27 hHeld ?_
            refine hN 28 hHeld ?_
            refine hT 29 hHeld ?_
            refine hT 30 hHeld ?_
            refine wpAnyH_done (by kernel_rfl) ?_ _
            clear hHeld
            go_wp2
            go_ret
            exact ⟨rfl, hbW⟩
        · have g1 : (en == pk) = true := by simp [h1]
          clear h1 hse
          refine wp_region_held_drew (S := (fun u => u.cell? ⟨w.heap.size, 0, none⟩ = some (.int .i64 st) ∧ u.cell? ⟨w.heap.size, 1, none⟩ = some (.int .i64 pk) ∧ u.cell? ⟨w.heap.size, 2, none⟩ = some (.int .i64 en) ∧ u.cell? ⟨g5, 0, none⟩ = some (.bool n5) ∧ u.cell? ⟨g5, 1, none⟩ = some (.slice a5 x5.length c5) ∧ u.cell? ⟨g5, 2, none⟩ = some (.slice b5 y5.length d5))) (by kernel_rfl) ?_ (fun hHeld => ?_)
          · (try dsimp only)
            go_keep
          have hdr : Below wc.heap.size wc wc.drew := Below.drew1
          generalize wc.drew = ud8 at hdr hHeld ⊢
          replace hF5 := hF5.below hdr
          replace X1 := X1.below hdr
          replace X5 := X5.below hdr
          replace hbW : Below w.heap.size w ud8 := hbW.trans (hdr.mono hbW.size)
          clear hdr
          clear p00 p01 p02 p10 p11 p12
          obtain ⟨p00, p01, p02, _⟩ := X1.cells
          obtain ⟨p10, p11, p12, _⟩ := X5.cells
          refine hT 0 hHeld ?_
          refine hT 1 hHeld ?_
          refine hT 2 hHeld ?_
          refine hT 3 hHeld ?_
          refine hT 4 hHeld ?_
          refine hT 5 hHeld ?_
          refine hN 6 hHeld ?_
          refine hN 7 hHeld ?_
          refine hN 8 hHeld ?_
          refine hN 9 hHeld ?_
          refine hN 10 hHeld ?_
          refine hN 11 hHeld ?_
          refine hN 12 hHeld ?_
          refine hT 13 hHeld ?_
          refine hT 14 hHeld ?_
          refine hN 15 hHeld ?_
          refine hN 16 hHeld ?_
          refine hN 17 hHeld ?_
          refine hN 18 hHeld ?_
          refine hN 19 hHeld ?_
          refine hN 20 hHeld ?_
          refine hN 21 hHeld ?_
          refine hN 22 hHeld ?_
          refine hN 23 hHeld ?_
          refine hN 24 hHeld ?_
          refine hN 25 hHeld ?_
          refine hN 26 hHeld ?_
          refine hN 27 hHeld ?_
          refine hN 28 hHeld ?_
          refine hT 29 hHeld ?_
          refine hT 30 hHeld ?_
          refine wpAnyH_done (by kernel_rfl) ?_ _
          clear hHeld
          go_wp2
          go_ret
          exact ⟨rfl, hbW⟩

end Go.Proofs.YtdhkpgndpgacbaaDoor
