/-
  foundrylaw09.TentsShape: the walk.
-/
import Derived.Test.YtdhkpgndpgacbaaDoorZ11
import Derived.Test.YtdhkpgndpgacbaaDoorZ14
import Derived.Deep.CutRange
namespace Go.Proofs.YtdhkpgndpgacbaaDoor
open Go.RowKit Go.Maps
set_option linter.unusedSimpArgs false
set_option linter.unusedVariables false

/-- Where a tent holds everywhere its part is above 0 just at coordinates. -/
theorem sg_all {t : Te} {c : Int} (h : tfB t = true) (h0 : t.pk = 0) : decide (0 < sgnQ (paQ t c)) = crd c := by
  cases hc : crd c with
  | false => rw [paQ_no (fun e => by rw [hc] at e; cases e.2)]; rfl
  | true => rw [paQ_all h hc h0]; decide +kernel

set_option maxHeartbeats 8000000 in
set_option maxRecDepth 100000 in
theorem tentsShape_any (t : Te) (c : Int) (w : World) (ht : Tw t) (hc : -32768 ≤ c ∧ c < 32768) (htab : Pow w) :
    Calls Tryd.prog 4 #[.agg (teC t), .int .i16 c] w fun e w' => e = .returned (.bool true) ∧ Below w.heap.size w w' := by
  unfold teC
  have HTAB : Hid (Pow w) := htab
  have hf1 := fun U => cformT_any t U
  clear htab
  obtain ⟨W, hW, X1, hbW⟩ : ∃ W, W = w.alloc (.cells #[.int .i64 t.st, .int .i64 t.pk, .int .i64 t.en] 23) ∧ Box 23 W w.heap.size (.int .i64 t.st) (.int .i64 t.pk) (.int .i64 t.en) ∧ Below w.heap.size w W := ⟨_, rfl, Box.new _ _ _ _ _, al1 _⟩
  cases hf : tfB t with
  | false =>
    simp only [hf] at hf1
    clear hf
    obtain ⟨st, pk, en⟩ := t
    dsimp only at *
    go_enter Tryd.func4, Tryd.ntmps4
    go_wp2_with fail
    rw [← hW]
    clear hW
    refine (awake9_any _ (HTAB.out.below hbW)).mono ?_
    rintro e u1 ⟨rfl, hb1⟩
    replace X1 := X1.below hb1
    replace hbW := hbW.trans (hb1.mono hbW.size)
    clear hb1
    obtain ⟨p00, p01, p02, _⟩ := X1.cells
    go_wp2_with fail
    refine (hf1 _).mono ?_
    rintro e u2 ⟨rfl, hb2⟩
    replace hbW := hbW.trans (hb2.mono hbW.size)
    clear hb2 hf1 X1 p00 p01 p02
    go_wp2_with fail
    refine (awake9_any _ (HTAB.out.below hbW)).mono ?_
    rintro e u3 ⟨rfl, hb3⟩
    replace hbW := hbW.trans (hb3.mono hbW.size)
    clear hb3
    go_wp2
    go_ret
    exact ⟨rfl, hbW⟩
  | true =>
    simp only [hf] at hf1
    have hp1 := fun U => cpart_any t c U ⟨by omega, by omega⟩
    have hp2 := fun U => cpart_any t t.pk U ht.2.1
    have hp3 := fun U => cpart_any t 0 U ⟨by decide, by decide⟩
    have hin := paQ_in t c
    rw [paQ_peak hf] at hp2
    have HPO : Hid (t.pk = 0 → decide (0 < sgnQ (paQ t c)) = crd c) := fun h0 => sg_all hf h0
    have HOU : Hid (t.pk ≠ 0 → c < t.st ∨ t.en < c → sgnQ (paQ t c) = 0) := fun h0 h1 => by rw [paQ_out hf h0 h1]; rfl
    have HZE : Hid (t.pk ≠ 0 → sgnQ (paQ t 0) = 0) := fun h0 => by rw [paQ_zero hf h0]; rfl
    have gs1 : decide (sgnQ (paQ t c) < 0) = false := decide_eq_false (fun hh => Rat.not_lt.2 hin.1 (sgn_lt0.1 hh))
    have gs2 : decide (0 < sgnQ (paQ t c - ((1 : Int) : Rat))) = false := decide_eq_false (fun hh => Rat.not_lt.2 hin.2 (sgn_pos.1 hh))
    have HS3 : Hid (sgnQ ((1 : Rat) - ((1 : Int) : Rat)) = 0) := sgn_eq0.2 rfl
    obtain ⟨q, hq⟩ : ∃ q, paQ t c = q := ⟨_, rfl⟩
    obtain ⟨r, hr⟩ : ∃ r, paQ t 0 = r := ⟨_, rfl⟩
    simp only [hq] at hp1 HPO HOU gs1 gs2
    simp only [hr] at hp3 HZE
    obtain ⟨s1, hs1⟩ : ∃ s, sgnQ q = s := ⟨_, rfl⟩
    obtain ⟨s2, hs2⟩ : ∃ s, sgnQ (q - ((1 : Int) : Rat)) = s := ⟨_, rfl⟩
    rw [hs1] at gs1 HPO HOU
    rw [hs2] at gs2
    have HS1 : Hid (sgnQ q = s1) := hs1
    have HS2 : Hid (sgnQ (q - ((1 : Int) : Rat)) = s2) := hs2
    have hwc : IntKind.i64.wrap c = c := wrapi64 (by omega) (by omega)
    clear hs1 hs2 hq hr hin hf ht
    obtain ⟨st, pk, en⟩ := t
    dsimp only at *
    go_enter Tryd.func4, Tryd.ntmps4
    go_wp2_with fail
    rw [← hW]
    clear hW
    refine (awake9_any _ (HTAB.out.below hbW)).mono ?_
    rintro e u1 ⟨rfl, hb1⟩
    replace X1 := X1.below hb1
    replace hbW := hbW.trans (hb1.mono hbW.size)
    clear hb1
    obtain ⟨p00, p01, p02, _⟩ := X1.cells
    go_wp2_with fail
    refine (hf1 _).mono ?_
    rintro e u2 ⟨rfl, hb2⟩
    replace X1 := X1.below hb2
    replace hbW := hbW.trans (hb2.mono hbW.size)
    clear hb2 hf1 p00 p01 p02
    obtain ⟨p00, p01, p02, _⟩ := X1.cells
    go_wp2_with fail
    refine (hp1 _).mono ?_
    rintro e u3 ⟨v5, rfl, hF5, hb3⟩
    replace X1 := X1.below hb3
    replace hbW := hbW.trans (hb3.mono hbW.size)
    clear hb3 hp1 p00 p01 p02
    obtain ⟨n5, x5, y5, ⟨a5, c5, b5, d5, rfl, hx5, hy5⟩, hF5⟩ := hF5
    obtain ⟨V, hV, X5, hb4⟩ : ∃ V, V = u3.alloc (.cells #[.bool n5, .slice a5 x5.length c5, .slice b5 y5.length d5] 34) ∧ Box 34 V u3.heap.size (.bool n5) (.slice a5 x5.length c5) (.slice b5 y5.length d5) ∧ Below u3.heap.size u3 V := ⟨_, rfl, Box.new _ _ _ _ _, al1 _⟩
    have hF5 : Fr V (.agg #[.bool n5, .slice a5 x5.length c5, .slice b5 y5.length d5]) 2 q := Fr.below ⟨_, _, _, ⟨_, _, _, _, rfl, hx5, hy5⟩, hF5⟩ hb4
    clear hx5 hy5
    go_upto_region 4 with fail
    rw [← hV]
    clear hV
    replace X1 := X1.below hb4
    replace hbW := hbW.trans (hb4.mono hbW.size)
    generalize u3.heap.size = g5 at X5 ⊢
    clear hb4
    obtain ⟨p00, p01, p02, _⟩ := X1.cells
    obtain ⟨p10, p11, p12, _⟩ := X5.cells
    refine wp_region_held_drew (S := (fun u => u.cell? ⟨w.heap.size, 0, none⟩ = some (.int .i64 st) ∧ u.cell? ⟨w.heap.size, 1, none⟩ = some (.int .i64 pk) ∧ u.cell? ⟨w.heap.size, 2, none⟩ = some (.int .i64 en) ∧ u.cell? ⟨g5, 0, none⟩ = some (.bool n5) ∧ u.cell? ⟨g5, 1, none⟩ = some (.slice a5 x5.length c5) ∧ u.cell? ⟨g5, 2, none⟩ = some (.slice b5 y5.length d5))) (by kernel_rfl) ?_ (fun hHeld => ?_)
    · (try dsimp only)
      go_keep
    have hdr : Below V.heap.size V V.drew := Below.drew1
    generalize V.drew = ud2 at hdr hHeld ⊢
    replace hF5 := hF5.below hdr
    replace X1 := X1.below hdr
    replace X5 := X5.below hdr
    replace hbW : Below w.heap.size w ud2 := hbW.trans (hdr.mono hbW.size)
    clear hdr
    clear p00 p01 p02 p10 p11 p12
    obtain ⟨p00, p01, p02, _⟩ := X1.cells
    obtain ⟨p10, p11, p12, _⟩ := X5.cells
    refine hT 0 hHeld ?_
    refine hCall (i := 1) rfl (by kernel_rfl) (by rfl) (fun K hK => ?_)
    go_simp
    refine (qsign_any 2 q _ _ hF5.ct (by decide) (by decide)).mono ?_
    rintro e u5 ⟨rfl, hb5⟩
    replace hF5 := hF5.below hb5
    replace X1 := X1.below hb5
    replace X5 := X5.below hb5
    replace hbW : Below w.heap.size w u5 := hbW.trans (hb5.mono hbW.size)
    clear hb5
    rw [HS1.out]
    clear p00 p01 p02 p10 p11 p12
    obtain ⟨p00, p01, p02, _⟩ := X1.cells
    obtain ⟨p10, p11, p12, _⟩ := X5.cells
    go_wp2_with fail
    refine hK.out _ _ ?_ (fun hHeld => ?_)
    · (try dsimp only)
      exact ⟨p00, p01, p02, p10, p11, p12⟩
    clear hK K
    try simp only [Act.put, List.setIfInBounds_toArray, List.set_cons_zero, List.set_cons_succ]
    refine hT 2 hHeld ?_
    refine hT 3 hHeld ?_
    refine hT 4 hHeld ?_
    refine hCall (i := 5) rfl (by kernel_rfl) (by rfl) (fun K hK => ?_)
    go_simp
    refine (whole_any 1 _ (by decide) (by decide)).mono ?_
    rintro e u6 ⟨v8, rfl, hF8, hb6⟩
    replace hF5 := hF5.below hb6
    replace X1 := X1.below hb6
    replace X5 := X5.below hb6
    replace hbW : Below w.heap.size w u6 := hbW.trans (hb6.mono hbW.size)
    clear hb6
    clear p00 p01 p02 p10 p11 p12
    obtain ⟨p00, p01, p02, _⟩ := X1.cells
    obtain ⟨p10, p11, p12, _⟩ := X5.cells
    go_wp2_with fail
    refine hK.out _ _ ?_ (fun hHeld => ?_)
    · (try dsimp only)
      exact ⟨p00, p01, p02, p10, p11, p12⟩
    clear hK K
    try simp only [Act.put, List.setIfInBounds_toArray, List.set_cons_zero, List.set_cons_succ]
    refine hCall (i := 6) rfl (by kernel_rfl) (by rfl) (fun K hK => ?_)
    go_simp
    refine (qcmp_any 2 2 q _ _ _ _ hF5.ct hF8.ct (by decide) (by decide) (by decide) (by decide)).mono ?_
    rintro e u7 ⟨rfl, hb7⟩
    replace hF5 := hF5.below hb7
    replace hF8 := hF8.below hb7
    replace X1 := X1.below hb7
    replace X5 := X5.below hb7
    replace hbW : Below w.heap.size w u7 := hbW.trans (hb7.mono hbW.size)
    clear hb7
    rw [HS2.out]
    clear p00 p01 p02 p10 p11 p12
    obtain ⟨p00, p01, p02, _⟩ := X1.cells
    obtain ⟨p10, p11, p12, _⟩ := X5.cells
    go_wp2_with fail
    refine hK.out _ _ ?_ (fun hHeld => ?_)
    · (try dsimp only)
      exact ⟨p00, p01, p02, p10, p11, p12⟩
    clear hK K
    try simp only [Act.put, List.setIfInBounds_toArray, List.set_cons_zero, List.set_cons_succ]
    refine hT 7 hHeld ?_
    refine hT 8 hHeld ?_
    refine hT 9 hHeld ?_
    refine hT 10 hHeld ?_
    refine hT 11 hHeld ?_
    refine hT 12 hHeld ?_
    refine hCall (i := 13) rfl (by kernel_rfl) (by rfl) (fun K hK => ?_)
    go_simp
    refine (hp2 _).mono ?_
    rintro e u8 ⟨v9, rfl, hF9, hb8⟩
    replace hF5 := hF5.below hb8
    replace hF8 := hF8.below hb8
    replace X1 := X1.below hb8
    replace X5 := X5.below hb8
    replace hbW : Below w.heap.size w u8 := hbW.trans (hb8.mono hbW.size)
    clear hb8
    clear p00 p01 p02 p10 p11 p12
    obtain ⟨p00, p01, p02, _⟩ := X1.cells
    obtain ⟨p10, p11, p12, _⟩ := X5.cells
    go_wp2_with fail
    refine hK.out _ _ ?_ (fun hHeld => ?_)
    · (try dsimp only)
      exact ⟨p00, p01, p02, p10, p11, p12⟩
    clear hK K
    try simp only [Act.put, List.setIfInBounds_toArray, List.set_cons_zero, List.set_cons_succ]
    refine hCall (i := 14) rfl (by kernel_rfl) (by rfl) (fun K hK => ?_)
    go_simp
    refine (whole_any 1 _ (by decide) (by decide)).mono ?_
    rintro e u9 ⟨v10, rfl, hF10, hb9⟩
    replace hF5 := hF5.below hb9
    replace hF8 := hF8.below hb9
    replace hF9 := hF9.below hb9
    replace X1 := X1.below hb9
    replace X5 := X5.below hb9
    replace hbW : Below w.heap.size w u9 := hbW.trans (hb9.mono hbW.size)
    clear hb9
    clear p00 p01 p02 p10 p11 p12
    obtain ⟨p00, p01, p02, _⟩ := X1.cells
    obtain ⟨p10, p11, p12, _⟩ := X5.cells
    go_wp2_with fail
    refine hK.out _ _ ?_ (fun hHeld => ?_)
    · (try dsimp only)
      exact ⟨p00, p01, p02, p10, p11, p12⟩
    clear hK K
    try simp only [Act.put, List.setIfInBounds_toArray, List.set_cons_zero, List.set_cons_succ]
    refine hCall (i := 15) rfl (by kernel_rfl) (by rfl) (fun K hK => ?_)
    go_simp
    refine (qcmp_any 2 2 _ _ _ _ _ hF9.ct hF10.ct (by decide) (by decide) (by decide) (by decide)).mono ?_
    rintro e u10 ⟨rfl, hb10⟩
    replace hF5 := hF5.below hb10
    replace hF8 := hF8.below hb10
    replace hF9 := hF9.below hb10
    replace hF10 := hF10.below hb10
    replace X1 := X1.below hb10
    replace X5 := X5.below hb10
    replace hbW : Below w.heap.size w u10 := hbW.trans (hb10.mono hbW.size)
    clear hb10
    rw [HS3.out]
    clear p00 p01 p02 p10 p11 p12
    obtain ⟨p00, p01, p02, _⟩ := X1.cells
    obtain ⟨p10, p11, p12, _⟩ := X5.cells
    go_wp2_with fail
    refine hK.out _ _ ?_ (fun hHeld => ?_)
    · (try dsimp only)
      exact ⟨p00, p01, p02, p10, p11, p12⟩
    clear hK K
    try simp only [Act.put, List.setIfInBounds_toArray, List.set_cons_zero, List.set_cons_succ]
    refine hT 16 hHeld ?_
    refine hT 17 hHeld ?_
    refine wpAnyH_done (by kernel_rfl) ?_ _
    clear hHeld p00 p01 p02 p10 p11 p12
    obtain ⟨p00, p01, p02, _⟩ := X1.cells
    obtain ⟨p10, p11, p12, _⟩ := X5.cells
    by_cases h0 : pk = 0
    · have g1 : (pk == 0) = true := by simp [h0]
      have hpo := HPO.out h0
      clear h0
      go_wp2_with fail
      refine (qsign_any 2 q _ _ hF5.ct (by decide) (by decide)).mono ?_
      rintro e v1 ⟨rfl, hb8⟩
      rw [HS1.out]
      replace hbW := hbW.trans (hb8.mono hbW.size)
      clear hb8
      go_wp2_with fail
      refine (coord_any c _).mono ?_
      rintro e v2 ⟨rfl, rfl⟩
      go_wp2
      go_ret
      exact ⟨rt_bool (by first | rfl | (rw [hpo]; simp)), hbW⟩
    · have g1 : (pk == 0) = false := by simp [h0]
      have hze := HZE.out h0
      by_cases h1 : c < st ∨ en < c
      · have hou := HOU.out h0 h1
        by_cases h2 : c < st
        · have g2 : decide (c < st) = true := decide_eq_true h2
          clear h0 h1 h2
          go_wp2_with fail
          refine (qsign_any 2 q _ _ hF5.ct (by decide) (by decide)).mono ?_
          rintro e v1 ⟨rfl, hb8⟩
          rw [HS1.out, hou]
          replace X1 := X1.below hb8
          replace hbW := hbW.trans (hb8.mono hbW.size)
          clear hb8 p00 p01 p02
          obtain ⟨p00, p01, p02, _⟩ := X1.cells
          go_wp2_with fail
          refine (hp3 _).mono ?_
          rintro e v3 ⟨v9, rfl, hF9, hb9⟩
          replace hbW := hbW.trans (hb9.mono hbW.size)
          clear hb9
          go_wp2_with fail
          refine (qsign_any 2 r _ _ hF9.ct (by decide) (by decide)).mono ?_
          rintro e v4 ⟨rfl, hb9⟩
          rw [hze]
          replace hbW := hbW.trans (hb9.mono hbW.size)
          clear hb9
          go_wp2
          go_ret
          exact ⟨rfl, hbW⟩
        · have g2 : decide (c < st) = false := decide_eq_false h2
          have g3 : decide (en < c) = true := decide_eq_true (by omega)
          clear h0 h1 h2
          go_wp2_with fail
          refine (qsign_any 2 q _ _ hF5.ct (by decide) (by decide)).mono ?_
          rintro e v1 ⟨rfl, hb8⟩
          rw [HS1.out, hou]
          replace X1 := X1.below hb8
          replace hbW := hbW.trans (hb8.mono hbW.size)
          clear hb8 p00 p01 p02
          obtain ⟨p00, p01, p02, _⟩ := X1.cells
          go_wp2_with fail
          refine (hp3 _).mono ?_
          rintro e v3 ⟨v9, rfl, hF9, hb9⟩
          replace hbW := hbW.trans (hb9.mono hbW.size)
          clear hb9
          go_wp2_with fail
          refine (qsign_any 2 r _ _ hF9.ct (by decide) (by decide)).mono ?_
          rintro e v4 ⟨rfl, hb9⟩
          rw [hze]
          replace hbW := hbW.trans (hb9.mono hbW.size)
          clear hb9
          go_wp2
          go_ret
          exact ⟨rfl, hbW⟩
      · have g2 : decide (c < st) = false := decide_eq_false (by omega)
        have g3 : decide (en < c) = false := decide_eq_false (by omega)
        clear h0 h1
        go_wp2_with fail
        refine (hp3 _).mono ?_
        rintro e v3 ⟨v9, rfl, hF9, hb9⟩
        replace hbW := hbW.trans (hb9.mono hbW.size)
        clear hb9
        go_wp2_with fail
        refine (qsign_any 2 r _ _ hF9.ct (by decide) (by decide)).mono ?_
        rintro e v4 ⟨rfl, hb9⟩
        rw [hze]
        replace hbW := hbW.trans (hb9.mono hbW.size)
        clear hb9
        go_wp2
        go_ret
        exact ⟨rfl, hbW⟩

end Go.Proofs.YtdhkpgndpgacbaaDoor
