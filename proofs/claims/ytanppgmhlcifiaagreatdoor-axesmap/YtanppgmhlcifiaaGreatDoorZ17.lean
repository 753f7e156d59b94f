/-
  axes.User: the walk.
-/
import Derived.Test.YtanppgmhlcifiaaGreatDoorZ16
namespace Go.Proofs.YtanppgmhlcifiaaGreatDoor
open Go.RowKit Go.Maps
set_option linter.unusedSimpArgs false
set_option linter.unusedVariables false

theorem BxA.other {u U : World} {b k : Nat} {x y z v : Value} (h : BxA u k x y z v) (hU : ∀ j, j ≠ b → U.heap[j]? = u.heap[j]?) (hk : k ≠ b) : BxA U k x y z v := (hU k hk).trans h
theorem usQ_sdN {t : Ax} {q : Rat} (h : onA t = true) : usQ t q = ((t.us : Int) : Rat) + clQ q * ((sdN t (decide (sgnQ q < 0)) : Int) : Rat) := by
  rw [usQ, if_pos h, wdA, sdN]
  by_cases hc : q < 0
  · rw [if_pos hc, decide_eq_true (sgn_lt0.2 hc), if_pos rfl]
  · rw [if_neg hc, decide_eq_false (fun hh => hc (sgn_lt0.1 hh))]
    rfl

set_option maxHeartbeats 4000000 in
set_option maxRecDepth 100000 in
theorem cuserQ_any (t : Ax) (k : Nat) (q : Rat) (v : Value) (w : World) (ht : Axw t) (h : Ct w v k q) (hk9 : k ≤ 10000000) (hk2 : 2 ≤ k) :
    Calls Tryz.prog 10 #[.agg (axC t), v] w fun e w' => ∃ v', e = .returned v' ∧ Fr w' v' (k + 5) (usQ t q) ∧ Below w.heap.size w w' := by
  have hk : k ≤ 100000000 := by omega
  have hX := h
  obtain ⟨n, xs, ys, ⟨a, c, a', c', rfl, _, _⟩, hz1⟩ := h
  clear hz1
  have hal := fun W => alone_any t W ht
  cases h1 : onA t with
  | false =>
    have HQ : Hid (usQ t q = 0) := by show usQ t q = 0; simp [usQ, h1]
    rw [h1] at hal
    obtain ⟨tx, lo, us, hi⟩ := t
    unfold axC at hal ⊢
    dsimp only at hal ⊢
    obtain ⟨W, hW, X1, B2, B3, hbW⟩ : ∃ W, W = ((w.alloc (.cells #[.string tx, .int .i64 lo, .int .i64 us, .int .i64 hi] 23)).alloc (.cells #[.bool n, .slice a xs.length c, .slice a' ys.length c'] 27)).alloc (.cells #[.bool false, .slice none 0 0, .slice none 0 0] 27) ∧ BxA W w.heap.size (.string tx) (.int .i64 lo) (.int .i64 us) (.int .i64 hi) ∧ Box 27 W (w.heap.size + 1) (.bool n) (.slice a xs.length c) (.slice a' ys.length c') ∧ Box 27 W (w.heap.size + 1 + 1) (.bool false) (.slice none 0 0) (.slice none 0 0) ∧ Below w.heap.size w W := ⟨_, rfl, ((BxA.new w _ _ _ _).below (bl1 _)).below (bl1 _), (Box.new1 _ w _ _ _ _).alloc _, Box.new2 _ w _ _ _ _ _, al3 _ _ _⟩
    go_enter Tryz.func10, Tryz.ntmps10
    go_wp2_with fail
    rw [← hW]
    clear hW
    obtain ⟨p00, p01, p02, p03, _⟩ := X1.cells
    obtain ⟨p10, p11, p12, _⟩ := B2.cells
    obtain ⟨p20, p21, p22, _⟩ := B3.cells
    refine (hal _).mono ?_
    rintro e u1 ⟨rfl, hb1⟩
    replace X1 := X1.below hb1
    replace B2 := B2.below hb1
    replace B3 := B3.below hb1
    replace hbW : Below w.heap.size w u1 := hbW.trans (hb1.mono hbW.size)
    clear hb1
    clear p00 p01 p02 p03 p10 p11 p12 p20 p21 p22
    obtain ⟨p00, p01, p02, p03, _⟩ := X1.cells
    obtain ⟨p10, p11, p12, _⟩ := B2.cells
    obtain ⟨p20, p21, p22, _⟩ := B3.cells
    go_wp2_with fail
    refine (whole_any 0 _ (by decide) (by decide)).mono ?_
    rintro e u2 ⟨v2, rfl, hF2, hb2⟩
    replace X1 := X1.below hb2
    replace B2 := B2.below hb2
    replace B3 := B3.below hb2
    replace hbW : Below w.heap.size w u2 := hbW.trans (hb2.mono hbW.size)
    clear hb2
    clear p00 p01 p02 p03 p10 p11 p12 p20 p21 p22
    obtain ⟨p00, p01, p02, p03, _⟩ := X1.cells
    obtain ⟨p10, p11, p12, _⟩ := B2.cells
    obtain ⟨p20, p21, p22, _⟩ := B3.cells
    replace hF2 := (hF2.eq (r := usQ ⟨tx, lo, us, hi⟩ q) (by rw [HQ.out]; rfl)).le (show 2 ≤ k + 5 by omega)
    clear p00 p01 p02 p03 p10 p11 p12 p20 p21 p22
    obtain ⟨n', xs', ys', ⟨e1, f1, e2, f2, rfl, hx', hy'⟩, hF⟩ := hF2
    have hs := B3.lt
    obtain ⟨q1, q2, q3, q4, q5, q6⟩ := B3.cells
    go_wp2
    refine ret3 (v := .agg #[.bool n', .slice e1 xs'.length f1, .slice e2 ys'.length f2]) B3 rfl (fun U hU => by obtain ⟨r1, r2, r3, _⟩ := hU.cells; simp [results, Tryz.results10, go_sem, r1, r2, r3]) (fun U hU hK => ⟨_, rfl, ⟨_, _, _, ⟨_, _, _, _, rfl, hK _ _ _ hx', hK _ _ _ hy'⟩, hF⟩, hU _ _ hbW (by omega)⟩)
  | true =>
    obtain ⟨_, k1, k2, k3, k4⟩ := onA_iff.1 h1
    have HQ : Hid (usQ t q = ((t.us : Int) : Rat) + clQ q * ((sdN t (decide (sgnQ q < 0)) : Int) : Rat)) := usQ_sdN h1
    rw [h1] at hal
    clear h1 ht
    obtain ⟨tx, lo, us, hi⟩ := t
    unfold axC at hal ⊢
    dsimp only at hal HQ k1 k2 k3 k4 ⊢
    have hsd := fun b W => side_any ⟨tx, lo, us, hi⟩ b W k1 k2 k3 k4
    have hsb := sdN_bd (t := ⟨tx, lo, us, hi⟩) (decide (sgnQ q < 0)) k1 k2 k3 k4
    unfold axC at hsd
    dsimp only at hsd
    obtain ⟨sd, hs2⟩ : ∃ x, sdN ⟨tx, lo, us, hi⟩ (decide (sgnQ q < 0)) = x := ⟨_, rfl⟩
    rw [hs2] at HQ hsb
    have HSD : Hid (sdN ⟨tx, lo, us, hi⟩ (decide (sgnQ q < 0)) = sd) := hs2
    clear hs2
    obtain ⟨sg0, hsg⟩ : ∃ x, sgnQ q = x := ⟨_, rfl⟩
    rw [hsg] at HSD
    have HSG : Hid (sgnQ q = sg0) := hsg
    clear hsg
    obtain ⟨W, hW, X1, B2, B3, hbW⟩ : ∃ W, W = ((w.alloc (.cells #[.string tx, .int .i64 lo, .int .i64 us, .int .i64 hi] 23)).alloc (.cells #[.bool n, .slice a xs.length c, .slice a' ys.length c'] 27)).alloc (.cells #[.bool false, .slice none 0 0, .slice none 0 0] 27) ∧ BxA W w.heap.size (.string tx) (.int .i64 lo) (.int .i64 us) (.int .i64 hi) ∧ Box 27 W (w.heap.size + 1) (.bool n) (.slice a xs.length c) (.slice a' ys.length c') ∧ Box 27 W (w.heap.size + 1 + 1) (.bool false) (.slice none 0 0) (.slice none 0 0) ∧ Below w.heap.size w W := ⟨_, rfl, ((BxA.new w _ _ _ _).below (bl1 _)).below (bl1 _), (Box.new1 _ w _ _ _ _).alloc _, Box.new2 _ w _ _ _ _ _, al3 _ _ _⟩
    go_enter Tryz.func10, Tryz.ntmps10
    go_wp2_with fail
    rw [← hW]
    clear hW
    replace hX := hX.below hbW
    obtain ⟨p00, p01, p02, p03, _⟩ := X1.cells
    obtain ⟨p10, p11, p12, _⟩ := B2.cells
    obtain ⟨p20, p21, p22, _⟩ := B3.cells
    refine (hal _).mono ?_
    rintro e u1 ⟨rfl, hb1⟩
    replace hX := hX.below hb1
    replace X1 := X1.below hb1
    replace B2 := B2.below hb1
    replace B3 := B3.below hb1
    replace hbW : Below w.heap.size w u1 := hbW.trans (hb1.mono hbW.size)
    clear hb1
    clear p00 p01 p02 p03 p10 p11 p12 p20 p21 p22
    obtain ⟨p00, p01, p02, p03, _⟩ := X1.cells
    obtain ⟨p10, p11, p12, _⟩ := B2.cells
    obtain ⟨p20, p21, p22, _⟩ := B3.cells
    clear hal
    have n12 : w.heap.size + 1 ≠ w.heap.size + 1 + 1 := by omega
    have n11 : w.heap.size ≠ w.heap.size + 1 + 1 := by omega
    go_wp2_with fail
    refine wp_region_held_drew (S := (fun u => u.cell? ⟨w.heap.size, 0, none⟩ = some (.string tx) ∧ u.cell? ⟨w.heap.size, 1, none⟩ = some (.int .i64 lo) ∧ u.cell? ⟨w.heap.size, 2, none⟩ = some (.int .i64 us) ∧ u.cell? ⟨w.heap.size, 3, none⟩ = some (.int .i64 hi) ∧ u.cell? ⟨(w.heap.size + 1), 0, none⟩ = some (.bool n) ∧ u.cell? ⟨(w.heap.size + 1), 1, none⟩ = some (.slice a xs.length c) ∧ u.cell? ⟨(w.heap.size + 1), 2, none⟩ = some (.slice a' ys.length c') ∧ u.cell? ⟨(w.heap.size + 1 + 1), 0, none⟩ = some (.bool false) ∧ u.cell? ⟨(w.heap.size + 1 + 1), 1, none⟩ = some (.slice none 0 0) ∧ u.cell? ⟨(w.heap.size + 1 + 1), 2, none⟩ = some (.slice none 0 0))) (by kernel_rfl) ?_ (fun hHeld => ?_)
    · (try dsimp only)
      go_keep
    have hdr : Below u1.heap.size u1 u1.drew := Below.drew1
    generalize u1.drew = ud58 at hdr hHeld ⊢
    replace hX := hX.below hdr
    replace X1 := X1.below hdr
    replace B2 := B2.below hdr
    replace B3 := B3.below hdr
    replace hbW : Below w.heap.size w ud58 := hbW.trans (hdr.mono hbW.size)
    clear hdr
    clear p00 p01 p02 p03 p10 p11 p12 p20 p21 p22
    obtain ⟨p00, p01, p02, p03, _⟩ := X1.cells
    obtain ⟨p10, p11, p12, _⟩ := B2.cells
    obtain ⟨p20, p21, p22, _⟩ := B3.cells
    refine hTake (i := 0) (v := ?v59) rfl (by kernel_rfl) (by kernel_rfl) (by kernel_rfl) (fun _ _ _ h => h) (Or.inl ⟨by rfl, ?y59⟩) hHeld ?r59
    case y59 =>
      intro w9 hSw
      (try dsimp only at hSw)
      go_simp
      try with_reducible rfl
    try simp only [Act.put, List.setIfInBounds_toArray, List.set_cons_zero, List.set_cons_succ]
    refine hTake (i := 1) (v := ?v60) rfl (by kernel_rfl) (by kernel_rfl) (by kernel_rfl) (fun _ _ _ h => h) (Or.inl ⟨by rfl, ?y60⟩) hHeld ?r60
    case y60 =>
      intro w9 hSw
      (try dsimp only at hSw)
      go_simp
      try with_reducible rfl
    try simp only [Act.put, List.setIfInBounds_toArray, List.set_cons_zero, List.set_cons_succ]
    refine wpAnyH_ready (rs := [2, 6]) (by kernel_rfl) (by simp) (hCons (i := 2) rfl (by rfl) (fun K hK => ?_) (hCons (i := 6) rfl (by rfl) (fun K hK => ?_) AllReadyH.nil))
    · go_simp
      refine (qsign_any k q _ _ hX hk hk2).mono ?_
      rintro e u2 ⟨rfl, hb2⟩
      replace hX := hX.below hb2
      replace X1 := X1.below hb2
      replace B2 := B2.below hb2
      replace B3 := B3.below hb2
      replace hbW : Below w.heap.size w u2 := hbW.trans (hb2.mono hbW.size)
      clear hb2
      rw [HSG.out]
      clear p00 p01 p02 p03 p10 p11 p12 p20 p21 p22
      obtain ⟨p00, p01, p02, p03, _⟩ := X1.cells
      obtain ⟨p10, p11, p12, _⟩ := B2.cells
      obtain ⟨p20, p21, p22, _⟩ := B3.cells
      go_wp2_with fail
      refine hK.out _ _ ?_ (fun hHeld => ?_)
      · (try dsimp only)
        exact ⟨p00, p01, p02, p03, p10, p11, p12, p20, p21, p22⟩
      clear hK K
      try simp only [Act.put, List.setIfInBounds_toArray, List.set_cons_zero, List.set_cons_succ]
      refine hTake (i := 3) (v := ?v61) rfl (by kernel_rfl) (by kernel_rfl) (by kernel_rfl) (fun _ _ _ h => h) (Or.inl ⟨by rfl, ?y61⟩) hHeld ?r61
      case y61 =>
        intro w9 hSw
        (try dsimp only at hSw)
        go_simp
        try with_reducible rfl
      try simp only [Act.put, List.setIfInBounds_toArray, List.set_cons_zero, List.set_cons_succ]
      refine wpAnyH_ready (rs := [4, 6]) (by kernel_rfl) (by simp) (hCons (i := 4) rfl (by rfl) (fun K hK => ?_) (hCons (i := 6) rfl (by rfl) (fun K hK => ?_) AllReadyH.nil))
      · go_simp
        refine (hsd _ _).mono ?_
        rintro e u3 ⟨rfl, hb3⟩
        replace hX := hX.below hb3
        replace X1 := X1.below hb3
        replace B2 := B2.below hb3
        replace B3 := B3.below hb3
        replace hbW : Below w.heap.size w u3 := hbW.trans (hb3.mono hbW.size)
        clear hb3
        rw [HSD.out]
        clear p00 p01 p02 p03 p10 p11 p12 p20 p21 p22
        obtain ⟨p00, p01, p02, p03, _⟩ := X1.cells
        obtain ⟨p10, p11, p12, _⟩ := B2.cells
        obtain ⟨p20, p21, p22, _⟩ := B3.cells
        go_wp2_with fail
        refine hK.out _ _ ?_ (fun hHeld => ?_)
        · (try dsimp only)
          exact ⟨p00, p01, p02, p03, p10, p11, p12, p20, p21, p22⟩
        clear hK K
        try simp only [Act.put, List.setIfInBounds_toArray, List.set_cons_zero, List.set_cons_succ]
        refine wpAnyH_ready (rs := [5, 6]) (by kernel_rfl) (by simp) (hCons (i := 5) rfl (by rfl) (fun K hK => ?_) (hCons (i := 6) rfl (by rfl) (fun K hK => ?_) AllReadyH.nil))
        · go_simp
          refine (whole_any sd _ (by omega) (by omega)).mono ?_
          rintro e u4 ⟨vw, rfl, hF1, hb4⟩
          replace hX := hX.below hb4
          replace X1 := X1.below hb4
          replace B2 := B2.below hb4
          replace B3 := B3.below hb4
          replace hbW : Below w.heap.size w u4 := hbW.trans (hb4.mono hbW.size)
          clear hb4
          have hWd := hF1.ct
          obtain ⟨nw, xw, yw, ⟨aw, cw, bw, dw, rfl, _, _⟩, _⟩ := hF1
          clear p00 p01 p02 p03 p10 p11 p12 p20 p21 p22
          obtain ⟨p00, p01, p02, p03, _⟩ := X1.cells
          obtain ⟨p10, p11, p12, _⟩ := B2.cells
          obtain ⟨p20, p21, p22, _⟩ := B3.cells
          go_wp2_with fail
          refine hK.out _ _ ?_ (fun hHeld => ?_)
          · (try dsimp only)
            exact ⟨p00, p01, p02, p03, p10, p11, p12, p20, p21, p22⟩
          clear hK K
          try simp only [Act.put, List.setIfInBounds_toArray, List.set_cons_zero, List.set_cons_succ]
          refine hCall (i := 6) rfl (by kernel_rfl) (by rfl) (fun K hK => ?_)
          go_simp
          obtain ⟨u5, hU, B4, hb9⟩ : ∃ U, U = u4.alloc (.cells #[.bool false, .slice none 0 0, .slice none 0 0] 27) ∧ Box 27 U u4.heap.size (.bool false) (.slice none 0 0) (.slice none 0 0) ∧ Below u4.heap.size u4 U := ⟨_, rfl, Box.new _ _ _ _ _, al1 _⟩
          rw [← hU]
          clear hU
          have hl4 : w.heap.size ≤ u4.heap.size := hbW.size
          have n41 : w.heap.size ≠ u4.heap.size := Nat.ne_of_lt X1.lt
          have n42 : w.heap.size + 1 ≠ u4.heap.size := Nat.ne_of_lt B2.lt
          have n43 : w.heap.size + 1 + 1 ≠ u4.heap.size := Nat.ne_of_lt B3.lt
          replace hX := hX.below hb9
          replace hWd := hWd.below hb9
          replace X1 := X1.below hb9
          replace B2 := B2.below hb9
          replace B3 := B3.below hb9
          replace hbW : Below w.heap.size w u5 := hbW.trans (hb9.mono hbW.size)
          clear hb9
          generalize u4.heap.size = b4 at B4 hl4 n41 n42 n43 ⊢
          clear p00 p01 p02 p03 p10 p11 p12 p20 p21 p22
          obtain ⟨p00, p01, p02, p03, _⟩ := X1.cells
          obtain ⟨p10, p11, p12, _⟩ := B2.cells
          obtain ⟨p20, p21, p22, _⟩ := B3.cells
          obtain ⟨p30, p31, p32, _⟩ := B4.cells
          refine hK.out _ _ ?_ (fun hHeld => ?_)
          · (try dsimp only)
            exact ⟨p00, p01, p02, p03, p10, p11, p12, p20, p21, p22⟩
          clear hK K
          try simp only [Act.put, List.setIfInBounds_toArray, List.set_cons_zero, List.set_cons_succ]
          refine hCall (i := 7) rfl (by kernel_rfl) (by rfl) (fun K hK => ?_)
          go_simp
          obtain ⟨u6, hU, A4, hbU, hK9, ho⟩ := set3_world B4 (.bool nw) (.slice aw xw.length cw) (.slice bw yw.length dw)
          rw [← hU]
          clear hU
          replace hbW := hbU _ _ hbW hl4
          replace hX := hX.keep hK9
          replace hWd := hWd.keep hK9
          replace X1 := X1.other ho n41
          replace B2 := B2.other ho n42
          replace B3 := B3.other ho n43
          clear hbU hK9 ho
          clear p00 p01 p02 p03 p10 p11 p12 p20 p21 p22 p30 p31 p32
          obtain ⟨p00, p01, p02, p03, _⟩ := X1.cells
          obtain ⟨p10, p11, p12, _⟩ := B2.cells
          obtain ⟨p20, p21, p22, _⟩ := B3.cells
          obtain ⟨p30, p31, p32, _⟩ := A4.cells
          refine hK.out _ _ ?_ (fun hHeld => ?_)
          · (try dsimp only)
            exact ⟨p00, p01, p02, p03, p10, p11, p12, p20, p21, p22⟩
          clear hK K
          try simp only [Act.put, List.setIfInBounds_toArray, List.set_cons_zero, List.set_cons_succ]
          refine wpAnyH_done (by kernel_rfl) ?_ _
          clear hHeld
          go_wp2_with fail
          clear p00 p01 p02 p03 p10 p11 p12 p20 p21 p22 p30 p31 p32
          obtain ⟨p00, p01, p02, p03, _⟩ := X1.cells
          obtain ⟨p10, p11, p12, _⟩ := B2.cells
          obtain ⟨p20, p21, p22, _⟩ := A4.cells
          refine wp_region_held_drew (S := (fun u => u.cell? ⟨w.heap.size, 0, none⟩ = some (.string tx) ∧ u.cell? ⟨w.heap.size, 1, none⟩ = some (.int .i64 lo) ∧ u.cell? ⟨w.heap.size, 2, none⟩ = some (.int .i64 us) ∧ u.cell? ⟨w.heap.size, 3, none⟩ = some (.int .i64 hi) ∧ u.cell? ⟨(w.heap.size + 1), 0, none⟩ = some (.bool n) ∧ u.cell? ⟨(w.heap.size + 1), 1, none⟩ = some (.slice a xs.length c) ∧ u.cell? ⟨(w.heap.size + 1), 2, none⟩ = some (.slice a' ys.length c') ∧ u.cell? ⟨b4, 0, none⟩ = some (.bool nw) ∧ u.cell? ⟨b4, 1, none⟩ = some (.slice aw xw.length cw) ∧ u.cell? ⟨b4, 2, none⟩ = some (.slice bw yw.length dw))) (by kernel_rfl) ?_ (fun hHeld => ?_)
          · (try dsimp only)
            go_keep
          have hdr : Below u6.heap.size u6 u6.drew := Below.drew1
          generalize u6.drew = ud62 at hdr hHeld ⊢
          replace hX := hX.below hdr
          replace hWd := hWd.below hdr
          replace B3 := B3.below hdr
          replace X1 := X1.below hdr
          replace B2 := B2.below hdr
          replace A4 := A4.below hdr
          replace hbW : Below w.heap.size w ud62 := hbW.trans (hdr.mono hbW.size)
          clear hdr
          clear p00 p01 p02 p03 p10 p11 p12 p20 p21 p22
          obtain ⟨p00, p01, p02, p03, _⟩ := X1.cells
          obtain ⟨p10, p11, p12, _⟩ := B2.cells
          obtain ⟨p20, p21, p22, _⟩ := A4.cells
          refine hTake (i := 0) (v := ?v63) rfl (by kernel_rfl) (by kernel_rfl) (by kernel_rfl) (fun _ _ _ h => h) (Or.inl ⟨by rfl, ?y63⟩) hHeld ?r63
          case y63 =>
            intro w9 hSw
            (try dsimp only at hSw)
            go_simp
            try with_reducible rfl
          try simp only [Act.put, List.setIfInBounds_toArray, List.set_cons_zero, List.set_cons_succ]
          refine hTake (i := 1) (v := ?v64) rfl (by kernel_rfl) (by kernel_rfl) (by kernel_rfl) (fun _ _ _ h => h) (Or.inl ⟨by rfl, ?y64⟩) hHeld ?r64
          case y64 =>
            intro w9 hSw
            (try dsimp only at hSw)
            go_simp
            try with_reducible rfl
          try simp only [Act.put, List.setIfInBounds_toArray, List.set_cons_zero, List.set_cons_succ]
          refine hTake (i := 3) (v := ?v65) rfl (by kernel_rfl) (by kernel_rfl) (by kernel_rfl) (fun _ _ _ h => h) (Or.inl ⟨by rfl, ?y65⟩) hHeld ?r65
          case y65 =>
            intro w9 hSw
            (try dsimp only at hSw)
            go_simp
            try with_reducible rfl
          try simp only [Act.put, List.setIfInBounds_toArray, List.set_cons_zero, List.set_cons_succ]
          refine hTake (i := 5) (v := ?v66) rfl (by kernel_rfl) (by kernel_rfl) (by kernel_rfl) (fun _ _ _ h => h) (Or.inl ⟨by rfl, ?y66⟩) hHeld ?r66
          case y66 =>
            intro w9 hSw
            (try dsimp only at hSw)
            go_simp
            try with_reducible rfl
          try simp only [Act.put, List.setIfInBounds_toArray, List.set_cons_zero, List.set_cons_succ]
          refine hCall (i := 2) rfl (by kernel_rfl) (by rfl) (fun K hK => ?_)
          go_simp
          refine (whole_any us _ (by omega) (by omega)).mono ?_
          rintro e u7 ⟨vu, rfl, hU1, hb7⟩
          replace hX := hX.below hb7
          replace hWd := hWd.below hb7
          replace B3 := B3.below hb7
          replace X1 := X1.below hb7
          replace B2 := B2.below hb7
          replace A4 := A4.below hb7
          replace hbW : Below w.heap.size w u7 := hbW.trans (hb7.mono hbW.size)
          clear hb7
          clear p00 p01 p02 p03 p10 p11 p12 p20 p21 p22
          obtain ⟨p00, p01, p02, p03, _⟩ := X1.cells
          obtain ⟨p10, p11, p12, _⟩ := B2.cells
          obtain ⟨p20, p21, p22, _⟩ := A4.cells
          go_wp2_with fail
          refine hK.out _ _ ?_ (fun hHeld => ?_)
          · (try dsimp only)
            exact ⟨p00, p01, p02, p03, p10, p11, p12, p20, p21, p22⟩
          clear hK K
          try simp only [Act.put, List.setIfInBounds_toArray, List.set_cons_zero, List.set_cons_succ]
          refine hCall (i := 4) rfl (by kernel_rfl) (by rfl) (fun K hK => ?_)
          go_simp
          refine (clamped_any k q _ _ hX hk hk2).mono ?_
          rintro e u8 ⟨vc, rfl, hC1, hb8⟩
          replace hX := hX.below hb8
          replace hWd := hWd.below hb8
          replace B3 := B3.below hb8
          replace hU1 := hU1.below hb8
          replace X1 := X1.below hb8
          replace B2 := B2.below hb8
          replace A4 := A4.below hb8
          replace hbW : Below w.heap.size w u8 := hbW.trans (hb8.mono hbW.size)
          clear hb8
          clear p00 p01 p02 p03 p10 p11 p12 p20 p21 p22
          obtain ⟨p00, p01, p02, p03, _⟩ := X1.cells
          obtain ⟨p10, p11, p12, _⟩ := B2.cells
          obtain ⟨p20, p21, p22, _⟩ := A4.cells
          go_wp2_with fail
          refine hK.out _ _ ?_ (fun hHeld => ?_)
          · (try dsimp only)
            exact ⟨p00, p01, p02, p03, p10, p11, p12, p20, p21, p22⟩
          clear hK K
          try simp only [Act.put, List.setIfInBounds_toArray, List.set_cons_zero, List.set_cons_succ]
          refine hCall (i := 6) rfl (by kernel_rfl) (by rfl) (fun K hK => ?_)
          go_simp
          refine (qmul_any k 2 (clQ q) ((sd : Int) : Rat) _ _ _ hC1 hWd hk (by decide) hk2 (by decide)).mono ?_
          rintro e u9 ⟨vm, rfl, hM1, hb9⟩
          replace hX := hX.below hb9
          replace hWd := hWd.below hb9
          replace B3 := B3.below hb9
          replace hU1 := hU1.below hb9
          replace hC1 := hC1.below hb9
          replace X1 := X1.below hb9
          replace B2 := B2.below hb9
          replace A4 := A4.below hb9
          replace hbW : Below w.heap.size w u9 := hbW.trans (hb9.mono hbW.size)
          clear hb9
          clear p00 p01 p02 p03 p10 p11 p12 p20 p21 p22
          obtain ⟨p00, p01, p02, p03, _⟩ := X1.cells
          obtain ⟨p10, p11, p12, _⟩ := B2.cells
          obtain ⟨p20, p21, p22, _⟩ := A4.cells
          go_wp2_with fail
          refine hK.out _ _ ?_ (fun hHeld => ?_)
          · (try dsimp only)
            exact ⟨p00, p01, p02, p03, p10, p11, p12, p20, p21, p22⟩
          clear hK K
          try simp only [Act.put, List.setIfInBounds_toArray, List.set_cons_zero, List.set_cons_succ]
          refine hCall (i := 7) rfl (by kernel_rfl) (by rfl) (fun K hK => ?_)
          go_simp
          refine (qadd_any 2 (k + 2) ((us : Int) : Rat) (clQ q * ((sd : Int) : Rat)) _ _ _ hU1.ct hM1.ct (by decide) (by omega) (by decide) (by omega)).mono ?_
          rintro e u10 ⟨vr, rfl, hR, hb10⟩
          replace hX := hX.below hb10
          replace hWd := hWd.below hb10
          replace B3 := B3.below hb10
          replace hU1 := hU1.below hb10
          replace hC1 := hC1.below hb10
          replace hM1 := hM1.below hb10
          replace X1 := X1.below hb10
          replace B2 := B2.below hb10
          replace A4 := A4.below hb10
          replace hbW : Below w.heap.size w u10 := hbW.trans (hb10.mono hbW.size)
          clear hb10
          replace hR := (hR.eq HQ.out.symm).le (show 2 + (k + 2) + 1 ≤ k + 5 by omega)
          clear p00 p01 p02 p03 p10 p11 p12 p20 p21 p22
          obtain ⟨p00, p01, p02, p03, _⟩ := X1.cells
          obtain ⟨p10, p11, p12, _⟩ := B2.cells
          obtain ⟨p20, p21, p22, _⟩ := A4.cells
          go_wp2_with fail
          refine hK.out _ _ ?_ (fun hHeld => ?_)
          · (try dsimp only)
            exact ⟨p00, p01, p02, p03, p10, p11, p12, p20, p21, p22⟩
          clear hK K
          try simp only [Act.put, List.setIfInBounds_toArray, List.set_cons_zero, List.set_cons_succ]
          refine hCall (i := 8) rfl (by kernel_rfl) (by rfl) (fun K hK => ?_)
          go_simp
          obtain ⟨q1, q2, q3, q4, q5, q6⟩ := B3.cells
          obtain ⟨nr, xr, yr, ⟨ar, cr, br, dr, rfl, hxr, hyr⟩, hFr⟩ := hR
          go_simp
          obtain ⟨u11, hU, A3, hbU, hK9, ho⟩ := set3_world B3 (.bool nr) (.slice ar xr.length cr) (.slice br yr.length dr)
          rw [← hU]
          clear hU q1 q2 q3 q4 q5 q6
          replace hbW := hbU _ _ hbW (by omega)
          replace hxr := hK9 _ _ _ hxr
          replace hyr := hK9 _ _ _ hyr
          replace X1 := X1.other ho n11
          replace B2 := B2.other ho n12
          replace A4 := A4.other ho (Ne.symm n43)
          clear hbU hK9 ho
          clear p00 p01 p02 p03 p10 p11 p12 p20 p21 p22
          obtain ⟨p00, p01, p02, p03, _⟩ := X1.cells
          obtain ⟨p10, p11, p12, _⟩ := B2.cells
          obtain ⟨p20, p21, p22, _⟩ := A4.cells
          refine hK.out _ _ ?_ (fun hHeld => ?_)
          · (try dsimp only)
            exact ⟨p00, p01, p02, p03, p10, p11, p12, p20, p21, p22⟩
          clear hK K
          try simp only [Act.put, List.setIfInBounds_toArray, List.set_cons_zero, List.set_cons_succ]
          refine wpAnyH_done (by kernel_rfl) ?_ _
          go_wp2
          refine bodyPost_ret (by obtain ⟨r1, r2, r3, _⟩ := A3.cells; simp [results, Tryz.results10, go_sem, r1, r2, r3]) rfl ⟨_, rfl, ⟨_, _, _, ⟨_, _, _, _, rfl, hxr, hyr⟩, hFr⟩, hbW⟩
        · go_simp
          obtain ⟨u4, hU, B4, hb9⟩ : ∃ U, U = u3.alloc (.cells #[.bool false, .slice none 0 0, .slice none 0 0] 27) ∧ Box 27 U u3.heap.size (.bool false) (.slice none 0 0) (.slice none 0 0) ∧ Below u3.heap.size u3 U := ⟨_, rfl, Box.new _ _ _ _ _, al1 _⟩
          rw [← hU]
          clear hU
          have hl4 : w.heap.size ≤ u3.heap.size := hbW.size
          have n41 : w.heap.size ≠ u3.heap.size := Nat.ne_of_lt X1.lt
          have n42 : w.heap.size + 1 ≠ u3.heap.size := Nat.ne_of_lt B2.lt
          have n43 : w.heap.size + 1 + 1 ≠ u3.heap.size := Nat.ne_of_lt B3.lt
          replace hX := hX.below hb9
          replace X1 := X1.below hb9
          replace B2 := B2.below hb9
          replace B3 := B3.below hb9
          replace hbW : Below w.heap.size w u4 := hbW.trans (hb9.mono hbW.size)
          clear hb9
          generalize u3.heap.size = b4 at B4 hl4 n41 n42 n43 ⊢
          clear p00 p01 p02 p03 p10 p11 p12 p20 p21 p22
          obtain ⟨p00, p01, p02, p03, _⟩ := X1.cells
          obtain ⟨p10, p11, p12, _⟩ := B2.cells
          obtain ⟨p20, p21, p22, _⟩ := B3.cells
          obtain ⟨p30, p31, p32, _⟩ := B4.cells
          refine hK.out _ _ ?_ (fun hHeld => ?_)
          · (try dsimp only)
            exact ⟨p00, p01, p02, p03, p10, p11, p12, p20, p21, p22⟩
          clear hK K
          try simp only [Act.put, List.setIfInBounds_toArray, List.set_cons_zero, List.set_cons_succ]
          refine hCall (i := 5) rfl (by kernel_rfl) (by rfl) (fun K hK => ?_)
          go_simp
          refine (whole_any sd _ (by omega) (by omega)).mono ?_
          rintro e u5 ⟨vw, rfl, hF1, hb5⟩
          replace hX := hX.below hb5
          replace X1 := X1.below hb5
          replace B2 := B2.below hb5
          replace B3 := B3.below hb5
          replace B4 := B4.below hb5
          replace hbW : Below w.heap.size w u5 := hbW.trans (hb5.mono hbW.size)
          clear hb5
          have hWd := hF1.ct
          obtain ⟨nw, xw, yw, ⟨aw, cw, bw, dw, rfl, _, _⟩, _⟩ := hF1
          clear p00 p01 p02 p03 p10 p11 p12 p20 p21 p22 p30 p31 p32
          obtain ⟨p00, p01, p02, p03, _⟩ := X1.cells
          obtain ⟨p10, p11, p12, _⟩ := B2.cells
          obtain ⟨p20, p21, p22, _⟩ := B3.cells
          obtain ⟨p30, p31, p32, _⟩ := B4.cells
          go_wp2_with fail
          refine hK.out _ _ ?_ (fun hHeld => ?_)
          · (try dsimp only)
            exact ⟨p00, p01, p02, p03, p10, p11, p12, p20, p21, p22⟩
          clear hK K
          try simp only [Act.put, List.setIfInBounds_toArray, List.set_cons_zero, List.set_cons_succ]
          refine hCall (i := 7) rfl (by kernel_rfl) (by rfl) (fun K hK => ?_)
          go_simp
          obtain ⟨u6, hU, A4, hbU, hK9, ho⟩ := set3_world B4 (.bool nw) (.slice aw xw.length cw) (.slice bw yw.length dw)
          rw [← hU]
          clear hU
          replace hbW := hbU _ _ hbW hl4
          replace hX := hX.keep hK9
          replace hWd := hWd.keep hK9
          replace X1 := X1.other ho n41
          replace B2 := B2.other ho n42
          replace B3 := B3.other ho n43
          clear hbU hK9 ho
          clear p00 p01 p02 p03 p10 p11 p12 p20 p21 p22 p30 p31 p32
          obtain ⟨p00, p01, p02, p03, _⟩ := X1.cells
          obtain ⟨p10, p11, p12, _⟩ := B2.cells
          obtain ⟨p20, p21, p22, _⟩ := B3.cells
          obtain ⟨p30, p31, p32, _⟩ := A4.cells
          refine hK.out _ _ ?_ (fun hHeld => ?_)
          · (try dsimp only)
            exact ⟨p00, p01, p02, p03, p10, p11, p12, p20, p21, p22⟩
          clear hK K
          try simp only [Act.put, List.setIfInBounds_toArray, List.set_cons_zero, List.set_cons_succ]
          refine wpAnyH_done (by kernel_rfl) ?_ _
          clear hHeld
          go_wp2_with fail
          clear p00 p01 p02 p03 p10 p11 p12 p20 p21 p22 p30 p31 p32
          obtain ⟨p00, p01, p02, p03, _⟩ := X1.cells
          obtain ⟨p10, p11, p12, _⟩ := B2.cells
          obtain ⟨p20, p21, p22, _⟩ := A4.cells
          refine wp_region_held_drew (S := (fun u => u.cell? ⟨w.heap.size, 0, none⟩ = some (.string tx) ∧ u.cell? ⟨w.heap.size, 1, none⟩ = some (.int .i64 lo) ∧ u.cell? ⟨w.heap.size, 2, none⟩ = some (.int .i64 us) ∧ u.cell? ⟨w.heap.size, 3, none⟩ = some (.int .i64 hi) ∧ u.cell? ⟨(w.heap.size + 1), 0, none⟩ = some (.bool n) ∧ u.cell? ⟨(w.heap.size + 1), 1, none⟩ = some (.slice a xs.length c) ∧ u.cell? ⟨(w.heap.size + 1), 2, none⟩ = some (.slice a' ys.length c') ∧ u.cell? ⟨b4, 0, none⟩ = some (.bool nw) ∧ u.cell? ⟨b4, 1, none⟩ = some (.slice aw xw.length cw) ∧ u.cell? ⟨b4, 2, none⟩ = some (.slice bw yw.length dw))) (by kernel_rfl) ?_ (fun hHeld => ?_)
          · (try dsimp only)
            go_keep
          have hdr : Below u6.heap.size u6 u6.drew := Below.drew1
          generalize u6.drew = ud67 at hdr hHeld ⊢
          replace hX := hX.below hdr
          replace hWd := hWd.below hdr
          replace B3 := B3.below hdr
          replace X1 := X1.below hdr
          replace B2 := B2.below hdr
          replace A4 := A4.below hdr
          replace hbW : Below w.heap.size w ud67 := hbW.trans (hdr.mono hbW.size)
          clear hdr
          clear p00 p01 p02 p03 p10 p11 p12 p20 p21 p22
          obtain ⟨p00, p01, p02, p03, _⟩ := X1.cells
          obtain ⟨p10, p11, p12, _⟩ := B2.cells
          obtain ⟨p20, p21, p22, _⟩ := A4.cells
          refine hTake (i := 0) (v := ?v68) rfl (by kernel_rfl) (by kernel_rfl) (by kernel_rfl) (fun _ _ _ h => h) (Or.inl ⟨by rfl, ?y68⟩) hHeld ?r68
          case y68 =>
            intro w9 hSw
            (try dsimp only at hSw)
            go_simp
            try with_reducible rfl
          try simp only [Act.put, List.setIfInBounds_toArray, List.set_cons_zero, List.set_cons_succ]
          refine hTake (i := 1) (v := ?v69) rfl (by kernel_rfl) (by kernel_rfl) (by kernel_rfl) (fun _ _ _ h => h) (Or.inl ⟨by rfl, ?y69⟩) hHeld ?r69
          case y69 =>
            intro w9 hSw
            (try dsimp only at hSw)
            go_simp
            try with_reducible rfl
          try simp only [Act.put, List.setIfInBounds_toArray, List.set_cons_zero, List.set_cons_succ]
          refine hTake (i := 3) (v := ?v70) rfl (by kernel_rfl) (by kernel_rfl) (by kernel_rfl) (fun _ _ _ h => h) (Or.inl ⟨by rfl, ?y70⟩) hHeld ?r70
          case y70 =>
            intro w9 hSw
            (try dsimp only at hSw)
            go_simp
            try with_reducible rfl
          try simp only [Act.put, List.setIfInBounds_toArray, List.set_cons_zero, List.set_cons_succ]
          refine hTake (i := 5) (v := ?v71) rfl (by kernel_rfl) (by kernel_rfl) (by kernel_rfl) (fun _ _ _ h => h) (Or.inl ⟨by rfl, ?y71⟩) hHeld ?r71
          case y71 =>
            intro w9 hSw
            (try dsimp only at hSw)
            go_simp
            try with_reducible rfl
          try simp only [Act.put, List.setIfInBounds_toArray, List.set_cons_zero, List.set_cons_succ]
          refine hCall (i := 2) rfl (by kernel_rfl) (by rfl) (fun K hK => ?_)
          go_simp
          refine (whole_any us _ (by omega) (by omega)).mono ?_
          rintro e u7 ⟨vu, rfl, hU1, hb7⟩
          replace hX := hX.below hb7
          replace hWd := hWd.below hb7
          replace B3 := B3.below hb7
          replace X1 := X1.below hb7
          replace B2 := B2.below hb7
          replace A4 := A4.below hb7
          replace hbW : Below w.heap.size w u7 := hbW.trans (hb7.mono hbW.size)
          clear hb7
          clear p00 p01 p02 p03 p10 p11 p12 p20 p21 p22
          obtain ⟨p00, p01, p02, p03, _⟩ := X1.cells
          obtain ⟨p10, p11, p12, _⟩ := B2.cells
          obtain ⟨p20, p21, p22, _⟩ := A4.cells
          go_wp2_with fail
          refine hK.out _ _ ?_ (fun hHeld => ?_)
          · (try dsimp only)
            exact ⟨p00, p01, p02, p03, p10, p11, p12, p20, p21, p22⟩
          clear hK K
          try simp only [Act.put, List.setIfInBounds_toArray, List.set_cons_zero, List.set_cons_succ]
          refine hCall (i := 4) rfl (by kernel_rfl) (by rfl) (fun K hK => ?_)
          go_simp
          refine (clamped_any k q _ _ hX hk hk2).mono ?_
          rintro e u8 ⟨vc, rfl, hC1, hb8⟩
          replace hX := hX.below hb8
          replace hWd := hWd.below hb8
          replace B3 := B3.below hb8
          replace hU1 := hU1.below hb8
          replace X1 := X1.below hb8
          replace B2 := B2.below hb8
          replace A4 := A4.below hb8
          replace hbW : Below w.heap.size w u8 := hbW.trans (hb8.mono hbW.size)
          clear hb8
          clear p00 p01 p02 p03 p10 p11 p12 p20 p21 p22
          obtain ⟨p00, p01, p02, p03, _⟩ := X1.cells
          obtain ⟨p10, p11, p12, _⟩ := B2.cells
          obtain ⟨p20, p21, p22, _⟩ := A4.cells
          go_wp2_with fail
          refine hK.out _ _ ?_ (fun hHeld => ?_)
          · (try dsimp only)
            exact ⟨p00, p01, p02, p03, p10, p11, p12, p20, p21, p22⟩
          clear hK K
          try simp only [Act.put, List.setIfInBounds_toArray, List.set_cons_zero, List.set_cons_succ]
          refine hCall (i := 6) rfl (by kernel_rfl) (by rfl) (fun K hK => ?_)
          go_simp
          refine (qmul_any k 2 (clQ q) ((sd : Int) : Rat) _ _ _ hC1 hWd hk (by decide) hk2 (by decide)).mono ?_
          rintro e u9 ⟨vm, rfl, hM1, hb9⟩
          replace hX := hX.below hb9
          replace hWd := hWd.below hb9
          replace B3 := B3.below hb9
          replace hU1 := hU1.below hb9
          replace hC1 := hC1.below hb9
          replace X1 := X1.below hb9
          replace B2 := B2.below hb9
          replace A4 := A4.below hb9
          replace hbW : Below w.heap.size w u9 := hbW.trans (hb9.mono hbW.size)
          clear hb9
          clear p00 p01 p02 p03 p10 p11 p12 p20 p21 p22
          obtain ⟨p00, p01, p02, p03, _⟩ := X1.cells
          obtain ⟨p10, p11, p12, _⟩ := B2.cells
          obtain ⟨p20, p21, p22, _⟩ := A4.cells
          go_wp2_with fail
          refine hK.out _ _ ?_ (fun hHeld => ?_)
          · (try dsimp only)
            exact ⟨p00, p01, p02, p03, p10, p11, p12, p20, p21, p22⟩
          clear hK K
          try simp only [Act.put, List.setIfInBounds_toArray, List.set_cons_zero, List.set_cons_succ]
          refine hCall (i := 7) rfl (by kernel_rfl) (by rfl) (fun K hK => ?_)
          go_simp
          refine (qadd_any 2 (k + 2) ((us : Int) : Rat) (clQ q * ((sd : Int) : Rat)) _ _ _ hU1.ct hM1.ct (by decide) (by omega) (by decide) (by omega)).mono ?_
          rintro e u10 ⟨vr, rfl, hR, hb10⟩
          replace hX := hX.below hb10
          replace hWd := hWd.below hb10
          replace B3 := B3.below hb10
          replace hU1 := hU1.below hb10
          replace hC1 := hC1.below hb10
          replace hM1 := hM1.below hb10
          replace X1 := X1.below hb10
          replace B2 := B2.below hb10
          replace A4 := A4.below hb10
          replace hbW : Below w.heap.size w u10 := hbW.trans (hb10.mono hbW.size)
          clear hb10
          replace hR := (hR.eq HQ.out.symm).le (show 2 + (k + 2) + 1 ≤ k + 5 by omega)
          clear p00 p01 p02 p03 p10 p11 p12 p20 p21 p22
          obtain ⟨p00, p01, p02, p03, _⟩ := X1.cells
          obtain ⟨p10, p11, p12, _⟩ := B2.cells
          obtain ⟨p20, p21, p22, _⟩ := A4.cells
          go_wp2_with fail
          refine hK.out _ _ ?_ (fun hHeld => ?_)
          · (try dsimp only)
            exact ⟨p00, p01, p02, p03, p10, p11, p12, p20, p21, p22⟩
          clear hK K
          try simp only [Act.put, List.setIfInBounds_toArray, List.set_cons_zero, List.set_cons_succ]
          refine hCall (i := 8) rfl (by kernel_rfl) (by rfl) (fun K hK => ?_)
          go_simp
          obtain ⟨q1, q2, q3, q4, q5, q6⟩ := B3.cells
          obtain ⟨nr, xr, yr, ⟨ar, cr, br, dr, rfl, hxr, hyr⟩, hFr⟩ := hR
          go_simp
          obtain ⟨u11, hU, A3, hbU, hK9, ho⟩ := set3_world B3 (.bool nr) (.slice ar xr.length cr) (.slice br yr.length dr)
          rw [← hU]
          clear hU q1 q2 q3 q4 q5 q6
          replace hbW := hbU _ _ hbW (by omega)
          replace hxr := hK9 _ _ _ hxr
          replace hyr := hK9 _ _ _ hyr
          replace X1 := X1.other ho n11
          replace B2 := B2.other ho n12
          replace A4 := A4.other ho (Ne.symm n43)
          clear hbU hK9 ho
          clear p00 p01 p02 p03 p10 p11 p12 p20 p21 p22
          obtain ⟨p00, p01, p02, p03, _⟩ := X1.cells
          obtain ⟨p10, p11, p12, _⟩ := B2.cells
          obtain ⟨p20, p21, p22, _⟩ := A4.cells
          refine hK.out _ _ ?_ (fun hHeld => ?_)
          · (try dsimp only)
            exact ⟨p00, p01, p02, p03, p10, p11, p12, p20, p21, p22⟩
          clear hK K
          try simp only [Act.put, List.setIfInBounds_toArray, List.set_cons_zero, List.set_cons_succ]
          refine wpAnyH_done (by kernel_rfl) ?_ _
          go_wp2
          refine bodyPost_ret (by obtain ⟨r1, r2, r3, _⟩ := A3.cells; simp [results, Tryz.results10, go_sem, r1, r2, r3]) rfl ⟨_, rfl, ⟨_, _, _, ⟨_, _, _, _, rfl, hxr, hyr⟩, hFr⟩, hbW⟩
      · go_simp
        obtain ⟨u3, hU, B4, hb9⟩ : ∃ U, U = u2.alloc (.cells #[.bool false, .slice none 0 0, .slice none 0 0] 27) ∧ Box 27 U u2.heap.size (.bool false) (.slice none 0 0) (.slice none 0 0) ∧ Below u2.heap.size u2 U := ⟨_, rfl, Box.new _ _ _ _ _, al1 _⟩
        rw [← hU]
        clear hU
        have hl4 : w.heap.size ≤ u2.heap.size := hbW.size
        have n41 : w.heap.size ≠ u2.heap.size := Nat.ne_of_lt X1.lt
        have n42 : w.heap.size + 1 ≠ u2.heap.size := Nat.ne_of_lt B2.lt
        have n43 : w.heap.size + 1 + 1 ≠ u2.heap.size := Nat.ne_of_lt B3.lt
        replace hX := hX.below hb9
        replace X1 := X1.below hb9
        replace B2 := B2.below hb9
        replace B3 := B3.below hb9
        replace hbW : Below w.heap.size w u3 := hbW.trans (hb9.mono hbW.size)
        clear hb9
        generalize u2.heap.size = b4 at B4 hl4 n41 n42 n43 ⊢
        clear p00 p01 p02 p03 p10 p11 p12 p20 p21 p22
        obtain ⟨p00, p01, p02, p03, _⟩ := X1.cells
        obtain ⟨p10, p11, p12, _⟩ := B2.cells
        obtain ⟨p20, p21, p22, _⟩ := B3.cells
        obtain ⟨p30, p31, p32, _⟩ := B4.cells
        refine hK.out _ _ ?_ (fun hHeld => ?_)
        · (try dsimp only)
          exact ⟨p00, p01, p02, p03, p10, p11, p12, p20, p21, p22⟩
        clear hK K
        try simp only [Act.put, List.setIfInBounds_toArray, List.set_cons_zero, List.set_cons_succ]
        refine hCall (i := 4) rfl (by kernel_rfl) (by rfl) (fun K hK => ?_)
        go_simp
        refine (hsd _ _).mono ?_
        rintro e u4 ⟨rfl, hb4⟩
        replace hX := hX.below hb4
        replace X1 := X1.below hb4
        replace B2 := B2.below hb4
        replace B3 := B3.below hb4
        replace B4 := B4.below hb4
        replace hbW : Below w.heap.size w u4 := hbW.trans (hb4.mono hbW.size)
        clear hb4
        rw [HSD.out]
        clear p00 p01 p02 p03 p10 p11 p12 p20 p21 p22 p30 p31 p32
        obtain ⟨p00, p01, p02, p03, _⟩ := X1.cells
        obtain ⟨p10, p11, p12, _⟩ := B2.cells
        obtain ⟨p20, p21, p22, _⟩ := B3.cells
        obtain ⟨p30, p31, p32, _⟩ := B4.cells
        go_wp2_with fail
        refine hK.out _ _ ?_ (fun hHeld => ?_)
        · (try dsimp only)
          exact ⟨p00, p01, p02, p03, p10, p11, p12, p20, p21, p22⟩
        clear hK K
        try simp only [Act.put, List.setIfInBounds_toArray, List.set_cons_zero, List.set_cons_succ]
        refine hCall (i := 5) rfl (by kernel_rfl) (by rfl) (fun K hK => ?_)
        go_simp
        refine (whole_any sd _ (by omega) (by omega)).mono ?_
        rintro e u5 ⟨vw, rfl, hF1, hb5⟩
        replace hX := hX.below hb5
        replace X1 := X1.below hb5
        replace B2 := B2.below hb5
        replace B3 := B3.below hb5
        replace B4 := B4.below hb5
        replace hbW : Below w.heap.size w u5 := hbW.trans (hb5.mono hbW.size)
        clear hb5
        have hWd := hF1.ct
        obtain ⟨nw, xw, yw, ⟨aw, cw, bw, dw, rfl, _, _⟩, _⟩ := hF1
        clear p00 p01 p02 p03 p10 p11 p12 p20 p21 p22 p30 p31 p32
        obtain ⟨p00, p01, p02, p03, _⟩ := X1.cells
        obtain ⟨p10, p11, p12, _⟩ := B2.cells
        obtain ⟨p20, p21, p22, _⟩ := B3.cells
        obtain ⟨p30, p31, p32, _⟩ := B4.cells
        go_wp2_with fail
        refine hK.out _ _ ?_ (fun hHeld => ?_)
        · (try dsimp only)
          exact ⟨p00, p01, p02, p03, p10, p11, p12, p20, p21, p22⟩
        clear hK K
        try simp only [Act.put, List.setIfInBounds_toArray, List.set_cons_zero, List.set_cons_succ]
        refine hCall (i := 7) rfl (by kernel_rfl) (by rfl) (fun K hK => ?_)
        go_simp
        obtain ⟨u6, hU, A4, hbU, hK9, ho⟩ := set3_world B4 (.bool nw) (.slice aw xw.length cw) (.slice bw yw.length dw)
        rw [← hU]
        clear hU
        replace hbW := hbU _ _ hbW hl4
        replace hX := hX.keep hK9
        replace hWd := hWd.keep hK9
        replace X1 := X1.other ho n41
        replace B2 := B2.other ho n42
        replace B3 := B3.other ho n43
        clear hbU hK9 ho
        clear p00 p01 p02 p03 p10 p11 p12 p20 p21 p22 p30 p31 p32
        obtain ⟨p00, p01, p02, p03, _⟩ := X1.cells
        obtain ⟨p10, p11, p12, _⟩ := B2.cells
        obtain ⟨p20, p21, p22, _⟩ := B3.cells
        obtain ⟨p30, p31, p32, _⟩ := A4.cells
        refine hK.out _ _ ?_ (fun hHeld => ?_)
        · (try dsimp only)
          exact ⟨p00, p01, p02, p03, p10, p11, p12, p20, p21, p22⟩
        clear hK K
        try simp only [Act.put, List.setIfInBounds_toArray, List.set_cons_zero, List.set_cons_succ]
        refine wpAnyH_done (by kernel_rfl) ?_ _
        clear hHeld
        go_wp2_with fail
        clear p00 p01 p02 p03 p10 p11 p12 p20 p21 p22 p30 p31 p32
        obtain ⟨p00, p01, p02, p03, _⟩ := X1.cells
        obtain ⟨p10, p11, p12, _⟩ := B2.cells
        obtain ⟨p20, p21, p22, _⟩ := A4.cells
        refine wp_region_held_drew (S := (fun u => u.cell? ⟨w.heap.size, 0, none⟩ = some (.string tx) ∧ u.cell? ⟨w.heap.size, 1, none⟩ = some (.int .i64 lo) ∧ u.cell? ⟨w.heap.size, 2, none⟩ = some (.int .i64 us) ∧ u.cell? ⟨w.heap.size, 3, none⟩ = some (.int .i64 hi) ∧ u.cell? ⟨(w.heap.size + 1), 0, none⟩ = some (.bool n) ∧ u.cell? ⟨(w.heap.size + 1), 1, none⟩ = some (.slice a xs.length c) ∧ u.cell? ⟨(w.heap.size + 1), 2, none⟩ = some (.slice a' ys.length c') ∧ u.cell? ⟨b4, 0, none⟩ = some (.bool nw) ∧ u.cell? ⟨b4, 1, none⟩ = some (.slice aw xw.length cw) ∧ u.cell? ⟨b4, 2, none⟩ = some (.slice bw yw.length dw))) (by kernel_rfl) ?_ (fun hHeld => ?_)
        · (try dsimp only)
          go_keep
        have hdr : Below u6.heap.size u6 u6.drew := Below.drew1
        generalize u6.drew = ud72 at hdr hHeld ⊢
        replace hX := hX.below hdr
        replace hWd := hWd.below hdr
        replace B3 := B3.below hdr
        replace X1 := X1.below hdr
        replace B2 := B2.below hdr
        replace A4 := A4.below hdr
        replace hbW : Below w.heap.size w ud72 := hbW.trans (hdr.mono hbW.size)
        clear hdr
        clear p00 p01 p02 p03 p10 p11 p12 p20 p21 p22
        obtain ⟨p00, p01, p02, p03, _⟩ := X1.cells
        obtain ⟨p10, p11, p12, _⟩ := B2.cells
        obtain ⟨p20, p21, p22, _⟩ := A4.cells
        refine hTake (i := 0) (v := ?v73) rfl (by kernel_rfl) (by kernel_rfl) (by kernel_rfl) (fun _ _ _ h => h) (Or.inl ⟨by rfl, ?y73⟩) hHeld ?r73
        case y73 =>
          intro w9 hSw
          (try dsimp only at hSw)
          go_simp
          try with_reducible rfl
        try simp only [Act.put, List.setIfInBounds_toArray, List.set_cons_zero, List.set_cons_succ]
        refine hTake (i := 1) (v := ?v74) rfl (by kernel_rfl) (by kernel_rfl) (by kernel_rfl) (fun _ _ _ h => h) (Or.inl ⟨by rfl, ?y74⟩) hHeld ?r74
        case y74 =>
          intro w9 hSw
          (try dsimp only at hSw)
          go_simp
          try with_reducible rfl
        try simp only [Act.put, List.setIfInBounds_toArray, List.set_cons_zero, List.set_cons_succ]
        refine hTake (i := 3) (v := ?v75) rfl (by kernel_rfl) (by kernel_rfl) (by kernel_rfl) (fun _ _ _ h => h) (Or.inl ⟨by rfl, ?y75⟩) hHeld ?r75
        case y75 =>
          intro w9 hSw
          (try dsimp only at hSw)
          go_simp
          try with_reducible rfl
        try simp only [Act.put, List.setIfInBounds_toArray, List.set_cons_zero, List.set_cons_succ]
        refine hTake (i := 5) (v := ?v76) rfl (by kernel_rfl) (by kernel_rfl) (by kernel_rfl) (fun _ _ _ h => h) (Or.inl ⟨by rfl, ?y76⟩) hHeld ?r76
        case y76 =>
          intro w9 hSw
          (try dsimp only at hSw)
          go_simp
          try with_reducible rfl
        try simp only [Act.put, List.setIfInBounds_toArray, List.set_cons_zero, List.set_cons_succ]
        refine hCall (i := 2) rfl (by kernel_rfl) (by rfl) (fun K hK => ?_)
        go_simp
        refine (whole_any us _ (by omega) (by omega)).mono ?_
        rintro e u7 ⟨vu, rfl, hU1, hb7⟩
        replace hX := hX.below hb7
        replace hWd := hWd.below hb7
        replace B3 := B3.below hb7
        replace X1 := X1.below hb7
        replace B2 := B2.below hb7
        replace A4 := A4.below hb7
        replace hbW : Below w.heap.size w u7 := hbW.trans (hb7.mono hbW.size)
        clear hb7
        clear p00 p01 p02 p03 p10 p11 p12 p20 p21 p22
        obtain ⟨p00, p01, p02, p03, _⟩ := X1.cells
        obtain ⟨p10, p11, p12, _⟩ := B2.cells
        obtain ⟨p20, p21, p22, _⟩ := A4.cells
        go_wp2_with fail
        refine hK.out _ _ ?_ (fun hHeld => ?_)
        · (try dsimp only)
          exact ⟨p00, p01, p02, p03, p10, p11, p12, p20, p21, p22⟩
        clear hK K
        try simp only [Act.put, List.setIfInBounds_toArray, List.set_cons_zero, List.set_cons_succ]
        refine hCall (i := 4) rfl (by kernel_rfl) (by rfl) (fun K hK => ?_)
        go_simp
        refine (clamped_any k q _ _ hX hk hk2).mono ?_
        rintro e u8 ⟨vc, rfl, hC1, hb8⟩
        replace hX := hX.below hb8
        replace hWd := hWd.below hb8
        replace B3 := B3.below hb8
        replace hU1 := hU1.below hb8
        replace X1 := X1.below hb8
        replace B2 := B2.below hb8
        replace A4 := A4.below hb8
        replace hbW : Below w.heap.size w u8 := hbW.trans (hb8.mono hbW.size)
        clear hb8
        clear p00 p01 p02 p03 p10 p11 p12 p20 p21 p22
        obtain ⟨p00, p01, p02, p03, _⟩ := X1.cells
        obtain ⟨p10, p11, p12, _⟩ := B2.cells
        obtain ⟨p20, p21, p22, _⟩ := A4.cells
        go_wp2_with fail
        refine hK.out _ _ ?_ (fun hHeld => ?_)
        · (try dsimp only)
          exact ⟨p00, p01, p02, p03, p10, p11, p12, p20, p21, p22⟩
        clear hK K
        try simp only [Act.put, List.setIfInBounds_toArray, List.set_cons_zero, List.set_cons_succ]
        refine hCall (i := 6) rfl (by kernel_rfl) (by rfl) (fun K hK => ?_)
        go_simp
        refine (qmul_any k 2 (clQ q) ((sd : Int) : Rat) _ _ _ hC1 hWd hk (by decide) hk2 (by decide)).mono ?_
        rintro e u9 ⟨vm, rfl, hM1, hb9⟩
        replace hX := hX.below hb9
        replace hWd := hWd.below hb9
        replace B3 := B3.below hb9
        replace hU1 := hU1.below hb9
        replace hC1 := hC1.below hb9
        replace X1 := X1.below hb9
        replace B2 := B2.below hb9
        replace A4 := A4.below hb9
        replace hbW : Below w.heap.size w u9 := hbW.trans (hb9.mono hbW.size)
        clear hb9
        clear p00 p01 p02 p03 p10 p11 p12 p20 p21 p22
        obtain ⟨p00, p01, p02, p03, _⟩ := X1.cells
        obtain ⟨p10, p11, p12, _⟩ := B2.cells
        obtain ⟨p20, p21, p22, _⟩ := A4.cells
        go_wp2_with fail
        refine hK.out _ _ ?_ (fun hHeld => ?_)
        · (try dsimp only)
          exact ⟨p00, p01, p02, p03, p10, p11, p12, p20, p21, p22⟩
        clear hK K
        try simp only [Act.put, List.setIfInBounds_toArray, List.set_cons_zero, List.set_cons_succ]
        refine hCall (i := 7) rfl (by kernel_rfl) (by rfl) (fun K hK => ?_)
        go_simp
        refine (qadd_any 2 (k + 2) ((us : Int) : Rat) (clQ q * ((sd : Int) : Rat)) _ _ _ hU1.ct hM1.ct (by decide) (by omega) (by decide) (by omega)).mono ?_
        rintro e u10 ⟨vr, rfl, hR, hb10⟩
        replace hX := hX.below hb10
        replace hWd := hWd.below hb10
        replace B3 := B3.below hb10
        replace hU1 := hU1.below hb10
        replace hC1 := hC1.below hb10
        replace hM1 := hM1.below hb10
        replace X1 := X1.below hb10
        replace B2 := B2.below hb10
        replace A4 := A4.below hb10
        replace hbW : Below w.heap.size w u10 := hbW.trans (hb10.mono hbW.size)
        clear hb10
        replace hR := (hR.eq HQ.out.symm).le (show 2 + (k + 2) + 1 ≤ k + 5 by omega)
        clear p00 p01 p02 p03 p10 p11 p12 p20 p21 p22
        obtain ⟨p00, p01, p02, p03, _⟩ := X1.cells
        obtain ⟨p10, p11, p12, _⟩ := B2.cells
        obtain ⟨p20, p21, p22, _⟩ := A4.cells
        go_wp2_with fail
        refine hK.out _ _ ?_ (fun hHeld => ?_)
        · (try dsimp only)
          exact ⟨p00, p01, p02, p03, p10, p11, p12, p20, p21, p22⟩
        clear hK K
        try simp only [Act.put, List.setIfInBounds_toArray, List.set_cons_zero, List.set_cons_succ]
        refine hCall (i := 8) rfl (by kernel_rfl) (by rfl) (fun K hK => ?_)
        go_simp
        obtain ⟨q1, q2, q3, q4, q5, q6⟩ := B3.cells
        obtain ⟨nr, xr, yr, ⟨ar, cr, br, dr, rfl, hxr, hyr⟩, hFr⟩ := hR
        go_simp
        obtain ⟨u11, hU, A3, hbU, hK9, ho⟩ := set3_world B3 (.bool nr) (.slice ar xr.length cr) (.slice br yr.length dr)
        rw [← hU]
        clear hU q1 q2 q3 q4 q5 q6
        replace hbW := hbU _ _ hbW (by omega)
        replace hxr := hK9 _ _ _ hxr
        replace hyr := hK9 _ _ _ hyr
        replace X1 := X1.other ho n11
        replace B2 := B2.other ho n12
        replace A4 := A4.other ho (Ne.symm n43)
        clear hbU hK9 ho
        clear p00 p01 p02 p03 p10 p11 p12 p20 p21 p22
        obtain ⟨p00, p01, p02, p03, _⟩ := X1.cells
        obtain ⟨p10, p11, p12, _⟩ := B2.cells
        obtain ⟨p20, p21, p22, _⟩ := A4.cells
        refine hK.out _ _ ?_ (fun hHeld => ?_)
        · (try dsimp only)
          exact ⟨p00, p01, p02, p03, p10, p11, p12, p20, p21, p22⟩
        clear hK K
        try simp only [Act.put, List.setIfInBounds_toArray, List.set_cons_zero, List.set_cons_succ]
        refine wpAnyH_done (by kernel_rfl) ?_ _
        go_wp2
        refine bodyPost_ret (by obtain ⟨r1, r2, r3, _⟩ := A3.cells; simp [results, Tryz.results10, go_sem, r1, r2, r3]) rfl ⟨_, rfl, ⟨_, _, _, ⟨_, _, _, _, rfl, hxr, hyr⟩, hFr⟩, hbW⟩
    · go_simp
      obtain ⟨u2, hU, B4, hb9⟩ : ∃ U, U = ud58.alloc (.cells #[.bool false, .slice none 0 0, .slice none 0 0] 27) ∧ Box 27 U ud58.heap.size (.bool false) (.slice none 0 0) (.slice none 0 0) ∧ Below ud58.heap.size ud58 U := ⟨_, rfl, Box.new _ _ _ _ _, al1 _⟩
      rw [← hU]
      clear hU
      have hl4 : w.heap.size ≤ ud58.heap.size := hbW.size
      have n41 : w.heap.size ≠ ud58.heap.size := Nat.ne_of_lt X1.lt
      have n42 : w.heap.size + 1 ≠ ud58.heap.size := Nat.ne_of_lt B2.lt
      have n43 : w.heap.size + 1 + 1 ≠ ud58.heap.size := Nat.ne_of_lt B3.lt
      replace hX := hX.below hb9
      replace X1 := X1.below hb9
      replace B2 := B2.below hb9
      replace B3 := B3.below hb9
      replace hbW : Below w.heap.size w u2 := hbW.trans (hb9.mono hbW.size)
      clear hb9
      generalize ud58.heap.size = b4 at B4 hl4 n41 n42 n43 ⊢
      clear p00 p01 p02 p03 p10 p11 p12 p20 p21 p22
      obtain ⟨p00, p01, p02, p03, _⟩ := X1.cells
      obtain ⟨p10, p11, p12, _⟩ := B2.cells
      obtain ⟨p20, p21, p22, _⟩ := B3.cells
      obtain ⟨p30, p31, p32, _⟩ := B4.cells
      refine hK.out _ _ ?_ (fun hHeld => ?_)
      · (try dsimp only)
        exact ⟨p00, p01, p02, p03, p10, p11, p12, p20, p21, p22⟩
      clear hK K
      try simp only [Act.put, List.setIfInBounds_toArray, List.set_cons_zero, List.set_cons_succ]
      refine hCall (i := 2) rfl (by kernel_rfl) (by rfl) (fun K hK => ?_)
      go_simp
      refine (qsign_any k q _ _ hX hk hk2).mono ?_
      rintro e u3 ⟨rfl, hb3⟩
      replace hX := hX.below hb3
      replace X1 := X1.below hb3
      replace B2 := B2.below hb3
      replace B3 := B3.below hb3
      replace B4 := B4.below hb3
      replace hbW : Below w.heap.size w u3 := hbW.trans (hb3.mono hbW.size)
      clear hb3
      rw [HSG.out]
      clear p00 p01 p02 p03 p10 p11 p12 p20 p21 p22 p30 p31 p32
      obtain ⟨p00, p01, p02, p03, _⟩ := X1.cells
      obtain ⟨p10, p11, p12, _⟩ := B2.cells
      obtain ⟨p20, p21, p22, _⟩ := B3.cells
      obtain ⟨p30, p31, p32, _⟩ := B4.cells
      go_wp2_with fail
      refine hK.out _ _ ?_ (fun hHeld => ?_)
      · (try dsimp only)
        exact ⟨p00, p01, p02, p03, p10, p11, p12, p20, p21, p22⟩
      clear hK K
      try simp only [Act.put, List.setIfInBounds_toArray, List.set_cons_zero, List.set_cons_succ]
      refine hTake (i := 3) (v := ?v77) rfl (by kernel_rfl) (by kernel_rfl) (by kernel_rfl) (fun _ _ _ h => h) (Or.inl ⟨by rfl, ?y77⟩) hHeld ?r77
      case y77 =>
        intro w9 hSw
        (try dsimp only at hSw)
        go_simp
        try with_reducible rfl
      try simp only [Act.put, List.setIfInBounds_toArray, List.set_cons_zero, List.set_cons_succ]
      refine hCall (i := 4) rfl (by kernel_rfl) (by rfl) (fun K hK => ?_)
      go_simp
      refine (hsd _ _).mono ?_
      rintro e u4 ⟨rfl, hb4⟩
      replace hX := hX.below hb4
      replace X1 := X1.below hb4
      replace B2 := B2.below hb4
      replace B3 := B3.below hb4
      replace B4 := B4.below hb4
      replace hbW : Below w.heap.size w u4 := hbW.trans (hb4.mono hbW.size)
      clear hb4
      rw [HSD.out]
      clear p00 p01 p02 p03 p10 p11 p12 p20 p21 p22 p30 p31 p32
      obtain ⟨p00, p01, p02, p03, _⟩ := X1.cells
      obtain ⟨p10, p11, p12, _⟩ := B2.cells
      obtain ⟨p20, p21, p22, _⟩ := B3.cells
      obtain ⟨p30, p31, p32, _⟩ := B4.cells
      go_wp2_with fail
      refine hK.out _ _ ?_ (fun hHeld => ?_)
      · (try dsimp only)
        exact ⟨p00, p01, p02, p03, p10, p11, p12, p20, p21, p22⟩
      clear hK K
      try simp only [Act.put, List.setIfInBounds_toArray, List.set_cons_zero, List.set_cons_succ]
      refine hCall (i := 5) rfl (by kernel_rfl) (by rfl) (fun K hK => ?_)
      go_simp
      refine (whole_any sd _ (by omega) (by omega)).mono ?_
      rintro e u5 ⟨vw, rfl, hF1, hb5⟩
      replace hX := hX.below hb5
      replace X1 := X1.below hb5
      replace B2 := B2.below hb5
      replace B3 := B3.below hb5
      replace B4 := B4.below hb5
      replace hbW : Below w.heap.size w u5 := hbW.trans (hb5.mono hbW.size)
      clear hb5
      have hWd := hF1.ct
      obtain ⟨nw, xw, yw, ⟨aw, cw, bw, dw, rfl, _, _⟩, _⟩ := hF1
      clear p00 p01 p02 p03 p10 p11 p12 p20 p21 p22 p30 p31 p32
      obtain ⟨p00, p01, p02, p03, _⟩ := X1.cells
      obtain ⟨p10, p11, p12, _⟩ := B2.cells
      obtain ⟨p20, p21, p22, _⟩ := B3.cells
      obtain ⟨p30, p31, p32, _⟩ := B4.cells
      go_wp2_with fail
      refine hK.out _ _ ?_ (fun hHeld => ?_)
      · (try dsimp only)
        exact ⟨p00, p01, p02, p03, p10, p11, p12, p20, p21, p22⟩
      clear hK K
      try simp only [Act.put, List.setIfInBounds_toArray, List.set_cons_zero, List.set_cons_succ]
      refine hCall (i := 7) rfl (by kernel_rfl) (by rfl) (fun K hK => ?_)
      go_simp
      obtain ⟨u6, hU, A4, hbU, hK9, ho⟩ := set3_world B4 (.bool nw) (.slice aw xw.length cw) (.slice bw yw.length dw)
      rw [← hU]
      clear hU
      replace hbW := hbU _ _ hbW hl4
      replace hX := hX.keep hK9
      replace hWd := hWd.keep hK9
      replace X1 := X1.other ho n41
      replace B2 := B2.other ho n42
      replace B3 := B3.other ho n43
      clear hbU hK9 ho
      clear p00 p01 p02 p03 p10 p11 p12 p20 p21 p22 p30 p31 p32
      obtain ⟨p00, p01, p02, p03, _⟩ := X1.cells
      obtain ⟨p10, p11, p12, _⟩ := B2.cells
      obtain ⟨p20, p21, p22, _⟩ := B3.cells
      obtain ⟨p30, p31, p32, _⟩ := A4.cells
      refine hK.out _ _ ?_ (fun hHeld => ?_)
      · (try dsimp only)
        exact ⟨p00, p01, p02, p03, p10, p11, p12, p20, p21, p22⟩
      clear hK K
      try simp only [Act.put, List.setIfInBounds_toArray, List.set_cons_zero, List.set_cons_succ]
      refine wpAnyH_done (by kernel_rfl) ?_ _
      clear hHeld
      go_wp2_with fail
      clear p00 p01 p02 p03 p10 p11 p12 p20 p21 p22 p30 p31 p32
      obtain ⟨p00, p01, p02, p03, _⟩ := X1.cells
      obtain ⟨p10, p11, p12, _⟩ := B2.cells
      obtain ⟨p20, p21, p22, _⟩ := A4.cells
      refine wp_region_held_drew (S := (fun u => u.cell? ⟨w.heap.size, 0, none⟩ = some (.string tx) ∧ u.cell? ⟨w.heap.size, 1, none⟩ = some (.int .i64 lo) ∧ u.cell? ⟨w.heap.size, 2, none⟩ = some (.int .i64 us) ∧ u.cell? ⟨w.heap.size, 3, none⟩ = some (.int .i64 hi) ∧ u.cell? ⟨(w.heap.size + 1), 0, none⟩ = some (.bool n) ∧ u.cell? ⟨(w.heap.size + 1), 1, none⟩ = some (.slice a xs.length c) ∧ u.cell? ⟨(w.heap.size + 1), 2, none⟩ = some (.slice a' ys.length c') ∧ u.cell? ⟨b4, 0, none⟩ = some (.bool nw) ∧ u.cell? ⟨b4, 1, none⟩ = some (.slice aw xw.length cw) ∧ u.cell? ⟨b4, 2, none⟩ = some (.slice bw yw.length dw))) (by kernel_rfl) ?_ (fun hHeld => ?_)
      · (try dsimp only)
        go_keep
      have hdr : Below u6.heap.size u6 u6.drew := Below.drew1
      generalize u6.drew = ud78 at hdr hHeld ⊢
      replace hX := hX.below hdr
      replace hWd := hWd.below hdr
      replace B3 := B3.below hdr
      replace X1 := X1.below hdr
      replace B2 := B2.below hdr
      replace A4 := A4.below hdr
      replace hbW : Below w.heap.size w ud78 := hbW.trans (hdr.mono hbW.size)
      clear hdr
      clear p00 p01 p02 p03 p10 p11 p12 p20 p21 p22
      obtain ⟨p00, p01, p02, p03, _⟩ := X1.cells
      obtain ⟨p10, p11, p12, _⟩ := B2.cells
      obtain ⟨p20, p21, p22, _⟩ := A4.cells
      refine hTake (i := 0) (v := ?v79) rfl (by kernel_rfl) (by kernel_rfl) (by kernel_rfl) (fun _ _ _ h => h) (Or.inl ⟨by rfl, ?y79⟩) hHeld ?r79
      case y79 =>
        intro w9 hSw
        (try dsimp only at hSw)
        go_simp
        try with_reducible rfl
      try simp only [Act.put, List.setIfInBounds_toArray, List.set_cons_zero, List.set_cons_succ]
      refine hTake (i := 1) (v := ?v80) rfl (by kernel_rfl) (by kernel_rfl) (by kernel_rfl) (fun _ _ _ h => h) (Or.inl ⟨by rfl, ?y80⟩) hHeld ?r80
      case y80 =>
        intro w9 hSw
        (try dsimp only at hSw)
        go_simp
        try with_reducible rfl
      try simp only [Act.put, List.setIfInBounds_toArray, List.set_cons_zero, List.set_cons_succ]
      refine hTake (i := 3) (v := ?v81) rfl (by kernel_rfl) (by kernel_rfl) (by kernel_rfl) (fun _ _ _ h => h) (Or.inl ⟨by rfl, ?y81⟩) hHeld ?r81
      case y81 =>
        intro w9 hSw
        (try dsimp only at hSw)
        go_simp
        try with_reducible rfl
      try simp only [Act.put, List.setIfInBounds_toArray, List.set_cons_zero, List.set_cons_succ]
      refine hTake (i := 5) (v := ?v82) rfl (by kernel_rfl) (by kernel_rfl) (by kernel_rfl) (fun _ _ _ h => h) (Or.inl ⟨by rfl, ?y82⟩) hHeld ?r82
      case y82 =>
        intro w9 hSw
        (try dsimp only at hSw)
        go_simp
        try with_reducible rfl
      try simp only [Act.put, List.setIfInBounds_toArray, List.set_cons_zero, List.set_cons_succ]
      refine hCall (i := 2) rfl (by kernel_rfl) (by rfl) (fun K hK => ?_)
      go_simp
      refine (whole_any us _ (by omega) (by omega)).mono ?_
      rintro e u7 ⟨vu, rfl, hU1, hb7⟩
      replace hX := hX.below hb7
      replace hWd := hWd.below hb7
      replace B3 := B3.below hb7
      replace X1 := X1.below hb7
      replace B2 := B2.below hb7
      replace A4 := A4.below hb7
      replace hbW : Below w.heap.size w u7 := hbW.trans (hb7.mono hbW.size)
      clear hb7
      clear p00 p01 p02 p03 p10 p11 p12 p20 p21 p22
      obtain ⟨p00, p01, p02, p03, _⟩ := X1.cells
      obtain ⟨p10, p11, p12, _⟩ := B2.cells
      obtain ⟨p20, p21, p22, _⟩ := A4.cells
      go_wp2_with fail
      refine hK.out _ _ ?_ (fun hHeld => ?_)
      · (try dsimp only)
        exact ⟨p00, p01, p02, p03, p10, p11, p12, p20, p21, p22⟩
      clear hK K
      try simp only [Act.put, List.setIfInBounds_toArray, List.set_cons_zero, List.set_cons_succ]
      refine hCall (i := 4) rfl (by kernel_rfl) (by rfl) (fun K hK => ?_)
      go_simp
      refine (clamped_any k q _ _ hX hk hk2).mono ?_
      rintro e u8 ⟨vc, rfl, hC1, hb8⟩
      replace hX := hX.below hb8
      replace hWd := hWd.below hb8
      replace B3 := B3.below hb8
      replace hU1 := hU1.below hb8
      replace X1 := X1.below hb8
      replace B2 := B2.below hb8
      replace A4 := A4.below hb8
      replace hbW : Below w.heap.size w u8 := hbW.trans (hb8.mono hbW.size)
      clear hb8
      clear p00 p01 p02 p03 p10 p11 p12 p20 p21 p22
      obtain ⟨p00, p01, p02, p03, _⟩ := X1.cells
      obtain ⟨p10, p11, p12, _⟩ := B2.cells
      obtain ⟨p20, p21, p22, _⟩ := A4.cells
      go_wp2_with fail
      refine hK.out _ _ ?_ (fun hHeld => ?_)
      · (try dsimp only)
        exact ⟨p00, p01, p02, p03, p10, p11, p12, p20, p21, p22⟩
      clear hK K
      try simp only [Act.put, List.setIfInBounds_toArray, List.set_cons_zero, List.set_cons_succ]
      refine hCall (i := 6) rfl (by kernel_rfl) (by rfl) (fun K hK => ?_)
      go_simp
      refine (qmul_any k 2 (clQ q) ((sd : Int) : Rat) _ _ _ hC1 hWd hk (by decide) hk2 (by decide)).mono ?_
      rintro e u9 ⟨vm, rfl, hM1, hb9⟩
      replace hX := hX.below hb9
      replace hWd := hWd.below hb9
      replace B3 := B3.below hb9
      replace hU1 := hU1.below hb9
      replace hC1 := hC1.below hb9
      replace X1 := X1.below hb9
      replace B2 := B2.below hb9
      replace A4 := A4.below hb9
      replace hbW : Below w.heap.size w u9 := hbW.trans (hb9.mono hbW.size)
      clear hb9
      clear p00 p01 p02 p03 p10 p11 p12 p20 p21 p22
      obtain ⟨p00, p01, p02, p03, _⟩ := X1.cells
      obtain ⟨p10, p11, p12, _⟩ := B2.cells
      obtain ⟨p20, p21, p22, _⟩ := A4.cells
      go_wp2_with fail
      refine hK.out _ _ ?_ (fun hHeld => ?_)
      · (try dsimp only)
        exact ⟨p00, p01, p02, p03, p10, p11, p12, p20, p21, p22⟩
      clear hK K
      try simp only [Act.put, List.setIfInBounds_toArray, List.set_cons_zero, List.set_cons_succ]
      refine hCall (i := 7) rfl (by kernel_rfl) (by rfl) (fun K hK => ?_)
      go_simp
      refine (qadd_any 2 (k + 2) ((us : Int) : Rat) (clQ q * ((sd : Int) : Rat)) _ _ _ hU1.ct hM1.ct (by decide) (by omega) (by decide) (by omega)).mono ?_
      rintro e u10 ⟨vr, rfl, hR, hb10⟩
      replace hX := hX.below hb10
      replace hWd := hWd.below hb10
      replace B3 := B3.below hb10
      replace hU1 := hU1.below hb10
      replace hC1 := hC1.below hb10
      replace hM1 := hM1.below hb10
      replace X1 := X1.below hb10
      replace B2 := B2.below hb10
      replace A4 := A4.below hb10
      replace hbW : Below w.heap.size w u10 := hbW.trans (hb10.mono hbW.size)
      clear hb10
      replace hR := (hR.eq HQ.out.symm).le (show 2 + (k + 2) + 1 ≤ k + 5 by omega)
      clear p00 p01 p02 p03 p10 p11 p12 p20 p21 p22
      obtain ⟨p00, p01, p02, p03, _⟩ := X1.cells
      obtain ⟨p10, p11, p12, _⟩ := B2.cells
      obtain ⟨p20, p21, p22, _⟩ := A4.cells
      go_wp2_with fail
      refine hK.out _ _ ?_ (fun hHeld => ?_)
      · (try dsimp only)
        exact ⟨p00, p01, p02, p03, p10, p11, p12, p20, p21, p22⟩
      clear hK K
      try simp only [Act.put, List.setIfInBounds_toArray, List.set_cons_zero, List.set_cons_succ]
      refine hCall (i := 8) rfl (by kernel_rfl) (by rfl) (fun K hK => ?_)
      go_simp
      obtain ⟨q1, q2, q3, q4, q5, q6⟩ := B3.cells
      obtain ⟨nr, xr, yr, ⟨ar, cr, br, dr, rfl, hxr, hyr⟩, hFr⟩ := hR
      go_simp
      obtain ⟨u11, hU, A3, hbU, hK9, ho⟩ := set3_world B3 (.bool nr) (.slice ar xr.length cr) (.slice br yr.length dr)
      rw [← hU]
      clear hU q1 q2 q3 q4 q5 q6
      replace hbW := hbU _ _ hbW (by omega)
      replace hxr := hK9 _ _ _ hxr
      replace hyr := hK9 _ _ _ hyr
      replace X1 := X1.other ho n11
      replace B2 := B2.other ho n12
      replace A4 := A4.other ho (Ne.symm n43)
      clear hbU hK9 ho
      clear p00 p01 p02 p03 p10 p11 p12 p20 p21 p22
      obtain ⟨p00, p01, p02, p03, _⟩ := X1.cells
      obtain ⟨p10, p11, p12, _⟩ := B2.cells
      obtain ⟨p20, p21, p22, _⟩ := A4.cells
      refine hK.out _ _ ?_ (fun hHeld => ?_)
      · (try dsimp only)
        exact ⟨p00, p01, p02, p03, p10, p11, p12, p20, p21, p22⟩
      clear hK K
      try simp only [Act.put, List.setIfInBounds_toArray, List.set_cons_zero, List.set_cons_succ]
      refine wpAnyH_done (by kernel_rfl) ?_ _
      go_wp2
      refine bodyPost_ret (by obtain ⟨r1, r2, r3, _⟩ := A3.cells; simp [results, Tryz.results10, go_sem, r1, r2, r3]) rfl ⟨_, rfl, ⟨_, _, _, ⟨_, _, _, _, rfl, hxr, hyr⟩, hFr⟩, hbW⟩

end Go.Proofs.YtanppgmhlcifiaaGreatDoor
