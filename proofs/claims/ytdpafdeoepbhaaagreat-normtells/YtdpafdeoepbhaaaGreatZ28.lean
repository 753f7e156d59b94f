/-
  foundryref07.Bend: the walk.
-/
import Derived.Test.YtdpafdeoepbhaaaGreatZ27
import Derived.Deep.CutRange
namespace Go.Proofs.YtdpafdeoepbhaaaGreat
open Go.RowKit Go.Maps
set_option linter.unusedSimpArgs false
set_option linter.unusedVariables false

theorem sgP_quo {x0 y0 x1 y1 : Int} {p : Rat} (h : x0 < x1) : ((y0 : Int) : Rat) / ((16384 : Int) : Rat) + (p - ((x0 : Int) : Rat) / ((16384 : Int) : Rat)) / (((x1 - x0 : Int) : Rat) / ((16384 : Int) : Rat)) * (((y1 - y0 : Int) : Rat) / ((16384 : Int) : Rat)) = sgP (x0, y0) (x1, y1) p := by
  have hp := ri_pos (b := x1 - x0) (by omega)
  have h14 : ((16384 : Int) : Rat) ≠ 0 := by decide +kernel
  unfold sgP
  dsimp only
  generalize ((x1 - x0 : Int) : Rat) = d at *
  generalize ((y1 - y0 : Int) : Rat) = t at *
  generalize p - ((x0 : Int) : Rat) / ((16384 : Int) : Rat) = r at *
  generalize ((16384 : Int) : Rat) = e at *
  have h0 : d ≠ 0 := by grind
  have key : r / (d / e) * (t / e) = r * (t / d) := by
    rw [Rat.div_def, Rat.div_def, Rat.div_def, Rat.div_def, Rat.inv_mul_rev, Rat.inv_inv]
    have : e * e⁻¹ = 1 := Rat.mul_inv_cancel e h14
    grind
  rw [key]

set_option maxHeartbeats 16000000 in
set_option maxRecDepth 100000 in
theorem sbend_any (k : Nat) (q : Rat) (v : Value) (a : Option Addr) (cap : Nat) (l : List Pr) (w : World) (hP : Pz w a cap l) (h : Ct w v k q) (hk9 : k ≤ 10000) (hk2 : 2 ≤ k) :
    Calls Tryz.prog 22 #[.slice a l.length cap, v] w fun e w' => ∃ v', e = .returned v' ∧ Fr w' v' (k + 13) (beQ l q) ∧ Below w.heap.size w w' := by
  have hk : k ≤ 100000 := by omega
  have HPK : Hid (∀ V, Below w.heap.size w V → Pz V a cap l) := fun V hV => hP.below hV
  have hX := h
  obtain ⟨n, xs, ys, ⟨a1, c, a', c', rfl, _, _⟩, hz1⟩ := h
  clear hz1
  have k1 := hP.1
  have k2 := hP.2.1
  unfold maxLen at k2
  have hfo := fun W hW => sformP_any a cap l W hW
  cases hf : frP l with
  | false =>
    have HQ : Hid (beQ l q = 0) := by show beQ l q = 0; simp [beQ, hf]
    rw [hf] at hfo
    obtain ⟨W, hW, B1, B2, hbW⟩ := boxes2 45 45 w (.bool n) (.slice a1 xs.length c) (.slice a' ys.length c') (.bool false) (.slice none 0 0) (.slice none 0 0)
    replace hX := hX.below hbW
    replace hP := hP.below hbW
    go_enter Tryz.func22, Tryz.ntmps22
    go_wp2_with fail
    rw [← hW]
    clear hW
    obtain ⟨p00, p01, p02, _⟩ := B1.cells
    obtain ⟨p10, p11, p12, _⟩ := B2.cells
    refine (hfo _ hP).mono ?_
    rintro e u1 ⟨rfl, hb1⟩
    replace hP := hP.below hb1
    replace hX := hX.below hb1
    replace B1 := B1.below hb1
    replace B2 := B2.below hb1
    replace hbW : Below w.heap.size w u1 := hbW.trans (hb1.mono hbW.size)
    clear hb1
    clear p00 p01 p02 p10 p11 p12
    obtain ⟨p00, p01, p02, _⟩ := B1.cells
    obtain ⟨p10, p11, p12, _⟩ := B2.cells
    go_wp2_with fail
    refine (szero_any _).mono ?_
    rintro e u2 ⟨v2, rfl, hF2, hb2⟩
    replace hP := hP.below hb2
    replace hX := hX.below hb2
    replace B1 := B1.below hb2
    replace B2 := B2.below hb2
    replace hbW : Below w.heap.size w u2 := hbW.trans (hb2.mono hbW.size)
    clear hb2
    clear p00 p01 p02 p10 p11 p12
    obtain ⟨p00, p01, p02, _⟩ := B1.cells
    obtain ⟨p10, p11, p12, _⟩ := B2.cells
    replace hF2 := (hF2.eq (r := beQ l q) (by rw [HQ.out])).le (show 2 ≤ k + 13 by omega)
    clear p00 p01 p02 p10 p11 p12
    obtain ⟨n', xs', ys', ⟨e1, f1, e2, f2, rfl, hx', hy'⟩, hF⟩ := hF2
    have hs := B2.lt
    obtain ⟨q1, q2, q3, q4, q5, q6⟩ := B2.cells
    go_wp2
    refine ret3 (v := .agg #[.bool n', .slice e1 xs'.length f1, .slice e2 ys'.length f2]) B2 rfl (fun U hU => by obtain ⟨r1, r2, r3, _⟩ := hU.cells; simp [results, Tryz.results22, go_sem, r1, r2, r3]) (fun U hU hK => ⟨_, rfl, ⟨_, _, _, ⟨_, _, _, _, rfl, hK _ _ _ hx', hK _ _ _ hy'⟩, hF⟩, hU _ _ hbW (by omega)⟩)
  | true =>
    have HF : Hid (frP l = true) := hf
    have HQ : Hid (beQ l q = bnP l (clQ q)) := by show _ = _; rw [beQ, if_pos hf]
    rw [hf] at hfo
    clear hf
    obtain ⟨W, hW, B1, B2, hbW⟩ := boxes2 45 45 w (.bool n) (.slice a1 xs.length c) (.slice a' ys.length c') (.bool false) (.slice none 0 0) (.slice none 0 0)
    replace hX := hX.below hbW
    replace hP := hP.below hbW
    go_enter Tryz.func22, Tryz.ntmps22
    go_wp2_with fail
    rw [← hW]
    clear hW
    obtain ⟨p00, p01, p02, _⟩ := B1.cells
    obtain ⟨p10, p11, p12, _⟩ := B2.cells
    refine (hfo _ hP).mono ?_
    rintro e u1 ⟨rfl, hb1⟩
    replace hP := hP.below hb1
    replace hX := hX.below hb1
    replace B1 := B1.below hb1
    replace B2 := B2.below hb1
    replace hbW : Below w.heap.size w u1 := hbW.trans (hb1.mono hbW.size)
    clear hb1
    clear p00 p01 p02 p10 p11 p12
    obtain ⟨p00, p01, p02, _⟩ := B1.cells
    obtain ⟨p10, p11, p12, _⟩ := B2.cells
    clear hfo
    go_wp2_with fail
    refine (sheld_any k q _ _ hX hk hk2).mono ?_
    rintro e u2 ⟨vh, rfl, hH, hb2⟩
    replace hP := hP.below hb2
    replace hX := hX.below hb2
    replace B1 := B1.below hb2
    replace B2 := B2.below hb2
    replace hbW : Below w.heap.size w u2 := hbW.trans (hb2.mono hbW.size)
    clear hb2 hX
    clear p00 p01 p02 p10 p11 p12
    obtain ⟨p00, p01, p02, _⟩ := B1.cells
    obtain ⟨p10, p11, p12, _⟩ := B2.cells
    have hXh := hH.ct
    obtain ⟨nh, xh, yh, ⟨ah, ch, bh, dh, rfl, hxh, hyh⟩, hFh⟩ := hH
    have HIN := clQ_bd q
    obtain ⟨p, hp⟩ : ∃ p, clQ q = p := ⟨_, rfl⟩
    rw [hp] at hXh HIN hFh HQ
    have HP1 : Hid (((-1 : Int) : Rat) ≤ p ∧ p ≤ ((1 : Int) : Rat)) := HIN
    clear HIN hp
    clear p00 p01 p02 p10 p11 p12
    obtain ⟨q1, q2, q3, q4, q5, q6⟩ := B1.cells
    have nn : w.heap.size ≠ w.heap.size + 1 := by omega
    go_wp2
    obtain ⟨U, hU, C1, hbU, hK, ho⟩ := set3_world B1 (.bool nh) (.slice ah xh.length ch) (.slice bh yh.length dh)
    rw [← hU]
    clear hU q1 q2 q3 q4 q5 q6
    have HBW : Hid (Below w.heap.size w U) := hbU _ _ hbW (Nat.le_refl _)
    have HXU : Hid (Ct U (.agg #[.bool nh, .slice ah xh.length ch, .slice bh yh.length dh]) (k + 3) p) := hXh.keep hK
    have HB1 : Hid (Box 45 U w.heap.size (.bool nh) (.slice ah xh.length ch) (.slice bh yh.length dh)) := C1
    have HB2 : Hid (Box 45 U (w.heap.size + 1) (.bool false) (.slice none 0 0) (.slice none 0 0)) := B2.other ho (Ne.symm nn)
    have HRX : Hid (Rd U ah ch xh ∧ Rd U bh dh yh) := ⟨hK _ _ _ hxh, hK _ _ _ hyh⟩
    have HFH : Hid (_) := hFh
    have HPU : Hid (Pz U a cap l) := HPK.out _ HBW.out
    clear hK ho hbU C1 B2 B1 hP hXh hbW hxh hyh hFh
    have m1 : p ≤ ((1 : Int) : Rat) := HP1.out.2
    go_loopw [5] (fun i wr => ∃ j : Nat, j ≤ l.length ∧ i = .int .i64 ((j : Int) + 1) ∧ (∀ i, i < j → i + 1 < l.length → (((l.getD (i + 1) (0, 0)).1 : Int) : Rat) / ((16384 : Int) : Rat) < p) ∧ Below U.heap.size U wr) (fun i _ => l.length + 1 - (intOf i).toNat)
    case atStart => exact ⟨0, Nat.zero_le _, rfl, (fun j hj => by omega), Below.refl _ _⟩
    case round =>
      obtain ⟨j, hj, rfl, hno, hbR⟩ := hrel
      have hbW : Below w.heap.size w wr := HBW.out.trans (hbR.mono HBW.out.size)
      have hP := HPU.out.below hbR
      have hX := HXU.out.below hbR
      have B1 := HB1.out.below hbR
      have B2 := HB2.out.below hbR
      have HNO : Hid (∀ i, i < j → i + 1 < l.length → (((l.getD (i + 1) (0, 0)).1 : Int) : Rat) / ((16384 : Int) : Rat) < p) := hno
      clear hno
      by_cases hkn : j + 1 < l.length
      · obtain ⟨b, off, ea, hbb, T2⟩ := hP.two hkn
        have HJ : Hid ((((l.getD j (0, 0)).1 : Int) : Rat) / ((16384 : Int) : Rat) ≤ p) := by
          show _ ≤ _
          rcases Nat.eq_zero_or_pos j with rfl | h0
          · rcases frP_iff.1 HF.out with hh | hh
            · omega
            · rw [hh.2.2.1]
              dsimp only
              rw [r14_neg]
              exact HP1.out.1
          · obtain ⟨i, rfl⟩ : ∃ i, j = i + 1 := ⟨j - 1, by omega⟩
            exact Rat.le_of_lt (HNO.out i (by omega) (by omega))
        have HRI : Hid (RiP l) := by
          show RiP l
          rcases frP_iff.1 HF.out with hh | hh
          · omega
          · exact hh.2.2.2.2.2
        have HBN : Hid (p ≤ (((l.getD (j + 1) (0, 0)).1 : Int) : Rat) / ((16384 : Int) : Rat) → bnP l p = sgP (l.getD j (0, 0)) (l.getD (j + 1) (0, 0)) p) := fun hh => bnP_at HRI.out hkn HJ.out hh
        have i0 := frP_in HF.out (show j < l.length by omega)
        have i1 := frP_in HF.out hkn
        have i2 := (HRI.out j hkn).1
        obtain ⟨s, hs⟩ : ∃ s, l.getD j (0, 0) = s := ⟨_, rfl⟩
        obtain ⟨t, ht⟩ : ∃ s, l.getD (j + 1) (0, 0) = s := ⟨_, rfl⟩
        rw [hs, ht] at T2 HBN i2
        rw [hs] at i0 HJ
        rw [ht] at i1
        have HST : Hid (l.getD j (0, 0) = s ∧ l.getD (j + 1) (0, 0) = t) := ⟨hs, ht⟩
        clear hs ht
        obtain ⟨x0, y0⟩ := s
        obtain ⟨x1, y1⟩ := t
        dsimp only at T2 HBN i0 i1 i2 HJ
        subst ea
        have hwr : IntKind.i64.wrap (j : Int) = j := wrapi64 (by omega) (by omega)
        have hjl : j < l.length := by omega
        have hj1 : (0 : Int) ≤ (j : Int) + 1 := by omega
        have hj3 : (j : Int) + 1 < (l.length : Int) := by omega
        have hw1 : IntKind.i64.wrap (x1 - x0) = x1 - x0 := wrapi64 (by omega) (by omega)
        have hw2 : IntKind.i64.wrap (y1 - y0) = y1 - y0 := wrapi64 (by omega) (by omega)
        obtain ⟨s, hs⟩ : ∃ s, sgnQ (p - ((x1 : Int) : Rat) / ((16384 : Int) : Rat)) = s := ⟨_, rfl⟩
        have HS : Hid (sgnQ (p - ((x1 : Int) : Rat) / ((16384 : Int) : Rat)) = s) := hs
        have hsz := HBW.out.size
        have hs1 := HB2.out.lt
        clear hs hP
        obtain ⟨p00, p01, p02, p03⟩ := T2.cells
        obtain ⟨p10, p11, p12, _⟩ := B1.cells
        go_upto_region 7 with fail
        go_cut [6, 7] from 16 to 63 (fun s6 s7 wx => ∃ g6 g7, s6 = .pointer (some ⟨g6, 0, none⟩) ∧ s7 = .pointer (some ⟨g7, 0, none⟩) ∧ BxP wx g6 (.int .i64 x0) (.int .i64 y0) ∧ BxP wx g7 (.int .i64 x1) (.int .i64 y1) ∧ U.heap.size ≤ g6 ∧ U.heap.size ≤ g7 ∧ Below U.heap.size U wx)
        case first =>
          refine wp_region_held_drew (S := (fun u => u.cell? ⟨b, (off + j * 2), none⟩ = some (.int .i64 x0) ∧ u.cell? ⟨b, (off + j * 2 + 1), none⟩ = some (.int .i64 y0) ∧ u.cell? ⟨b, (off + (j + 1) * 2), none⟩ = some (.int .i64 x1) ∧ u.cell? ⟨b, (off + (j + 1) * 2 + 1), none⟩ = some (.int .i64 y1) ∧ u.cell? ⟨w.heap.size, 0, none⟩ = some (.bool nh) ∧ u.cell? ⟨w.heap.size, 1, none⟩ = some (.slice ah xh.length ch) ∧ u.cell? ⟨w.heap.size, 2, none⟩ = some (.slice bh yh.length dh))) (by kernel_rfl) ?_ (fun hHeld => ?_)
          · (try dsimp only)
            go_keep
          have hdr : Below wr.heap.size wr wr.drew := Below.drew1
          generalize wr.drew = ud14 at hdr hHeld ⊢
          replace hX := hX.below hdr
          replace B2 := B2.below hdr
          replace T2 := T2.below hdr
          replace B1 := B1.below hdr
          replace hbW : Below w.heap.size w ud14 := hbW.trans (hdr.mono hbW.size)
          replace hbR : Below U.heap.size U ud14 := hbR.trans (hdr.mono hbR.size)
          clear hdr
          clear p00 p01 p02 p03 p10 p11 p12
          obtain ⟨p00, p01, p02, p03⟩ := T2.cells
          obtain ⟨p10, p11, p12, _⟩ := B1.cells
          refine hT 0 hHeld ?_
          refine hT 1 hHeld ?_
          refine hT 2 hHeld ?_
          refine hT 3 hHeld ?_
          refine hT 4 hHeld ?_
          refine hT 5 hHeld ?_
          refine hT 6 hHeld ?_
          refine hT 7 hHeld ?_
          refine hT 8 hHeld ?_
          refine wpAnyH_ready (rs := [9, 10]) (by kernel_rfl) (by simp) (hCons (i := 9) rfl (by rfl) (fun K hK => ?_) (hCons (i := 10) rfl (by rfl) (fun K hK => ?_) AllReadyH.nil))
          · go_simp
            obtain ⟨u41, hU, L6, hb9⟩ : ∃ U, U = ud14.alloc (.cells #[.int .i64 0, .int .i64 0] 70) ∧ BxP U ud14.heap.size (.int .i64 0) (.int .i64 0) ∧ Below ud14.heap.size ud14 U := ⟨_, rfl, BxP.new _ _ _, bl1 _⟩
            rw [← hU]
            clear hU
            have n61 := hbR.size
            have n62 := T2.1
            replace hX := hX.below hb9
            replace B2 := B2.below hb9
            replace T2 := T2.below hb9
            replace B1 := B1.below hb9
            replace hbW : Below w.heap.size w u41 := hbW.trans (hb9.mono hbW.size)
            replace hbR : Below U.heap.size U u41 := hbR.trans (hb9.mono hbR.size)
            clear hb9
            generalize ud14.heap.size = g6 at L6 n61 n62 ⊢
            clear p00 p01 p02 p03 p10 p11 p12
            obtain ⟨p00, p01, p02, p03⟩ := T2.cells
            obtain ⟨p10, p11, p12, _⟩ := B1.cells
            obtain ⟨p20, p21, _⟩ := L6.cells
            refine hK.out _ _ ?_ (fun hHeld => ?_)
            · (try dsimp only)
              exact ⟨p00, p01, p02, p03, p10, p11, p12⟩
            clear hK K
            try simp only [Act.put, List.setIfInBounds_toArray, List.set_cons_zero, List.set_cons_succ]
            refine hCall (i := 10) rfl (by kernel_rfl) (by rfl) (fun K hK => ?_)
            go_simp
            obtain ⟨u42, hU, L7, hb9⟩ : ∃ U, U = u41.alloc (.cells #[.int .i64 0, .int .i64 0] 70) ∧ BxP U u41.heap.size (.int .i64 0) (.int .i64 0) ∧ Below u41.heap.size u41 U := ⟨_, rfl, BxP.new _ _ _, bl1 _⟩
            rw [← hU]
            clear hU
            have n71 := hbR.size
            have n72 := T2.1
            have nn2 := L6.lt
            replace hX := hX.below hb9
            replace B2 := B2.below hb9
            replace T2 := T2.below hb9
            replace B1 := B1.below hb9
            replace L6 := L6.below hb9
            replace hbW : Below w.heap.size w u42 := hbW.trans (hb9.mono hbW.size)
            replace hbR : Below U.heap.size U u42 := hbR.trans (hb9.mono hbR.size)
            clear hb9
            generalize u41.heap.size = g7 at L7 n71 n72 nn2 ⊢
            clear p00 p01 p02 p03 p10 p11 p12 p20 p21
            obtain ⟨p00, p01, p02, p03⟩ := T2.cells
            obtain ⟨p10, p11, p12, _⟩ := B1.cells
            obtain ⟨p20, p21, _⟩ := L6.cells
            obtain ⟨p30, p31, _⟩ := L7.cells
            refine hK.out _ _ ?_ (fun hHeld => ?_)
            · (try dsimp only)
              exact ⟨p00, p01, p02, p03, p10, p11, p12⟩
            clear hK K
            try simp only [Act.put, List.setIfInBounds_toArray, List.set_cons_zero, List.set_cons_succ]
            refine hCall (i := 11) rfl (by kernel_rfl) (by rfl) (fun K hK => ?_)
            go_simp
            obtain ⟨q1, q2, q3, q4⟩ := L6.cells
            go_simp
            obtain ⟨u43, hU, M6, hbU, ho⟩ := L6.set_world (.int .i64 x0) (.int .i64 y0)
            rw [← hU]
            clear hU q1 q2 q3 q4
            replace hbW := hbU _ _ hbW (by omega)
            replace hbR := hbU _ _ hbR (by omega)
            replace T2 := T2.other ho (by omega)
            replace B1 := B1.other ho (by omega)
            replace B2 := B2.other ho (by omega)
            replace L7 := L7.other ho (by omega)
            clear hbU ho hX
            have hX := HXU.out.below hbR
            clear p00 p01 p02 p03 p10 p11 p12 p20 p21 p30 p31
            obtain ⟨p00, p01, p02, p03⟩ := T2.cells
            obtain ⟨p10, p11, p12, _⟩ := B1.cells
            obtain ⟨p20, p21, _⟩ := L7.cells
            obtain ⟨p30, p31, _⟩ := M6.cells
            refine hK.out _ _ ?_ (fun hHeld => ?_)
            · (try dsimp only)
              exact ⟨p00, p01, p02, p03, p10, p11, p12⟩
            clear hK K
            try simp only [Act.put, List.setIfInBounds_toArray, List.set_cons_zero, List.set_cons_succ]
            refine hCall (i := 12) rfl (by kernel_rfl) (by rfl) (fun K hK => ?_)
            go_simp
            obtain ⟨q1, q2, q3, q4⟩ := L7.cells
            go_simp
            obtain ⟨u44, hU, M7, hbU, ho⟩ := L7.set_world (.int .i64 x1) (.int .i64 y1)
            rw [← hU]
            clear hU q1 q2 q3 q4
            replace hbW := hbU _ _ hbW (by omega)
            replace hbR := hbU _ _ hbR (by omega)
            replace T2 := T2.other ho (by omega)
            replace B1 := B1.other ho (by omega)
            replace B2 := B2.other ho (by omega)
            replace M6 := M6.other ho (by omega)
            clear hbU ho hX
            have hX := HXU.out.below hbR
            clear p00 p01 p02 p03 p10 p11 p12 p20 p21 p30 p31
            obtain ⟨p00, p01, p02, p03⟩ := T2.cells
            obtain ⟨p10, p11, p12, _⟩ := B1.cells
            obtain ⟨p20, p21, _⟩ := M6.cells
            obtain ⟨p30, p31, _⟩ := M7.cells
            refine hK.out _ _ ?_ (fun hHeld => ?_)
            · (try dsimp only)
              exact ⟨p00, p01, p02, p03, p10, p11, p12⟩
            clear hK K
            try simp only [Act.put, List.setIfInBounds_toArray, List.set_cons_zero, List.set_cons_succ]
            refine wpAnyH_done (by kernel_rfl) ?_ _
            clear hHeld
            go_wp2_with fail
            go_meet
            exact ⟨g6, g7, rfl, rfl, M6, M7, by omega, by omega, hbR⟩
          · go_simp
            obtain ⟨u41, hU, L7, hb9⟩ : ∃ U, U = ud14.alloc (.cells #[.int .i64 0, .int .i64 0] 70) ∧ BxP U ud14.heap.size (.int .i64 0) (.int .i64 0) ∧ Below ud14.heap.size ud14 U := ⟨_, rfl, BxP.new _ _ _, bl1 _⟩
            rw [← hU]
            clear hU
            have n71 := hbR.size
            have n72 := T2.1
            replace hX := hX.below hb9
            replace B2 := B2.below hb9
            replace T2 := T2.below hb9
            replace B1 := B1.below hb9
            replace hbW : Below w.heap.size w u41 := hbW.trans (hb9.mono hbW.size)
            replace hbR : Below U.heap.size U u41 := hbR.trans (hb9.mono hbR.size)
            clear hb9
            generalize ud14.heap.size = g7 at L7 n71 n72 ⊢
            clear p00 p01 p02 p03 p10 p11 p12
            obtain ⟨p00, p01, p02, p03⟩ := T2.cells
            obtain ⟨p10, p11, p12, _⟩ := B1.cells
            obtain ⟨p20, p21, _⟩ := L7.cells
            refine hK.out _ _ ?_ (fun hHeld => ?_)
            · (try dsimp only)
              exact ⟨p00, p01, p02, p03, p10, p11, p12⟩
            clear hK K
            try simp only [Act.put, List.setIfInBounds_toArray, List.set_cons_zero, List.set_cons_succ]
            refine hCall (i := 9) rfl (by kernel_rfl) (by rfl) (fun K hK => ?_)
            go_simp
            obtain ⟨u42, hU, L6, hb9⟩ : ∃ U, U = u41.alloc (.cells #[.int .i64 0, .int .i64 0] 70) ∧ BxP U u41.heap.size (.int .i64 0) (.int .i64 0) ∧ Below u41.heap.size u41 U := ⟨_, rfl, BxP.new _ _ _, bl1 _⟩
            rw [← hU]
            clear hU
            have n61 := hbR.size
            have n62 := T2.1
            have nn2 := L7.lt
            replace hX := hX.below hb9
            replace B2 := B2.below hb9
            replace T2 := T2.below hb9
            replace B1 := B1.below hb9
            replace L7 := L7.below hb9
            replace hbW : Below w.heap.size w u42 := hbW.trans (hb9.mono hbW.size)
            replace hbR : Below U.heap.size U u42 := hbR.trans (hb9.mono hbR.size)
            clear hb9
            generalize u41.heap.size = g6 at L6 n61 n62 nn2 ⊢
            clear p00 p01 p02 p03 p10 p11 p12 p20 p21
            obtain ⟨p00, p01, p02, p03⟩ := T2.cells
            obtain ⟨p10, p11, p12, _⟩ := B1.cells
            obtain ⟨p20, p21, _⟩ := L7.cells
            obtain ⟨p30, p31, _⟩ := L6.cells
            refine hK.out _ _ ?_ (fun hHeld => ?_)
            · (try dsimp only)
              exact ⟨p00, p01, p02, p03, p10, p11, p12⟩
            clear hK K
            try simp only [Act.put, List.setIfInBounds_toArray, List.set_cons_zero, List.set_cons_succ]
            refine hCall (i := 11) rfl (by kernel_rfl) (by rfl) (fun K hK => ?_)
            go_simp
            obtain ⟨q1, q2, q3, q4⟩ := L6.cells
            go_simp
            obtain ⟨u43, hU, M6, hbU, ho⟩ := L6.set_world (.int .i64 x0) (.int .i64 y0)
            rw [← hU]
            clear hU q1 q2 q3 q4
            replace hbW := hbU _ _ hbW (by omega)
            replace hbR := hbU _ _ hbR (by omega)
            replace T2 := T2.other ho (by omega)
            replace B1 := B1.other ho (by omega)
            replace B2 := B2.other ho (by omega)
            replace L7 := L7.other ho (by omega)
            clear hbU ho hX
            have hX := HXU.out.below hbR
            clear p00 p01 p02 p03 p10 p11 p12 p20 p21 p30 p31
            obtain ⟨p00, p01, p02, p03⟩ := T2.cells
            obtain ⟨p10, p11, p12, _⟩ := B1.cells
            obtain ⟨p20, p21, _⟩ := L7.cells
            obtain ⟨p30, p31, _⟩ := M6.cells
            refine hK.out _ _ ?_ (fun hHeld => ?_)
            · (try dsimp only)
              exact ⟨p00, p01, p02, p03, p10, p11, p12⟩
            clear hK K
            try simp only [Act.put, List.setIfInBounds_toArray, List.set_cons_zero, List.set_cons_succ]
            refine hCall (i := 12) rfl (by kernel_rfl) (by rfl) (fun K hK => ?_)
            go_simp
            obtain ⟨q1, q2, q3, q4⟩ := L7.cells
            go_simp
            obtain ⟨u44, hU, M7, hbU, ho⟩ := L7.set_world (.int .i64 x1) (.int .i64 y1)
            rw [← hU]
            clear hU q1 q2 q3 q4
            replace hbW := hbU _ _ hbW (by omega)
            replace hbR := hbU _ _ hbR (by omega)
            replace T2 := T2.other ho (by omega)
            replace B1 := B1.other ho (by omega)
            replace B2 := B2.other ho (by omega)
            replace M6 := M6.other ho (by omega)
            clear hbU ho hX
            have hX := HXU.out.below hbR
            clear p00 p01 p02 p03 p10 p11 p12 p20 p21 p30 p31
            obtain ⟨p00, p01, p02, p03⟩ := T2.cells
            obtain ⟨p10, p11, p12, _⟩ := B1.cells
            obtain ⟨p20, p21, _⟩ := M6.cells
            obtain ⟨p30, p31, _⟩ := M7.cells
            refine hK.out _ _ ?_ (fun hHeld => ?_)
            · (try dsimp only)
              exact ⟨p00, p01, p02, p03, p10, p11, p12⟩
            clear hK K
            try simp only [Act.put, List.setIfInBounds_toArray, List.set_cons_zero, List.set_cons_succ]
            refine wpAnyH_done (by kernel_rfl) ?_ _
            clear hHeld
            go_wp2_with fail
            go_meet
            exact ⟨g6, g7, rfl, rfl, M6, M7, by omega, by omega, hbR⟩
        case rest =>
        clear p00 p01 p02 p03 p10 p11 p12 T2 hX B1 B2 hbW hbR
        obtain ⟨g6, g7, rfl, rfl, M6, M7, l6, l7, hbR⟩ := hcut
        have hbW : Below w.heap.size w wc := HBW.out.trans (hbR.mono HBW.out.size)
        have hX := HXU.out.below hbR
        have B1 := HB1.out.below hbR
        have B2 := HB2.out.below hbR
        obtain ⟨p00, p01, p02, _⟩ := B1.cells
        obtain ⟨p10, p11, _⟩ := M6.cells
        obtain ⟨p20, p21, _⟩ := M7.cells
        by_cases hle : p ≤ ((x1 : Int) : Rat) / ((16384 : Int) : Rat)
        · have gd : decide (s ≤ 0) = true := decide_eq_true (by rw [← HS.out]; exact Int.not_lt.1 (fun hh => Rat.not_lt.2 hle (sgn_pos.1 hh)))
          have HVAL : Hid (((y0 : Int) : Rat) / ((16384 : Int) : Rat) + (p - ((x0 : Int) : Rat) / ((16384 : Int) : Rat)) / (((x1 - x0 : Int) : Rat) / ((16384 : Int) : Rat)) * (((y1 - y0 : Int) : Rat) / ((16384 : Int) : Rat)) = beQ l q) := by
            show _ = _
            rw [HQ.out, HBN.out hle]
            exact sgP_quo i2
          go_wp2_with fail
          refine wp_region_held_drew (S := (fun u => u.cell? ⟨w.heap.size, 0, none⟩ = some (.bool nh) ∧ u.cell? ⟨w.heap.size, 1, none⟩ = some (.slice ah xh.length ch) ∧ u.cell? ⟨w.heap.size, 2, none⟩ = some (.slice bh yh.length dh) ∧ u.cell? ⟨g6, 0, none⟩ = some (.int .i64 x0) ∧ u.cell? ⟨g6, 1, none⟩ = some (.int .i64 y0) ∧ u.cell? ⟨g7, 0, none⟩ = some (.int .i64 x1) ∧ u.cell? ⟨g7, 1, none⟩ = some (.int .i64 y1))) (by kernel_rfl) ?_ (fun hHeld => ?_)
          · (try dsimp only)
            go_keep
          have hdr : Below wc.heap.size wc wc.drew := Below.drew1
          generalize wc.drew = ud15 at hdr hHeld ⊢
          replace hX := hX.below hdr
          replace B2 := B2.below hdr
          replace B1 := B1.below hdr
          replace M6 := M6.below hdr
          replace M7 := M7.below hdr
          replace hbW : Below w.heap.size w ud15 := hbW.trans (hdr.mono hbW.size)
          replace hbR : Below U.heap.size U ud15 := hbR.trans (hdr.mono hbR.size)
          clear hdr
          clear p00 p01 p02 p10 p11 p20 p21
          obtain ⟨p00, p01, p02, _⟩ := B1.cells
          obtain ⟨p10, p11, _⟩ := M6.cells
          obtain ⟨p20, p21, _⟩ := M7.cells
          refine hT 0 hHeld ?_
          refine hT 1 hHeld ?_
          refine hT 2 hHeld ?_
          refine hCall (i := 3) rfl (by kernel_rfl) (by rfl) (fun K hK => ?_)
          go_simp
          refine (sof14_any x1 _ (by omega) (by omega)).mono ?_
          rintro e u41 ⟨vb, rfl, hFb, hb41⟩
          replace hX := hX.below hb41
          replace B2 := B2.below hb41
          replace B1 := B1.below hb41
          replace M6 := M6.below hb41
          replace M7 := M7.below hb41
          replace hbW : Below w.heap.size w u41 := hbW.trans (hb41.mono hbW.size)
          replace hbR : Below U.heap.size U u41 := hbR.trans (hb41.mono hbR.size)
          clear hb41
          clear p00 p01 p02 p10 p11 p20 p21
          obtain ⟨p00, p01, p02, _⟩ := B1.cells
          obtain ⟨p10, p11, _⟩ := M6.cells
          obtain ⟨p20, p21, _⟩ := M7.cells
          go_wp2_with fail
          refine hK.out _ _ ?_ (fun hHeld => ?_)
          · (try dsimp only)
            exact ⟨p00, p01, p02, p10, p11, p20, p21⟩
          clear hK K
          try simp only [Act.put, List.setIfInBounds_toArray, List.set_cons_zero, List.set_cons_succ]
          refine hCall (i := 4) rfl (by kernel_rfl) (by rfl) (fun K hK => ?_)
          go_simp
          refine (scmp_any (k + 3) 2 _ _ _ _ _ hX hFb.ct (by omega) (by decide) (by omega) (by decide)).mono ?_
          rintro e u42 ⟨rfl, hb42⟩
          replace hX := hX.below hb42
          replace B2 := B2.below hb42
          replace hFb := hFb.below hb42
          replace B1 := B1.below hb42
          replace M6 := M6.below hb42
          replace M7 := M7.below hb42
          replace hbW : Below w.heap.size w u42 := hbW.trans (hb42.mono hbW.size)
          replace hbR : Below U.heap.size U u42 := hbR.trans (hb42.mono hbR.size)
          clear hb42 hFb
          rw [HS.out]
          clear p00 p01 p02 p10 p11 p20 p21
          obtain ⟨p00, p01, p02, _⟩ := B1.cells
          obtain ⟨p10, p11, _⟩ := M6.cells
          obtain ⟨p20, p21, _⟩ := M7.cells
          go_wp2_with fail
          refine hK.out _ _ ?_ (fun hHeld => ?_)
          · (try dsimp only)
            exact ⟨p00, p01, p02, p10, p11, p20, p21⟩
          clear hK K
          try simp only [Act.put, List.setIfInBounds_toArray, List.set_cons_zero, List.set_cons_succ]
          refine hT 5 hHeld ?_
          refine wpAnyH_done (by kernel_rfl) ?_ _
          clear hHeld
          go_upto_region 9 with fail
          go_cut [8, 9] from 16 to 63 (fun s8 s9 wx => ∃ q9 g8 n8 a8 x8 c8 b8 y8 d8, s9 = .bool q9 ∧ s8 = .pointer (some ⟨g8, 0, none⟩) ∧ Box 45 wx g8 (.bool n8) (.slice a8 x8 c8) (.slice b8 y8 d8) ∧ Ct wx (.agg #[.bool n8, .slice a8 x8 c8, .slice b8 y8 d8]) (k + 3 + 2 + 1 + 2) ((p - ((x0 : Int) : Rat) / ((16384 : Int) : Rat)) / (((x1 - x0 : Int) : Rat) / ((16384 : Int) : Rat))) ∧ BxP wx g6 (.int .i64 x0) (.int .i64 y0) ∧ BxP wx g7 (.int .i64 x1) (.int .i64 y1) ∧ Box 45 wx (w.heap.size + 1) (.bool false) (.slice none 0 0) (.slice none 0 0) ∧ U.heap.size ≤ g8 ∧ Below w.heap.size w wx)
          case first =>
            refine wp_region_held_drew (S := (fun u => u.cell? ⟨w.heap.size, 0, none⟩ = some (.bool nh) ∧ u.cell? ⟨w.heap.size, 1, none⟩ = some (.slice ah xh.length ch) ∧ u.cell? ⟨w.heap.size, 2, none⟩ = some (.slice bh yh.length dh) ∧ u.cell? ⟨g6, 0, none⟩ = some (.int .i64 x0) ∧ u.cell? ⟨g6, 1, none⟩ = some (.int .i64 y0) ∧ u.cell? ⟨g7, 0, none⟩ = some (.int .i64 x1) ∧ u.cell? ⟨g7, 1, none⟩ = some (.int .i64 y1))) (by kernel_rfl) ?_ (fun hHeld => ?_)
            · (try dsimp only)
              go_keep
            have hdr : Below u42.heap.size u42 u42.drew := Below.drew1
            generalize u42.drew = ud16 at hdr hHeld ⊢
            replace hX := hX.below hdr
            replace B2 := B2.below hdr
            replace B1 := B1.below hdr
            replace M6 := M6.below hdr
            replace M7 := M7.below hdr
            replace hbW : Below w.heap.size w ud16 := hbW.trans (hdr.mono hbW.size)
            replace hbR : Below U.heap.size U ud16 := hbR.trans (hdr.mono hbR.size)
            clear hdr
            clear p00 p01 p02 p10 p11 p20 p21
            obtain ⟨p00, p01, p02, _⟩ := B1.cells
            obtain ⟨p10, p11, _⟩ := M6.cells
            obtain ⟨p20, p21, _⟩ := M7.cells
            refine hT 0 hHeld ?_
            refine hT 1 hHeld ?_
            refine hT 2 hHeld ?_
            refine hT 5 hHeld ?_
            refine hT 6 hHeld ?_
            refine hT 7 hHeld ?_
            refine hT 8 hHeld ?_
            refine hT 9 hHeld ?_
            refine wpAnyH_ready (rs := [3, 15]) (by kernel_rfl) (by simp) (hCons (i := 3) rfl (by rfl) (fun K hK => ?_) (hCons (i := 15) rfl (by rfl) (fun K hK => ?_) AllReadyH.nil))
            · go_simp
              refine (sof14_any x0 _ (by omega) (by omega)).mono ?_
              rintro e u43 ⟨vf, rfl, hf1, hb43⟩
              replace hX := hX.below hb43
              replace B2 := B2.below hb43
              replace B1 := B1.below hb43
              replace M6 := M6.below hb43
              replace M7 := M7.below hb43
              replace hbW : Below w.heap.size w u43 := hbW.trans (hb43.mono hbW.size)
              replace hbR : Below U.heap.size U u43 := hbR.trans (hb43.mono hbR.size)
              clear hb43
              clear p00 p01 p02 p10 p11 p20 p21
              obtain ⟨p00, p01, p02, _⟩ := B1.cells
              obtain ⟨p10, p11, _⟩ := M6.cells
              obtain ⟨p20, p21, _⟩ := M7.cells
              go_wp2_with fail
              refine hK.out _ _ ?_ (fun hHeld => ?_)
              · (try dsimp only)
                exact ⟨p00, p01, p02, p10, p11, p20, p21⟩
              clear hK K
              try simp only [Act.put, List.setIfInBounds_toArray, List.set_cons_zero, List.set_cons_succ]
              refine wpAnyH_ready (rs := [4, 15]) (by kernel_rfl) (by simp) (hCons (i := 4) rfl (by rfl) (fun K hK => ?_) (hCons (i := 15) rfl (by rfl) (fun K hK => ?_) AllReadyH.nil))
              · go_simp
                refine (ssub_any (k + 3) 2 _ _ _ _ _ hX hf1.ct (by omega) (by decide) (by omega) (by decide)).mono ?_
                rintro e u44 ⟨vd, rfl, hd1, hb44⟩
                replace hX := hX.below hb44
                replace B2 := B2.below hb44
                replace hf1 := hf1.below hb44
                replace B1 := B1.below hb44
                replace M6 := M6.below hb44
                replace M7 := M7.below hb44
                replace hbW : Below w.heap.size w u44 := hbW.trans (hb44.mono hbW.size)
                replace hbR : Below U.heap.size U u44 := hbR.trans (hb44.mono hbR.size)
                clear hb44
                clear p00 p01 p02 p10 p11 p20 p21
                obtain ⟨p00, p01, p02, _⟩ := B1.cells
                obtain ⟨p10, p11, _⟩ := M6.cells
                obtain ⟨p20, p21, _⟩ := M7.cells
                go_wp2_with fail
                refine hK.out _ _ ?_ (fun hHeld => ?_)
                · (try dsimp only)
                  exact ⟨p00, p01, p02, p10, p11, p20, p21⟩
                clear hK K
                try simp only [Act.put, List.setIfInBounds_toArray, List.set_cons_zero, List.set_cons_succ]
                refine wpAnyH_ready (rs := [10, 15]) (by kernel_rfl) (by simp) (hCons (i := 10) rfl (by rfl) (fun K hK => ?_) (hCons (i := 15) rfl (by rfl) (fun K hK => ?_) AllReadyH.nil))
                · go_simp
                  refine (sof14_any (x1 - x0) _ (by omega) (by omega)).mono ?_
                  rintro e u45 ⟨vg, rfl, hg1, hb45⟩
                  replace hX := hX.below hb45
                  replace B2 := B2.below hb45
                  replace hf1 := hf1.below hb45
                  replace hd1 := hd1.below hb45
                  replace B1 := B1.below hb45
                  replace M6 := M6.below hb45
                  replace M7 := M7.below hb45
                  replace hbW : Below w.heap.size w u45 := hbW.trans (hb45.mono hbW.size)
                  replace hbR : Below U.heap.size U u45 := hbR.trans (hb45.mono hbR.size)
                  clear hb45
                  clear p00 p01 p02 p10 p11 p20 p21
                  obtain ⟨p00, p01, p02, _⟩ := B1.cells
                  obtain ⟨p10, p11, _⟩ := M6.cells
                  obtain ⟨p20, p21, _⟩ := M7.cells
                  go_wp2_with fail
                  refine hK.out _ _ ?_ (fun hHeld => ?_)
                  · (try dsimp only)
                    exact ⟨p00, p01, p02, p10, p11, p20, p21⟩
                  clear hK K
                  try simp only [Act.put, List.setIfInBounds_toArray, List.set_cons_zero, List.set_cons_succ]
                  refine wpAnyH_ready (rs := [11, 15]) (by kernel_rfl) (by simp) (hCons (i := 11) rfl (by rfl) (fun K hK => ?_) (hCons (i := 15) rfl (by rfl) (fun K hK => ?_) AllReadyH.nil))
                  · go_simp
                    refine (squo_any (k + 3 + 2 + 1) 2 _ _ _ _ _ hd1.ct hg1.ct (by omega) (by decide) (by omega) (by decide)).mono ?_
                    rintro e u46 ⟨v8, rfl, hF8, hb46⟩
                    replace hX := hX.below hb46
                    replace B2 := B2.below hb46
                    replace hf1 := hf1.below hb46
                    replace hd1 := hd1.below hb46
                    replace hg1 := hg1.below hb46
                    replace B1 := B1.below hb46
                    replace M6 := M6.below hb46
                    replace M7 := M7.below hb46
                    replace hbW : Below w.heap.size w u46 := hbW.trans (hb46.mono hbW.size)
                    replace hbR : Below U.heap.size U u46 := hbR.trans (hb46.mono hbR.size)
                    clear hb46
                    generalize decide (((x1 - x0 : Int) : Rat) / ((16384 : Int) : Rat) ≠ 0) = qb
                    have hM8 := hF8.ct
                    obtain ⟨n8, x8, y8, ⟨a8, c8, b8, d8, rfl, _, _⟩, _⟩ := hF8
                    clear p00 p01 p02 p10 p11 p20 p21
                    obtain ⟨p00, p01, p02, _⟩ := B1.cells
                    obtain ⟨p10, p11, _⟩ := M6.cells
                    obtain ⟨p20, p21, _⟩ := M7.cells
                    go_wp2_with fail
                    refine hK.out _ _ ?_ (fun hHeld => ?_)
                    · (try dsimp only)
                      exact ⟨p00, p01, p02, p10, p11, p20, p21⟩
                    clear hK K
                    try simp only [Act.put, List.setIfInBounds_toArray, List.set_cons_zero, List.set_cons_succ]
                    refine hT 12 hHeld ?_
                    refine hT 13 hHeld ?_
                    refine hT 14 hHeld ?_
                    refine hCall (i := 15) rfl (by kernel_rfl) (by rfl) (fun K hK => ?_)
                    go_simp
                    obtain ⟨u47, hU, B8, hb9⟩ : ∃ U, U = u46.alloc (.cells #[.bool false, .slice none 0 0, .slice none 0 0] 45) ∧ Box 45 U u46.heap.size (.bool false) (.slice none 0 0) (.slice none 0 0) ∧ Below u46.heap.size u46 U := ⟨_, rfl, Box.new _ _ _ _ _, al1 _⟩
                    rw [← hU]
                    clear hU
                    have n81 := hbR.size
                    have n83 := M6.lt
                    have n84 := M7.lt
                    have n85 := B2.lt
                    replace hX := hX.below hb9
                    replace B2 := B2.below hb9
                    replace hf1 := hf1.below hb9
                    replace hd1 := hd1.below hb9
                    replace hg1 := hg1.below hb9
                    replace hM8 := hM8.below hb9
                    replace B1 := B1.below hb9
                    replace M6 := M6.below hb9
                    replace M7 := M7.below hb9
                    replace hbW : Below w.heap.size w u47 := hbW.trans (hb9.mono hbW.size)
                    replace hbR : Below U.heap.size U u47 := hbR.trans (hb9.mono hbR.size)
                    clear hb9
                    generalize u46.heap.size = g8 at B8 n81 n83 n84 n85 ⊢
                    clear p00 p01 p02 p10 p11 p20 p21
                    obtain ⟨p00, p01, p02, _⟩ := B1.cells
                    obtain ⟨p10, p11, _⟩ := M6.cells
                    obtain ⟨p20, p21, _⟩ := M7.cells
                    obtain ⟨p30, p31, p32, _⟩ := B8.cells
                    refine hK.out _ _ ?_ (fun hHeld => ?_)
                    · (try dsimp only)
                      exact ⟨p00, p01, p02, p10, p11, p20, p21⟩
                    clear hK K
                    try simp only [Act.put, List.setIfInBounds_toArray, List.set_cons_zero, List.set_cons_succ]
                    refine hCall (i := 16) rfl (by kernel_rfl) (by rfl) (fun K hK => ?_)
                    go_simp
                    obtain ⟨u48, hU, A8, hbU, hK9, ho⟩ := set3_world B8 (.bool n8) (.slice a8 x8.length c8) (.slice b8 y8.length d8)
                    rw [← hU]
                    clear hU
                    replace hbW := hbU _ _ hbW (by omega)
                    replace hM8 := hM8.keep hK9
                    replace B1 := B1.other ho (by omega)
                    replace B2 := B2.other ho (by omega)
                    replace M6 := M6.other ho (by omega)
                    replace M7 := M7.other ho (by omega)
                    clear hbU hK9 ho
                    clear p00 p01 p02 p10 p11 p20 p21 p30 p31 p32
                    obtain ⟨p00, p01, p02, _⟩ := B1.cells
                    obtain ⟨p10, p11, _⟩ := M6.cells
                    obtain ⟨p20, p21, _⟩ := M7.cells
                    obtain ⟨p30, p31, p32, _⟩ := A8.cells
                    refine hK.out _ _ ?_ (fun hHeld => ?_)
                    · (try dsimp only)
                      exact ⟨p00, p01, p02, p10, p11, p20, p21⟩
                    clear hK K
                    try simp only [Act.put, List.setIfInBounds_toArray, List.set_cons_zero, List.set_cons_succ]
                    refine hT 17 hHeld ?_
                    refine wpAnyH_done (by kernel_rfl) ?_ _
                    clear hHeld
                    go_wp2_with fail
                    go_meet
                    exact ⟨_, g8, _, _, _, _, _, _, _, rfl, rfl, A8, hM8, M6, M7, B2, n81, hbW⟩
                  · go_simp
                    obtain ⟨u46, hU, B8, hb9⟩ : ∃ U, U = u45.alloc (.cells #[.bool false, .slice none 0 0, .slice none 0 0] 45) ∧ Box 45 U u45.heap.size (.bool false) (.slice none 0 0) (.slice none 0 0) ∧ Below u45.heap.size u45 U := ⟨_, rfl, Box.new _ _ _ _ _, al1 _⟩
                    rw [← hU]
                    clear hU
                    have n81 := hbR.size
                    have n83 := M6.lt
                    have n84 := M7.lt
                    have n85 := B2.lt
                    replace hX := hX.below hb9
                    replace B2 := B2.below hb9
                    replace hf1 := hf1.below hb9
                    replace hd1 := hd1.below hb9
                    replace hg1 := hg1.below hb9
                    replace B1 := B1.below hb9
                    replace M6 := M6.below hb9
                    replace M7 := M7.below hb9
                    replace hbW : Below w.heap.size w u46 := hbW.trans (hb9.mono hbW.size)
                    replace hbR : Below U.heap.size U u46 := hbR.trans (hb9.mono hbR.size)
                    clear hb9
                    generalize u45.heap.size = g8 at B8 n81 n83 n84 n85 ⊢
                    clear p00 p01 p02 p10 p11 p20 p21
                    obtain ⟨p00, p01, p02, _⟩ := B1.cells
                    obtain ⟨p10, p11, _⟩ := M6.cells
                    obtain ⟨p20, p21, _⟩ := M7.cells
                    obtain ⟨p30, p31, p32, _⟩ := B8.cells
                    refine hK.out _ _ ?_ (fun hHeld => ?_)
                    · (try dsimp only)
                      exact ⟨p00, p01, p02, p10, p11, p20, p21⟩
                    clear hK K
                    try simp only [Act.put, List.setIfInBounds_toArray, List.set_cons_zero, List.set_cons_succ]
                    refine hCall (i := 11) rfl (by kernel_rfl) (by rfl) (fun K hK => ?_)
                    go_simp
                    refine (squo_any (k + 3 + 2 + 1) 2 _ _ _ _ _ hd1.ct hg1.ct (by omega) (by decide) (by omega) (by decide)).mono ?_
                    rintro e u47 ⟨v8, rfl, hF8, hb47⟩
                    replace hX := hX.below hb47
                    replace B2 := B2.below hb47
                    replace hf1 := hf1.below hb47
                    replace hd1 := hd1.below hb47
                    replace hg1 := hg1.below hb47
                    replace B1 := B1.below hb47
                    replace M6 := M6.below hb47
                    replace M7 := M7.below hb47
                    replace B8 := B8.below hb47
                    replace hbW : Below w.heap.size w u47 := hbW.trans (hb47.mono hbW.size)
                    replace hbR : Below U.heap.size U u47 := hbR.trans (hb47.mono hbR.size)
                    clear hb47
                    generalize decide (((x1 - x0 : Int) : Rat) / ((16384 : Int) : Rat) ≠ 0) = qb
                    have hM8 := hF8.ct
                    obtain ⟨n8, x8, y8, ⟨a8, c8, b8, d8, rfl, _, _⟩, _⟩ := hF8
                    clear p00 p01 p02 p10 p11 p20 p21 p30 p31 p32
                    obtain ⟨p00, p01, p02, _⟩ := B1.cells
                    obtain ⟨p10, p11, _⟩ := M6.cells
                    obtain ⟨p20, p21, _⟩ := M7.cells
                    obtain ⟨p30, p31, p32, _⟩ := B8.cells
                    go_wp2_with fail
                    refine hK.out _ _ ?_ (fun hHeld => ?_)
                    · (try dsimp only)
                      exact ⟨p00, p01, p02, p10, p11, p20, p21⟩
                    clear hK K
                    try simp only [Act.put, List.setIfInBounds_toArray, List.set_cons_zero, List.set_cons_succ]
                    refine hT 12 hHeld ?_
                    refine hT 13 hHeld ?_
                    refine hT 14 hHeld ?_
                    refine hCall (i := 16) rfl (by kernel_rfl) (by rfl) (fun K hK => ?_)
                    go_simp
                    obtain ⟨u48, hU, A8, hbU, hK9, ho⟩ := set3_world B8 (.bool n8) (.slice a8 x8.length c8) (.slice b8 y8.length d8)
                    rw [← hU]
                    clear hU
                    replace hbW := hbU _ _ hbW (by omega)
                    replace hM8 := hM8.keep hK9
                    replace B1 := B1.other ho (by omega)
                    replace B2 := B2.other ho (by omega)
                    replace M6 := M6.other ho (by omega)
                    replace M7 := M7.other ho (by omega)
                    clear hbU hK9 ho
                    clear p00 p01 p02 p10 p11 p20 p21 p30 p31 p32
                    obtain ⟨p00, p01, p02, _⟩ := B1.cells
                    obtain ⟨p10, p11, _⟩ := M6.cells
                    obtain ⟨p20, p21, _⟩ := M7.cells
                    obtain ⟨p30, p31, p32, _⟩ := A8.cells
                    refine hK.out _ _ ?_ (fun hHeld => ?_)
                    · (try dsimp only)
                      exact ⟨p00, p01, p02, p10, p11, p20, p21⟩
                    clear hK K
                    try simp only [Act.put, List.setIfInBounds_toArray, List.set_cons_zero, List.set_cons_succ]
                    refine hT 17 hHeld ?_
                    refine wpAnyH_done (by kernel_rfl) ?_ _
                    clear hHeld
                    go_wp2_with fail
                    go_meet
                    exact ⟨_, g8, _, _, _, _, _, _, _, rfl, rfl, A8, hM8, M6, M7, B2, n81, hbW⟩
                · go_simp
                  obtain ⟨u45, hU, B8, hb9⟩ : ∃ U, U = u44.alloc (.cells #[.bool false, .slice none 0 0, .slice none 0 0] 45) ∧ Box 45 U u44.heap.size (.bool false) (.slice none 0 0) (.slice none 0 0) ∧ Below u44.heap.size u44 U := ⟨_, rfl, Box.new _ _ _ _ _, al1 _⟩
                  rw [← hU]
                  clear hU
                  have n81 := hbR.size
                  have n83 := M6.lt
                  have n84 := M7.lt
                  have n85 := B2.lt
                  replace hX := hX.below hb9
                  replace B2 := B2.below hb9
                  replace hf1 := hf1.below hb9
                  replace hd1 := hd1.below hb9
                  replace B1 := B1.below hb9
                  replace M6 := M6.below hb9
                  replace M7 := M7.below hb9
                  replace hbW : Below w.heap.size w u45 := hbW.trans (hb9.mono hbW.size)
                  replace hbR : Below U.heap.size U u45 := hbR.trans (hb9.mono hbR.size)
                  clear hb9
                  generalize u44.heap.size = g8 at B8 n81 n83 n84 n85 ⊢
                  clear p00 p01 p02 p10 p11 p20 p21
                  obtain ⟨p00, p01, p02, _⟩ := B1.cells
                  obtain ⟨p10, p11, _⟩ := M6.cells
                  obtain ⟨p20, p21, _⟩ := M7.cells
                  obtain ⟨p30, p31, p32, _⟩ := B8.cells
                  refine hK.out _ _ ?_ (fun hHeld => ?_)
                  · (try dsimp only)
                    exact ⟨p00, p01, p02, p10, p11, p20, p21⟩
                  clear hK K
                  try simp only [Act.put, List.setIfInBounds_toArray, List.set_cons_zero, List.set_cons_succ]
                  refine hCall (i := 10) rfl (by kernel_rfl) (by rfl) (fun K hK => ?_)
                  go_simp
                  refine (sof14_any (x1 - x0) _ (by omega) (by omega)).mono ?_
                  rintro e u46 ⟨vg, rfl, hg1, hb46⟩
                  replace hX := hX.below hb46
                  replace B2 := B2.below hb46
                  replace hf1 := hf1.below hb46
                  replace hd1 := hd1.below hb46
                  replace B1 := B1.below hb46
                  replace M6 := M6.below hb46
                  replace M7 := M7.below hb46
                  replace B8 := B8.below hb46
                  replace hbW : Below w.heap.size w u46 := hbW.trans (hb46.mono hbW.size)
                  replace hbR : Below U.heap.size U u46 := hbR.trans (hb46.mono hbR.size)
                  clear hb46
                  clear p00 p01 p02 p10 p11 p20 p21 p30 p31 p32
                  obtain ⟨p00, p01, p02, _⟩ := B1.cells
                  obtain ⟨p10, p11, _⟩ := M6.cells
                  obtain ⟨p20, p21, _⟩ := M7.cells
                  obtain ⟨p30, p31, p32, _⟩ := B8.cells
                  go_wp2_with fail
                  refine hK.out _ _ ?_ (fun hHeld => ?_)
                  · (try dsimp only)
                    exact ⟨p00, p01, p02, p10, p11, p20, p21⟩
                  clear hK K
                  try simp only [Act.put, List.setIfInBounds_toArray, List.set_cons_zero, List.set_cons_succ]
                  refine hCall (i := 11) rfl (by kernel_rfl) (by rfl) (fun K hK => ?_)
                  go_simp
                  refine (squo_any (k + 3 + 2 + 1) 2 _ _ _ _ _ hd1.ct hg1.ct (by omega) (by decide) (by omega) (by decide)).mono ?_
                  rintro e u47 ⟨v8, rfl, hF8, hb47⟩
                  replace hX := hX.below hb47
                  replace B2 := B2.below hb47
                  replace hf1 := hf1.below hb47
                  replace hd1 := hd1.below hb47
                  replace hg1 := hg1.below hb47
                  replace B1 := B1.below hb47
                  replace M6 := M6.below hb47
                  replace M7 := M7.below hb47
                  replace B8 := B8.below hb47
                  replace hbW : Below w.heap.size w u47 := hbW.trans (hb47.mono hbW.size)
                  replace hbR : Below U.heap.size U u47 := hbR.trans (hb47.mono hbR.size)
                  clear hb47
                  generalize decide (((x1 - x0 : Int) : Rat) / ((16384 : Int) : Rat) ≠ 0) = qb
                  have hM8 := hF8.ct
                  obtain ⟨n8, x8, y8, ⟨a8, c8, b8, d8, rfl, _, _⟩, _⟩ := hF8
                  clear p00 p01 p02 p10 p11 p20 p21 p30 p31 p32
                  obtain ⟨p00, p01, p02, _⟩ := B1.cells
                  obtain ⟨p10, p11, _⟩ := M6.cells
                  obtain ⟨p20, p21, _⟩ := M7.cells
                  obtain ⟨p30, p31, p32, _⟩ := B8.cells
                  go_wp2_with fail
                  refine hK.out _ _ ?_ (fun hHeld => ?_)
                  · (try dsimp only)
                    exact ⟨p00, p01, p02, p10, p11, p20, p21⟩
                  clear hK K
                  try simp only [Act.put, List.setIfInBounds_toArray, List.set_cons_zero, List.set_cons_succ]
                  refine hT 12 hHeld ?_
                  refine hT 13 hHeld ?_
                  refine hT 14 hHeld ?_
                  refine hCall (i := 16) rfl (by kernel_rfl) (by rfl) (fun K hK => ?_)
                  go_simp
                  obtain ⟨u48, hU, A8, hbU, hK9, ho⟩ := set3_world B8 (.bool n8) (.slice a8 x8.length c8) (.slice b8 y8.length d8)
                  rw [← hU]
                  clear hU
                  replace hbW := hbU _ _ hbW (by omega)
                  replace hM8 := hM8.keep hK9
                  replace B1 := B1.other ho (by omega)
                  replace B2 := B2.other ho (by omega)
                  replace M6 := M6.other ho (by omega)
                  replace M7 := M7.other ho (by omega)
                  clear hbU hK9 ho
                  clear p00 p01 p02 p10 p11 p20 p21 p30 p31 p32
                  obtain ⟨p00, p01, p02, _⟩ := B1.cells
                  obtain ⟨p10, p11, _⟩ := M6.cells
                  obtain ⟨p20, p21, _⟩ := M7.cells
                  obtain ⟨p30, p31, p32, _⟩ := A8.cells
                  refine hK.out _ _ ?_ (fun hHeld => ?_)
                  · (try dsimp only)
                    exact ⟨p00, p01, p02, p10, p11, p20, p21⟩
                  clear hK K
                  try simp only [Act.put, List.setIfInBounds_toArray, List.set_cons_zero, List.set_cons_succ]
                  refine hT 17 hHeld ?_
                  refine wpAnyH_done (by kernel_rfl) ?_ _
                  clear hHeld
                  go_wp2_with fail
                  go_meet
                  exact ⟨_, g8, _, _, _, _, _, _, _, rfl, rfl, A8, hM8, M6, M7, B2, n81, hbW⟩
              · go_simp
                obtain ⟨u44, hU, B8, hb9⟩ : ∃ U, U = u43.alloc (.cells #[.bool false, .slice none 0 0, .slice none 0 0] 45) ∧ Box 45 U u43.heap.size (.bool false) (.slice none 0 0) (.slice none 0 0) ∧ Below u43.heap.size u43 U := ⟨_, rfl, Box.new _ _ _ _ _, al1 _⟩
                rw [← hU]
                clear hU
                have n81 := hbR.size
                have n83 := M6.lt
                have n84 := M7.lt
                have n85 := B2.lt
                replace hX := hX.below hb9
                replace B2 := B2.below hb9
                replace hf1 := hf1.below hb9
                replace B1 := B1.below hb9
                replace M6 := M6.below hb9
                replace M7 := M7.below hb9
                replace hbW : Below w.heap.size w u44 := hbW.trans (hb9.mono hbW.size)
                replace hbR : Below U.heap.size U u44 := hbR.trans (hb9.mono hbR.size)
                clear hb9
                generalize u43.heap.size = g8 at B8 n81 n83 n84 n85 ⊢
                clear p00 p01 p02 p10 p11 p20 p21
                obtain ⟨p00, p01, p02, _⟩ := B1.cells
                obtain ⟨p10, p11, _⟩ := M6.cells
                obtain ⟨p20, p21, _⟩ := M7.cells
                obtain ⟨p30, p31, p32, _⟩ := B8.cells
                refine hK.out _ _ ?_ (fun hHeld => ?_)
                · (try dsimp only)
                  exact ⟨p00, p01, p02, p10, p11, p20, p21⟩
                clear hK K
                try simp only [Act.put, List.setIfInBounds_toArray, List.set_cons_zero, List.set_cons_succ]
                refine hCall (i := 4) rfl (by kernel_rfl) (by rfl) (fun K hK => ?_)
                go_simp
                refine (ssub_any (k + 3) 2 _ _ _ _ _ hX hf1.ct (by omega) (by decide) (by omega) (by decide)).mono ?_
                rintro e u45 ⟨vd, rfl, hd1, hb45⟩
                replace hX := hX.below hb45
                replace B2 := B2.below hb45
                replace hf1 := hf1.below hb45
                replace B1 := B1.below hb45
                replace M6 := M6.below hb45
                replace M7 := M7.below hb45
                replace B8 := B8.below hb45
                replace hbW : Below w.heap.size w u45 := hbW.trans (hb45.mono hbW.size)
                replace hbR : Below U.heap.size U u45 := hbR.trans (hb45.mono hbR.size)
                clear hb45
                clear p00 p01 p02 p10 p11 p20 p21 p30 p31 p32
                obtain ⟨p00, p01, p02, _⟩ := B1.cells
                obtain ⟨p10, p11, _⟩ := M6.cells
                obtain ⟨p20, p21, _⟩ := M7.cells
                obtain ⟨p30, p31, p32, _⟩ := B8.cells
                go_wp2_with fail
                refine hK.out _ _ ?_ (fun hHeld => ?_)
                · (try dsimp only)
                  exact ⟨p00, p01, p02, p10, p11, p20, p21⟩
                clear hK K
                try simp only [Act.put, List.setIfInBounds_toArray, List.set_cons_zero, List.set_cons_succ]
                refine hCall (i := 10) rfl (by kernel_rfl) (by rfl) (fun K hK => ?_)
                go_simp
                refine (sof14_any (x1 - x0) _ (by omega) (by omega)).mono ?_
                rintro e u46 ⟨vg, rfl, hg1, hb46⟩
                replace hX := hX.below hb46
                replace B2 := B2.below hb46
                replace hf1 := hf1.below hb46
                replace hd1 := hd1.below hb46
                replace B1 := B1.below hb46
                replace M6 := M6.below hb46
                replace M7 := M7.below hb46
                replace B8 := B8.below hb46
                replace hbW : Below w.heap.size w u46 := hbW.trans (hb46.mono hbW.size)
                replace hbR : Below U.heap.size U u46 := hbR.trans (hb46.mono hbR.size)
                clear hb46
                clear p00 p01 p02 p10 p11 p20 p21 p30 p31 p32
                obtain ⟨p00, p01, p02, _⟩ := B1.cells
                obtain ⟨p10, p11, _⟩ := M6.cells
                obtain ⟨p20, p21, _⟩ := M7.cells
                obtain ⟨p30, p31, p32, _⟩ := B8.cells
                go_wp2_with fail
                refine hK.out _ _ ?_ (fun hHeld => ?_)
                · (try dsimp only)
                  exact ⟨p00, p01, p02, p10, p11, p20, p21⟩
                clear hK K
                try simp only [Act.put, List.setIfInBounds_toArray, List.set_cons_zero, List.set_cons_succ]
                refine hCall (i := 11) rfl (by kernel_rfl) (by rfl) (fun K hK => ?_)
                go_simp
                refine (squo_any (k + 3 + 2 + 1) 2 _ _ _ _ _ hd1.ct hg1.ct (by omega) (by decide) (by omega) (by decide)).mono ?_
                rintro e u47 ⟨v8, rfl, hF8, hb47⟩
                replace hX := hX.below hb47
                replace B2 := B2.below hb47
                replace hf1 := hf1.below hb47
                replace hd1 := hd1.below hb47
                replace hg1 := hg1.below hb47
                replace B1 := B1.below hb47
                replace M6 := M6.below hb47
                replace M7 := M7.below hb47
                replace B8 := B8.below hb47
                replace hbW : Below w.heap.size w u47 := hbW.trans (hb47.mono hbW.size)
                replace hbR : Below U.heap.size U u47 := hbR.trans (hb47.mono hbR.size)
                clear hb47
                generalize decide (((x1 - x0 : Int) : Rat) / ((16384 : Int) : Rat) ≠ 0) = qb
                have hM8 := hF8.ct
                obtain ⟨n8, x8, y8, ⟨a8, c8, b8, d8, rfl, _, _⟩, _⟩ := hF8
                clear p00 p01 p02 p10 p11 p20 p21 p30 p31 p32
                obtain ⟨p00, p01, p02, _⟩ := B1.cells
                obtain ⟨p10, p11, _⟩ := M6.cells
                obtain ⟨p20, p21, _⟩ := M7.cells
                obtain ⟨p30, p31, p32, _⟩ := B8.cells
                go_wp2_with fail
                refine hK.out _ _ ?_ (fun hHeld => ?_)
                · (try dsimp only)
                  exact ⟨p00, p01, p02, p10, p11, p20, p21⟩
                clear hK K
                try simp only [Act.put, List.setIfInBounds_toArray, List.set_cons_zero, List.set_cons_succ]
                refine hT 12 hHeld ?_
                refine hT 13 hHeld ?_
                refine hT 14 hHeld ?_
                refine hCall (i := 16) rfl (by kernel_rfl) (by rfl) (fun K hK => ?_)
                go_simp
                obtain ⟨u48, hU, A8, hbU, hK9, ho⟩ := set3_world B8 (.bool n8) (.slice a8 x8.length c8) (.slice b8 y8.length d8)
                rw [← hU]
                clear hU
                replace hbW := hbU _ _ hbW (by omega)
                replace hM8 := hM8.keep hK9
                replace B1 := B1.other ho (by omega)
                replace B2 := B2.other ho (by omega)
                replace M6 := M6.other ho (by omega)
                replace M7 := M7.other ho (by omega)
                clear hbU hK9 ho
                clear p00 p01 p02 p10 p11 p20 p21 p30 p31 p32
                obtain ⟨p00, p01, p02, _⟩ := B1.cells
                obtain ⟨p10, p11, _⟩ := M6.cells
                obtain ⟨p20, p21, _⟩ := M7.cells
                obtain ⟨p30, p31, p32, _⟩ := A8.cells
                refine hK.out _ _ ?_ (fun hHeld => ?_)
                · (try dsimp only)
                  exact ⟨p00, p01, p02, p10, p11, p20, p21⟩
                clear hK K
                try simp only [Act.put, List.setIfInBounds_toArray, List.set_cons_zero, List.set_cons_succ]
                refine hT 17 hHeld ?_
                refine wpAnyH_done (by kernel_rfl) ?_ _
                clear hHeld
                go_wp2_with fail
                go_meet
                exact ⟨_, g8, _, _, _, _, _, _, _, rfl, rfl, A8, hM8, M6, M7, B2, n81, hbW⟩
            · go_simp
              obtain ⟨u43, hU, B8, hb9⟩ : ∃ U, U = ud16.alloc (.cells #[.bool false, .slice none 0 0, .slice none 0 0] 45) ∧ Box 45 U ud16.heap.size (.bool false) (.slice none 0 0) (.slice none 0 0) ∧ Below ud16.heap.size ud16 U := ⟨_, rfl, Box.new _ _ _ _ _, al1 _⟩
              rw [← hU]
              clear hU
              have n81 := hbR.size
              have n83 := M6.lt
              have n84 := M7.lt
              have n85 := B2.lt
              replace hX := hX.below hb9
              replace B2 := B2.below hb9
              replace B1 := B1.below hb9
              replace M6 := M6.below hb9
              replace M7 := M7.below hb9
              replace hbW : Below w.heap.size w u43 := hbW.trans (hb9.mono hbW.size)
              replace hbR : Below U.heap.size U u43 := hbR.trans (hb9.mono hbR.size)
              clear hb9
              generalize ud16.heap.size = g8 at B8 n81 n83 n84 n85 ⊢
              clear p00 p01 p02 p10 p11 p20 p21
              obtain ⟨p00, p01, p02, _⟩ := B1.cells
              obtain ⟨p10, p11, _⟩ := M6.cells
              obtain ⟨p20, p21, _⟩ := M7.cells
              obtain ⟨p30, p31, p32, _⟩ := B8.cells
              refine hK.out _ _ ?_ (fun hHeld => ?_)
              · (try dsimp only)
                exact ⟨p00, p01, p02, p10, p11, p20, p21⟩
              clear hK K
              try simp only [Act.put, List.setIfInBounds_toArray, List.set_cons_zero, List.set_cons_succ]
              refine hCall (i := 3) rfl (by kernel_rfl) (by rfl) (fun K hK => ?_)
              go_simp
              refine (sof14_any x0 _ (by omega) (by omega)).mono ?_
              rintro e u44 ⟨vf, rfl, hf1, hb44⟩
              replace hX := hX.below hb44
              replace B2 := B2.below hb44
              replace B1 := B1.below hb44
              replace M6 := M6.below hb44
              replace M7 := M7.below hb44
              replace B8 := B8.below hb44
              replace hbW : Below w.heap.size w u44 := hbW.trans (hb44.mono hbW.size)
              replace hbR : Below U.heap.size U u44 := hbR.trans (hb44.mono hbR.size)
              clear hb44
              clear p00 p01 p02 p10 p11 p20 p21 p30 p31 p32
              obtain ⟨p00, p01, p02, _⟩ := B1.cells
              obtain ⟨p10, p11, _⟩ := M6.cells
              obtain ⟨p20, p21, _⟩ := M7.cells
              obtain ⟨p30, p31, p32, _⟩ := B8.cells
              go_wp2_with fail
              refine hK.out _ _ ?_ (fun hHeld => ?_)
              · (try dsimp only)
                exact ⟨p00, p01, p02, p10, p11, p20, p21⟩
              clear hK K
              try simp only [Act.put, List.setIfInBounds_toArray, List.set_cons_zero, List.set_cons_succ]
              refine hCall (i := 4) rfl (by kernel_rfl) (by rfl) (fun K hK => ?_)
              go_simp
              refine (ssub_any (k + 3) 2 _ _ _ _ _ hX hf1.ct (by omega) (by decide) (by omega) (by decide)).mono ?_
              rintro e u45 ⟨vd, rfl, hd1, hb45⟩
              replace hX := hX.below hb45
              replace B2 := B2.below hb45
              replace hf1 := hf1.below hb45
              replace B1 := B1.below hb45
              replace M6 := M6.below hb45
              replace M7 := M7.below hb45
              replace B8 := B8.below hb45
              replace hbW : Below w.heap.size w u45 := hbW.trans (hb45.mono hbW.size)
              replace hbR : Below U.heap.size U u45 := hbR.trans (hb45.mono hbR.size)
              clear hb45
              clear p00 p01 p02 p10 p11 p20 p21 p30 p31 p32
              obtain ⟨p00, p01, p02, _⟩ := B1.cells
              obtain ⟨p10, p11, _⟩ := M6.cells
              obtain ⟨p20, p21, _⟩ := M7.cells
              obtain ⟨p30, p31, p32, _⟩ := B8.cells
              go_wp2_with fail
              refine hK.out _ _ ?_ (fun hHeld => ?_)
              · (try dsimp only)
                exact ⟨p00, p01, p02, p10, p11, p20, p21⟩
              clear hK K
              try simp only [Act.put, List.setIfInBounds_toArray, List.set_cons_zero, List.set_cons_succ]
              refine hCall (i := 10) rfl (by kernel_rfl) (by rfl) (fun K hK => ?_)
              go_simp
              refine (sof14_any (x1 - x0) _ (by omega) (by omega)).mono ?_
              rintro e u46 ⟨vg, rfl, hg1, hb46⟩
              replace hX := hX.below hb46
              replace B2 := B2.below hb46
              replace hf1 := hf1.below hb46
              replace hd1 := hd1.below hb46
              replace B1 := B1.below hb46
              replace M6 := M6.below hb46
              replace M7 := M7.below hb46
              replace B8 := B8.below hb46
              replace hbW : Below w.heap.size w u46 := hbW.trans (hb46.mono hbW.size)
              replace hbR : Below U.heap.size U u46 := hbR.trans (hb46.mono hbR.size)
              clear hb46
              clear p00 p01 p02 p10 p11 p20 p21 p30 p31 p32
              obtain ⟨p00, p01, p02, _⟩ := B1.cells
              obtain ⟨p10, p11, _⟩ := M6.cells
              obtain ⟨p20, p21, _⟩ := M7.cells
              obtain ⟨p30, p31, p32, _⟩ := B8.cells
              go_wp2_with fail
              refine hK.out _ _ ?_ (fun hHeld => ?_)
              · (try dsimp only)
                exact ⟨p00, p01, p02, p10, p11, p20, p21⟩
              clear hK K
              try simp only [Act.put, List.setIfInBounds_toArray, List.set_cons_zero, List.set_cons_succ]
              refine hCall (i := 11) rfl (by kernel_rfl) (by rfl) (fun K hK => ?_)
              go_simp
              refine (squo_any (k + 3 + 2 + 1) 2 _ _ _ _ _ hd1.ct hg1.ct (by omega) (by decide) (by omega) (by decide)).mono ?_
              rintro e u47 ⟨v8, rfl, hF8, hb47⟩
              replace hX := hX.below hb47
              replace B2 := B2.below hb47
              replace hf1 := hf1.below hb47
              replace hd1 := hd1.below hb47
              replace hg1 := hg1.below hb47
              replace B1 := B1.below hb47
              replace M6 := M6.below hb47
              replace M7 := M7.below hb47
              replace B8 := B8.below hb47
              replace hbW : Below w.heap.size w u47 := hbW.trans (hb47.mono hbW.size)
              replace hbR : Below U.heap.size U u47 := hbR.trans (hb47.mono hbR.size)
              clear hb47
              generalize decide (((x1 - x0 : Int) : Rat) / ((16384 : Int) : Rat) ≠ 0) = qb
              have hM8 := hF8.ct
              obtain ⟨n8, x8, y8, ⟨a8, c8, b8, d8, rfl, _, _⟩, _⟩ := hF8
              clear p00 p01 p02 p10 p11 p20 p21 p30 p31 p32
              obtain ⟨p00, p01, p02, _⟩ := B1.cells
              obtain ⟨p10, p11, _⟩ := M6.cells
              obtain ⟨p20, p21, _⟩ := M7.cells
              obtain ⟨p30, p31, p32, _⟩ := B8.cells
              go_wp2_with fail
              refine hK.out _ _ ?_ (fun hHeld => ?_)
              · (try dsimp only)
                exact ⟨p00, p01, p02, p10, p11, p20, p21⟩
              clear hK K
              try simp only [Act.put, List.setIfInBounds_toArray, List.set_cons_zero, List.set_cons_succ]
              refine hT 12 hHeld ?_
              refine hT 13 hHeld ?_
              refine hT 14 hHeld ?_
              refine hCall (i := 16) rfl (by kernel_rfl) (by rfl) (fun K hK => ?_)
              go_simp
              obtain ⟨u48, hU, A8, hbU, hK9, ho⟩ := set3_world B8 (.bool n8) (.slice a8 x8.length c8) (.slice b8 y8.length d8)
              rw [← hU]
              clear hU
              replace hbW := hbU _ _ hbW (by omega)
              replace hM8 := hM8.keep hK9
              replace B1 := B1.other ho (by omega)
              replace B2 := B2.other ho (by omega)
              replace M6 := M6.other ho (by omega)
              replace M7 := M7.other ho (by omega)
              clear hbU hK9 ho
              clear p00 p01 p02 p10 p11 p20 p21 p30 p31 p32
              obtain ⟨p00, p01, p02, _⟩ := B1.cells
              obtain ⟨p10, p11, _⟩ := M6.cells
              obtain ⟨p20, p21, _⟩ := M7.cells
              obtain ⟨p30, p31, p32, _⟩ := A8.cells
              refine hK.out _ _ ?_ (fun hHeld => ?_)
              · (try dsimp only)
                exact ⟨p00, p01, p02, p10, p11, p20, p21⟩
              clear hK K
              try simp only [Act.put, List.setIfInBounds_toArray, List.set_cons_zero, List.set_cons_succ]
              refine hT 17 hHeld ?_
              refine wpAnyH_done (by kernel_rfl) ?_ _
              clear hHeld
              go_wp2_with fail
              go_meet
              exact ⟨_, g8, _, _, _, _, _, _, _, rfl, rfl, A8, hM8, M6, M7, B2, n81, hbW⟩
          case rest =>
          clear p00 p01 p02 p10 p11 p20 p21 hX B1 B2 M6 M7 hbW hbR
          obtain ⟨q9, g8, n8, a8, x8, c8, b8, y8, d8, rfl, rfl, A8, hM8, M6, M7, B2, l8, hbW⟩ := hcut
          go_wp2_with fail
          obtain ⟨p00, p01, _⟩ := M6.cells
          obtain ⟨p10, p11, _⟩ := M7.cells
          obtain ⟨p20, p21, p22, _⟩ := A8.cells
          refine wp_region_held_drew (S := (fun u => u.cell? ⟨g6, 0, none⟩ = some (.int .i64 x0) ∧ u.cell? ⟨g6, 1, none⟩ = some (.int .i64 y0) ∧ u.cell? ⟨g7, 0, none⟩ = some (.int .i64 x1) ∧ u.cell? ⟨g7, 1, none⟩ = some (.int .i64 y1) ∧ u.cell? ⟨g8, 0, none⟩ = some (.bool n8) ∧ u.cell? ⟨g8, 1, none⟩ = some (.slice a8 x8 c8) ∧ u.cell? ⟨g8, 2, none⟩ = some (.slice b8 y8 d8))) (by kernel_rfl) ?_ (fun hHeld => ?_)
          · (try dsimp only)
            go_keep
          have hdr : Below wc.heap.size wc wc.drew := Below.drew1
          generalize wc.drew = ud17 at hdr hHeld ⊢
          replace hM8 := hM8.below hdr
          replace B2 := B2.below hdr
          replace M6 := M6.below hdr
          replace M7 := M7.below hdr
          replace A8 := A8.below hdr
          replace hbW : Below w.heap.size w ud17 := hbW.trans (hdr.mono hbW.size)
          clear hdr
          clear p00 p01 p10 p11 p20 p21 p22
          obtain ⟨p00, p01, _⟩ := M6.cells
          obtain ⟨p10, p11, _⟩ := M7.cells
          obtain ⟨p20, p21, p22, _⟩ := A8.cells
          refine hT 0 hHeld ?_
          refine hT 1 hHeld ?_
          refine hT 3 hHeld ?_
          refine hT 4 hHeld ?_
          refine hT 5 hHeld ?_
          refine hT 6 hHeld ?_
          refine hT 7 hHeld ?_
          refine hT 8 hHeld ?_
          refine hCall (i := 2) rfl (by kernel_rfl) (by rfl) (fun K hK => ?_)
          go_simp
          refine (sof14_any y0 _ (by omega) (by omega)).mono ?_
          rintro e u43 ⟨vt, rfl, hT1, hb43⟩
          replace hM8 := hM8.below hb43
          replace B2 := B2.below hb43
          replace M6 := M6.below hb43
          replace M7 := M7.below hb43
          replace A8 := A8.below hb43
          replace hbW : Below w.heap.size w u43 := hbW.trans (hb43.mono hbW.size)
          clear hb43
          clear p00 p01 p10 p11 p20 p21 p22
          obtain ⟨p00, p01, _⟩ := M6.cells
          obtain ⟨p10, p11, _⟩ := M7.cells
          obtain ⟨p20, p21, p22, _⟩ := A8.cells
          go_wp2_with fail
          refine hK.out _ _ ?_ (fun hHeld => ?_)
          · (try dsimp only)
            exact ⟨p00, p01, p10, p11, p20, p21, p22⟩
          clear hK K
          try simp only [Act.put, List.setIfInBounds_toArray, List.set_cons_zero, List.set_cons_succ]
          refine hCall (i := 9) rfl (by kernel_rfl) (by rfl) (fun K hK => ?_)
          go_simp
          refine (sof14_any (y1 - y0) _ (by omega) (by omega)).mono ?_
          rintro e u44 ⟨ve, rfl, hE1, hb44⟩
          replace hM8 := hM8.below hb44
          replace B2 := B2.below hb44
          replace hT1 := hT1.below hb44
          replace M6 := M6.below hb44
          replace M7 := M7.below hb44
          replace A8 := A8.below hb44
          replace hbW : Below w.heap.size w u44 := hbW.trans (hb44.mono hbW.size)
          clear hb44
          clear p00 p01 p10 p11 p20 p21 p22
          obtain ⟨p00, p01, _⟩ := M6.cells
          obtain ⟨p10, p11, _⟩ := M7.cells
          obtain ⟨p20, p21, p22, _⟩ := A8.cells
          go_wp2_with fail
          refine hK.out _ _ ?_ (fun hHeld => ?_)
          · (try dsimp only)
            exact ⟨p00, p01, p10, p11, p20, p21, p22⟩
          clear hK K
          try simp only [Act.put, List.setIfInBounds_toArray, List.set_cons_zero, List.set_cons_succ]
          refine hCall (i := 10) rfl (by kernel_rfl) (by rfl) (fun K hK => ?_)
          go_simp
          refine (smul_any (k + 3 + 2 + 1 + 2) 2 _ _ _ _ _ hM8 hE1.ct (by omega) (by decide) (by omega) (by decide)).mono ?_
          rintro e u45 ⟨vy, rfl, hY1, hb45⟩
          replace hM8 := hM8.below hb45
          replace B2 := B2.below hb45
          replace hT1 := hT1.below hb45
          replace hE1 := hE1.below hb45
          replace M6 := M6.below hb45
          replace M7 := M7.below hb45
          replace A8 := A8.below hb45
          replace hbW : Below w.heap.size w u45 := hbW.trans (hb45.mono hbW.size)
          clear hb45
          clear p00 p01 p10 p11 p20 p21 p22
          obtain ⟨p00, p01, _⟩ := M6.cells
          obtain ⟨p10, p11, _⟩ := M7.cells
          obtain ⟨p20, p21, p22, _⟩ := A8.cells
          go_wp2_with fail
          refine hK.out _ _ ?_ (fun hHeld => ?_)
          · (try dsimp only)
            exact ⟨p00, p01, p10, p11, p20, p21, p22⟩
          clear hK K
          try simp only [Act.put, List.setIfInBounds_toArray, List.set_cons_zero, List.set_cons_succ]
          refine hCall (i := 11) rfl (by kernel_rfl) (by rfl) (fun K hK => ?_)
          go_simp
          refine (sadd_any 2 (k + 3 + 2 + 1 + 2 + 2) _ _ _ _ _ hT1.ct hY1.ct (by decide) (by omega) (by decide) (by omega)).mono ?_
          rintro e u46 ⟨vr, rfl, hR, hb46⟩
          replace hM8 := hM8.below hb46
          replace B2 := B2.below hb46
          replace hT1 := hT1.below hb46
          replace hE1 := hE1.below hb46
          replace hY1 := hY1.below hb46
          replace M6 := M6.below hb46
          replace M7 := M7.below hb46
          replace A8 := A8.below hb46
          replace hbW : Below w.heap.size w u46 := hbW.trans (hb46.mono hbW.size)
          clear hb46
          replace hR := (hR.eq HVAL.out).le (show 2 + (k + 3 + 2 + 1 + 2 + 2) + 1 ≤ k + 13 by omega)
          clear p00 p01 p10 p11 p20 p21 p22
          obtain ⟨p00, p01, _⟩ := M6.cells
          obtain ⟨p10, p11, _⟩ := M7.cells
          obtain ⟨p20, p21, p22, _⟩ := A8.cells
          go_wp2_with fail
          refine hK.out _ _ ?_ (fun hHeld => ?_)
          · (try dsimp only)
            exact ⟨p00, p01, p10, p11, p20, p21, p22⟩
          clear hK K
          try simp only [Act.put, List.setIfInBounds_toArray, List.set_cons_zero, List.set_cons_succ]
          refine hCall (i := 12) rfl (by kernel_rfl) (by rfl) (fun K hK => ?_)
          go_simp
          obtain ⟨q1, q2, q3, q4, q5, q6⟩ := B2.cells
          obtain ⟨nr, xr, yr, ⟨ar, cr, br, dr, rfl, hxr, hyr⟩, hFr⟩ := hR
          go_simp
          obtain ⟨u47, hU, A2, hbU, hK9, ho⟩ := set3_world B2 (.bool nr) (.slice ar xr.length cr) (.slice br yr.length dr)
          rw [← hU]
          clear hU q1 q2 q3 q4 q5 q6
          replace hbW := hbU _ _ hbW (by omega)
          replace hxr := hK9 _ _ _ hxr
          replace hyr := hK9 _ _ _ hyr
          replace M6 := M6.other ho (by omega)
          replace M7 := M7.other ho (by omega)
          replace A8 := A8.other ho (by omega)
          clear hbU hK9 ho
          clear p00 p01 p10 p11 p20 p21 p22
          obtain ⟨p00, p01, _⟩ := M6.cells
          obtain ⟨p10, p11, _⟩ := M7.cells
          obtain ⟨p20, p21, p22, _⟩ := A8.cells
          refine hK.out _ _ ?_ (fun hHeld => ?_)
          · (try dsimp only)
            exact ⟨p00, p01, p10, p11, p20, p21, p22⟩
          clear hK K
          try simp only [Act.put, List.setIfInBounds_toArray, List.set_cons_zero, List.set_cons_succ]
          refine wpAnyH_done (by kernel_rfl) ?_ _
          go_wp2
          refine bodyPost_ret (by obtain ⟨r1, r2, r3, _⟩ := A2.cells; simp [results, Tryz.results22, go_sem, r1, r2, r3]) rfl ⟨_, rfl, ⟨_, _, _, ⟨_, _, _, _, rfl, hxr, hyr⟩, hFr⟩, hbW⟩
        · have gd : decide (s ≤ 0) = false := decide_eq_false (by rw [← HS.out]; exact Int.not_le.2 (sgn_pos.2 (Rat.not_le.1 hle)))
          have HLT : Hid (((x1 : Int) : Rat) / ((16384 : Int) : Rat) < p) := Rat.not_le.1 hle
          go_wp2_with fail
          refine wp_region_held_drew (S := (fun u => u.cell? ⟨w.heap.size, 0, none⟩ = some (.bool nh) ∧ u.cell? ⟨w.heap.size, 1, none⟩ = some (.slice ah xh.length ch) ∧ u.cell? ⟨w.heap.size, 2, none⟩ = some (.slice bh yh.length dh) ∧ u.cell? ⟨g6, 0, none⟩ = some (.int .i64 x0) ∧ u.cell? ⟨g6, 1, none⟩ = some (.int .i64 y0) ∧ u.cell? ⟨g7, 0, none⟩ = some (.int .i64 x1) ∧ u.cell? ⟨g7, 1, none⟩ = some (.int .i64 y1))) (by kernel_rfl) ?_ (fun hHeld => ?_)
          · (try dsimp only)
            go_keep
          have hdr : Below wc.heap.size wc wc.drew := Below.drew1
          generalize wc.drew = ud18 at hdr hHeld ⊢
          replace hX := hX.below hdr
          replace B2 := B2.below hdr
          replace B1 := B1.below hdr
          replace M6 := M6.below hdr
          replace M7 := M7.below hdr
          replace hbW : Below w.heap.size w ud18 := hbW.trans (hdr.mono hbW.size)
          replace hbR : Below U.heap.size U ud18 := hbR.trans (hdr.mono hbR.size)
          clear hdr
          clear p00 p01 p02 p10 p11 p20 p21
          obtain ⟨p00, p01, p02, _⟩ := B1.cells
          obtain ⟨p10, p11, _⟩ := M6.cells
          obtain ⟨p20, p21, _⟩ := M7.cells
          refine hT 0 hHeld ?_
          refine hT 1 hHeld ?_
          refine hT 2 hHeld ?_
          refine hCall (i := 3) rfl (by kernel_rfl) (by rfl) (fun K hK => ?_)
          go_simp
          refine (sof14_any x1 _ (by omega) (by omega)).mono ?_
          rintro e u41 ⟨vb, rfl, hFb, hb41⟩
          replace hX := hX.below hb41
          replace B2 := B2.below hb41
          replace B1 := B1.below hb41
          replace M6 := M6.below hb41
          replace M7 := M7.below hb41
          replace hbW : Below w.heap.size w u41 := hbW.trans (hb41.mono hbW.size)
          replace hbR : Below U.heap.size U u41 := hbR.trans (hb41.mono hbR.size)
          clear hb41
          clear p00 p01 p02 p10 p11 p20 p21
          obtain ⟨p00, p01, p02, _⟩ := B1.cells
          obtain ⟨p10, p11, _⟩ := M6.cells
          obtain ⟨p20, p21, _⟩ := M7.cells
          go_wp2_with fail
          refine hK.out _ _ ?_ (fun hHeld => ?_)
          · (try dsimp only)
            exact ⟨p00, p01, p02, p10, p11, p20, p21⟩
          clear hK K
          try simp only [Act.put, List.setIfInBounds_toArray, List.set_cons_zero, List.set_cons_succ]
          refine hCall (i := 4) rfl (by kernel_rfl) (by rfl) (fun K hK => ?_)
          go_simp
          refine (scmp_any (k + 3) 2 _ _ _ _ _ hX hFb.ct (by omega) (by decide) (by omega) (by decide)).mono ?_
          rintro e u42 ⟨rfl, hb42⟩
          replace hX := hX.below hb42
          replace B2 := B2.below hb42
          replace hFb := hFb.below hb42
          replace B1 := B1.below hb42
          replace M6 := M6.below hb42
          replace M7 := M7.below hb42
          replace hbW : Below w.heap.size w u42 := hbW.trans (hb42.mono hbW.size)
          replace hbR : Below U.heap.size U u42 := hbR.trans (hb42.mono hbR.size)
          clear hb42 hFb
          rw [HS.out]
          clear p00 p01 p02 p10 p11 p20 p21
          obtain ⟨p00, p01, p02, _⟩ := B1.cells
          obtain ⟨p10, p11, _⟩ := M6.cells
          obtain ⟨p20, p21, _⟩ := M7.cells
          go_wp2_with fail
          refine hK.out _ _ ?_ (fun hHeld => ?_)
          · (try dsimp only)
            exact ⟨p00, p01, p02, p10, p11, p20, p21⟩
          clear hK K
          try simp only [Act.put, List.setIfInBounds_toArray, List.set_cons_zero, List.set_cons_succ]
          refine hT 5 hHeld ?_
          refine wpAnyH_done (by kernel_rfl) ?_ _
          clear hHeld
          go_wp2
          go_roundw
          case rel =>
            refine ⟨j + 1, by omega, by go_num, fun i hi hi2 => ?_, hbR⟩
            rcases Nat.lt_or_ge i j with h1 | h1
            · exact HNO.out i h1 hi2
            · have : i = j := by omega
              rw [this, HST.out.2]
              exact HLT.out
          case measure => simp [intOf]; omega
      · have HX : Hid (beQ l q = p) := by
          show _ = _
          rw [HQ.out]
          rcases frP_iff.1 HF.out with hh | hh
          · obtain rfl := List.length_eq_zero_iff.1 hh
            rfl
          · exfalso
            have h3 := (FpP.doc.1 hh).1
            have := HNO.out (l.length - 2) (by omega) (by omega)
            rw [show l.length - 2 + 1 = l.length - 1 by omega, hh.2.2.2.1] at this
            dsimp only at this
            rw [r14_one] at this
            exact absurd HP1.out.2 (Rat.not_le.2 this)
        have g1 : ¬ (j : Int) + 1 < (l.length : Int) := by omega
        have hsz := HBW.out.size
        have hs1 := HB2.out.lt
        obtain ⟨p0, p1, p2, _⟩ := B1.cells
        obtain ⟨q1, q2, q3, q4, q5, q6⟩ := B2.cells
        have hx' := HRX.out.1.below hbR
        have hy' := HRX.out.2.below hbR
        clear hP hX
        go_wp2
        refine ret3 (v := .agg #[.bool nh, .slice ah xh.length ch, .slice bh yh.length dh]) B2 rfl (fun U hU => by obtain ⟨r1, r2, r3, _⟩ := hU.cells; simp [results, Tryz.results22, go_sem, r1, r2, r3]) (fun U hU hK => ⟨_, rfl, Fr.le (Fr.eq ⟨_, _, _, ⟨_, _, _, _, rfl, hK _ _ _ hx', hK _ _ _ hy'⟩, HFH.out⟩ HX.out.symm) (show k + 3 ≤ k + 13 by omega), hU _ _ hbW (by omega)⟩)

end Go.Proofs.YtdpafdeoepbhaaaGreat
