/-
  foundryref07.Bend: the walk.
-/
import Derived.Test.YtdholmnniccbcaaGreatDoorZ20
namespace Go.Proofs.YtdholmnniccbcaaGreatDoor
open Go.RowKit Go.Maps
set_option linter.unusedSimpArgs false
set_option linter.unusedVariables false

theorem sgP_quo {x0 y0 x1 y1 : Int} {p : Rat} (h : x0 < x1) : ((y0 : Int) : Rat) / ((16384 : Int) : Rat) + (p - ((x0 : Int) : Rat) / ((16384 : Int) : Rat)) / (((x1 - x0 : Int) : Rat) / ((16384 : Int) : Rat)) * (((y1 - y0 : Int) : Rat) / ((16384 : Int) : Rat)) = sgP (x0, y0) (x1, y1) p := by
  have hp := ri_pos (b := x1 - x0) (by omega)
  have h14 : ((16384 : Int) : Rat) ≠ 0 := by decide +kernel
  unfold sgP
  dsimp only
  generalize ((x1 - x0 : Int) : Rat) = d at *
  generalize ((y1 - y0 : Int) : Rat) = t at *
  generalize p - ((x0 : Int) : Rat) / ((16384 : Int) : Rat) = r at *
  generalize ((16384 : Int) : Rat) = e at *
  have h0 : d ≠ 0 := by grind
  have key : r / (d / e) * (t / e) = r * (t / d) := by
    rw [Rat.div_def, Rat.div_def, Rat.div_def, Rat.div_def, Rat.inv_mul_rev, Rat.inv_inv]
    have : e * e⁻¹ = 1 := Rat.mul_inv_cancel e h14
    grind
  rw [key]

set_option maxHeartbeats 16000000 in
set_option maxRecDepth 100000 in
theorem sbend_any (k : Nat) (q : Rat) (v : Value) (a : Option Addr) (cap : Nat) (l : List Pr) (w : World) (hP : Pz w a cap l) (h : Ct w v k q) (hk9 : k ≤ 10000) (hk2 : 2 ≤ k) :
    Calls Tryz.prog 15 #[.slice a l.length cap, v] w fun e w' => ∃ v', e = .returned v' ∧ Fr w' v' (k + 13) (beQ l q) ∧ Below w.heap.size w w' := by
  have hk : k ≤ 100000 := by omega
  have HPK : Hid (∀ V, Below w.heap.size w V → Pz V a cap l) := fun V hV => hP.below hV
  have hX := h
  obtain ⟨n, xs, ys, ⟨a1, c, a', c', rfl, _, _⟩, hz1⟩ := h
  clear hz1
  have k1 := hP.1
  have k2 := hP.2.1
  unfold maxLen at k2
  have hfo := fun W hW => sformP_any a cap l W hW
  cases hf : frP l with
  | false =>
    have HQ : Hid (beQ l q = 0) := by show beQ l q = 0; simp [beQ, hf]
    rw [hf] at hfo
    obtain ⟨W, hW, B1, B2, hbW⟩ := boxes2 34 34 w (.bool n) (.slice a1 xs.length c) (.slice a' ys.length c') (.bool false) (.slice none 0 0) (.slice none 0 0)
    replace hX := hX.below hbW
    replace hP := hP.below hbW
    go_enter Tryz.func15, Tryz.ntmps15
    go_wp2_with fail
    rw [← hW]
    clear hW
    obtain ⟨p00, p01, p02, _⟩ := B1.cells
    obtain ⟨p10, p11, p12, _⟩ := B2.cells
    refine (hfo _ hP).mono ?_
    rintro e u1 ⟨rfl, hb1⟩
    replace hP := hP.below hb1
    replace hX := hX.below hb1
    replace B1 := B1.below hb1
    replace B2 := B2.below hb1
    replace hbW : Below w.heap.size w u1 := hbW.trans (hb1.mono hbW.size)
    clear hb1
    clear p00 p01 p02 p10 p11 p12
    obtain ⟨p00, p01, p02, _⟩ := B1.cells
    obtain ⟨p10, p11, p12, _⟩ := B2.cells
    go_wp2_with fail
    refine (szero_any _).mono ?_
    rintro e u2 ⟨v2, rfl, hF2, hb2⟩
    replace hP := hP.below hb2
    replace hX := hX.below hb2
    replace B1 := B1.below hb2
    replace B2 := B2.below hb2
    replace hbW : Below w.heap.size w u2 := hbW.trans (hb2.mono hbW.size)
    clear hb2
    clear p00 p01 p02 p10 p11 p12
    obtain ⟨p00, p01, p02, _⟩ := B1.cells
    obtain ⟨p10, p11, p12, _⟩ := B2.cells
    replace hF2 := (hF2.eq (r := beQ l q) (by rw [HQ.out])).le (show 2 ≤ k + 13 by omega)
    clear p00 p01 p02 p10 p11 p12
    obtain ⟨n', xs', ys', ⟨e1, f1, e2, f2, rfl, hx', hy'⟩, hF⟩ := hF2
    have hs := B2.lt
    obtain ⟨q1, q2, q3, q4, q5, q6⟩ := B2.cells
    go_wp2
    refine ret3 (v := .agg #[.bool n', .slice e1 xs'.length f1, .slice e2 ys'.length f2]) B2 rfl (fun U hU => by obtain ⟨r1, r2, r3, _⟩ := hU.cells; simp [results, Tryz.results15, go_sem, r1, r2, r3]) (fun U hU hK => ⟨_, rfl, ⟨_, _, _, ⟨_, _, _, _, rfl, hK _ _ _ hx', hK _ _ _ hy'⟩, hF⟩, hU _ _ hbW (by omega)⟩)
  | true =>
    have HF : Hid (frP l = true) := hf
    have HQ : Hid (beQ l q = bnP l (clQ q)) := by show _ = _; rw [beQ, if_pos hf]
    rw [hf] at hfo
    clear hf
    obtain ⟨W, hW, B1, B2, hbW⟩ := boxes2 34 34 w (.bool n) (.slice a1 xs.length c) (.slice a' ys.length c') (.bool false) (.slice none 0 0) (.slice none 0 0)
    replace hX := hX.below hbW
    replace hP := hP.below hbW
    go_enter Tryz.func15, Tryz.ntmps15
    go_wp2_with fail
    rw [← hW]
    clear hW
    obtain ⟨p00, p01, p02, _⟩ := B1.cells
    obtain ⟨p10, p11, p12, _⟩ := B2.cells
    refine (hfo _ hP).mono ?_
    rintro e u1 ⟨rfl, hb1⟩
    replace hP := hP.below hb1
    replace hX := hX.below hb1
    replace B1 := B1.below hb1
    replace B2 := B2.below hb1
    replace hbW : Below w.heap.size w u1 := hbW.trans (hb1.mono hbW.size)
    clear hb1
    clear p00 p01 p02 p10 p11 p12
    obtain ⟨p00, p01, p02, _⟩ := B1.cells
    obtain ⟨p10, p11, p12, _⟩ := B2.cells
    clear hfo
    go_wp2_with fail
    refine (sheld_any k q _ _ hX hk hk2).mono ?_
    rintro e u2 ⟨vh, rfl, hH, hb2⟩
    replace hP := hP.below hb2
    replace hX := hX.below hb2
    replace B1 := B1.below hb2
    replace B2 := B2.below hb2
    replace hbW : Below w.heap.size w u2 := hbW.trans (hb2.mono hbW.size)
    clear hb2 hX
    clear p00 p01 p02 p10 p11 p12
    obtain ⟨p00, p01, p02, _⟩ := B1.cells
    obtain ⟨p10, p11, p12, _⟩ := B2.cells
    have hXh := hH.ct
    obtain ⟨nh, xh, yh, ⟨ah, ch, bh, dh, rfl, hxh, hyh⟩, hFh⟩ := hH
    have HIN := clQ_bd q
    obtain ⟨p, hp⟩ : ∃ p, clQ q = p := ⟨_, rfl⟩
    rw [hp] at hXh HIN hFh HQ
    have HP1 : Hid (((-1 : Int) : Rat) ≤ p ∧ p ≤ ((1 : Int) : Rat)) := HIN
    clear HIN hp
    clear p00 p01 p02 p10 p11 p12
    obtain ⟨q1, q2, q3, q4, q5, q6⟩ := B1.cells
    have nn : w.heap.size ≠ w.heap.size + 1 := by omega
    go_wp2
    obtain ⟨U, hU, C1, hbU, hK, ho⟩ := set3_world B1 (.bool nh) (.slice ah xh.length ch) (.slice bh yh.length dh)
    rw [← hU]
    clear hU q1 q2 q3 q4 q5 q6
    have HBW : Hid (Below w.heap.size w U) := hbU _ _ hbW (Nat.le_refl _)
    have HXU : Hid (Ct U (.agg #[.bool nh, .slice ah xh.length ch, .slice bh yh.length dh]) (k + 3) p) := hXh.keep hK
    have HB1 : Hid (Box 34 U w.heap.size (.bool nh) (.slice ah xh.length ch) (.slice bh yh.length dh)) := C1
    have HB2 : Hid (Box 34 U (w.heap.size + 1) (.bool false) (.slice none 0 0) (.slice none 0 0)) := B2.other ho (Ne.symm nn)
    have HRX : Hid (Rd U ah ch xh ∧ Rd U bh dh yh) := ⟨hK _ _ _ hxh, hK _ _ _ hyh⟩
    have HFH : Hid (_) := hFh
    have HPU : Hid (Pz U a cap l) := HPK.out _ HBW.out
    clear hK ho hbU C1 B2 B1 hP hXh hbW hxh hyh hFh
    have m1 : p ≤ ((1 : Int) : Rat) := HP1.out.2
    go_loopw [5] (fun i wr => ∃ j : Nat, j ≤ l.length ∧ i = .int .i64 ((j : Int) + 1) ∧ (∀ i, i < j → i + 1 < l.length → (((l.getD (i + 1) (0, 0)).1 : Int) : Rat) / ((16384 : Int) : Rat) < p) ∧ Below U.heap.size U wr) (fun i _ => l.length + 1 - (intOf i).toNat)
    case atStart => exact ⟨0, Nat.zero_le _, rfl, (fun j hj => by omega), Below.refl _ _⟩
    case round =>
      obtain ⟨j, hj, rfl, hno, hbR⟩ := hrel
      have hbW : Below w.heap.size w wr := HBW.out.trans (hbR.mono HBW.out.size)
      have hP := HPU.out.below hbR
      have hX := HXU.out.below hbR
      have B1 := HB1.out.below hbR
      have B2 := HB2.out.below hbR
      have HNO : Hid (∀ i, i < j → i + 1 < l.length → (((l.getD (i + 1) (0, 0)).1 : Int) : Rat) / ((16384 : Int) : Rat) < p) := hno
      clear hno
      by_cases hkn : j + 1 < l.length
      · obtain ⟨b, off, ea, hbb, T2⟩ := hP.two hkn
        have HJ : Hid ((((l.getD j (0, 0)).1 : Int) : Rat) / ((16384 : Int) : Rat) ≤ p) := by
          show _ ≤ _
          rcases Nat.eq_zero_or_pos j with rfl | h0
          · rcases frP_iff.1 HF.out with hh | hh
            · omega
            · rw [hh.2.2.1]
              dsimp only
              rw [r14_neg]
              exact HP1.out.1
          · obtain ⟨i, rfl⟩ : ∃ i, j = i + 1 := ⟨j - 1, by omega⟩
            exact Rat.le_of_lt (HNO.out i (by omega) (by omega))
        have HRI : Hid (RiP l) := by
          show RiP l
          rcases frP_iff.1 HF.out with hh | hh
          · omega
          · exact hh.2.2.2.2.2
        have HBN : Hid (p ≤ (((l.getD (j + 1) (0, 0)).1 : Int) : Rat) / ((16384 : Int) : Rat) → bnP l p = sgP (l.getD j (0, 0)) (l.getD (j + 1) (0, 0)) p) := fun hh => bnP_at HRI.out hkn HJ.out hh
        have i0 := frP_in HF.out (show j < l.length by omega)
        have i1 := frP_in HF.out hkn
        have i2 := (HRI.out j hkn).1
        obtain ⟨s, hs⟩ : ∃ s, l.getD j (0, 0) = s := ⟨_, rfl⟩
        obtain ⟨t, ht⟩ : ∃ s, l.getD (j + 1) (0, 0) = s := ⟨_, rfl⟩
        rw [hs, ht] at T2 HBN i2
        rw [hs] at i0 HJ
        rw [ht] at i1
        have HST : Hid (l.getD j (0, 0) = s ∧ l.getD (j + 1) (0, 0) = t) := ⟨hs, ht⟩
        clear hs ht
        obtain ⟨x0, y0⟩ := s
        obtain ⟨x1, y1⟩ := t
        dsimp only at T2 HBN i0 i1 i2 HJ
        subst ea
        have hwr : IntKind.i64.wrap (j : Int) = j := wrapi64 (by omega) (by omega)
        have hjl : j < l.length := by omega
        have hj1 : (0 : Int) ≤ (j : Int) + 1 := by omega
        have hj3 : (j : Int) + 1 < (l.length : Int) := by omega
        have hw1 : IntKind.i64.wrap (x1 - x0) = x1 - x0 := wrapi64 (by omega) (by omega)
        have hw2 : IntKind.i64.wrap (y1 - y0) = y1 - y0 := wrapi64 (by omega) (by omega)
        obtain ⟨s, hs⟩ : ∃ s, sgnQ (p - ((x1 : Int) : Rat) / ((16384 : Int) : Rat)) = s := ⟨_, rfl⟩
        have HS : Hid (sgnQ (p - ((x1 : Int) : Rat) / ((16384 : Int) : Rat)) = s) := hs
        have hsz := HBW.out.size
        have hs1 := HB2.out.lt
        clear hs hP
        obtain ⟨p00, p01, p02, p03⟩ := T2.cells
        obtain ⟨p10, p11, p12, _⟩ := B1.cells
        by_cases hle : p ≤ ((x1 : Int) : Rat) / ((16384 : Int) : Rat)
        · have gd : decide (s ≤ 0) = true := decide_eq_true (by rw [← HS.out]; exact Int.not_lt.1 (fun hh => Rat.not_lt.2 hle (sgn_pos.1 hh)))
          have HVAL : Hid (((y0 : Int) : Rat) / ((16384 : Int) : Rat) + (p - ((x0 : Int) : Rat) / ((16384 : Int) : Rat)) / (((x1 - x0 : Int) : Rat) / ((16384 : Int) : Rat)) * (((y1 - y0 : Int) : Rat) / ((16384 : Int) : Rat)) = beQ l q) := by
            show _ = _
            rw [HQ.out, HBN.out hle]
            exact sgP_quo i2
          go_wp2_with fail
          refine wp_region_held_drew (S := (fun u => u.cell? ⟨b, (off + j * 2), none⟩ = some (.int .i64 x0) ∧ u.cell? ⟨b, (off + j * 2 + 1), none⟩ = some (.int .i64 y0) ∧ u.cell? ⟨b, (off + (j + 1) * 2), none⟩ = some (.int .i64 x1) ∧ u.cell? ⟨b, (off + (j + 1) * 2 + 1), none⟩ = some (.int .i64 y1) ∧ u.cell? ⟨w.heap.size, 0, none⟩ = some (.bool nh) ∧ u.cell? ⟨w.heap.size, 1, none⟩ = some (.slice ah xh.length ch) ∧ u.cell? ⟨w.heap.size, 2, none⟩ = some (.slice bh yh.length dh))) (by kernel_rfl) ?_ (fun hHeld => ?_)
          · (try dsimp only)
            go_keep
          have hdr : Below wr.heap.size wr wr.drew := Below.drew1
          generalize wr.drew = ud221 at hdr hHeld ⊢
          replace hX := hX.below hdr
          replace B2 := B2.below hdr
          replace T2 := T2.below hdr
          replace B1 := B1.below hdr
          replace hbW : Below w.heap.size w ud221 := hbW.trans (hdr.mono hbW.size)
          replace hbR : Below U.heap.size U ud221 := hbR.trans (hdr.mono hbR.size)
          clear hdr
          clear p00 p01 p02 p03 p10 p11 p12
          obtain ⟨p00, p01, p02, p03⟩ := T2.cells
          obtain ⟨p10, p11, p12, _⟩ := B1.cells
          refine hTake (i := 0) (v := ?v222) rfl (by kernel_rfl) (by kernel_rfl) (by kernel_rfl) (fun _ _ _ h => h) (Or.inl ⟨by rfl, ?y222⟩) hHeld ?r222
          case y222 =>
            intro w9 hSw
            (try dsimp only at hSw)
            go_simp
            try with_reducible rfl
          try simp only [Act.put, List.setIfInBounds_toArray, List.set_cons_zero, List.set_cons_succ]
          refine hTake (i := 1) (v := ?v223) rfl (by kernel_rfl) (by kernel_rfl) (by kernel_rfl) (fun _ _ _ h => h) (Or.inl ⟨by rfl, ?y223⟩) hHeld ?r223
          case y223 =>
            intro w9 hSw
            (try dsimp only at hSw)
            go_simp
            try with_reducible rfl
          try simp only [Act.put, List.setIfInBounds_toArray, List.set_cons_zero, List.set_cons_succ]
          refine hTake (i := 2) (v := ?v224) rfl (by kernel_rfl) (by kernel_rfl) (by kernel_rfl) (fun _ _ _ h => h) (Or.inl ⟨by rfl, ?y224⟩) hHeld ?r224
          case y224 =>
            intro w9 hSw
            (try dsimp only at hSw)
            go_simp
            try with_reducible rfl
          try simp only [Act.put, List.setIfInBounds_toArray, List.set_cons_zero, List.set_cons_succ]
          refine hTake (i := 3) (v := ?v225) rfl (by kernel_rfl) (by kernel_rfl) (by kernel_rfl) (fun _ _ _ h => h) (Or.inl ⟨by rfl, ?y225⟩) hHeld ?r225
          case y225 =>
            intro w9 hSw
            (try dsimp only at hSw)
            go_simp
            try with_reducible rfl
          try simp only [Act.put, List.setIfInBounds_toArray, List.set_cons_zero, List.set_cons_succ]
          refine hTake (i := 4) (v := ?v226) rfl (by kernel_rfl) (by kernel_rfl) (by kernel_rfl) (fun _ _ _ h => h) (Or.inl ⟨by rfl, ?y226⟩) hHeld ?r226
          case y226 =>
            intro w9 hSw
            (try dsimp only at hSw)
            go_simp
            try with_reducible rfl
          try simp only [Act.put, List.setIfInBounds_toArray, List.set_cons_zero, List.set_cons_succ]
          refine hTake (i := 5) (v := ?v227) rfl (by kernel_rfl) (by kernel_rfl) (by kernel_rfl) (fun _ _ _ h => h) (Or.inl ⟨by rfl, ?y227⟩) hHeld ?r227
          case y227 =>
            intro w9 hSw
            (try dsimp only at hSw)
            go_simp
            try with_reducible rfl
          try simp only [Act.put, List.setIfInBounds_toArray, List.set_cons_zero, List.set_cons_succ]
          refine hTake (i := 6) (v := ?v228) rfl (by kernel_rfl) (by kernel_rfl) (by kernel_rfl) (fun _ _ _ h => h) (Or.inl ⟨by rfl, ?y228⟩) hHeld ?r228
          case y228 =>
            intro w9 hSw
            (try dsimp only at hSw)
            go_simp
            try with_reducible rfl
          try simp only [Act.put, List.setIfInBounds_toArray, List.set_cons_zero, List.set_cons_succ]
          refine hTake (i := 7) (v := ?v229) rfl (by kernel_rfl) (by kernel_rfl) (by kernel_rfl) (fun _ _ _ h => h) (Or.inl ⟨by rfl, ?y229⟩) hHeld ?r229
          case y229 =>
            intro w9 hSw
            (try dsimp only at hSw)
            go_simp
            try with_reducible rfl
          try simp only [Act.put, List.setIfInBounds_toArray, List.set_cons_zero, List.set_cons_succ]
          refine hTake (i := 8) (v := ?v230) rfl (by kernel_rfl) (by kernel_rfl) (by kernel_rfl) (fun _ _ _ h => h) (Or.inl ⟨by rfl, ?y230⟩) hHeld ?r230
          case y230 =>
            intro w9 hSw
            (try dsimp only at hSw)
            go_simp
            try with_reducible rfl
          try simp only [Act.put, List.setIfInBounds_toArray, List.set_cons_zero, List.set_cons_succ]
          refine wpAnyH_ready (rs := [9, 10]) (by kernel_rfl) (by simp) (hCons (i := 9) rfl (by rfl) (fun K hK => ?_) (hCons (i := 10) rfl (by rfl) (fun K hK => ?_) AllReadyH.nil))
          · go_simp
            obtain ⟨u41, hU, L6, hb9⟩ : ∃ U, U = ud221.alloc (.cells #[.int .i64 0, .int .i64 0] 49) ∧ BxP U ud221.heap.size (.int .i64 0) (.int .i64 0) ∧ Below ud221.heap.size ud221 U := ⟨_, rfl, BxP.new _ _ _, bl1 _⟩
            rw [← hU]
            clear hU
            have n61 := hbR.size
            have n62 := T2.1
            replace hX := hX.below hb9
            replace B2 := B2.below hb9
            replace T2 := T2.below hb9
            replace B1 := B1.below hb9
            replace hbW : Below w.heap.size w u41 := hbW.trans (hb9.mono hbW.size)
            replace hbR : Below U.heap.size U u41 := hbR.trans (hb9.mono hbR.size)
            clear hb9
            generalize ud221.heap.size = g6 at L6 n61 n62 ⊢
            clear p00 p01 p02 p03 p10 p11 p12
            obtain ⟨p00, p01, p02, p03⟩ := T2.cells
            obtain ⟨p10, p11, p12, _⟩ := B1.cells
            obtain ⟨p20, p21, _⟩ := L6.cells
            refine hK.out _ _ ?_ (fun hHeld => ?_)
            · (try dsimp only)
              exact ⟨p00, p01, p02, p03, p10, p11, p12⟩
            clear hK K
            try simp only [Act.put, List.setIfInBounds_toArray, List.set_cons_zero, List.set_cons_succ]
            refine hCall (i := 10) rfl (by kernel_rfl) (by rfl) (fun K hK => ?_)
            go_simp
            obtain ⟨u42, hU, L7, hb9⟩ : ∃ U, U = u41.alloc (.cells #[.int .i64 0, .int .i64 0] 49) ∧ BxP U u41.heap.size (.int .i64 0) (.int .i64 0) ∧ Below u41.heap.size u41 U := ⟨_, rfl, BxP.new _ _ _, bl1 _⟩
            rw [← hU]
            clear hU
            have n71 := hbR.size
            have n72 := T2.1
            have nn2 := L6.lt
            replace hX := hX.below hb9
            replace B2 := B2.below hb9
            replace T2 := T2.below hb9
            replace B1 := B1.below hb9
            replace L6 := L6.below hb9
            replace hbW : Below w.heap.size w u42 := hbW.trans (hb9.mono hbW.size)
            replace hbR : Below U.heap.size U u42 := hbR.trans (hb9.mono hbR.size)
            clear hb9
            generalize u41.heap.size = g7 at L7 n71 n72 nn2 ⊢
            clear p00 p01 p02 p03 p10 p11 p12 p20 p21
            obtain ⟨p00, p01, p02, p03⟩ := T2.cells
            obtain ⟨p10, p11, p12, _⟩ := B1.cells
            obtain ⟨p20, p21, _⟩ := L6.cells
            obtain ⟨p30, p31, _⟩ := L7.cells
            refine hK.out _ _ ?_ (fun hHeld => ?_)
            · (try dsimp only)
              exact ⟨p00, p01, p02, p03, p10, p11, p12⟩
            clear hK K
            try simp only [Act.put, List.setIfInBounds_toArray, List.set_cons_zero, List.set_cons_succ]
            refine hCall (i := 11) rfl (by kernel_rfl) (by rfl) (fun K hK => ?_)
            go_simp
            obtain ⟨q1, q2, q3, q4⟩ := L6.cells
            go_simp
            obtain ⟨u43, hU, M6, hbU, ho⟩ := L6.set_world (.int .i64 x0) (.int .i64 y0)
            rw [← hU]
            clear hU q1 q2 q3 q4
            replace hbW := hbU _ _ hbW (by omega)
            replace hbR := hbU _ _ hbR (by omega)
            replace T2 := T2.other ho (by omega)
            replace B1 := B1.other ho (by omega)
            replace B2 := B2.other ho (by omega)
            replace L7 := L7.other ho (by omega)
            clear hbU ho hX
            have hX := HXU.out.below hbR
            clear p00 p01 p02 p03 p10 p11 p12 p20 p21 p30 p31
            obtain ⟨p00, p01, p02, p03⟩ := T2.cells
            obtain ⟨p10, p11, p12, _⟩ := B1.cells
            obtain ⟨p20, p21, _⟩ := L7.cells
            obtain ⟨p30, p31, _⟩ := M6.cells
            refine hK.out _ _ ?_ (fun hHeld => ?_)
            · (try dsimp only)
              exact ⟨p00, p01, p02, p03, p10, p11, p12⟩
            clear hK K
            try simp only [Act.put, List.setIfInBounds_toArray, List.set_cons_zero, List.set_cons_succ]
            refine hCall (i := 12) rfl (by kernel_rfl) (by rfl) (fun K hK => ?_)
            go_simp
            obtain ⟨q1, q2, q3, q4⟩ := L7.cells
            go_simp
            obtain ⟨u44, hU, M7, hbU, ho⟩ := L7.set_world (.int .i64 x1) (.int .i64 y1)
            rw [← hU]
            clear hU q1 q2 q3 q4
            replace hbW := hbU _ _ hbW (by omega)
            replace hbR := hbU _ _ hbR (by omega)
            replace T2 := T2.other ho (by omega)
            replace B1 := B1.other ho (by omega)
            replace B2 := B2.other ho (by omega)
            replace M6 := M6.other ho (by omega)
            clear hbU ho hX
            have hX := HXU.out.below hbR
            clear p00 p01 p02 p03 p10 p11 p12 p20 p21 p30 p31
            obtain ⟨p00, p01, p02, p03⟩ := T2.cells
            obtain ⟨p10, p11, p12, _⟩ := B1.cells
            obtain ⟨p20, p21, _⟩ := M6.cells
            obtain ⟨p30, p31, _⟩ := M7.cells
            refine hK.out _ _ ?_ (fun hHeld => ?_)
            · (try dsimp only)
              exact ⟨p00, p01, p02, p03, p10, p11, p12⟩
            clear hK K
            try simp only [Act.put, List.setIfInBounds_toArray, List.set_cons_zero, List.set_cons_succ]
            refine wpAnyH_done (by kernel_rfl) ?_ _
            clear hHeld
            go_wp2_with fail
            clear p00 p01 p02 p03 p10 p11 p12 p20 p21 p30 p31 T2
            obtain ⟨p00, p01, p02, _⟩ := B1.cells
            obtain ⟨p10, p11, _⟩ := M6.cells
            obtain ⟨p20, p21, _⟩ := M7.cells
            refine wp_region_held_drew (S := (fun u => u.cell? ⟨w.heap.size, 0, none⟩ = some (.bool nh) ∧ u.cell? ⟨w.heap.size, 1, none⟩ = some (.slice ah xh.length ch) ∧ u.cell? ⟨w.heap.size, 2, none⟩ = some (.slice bh yh.length dh) ∧ u.cell? ⟨g6, 0, none⟩ = some (.int .i64 x0) ∧ u.cell? ⟨g6, 1, none⟩ = some (.int .i64 y0) ∧ u.cell? ⟨g7, 0, none⟩ = some (.int .i64 x1) ∧ u.cell? ⟨g7, 1, none⟩ = some (.int .i64 y1))) (by kernel_rfl) ?_ (fun hHeld => ?_)
            · (try dsimp only)
              go_keep
            have hdr : Below u44.heap.size u44 u44.drew := Below.drew1
            generalize u44.drew = ud231 at hdr hHeld ⊢
            replace hX := hX.below hdr
            replace B2 := B2.below hdr
            replace B1 := B1.below hdr
            replace M6 := M6.below hdr
            replace M7 := M7.below hdr
            replace hbW : Below w.heap.size w ud231 := hbW.trans (hdr.mono hbW.size)
            replace hbR : Below U.heap.size U ud231 := hbR.trans (hdr.mono hbR.size)
            clear hdr
            clear p00 p01 p02 p10 p11 p20 p21
            obtain ⟨p00, p01, p02, _⟩ := B1.cells
            obtain ⟨p10, p11, _⟩ := M6.cells
            obtain ⟨p20, p21, _⟩ := M7.cells
            refine hTake (i := 0) (v := ?v232) rfl (by kernel_rfl) (by kernel_rfl) (by kernel_rfl) (fun _ _ _ h => h) (Or.inl ⟨by rfl, ?y232⟩) hHeld ?r232
            case y232 =>
              intro w9 hSw
              (try dsimp only at hSw)
              go_simp
              try with_reducible rfl
            try simp only [Act.put, List.setIfInBounds_toArray, List.set_cons_zero, List.set_cons_succ]
            refine hTake (i := 1) (v := ?v233) rfl (by kernel_rfl) (by kernel_rfl) (by kernel_rfl) (fun _ _ _ h => h) (Or.inl ⟨by rfl, ?y233⟩) hHeld ?r233
            case y233 =>
              intro w9 hSw
              (try dsimp only at hSw)
              go_simp
              try with_reducible rfl
            try simp only [Act.put, List.setIfInBounds_toArray, List.set_cons_zero, List.set_cons_succ]
            refine hTake (i := 2) (v := ?v234) rfl (by kernel_rfl) (by kernel_rfl) (by kernel_rfl) (fun _ _ _ h => h) (Or.inl ⟨by rfl, ?y234⟩) hHeld ?r234
            case y234 =>
              intro w9 hSw
              (try dsimp only at hSw)
              go_simp
              try with_reducible rfl
            try simp only [Act.put, List.setIfInBounds_toArray, List.set_cons_zero, List.set_cons_succ]
            refine hCall (i := 3) rfl (by kernel_rfl) (by rfl) (fun K hK => ?_)
            go_simp
            refine (sof14_any x1 _ (by omega) (by omega)).mono ?_
            rintro e u45 ⟨vb, rfl, hFb, hb45⟩
            replace hX := hX.below hb45
            replace B2 := B2.below hb45
            replace B1 := B1.below hb45
            replace M6 := M6.below hb45
            replace M7 := M7.below hb45
            replace hbW : Below w.heap.size w u45 := hbW.trans (hb45.mono hbW.size)
            replace hbR : Below U.heap.size U u45 := hbR.trans (hb45.mono hbR.size)
            clear hb45
            clear p00 p01 p02 p10 p11 p20 p21
            obtain ⟨p00, p01, p02, _⟩ := B1.cells
            obtain ⟨p10, p11, _⟩ := M6.cells
            obtain ⟨p20, p21, _⟩ := M7.cells
            go_wp2_with fail
            refine hK.out _ _ ?_ (fun hHeld => ?_)
            · (try dsimp only)
              exact ⟨p00, p01, p02, p10, p11, p20, p21⟩
            clear hK K
            try simp only [Act.put, List.setIfInBounds_toArray, List.set_cons_zero, List.set_cons_succ]
            refine hCall (i := 4) rfl (by kernel_rfl) (by rfl) (fun K hK => ?_)
            go_simp
            refine (scmp_any (k + 3) 2 _ _ _ _ _ hX hFb.ct (by omega) (by decide) (by omega) (by decide)).mono ?_
            rintro e u46 ⟨rfl, hb46⟩
            replace hX := hX.below hb46
            replace B2 := B2.below hb46
            replace hFb := hFb.below hb46
            replace B1 := B1.below hb46
            replace M6 := M6.below hb46
            replace M7 := M7.below hb46
            replace hbW : Below w.heap.size w u46 := hbW.trans (hb46.mono hbW.size)
            replace hbR : Below U.heap.size U u46 := hbR.trans (hb46.mono hbR.size)
            clear hb46 hFb
            rw [HS.out]
            clear p00 p01 p02 p10 p11 p20 p21
            obtain ⟨p00, p01, p02, _⟩ := B1.cells
            obtain ⟨p10, p11, _⟩ := M6.cells
            obtain ⟨p20, p21, _⟩ := M7.cells
            go_wp2_with fail
            refine hK.out _ _ ?_ (fun hHeld => ?_)
            · (try dsimp only)
              exact ⟨p00, p01, p02, p10, p11, p20, p21⟩
            clear hK K
            try simp only [Act.put, List.setIfInBounds_toArray, List.set_cons_zero, List.set_cons_succ]
            refine hTake (i := 5) (v := ?v235) rfl (by kernel_rfl) (by kernel_rfl) (by kernel_rfl) (fun _ _ _ h => h) (Or.inl ⟨by rfl, ?y235⟩) hHeld ?r235
            case y235 =>
              intro w9 hSw
              (try dsimp only at hSw)
              go_simp
              try with_reducible rfl
            try simp only [Act.put, List.setIfInBounds_toArray, List.set_cons_zero, List.set_cons_succ]
            refine wpAnyH_done (by kernel_rfl) ?_ _
            clear hHeld
            go_wp2_with fail
            refine wp_region_held_drew (S := (fun u => u.cell? ⟨w.heap.size, 0, none⟩ = some (.bool nh) ∧ u.cell? ⟨w.heap.size, 1, none⟩ = some (.slice ah xh.length ch) ∧ u.cell? ⟨w.heap.size, 2, none⟩ = some (.slice bh yh.length dh) ∧ u.cell? ⟨g6, 0, none⟩ = some (.int .i64 x0) ∧ u.cell? ⟨g6, 1, none⟩ = some (.int .i64 y0) ∧ u.cell? ⟨g7, 0, none⟩ = some (.int .i64 x1) ∧ u.cell? ⟨g7, 1, none⟩ = some (.int .i64 y1))) (by kernel_rfl) ?_ (fun hHeld => ?_)
            · (try dsimp only)
              go_keep
            have hdr : Below u46.heap.size u46 u46.drew := Below.drew1
            generalize u46.drew = ud236 at hdr hHeld ⊢
            replace hX := hX.below hdr
            replace B2 := B2.below hdr
            replace B1 := B1.below hdr
            replace M6 := M6.below hdr
            replace M7 := M7.below hdr
            replace hbW : Below w.heap.size w ud236 := hbW.trans (hdr.mono hbW.size)
            replace hbR : Below U.heap.size U ud236 := hbR.trans (hdr.mono hbR.size)
            clear hdr
            clear p00 p01 p02 p10 p11 p20 p21
            obtain ⟨p00, p01, p02, _⟩ := B1.cells
            obtain ⟨p10, p11, _⟩ := M6.cells
            obtain ⟨p20, p21, _⟩ := M7.cells
            refine hTake (i := 0) (v := ?v237) rfl (by kernel_rfl) (by kernel_rfl) (by kernel_rfl) (fun _ _ _ h => h) (Or.inl ⟨by rfl, ?y237⟩) hHeld ?r237
            case y237 =>
              intro w9 hSw
              (try dsimp only at hSw)
              go_simp
              try with_reducible rfl
            try simp only [Act.put, List.setIfInBounds_toArray, List.set_cons_zero, List.set_cons_succ]
            refine hTake (i := 1) (v := ?v238) rfl (by kernel_rfl) (by kernel_rfl) (by kernel_rfl) (fun _ _ _ h => h) (Or.inl ⟨by rfl, ?y238⟩) hHeld ?r238
            case y238 =>
              intro w9 hSw
              (try dsimp only at hSw)
              go_simp
              try with_reducible rfl
            try simp only [Act.put, List.setIfInBounds_toArray, List.set_cons_zero, List.set_cons_succ]
            refine hTake (i := 2) (v := ?v239) rfl (by kernel_rfl) (by kernel_rfl) (by kernel_rfl) (fun _ _ _ h => h) (Or.inl ⟨by rfl, ?y239⟩) hHeld ?r239
            case y239 =>
              intro w9 hSw
              (try dsimp only at hSw)
              go_simp
              try with_reducible rfl
            try simp only [Act.put, List.setIfInBounds_toArray, List.set_cons_zero, List.set_cons_succ]
            refine hTake (i := 5) (v := ?v240) rfl (by kernel_rfl) (by kernel_rfl) (by kernel_rfl) (fun _ _ _ h => h) (Or.inl ⟨by rfl, ?y240⟩) hHeld ?r240
            case y240 =>
              intro w9 hSw
              (try dsimp only at hSw)
              go_simp
              try with_reducible rfl
            try simp only [Act.put, List.setIfInBounds_toArray, List.set_cons_zero, List.set_cons_succ]
            refine hTake (i := 6) (v := ?v241) rfl (by kernel_rfl) (by kernel_rfl) (by kernel_rfl) (fun _ _ _ h => h) (Or.inl ⟨by rfl, ?y241⟩) hHeld ?r241
            case y241 =>
              intro w9 hSw
              (try dsimp only at hSw)
              go_simp
              try with_reducible rfl
            try simp only [Act.put, List.setIfInBounds_toArray, List.set_cons_zero, List.set_cons_succ]
            refine hTake (i := 7) (v := ?v242) rfl (by kernel_rfl) (by kernel_rfl) (by kernel_rfl) (fun _ _ _ h => h) (Or.inl ⟨by rfl, ?y242⟩) hHeld ?r242
            case y242 =>
              intro w9 hSw
              (try dsimp only at hSw)
              go_simp
              try with_reducible rfl
            try simp only [Act.put, List.setIfInBounds_toArray, List.set_cons_zero, List.set_cons_succ]
            refine hTake (i := 8) (v := ?v243) rfl (by kernel_rfl) (by kernel_rfl) (by kernel_rfl) (fun _ _ _ h => h) (Or.inl ⟨by rfl, ?y243⟩) hHeld ?r243
            case y243 =>
              intro w9 hSw
              (try dsimp only at hSw)
              go_simp
              try with_reducible rfl
            try simp only [Act.put, List.setIfInBounds_toArray, List.set_cons_zero, List.set_cons_succ]
            refine hTake (i := 9) (v := ?v244) rfl (by kernel_rfl) (by kernel_rfl) (by kernel_rfl) (fun _ _ _ h => h) (Or.inl ⟨by rfl, ?y244⟩) hHeld ?r244
            case y244 =>
              intro w9 hSw
              (try dsimp only at hSw)
              go_simp
              try with_reducible rfl
            try simp only [Act.put, List.setIfInBounds_toArray, List.set_cons_zero, List.set_cons_succ]
            refine wpAnyH_ready (rs := [3, 15]) (by kernel_rfl) (by simp) (hCons (i := 3) rfl (by rfl) (fun K hK => ?_) (hCons (i := 15) rfl (by rfl) (fun K hK => ?_) AllReadyH.nil))
            · go_simp
              refine (sof14_any x0 _ (by omega) (by omega)).mono ?_
              rintro e u47 ⟨vf, rfl, hf1, hb47⟩
              replace hX := hX.below hb47
              replace B2 := B2.below hb47
              replace B1 := B1.below hb47
              replace M6 := M6.below hb47
              replace M7 := M7.below hb47
              replace hbW : Below w.heap.size w u47 := hbW.trans (hb47.mono hbW.size)
              replace hbR : Below U.heap.size U u47 := hbR.trans (hb47.mono hbR.size)
              clear hb47
              clear p00 p01 p02 p10 p11 p20 p21
              obtain ⟨p00, p01, p02, _⟩ := B1.cells
              obtain ⟨p10, p11, _⟩ := M6.cells
              obtain ⟨p20, p21, _⟩ := M7.cells
              go_wp2_with fail
              refine hK.out _ _ ?_ (fun hHeld => ?_)
              · (try dsimp only)
                exact ⟨p00, p01, p02, p10, p11, p20, p21⟩
              clear hK K
              try simp only [Act.put, List.setIfInBounds_toArray, List.set_cons_zero, List.set_cons_succ]
              refine wpAnyH_ready (rs := [4, 15]) (by kernel_rfl) (by simp) (hCons (i := 4) rfl (by rfl) (fun K hK => ?_) (hCons (i := 15) rfl (by rfl) (fun K hK => ?_) AllReadyH.nil))
              · go_simp
                refine (ssub_any (k + 3) 2 _ _ _ _ _ hX hf1.ct (by omega) (by decide) (by omega) (by decide)).mono ?_
                rintro e u48 ⟨vd, rfl, hd1, hb48⟩
                replace hX := hX.below hb48
                replace B2 := B2.below hb48
                replace hf1 := hf1.below hb48
                replace B1 := B1.below hb48
                replace M6 := M6.below hb48
                replace M7 := M7.below hb48
                replace hbW : Below w.heap.size w u48 := hbW.trans (hb48.mono hbW.size)
                replace hbR : Below U.heap.size U u48 := hbR.trans (hb48.mono hbR.size)
                clear hb48
                clear p00 p01 p02 p10 p11 p20 p21
                obtain ⟨p00, p01, p02, _⟩ := B1.cells
                obtain ⟨p10, p11, _⟩ := M6.cells
                obtain ⟨p20, p21, _⟩ := M7.cells
                go_wp2_with fail
                refine hK.out _ _ ?_ (fun hHeld => ?_)
                · (try dsimp only)
                  exact ⟨p00, p01, p02, p10, p11, p20, p21⟩
                clear hK K
                try simp only [Act.put, List.setIfInBounds_toArray, List.set_cons_zero, List.set_cons_succ]
                refine wpAnyH_ready (rs := [10, 15]) (by kernel_rfl) (by simp) (hCons (i := 10) rfl (by rfl) (fun K hK => ?_) (hCons (i := 15) rfl (by rfl) (fun K hK => ?_) AllReadyH.nil))
                · go_simp
                  refine (sof14_any (x1 - x0) _ (by omega) (by omega)).mono ?_
                  rintro e u49 ⟨vg, rfl, hg1, hb49⟩
                  replace hX := hX.below hb49
                  replace B2 := B2.below hb49
                  replace hf1 := hf1.below hb49
                  replace hd1 := hd1.below hb49
                  replace B1 := B1.below hb49
                  replace M6 := M6.below hb49
                  replace M7 := M7.below hb49
                  replace hbW : Below w.heap.size w u49 := hbW.trans (hb49.mono hbW.size)
                  replace hbR : Below U.heap.size U u49 := hbR.trans (hb49.mono hbR.size)
                  clear hb49
                  clear p00 p01 p02 p10 p11 p20 p21
                  obtain ⟨p00, p01, p02, _⟩ := B1.cells
                  obtain ⟨p10, p11, _⟩ := M6.cells
                  obtain ⟨p20, p21, _⟩ := M7.cells
                  go_wp2_with fail
                  refine hK.out _ _ ?_ (fun hHeld => ?_)
                  · (try dsimp only)
                    exact ⟨p00, p01, p02, p10, p11, p20, p21⟩
                  clear hK K
                  try simp only [Act.put, List.setIfInBounds_toArray, List.set_cons_zero, List.set_cons_succ]
                  refine wpAnyH_ready (rs := [11, 15]) (by kernel_rfl) (by simp) (hCons (i := 11) rfl (by rfl) (fun K hK => ?_) (hCons (i := 15) rfl (by rfl) (fun K hK => ?_) AllReadyH.nil))
                  · go_simp
                    refine (squo_any (k + 3 + 2 + 1) 2 _ _ _ _ _ hd1.ct hg1.ct (by omega) (by decide) (by omega) (by decide)).mono ?_
                    rintro e u50 ⟨v8, rfl, hF8, hb50⟩
                    replace hX := hX.below hb50
                    replace B2 := B2.below hb50
                    replace hf1 := hf1.below hb50
                    replace hd1 := hd1.below hb50
                    replace hg1 := hg1.below hb50
                    replace B1 := B1.below hb50
                    replace M6 := M6.below hb50
                    replace M7 := M7.below hb50
                    replace hbW : Below w.heap.size w u50 := hbW.trans (hb50.mono hbW.size)
                    replace hbR : Below U.heap.size U u50 := hbR.trans (hb50.mono hbR.size)
                    clear hb50
                    generalize decide (((x1 - x0 : Int) : Rat) / ((16384 : Int) : Rat) ≠ 0) = qb
                    have hM8 := hF8.ct
                    obtain ⟨n8, x8, y8, ⟨a8, c8, b8, d8, rfl, _, _⟩, _⟩ := hF8
                    clear p00 p01 p02 p10 p11 p20 p21
                    obtain ⟨p00, p01, p02, _⟩ := B1.cells
                    obtain ⟨p10, p11, _⟩ := M6.cells
                    obtain ⟨p20, p21, _⟩ := M7.cells
                    go_wp2_with fail
                    refine hK.out _ _ ?_ (fun hHeld => ?_)
                    · (try dsimp only)
                      exact ⟨p00, p01, p02, p10, p11, p20, p21⟩
                    clear hK K
                    try simp only [Act.put, List.setIfInBounds_toArray, List.set_cons_zero, List.set_cons_succ]
                    refine hTake (i := 12) (v := ?v245) rfl (by kernel_rfl) (by kernel_rfl) (by kernel_rfl) (fun _ _ _ h => h) (Or.inl ⟨by rfl, ?y245⟩) hHeld ?r245
                    case y245 =>
                      intro w9 hSw
                      (try dsimp only at hSw)
                      go_simp
                      try with_reducible rfl
                    try simp only [Act.put, List.setIfInBounds_toArray, List.set_cons_zero, List.set_cons_succ]
                    refine hTake (i := 13) (v := ?v246) rfl (by kernel_rfl) (by kernel_rfl) (by kernel_rfl) (fun _ _ _ h => h) (Or.inl ⟨by rfl, ?y246⟩) hHeld ?r246
                    case y246 =>
                      intro w9 hSw
                      (try dsimp only at hSw)
                      go_simp
                      try with_reducible rfl
                    try simp only [Act.put, List.setIfInBounds_toArray, List.set_cons_zero, List.set_cons_succ]
                    refine hTake (i := 14) (v := ?v247) rfl (by kernel_rfl) (by kernel_rfl) (by kernel_rfl) (fun _ _ _ h => h) (Or.inl ⟨by rfl, ?y247⟩) hHeld ?r247
                    case y247 =>
                      intro w9 hSw
                      (try dsimp only at hSw)
                      go_simp
                      try with_reducible rfl
                    try simp only [Act.put, List.setIfInBounds_toArray, List.set_cons_zero, List.set_cons_succ]
                    refine hCall (i := 15) rfl (by kernel_rfl) (by rfl) (fun K hK => ?_)
                    go_simp
                    obtain ⟨u51, hU, B8, hb9⟩ : ∃ U, U = u50.alloc (.cells #[.bool false, .slice none 0 0, .slice none 0 0] 34) ∧ Box 34 U u50.heap.size (.bool false) (.slice none 0 0) (.slice none 0 0) ∧ Below u50.heap.size u50 U := ⟨_, rfl, Box.new _ _ _ _ _, al1 _⟩
                    rw [← hU]
                    clear hU
                    have n81 := hbR.size
                    have n83 := M6.lt
                    have n84 := M7.lt
                    have n85 := B2.lt
                    replace hX := hX.below hb9
                    replace B2 := B2.below hb9
                    replace hf1 := hf1.below hb9
                    replace hd1 := hd1.below hb9
                    replace hg1 := hg1.below hb9
                    replace hM8 := hM8.below hb9
                    replace B1 := B1.below hb9
                    replace M6 := M6.below hb9
                    replace M7 := M7.below hb9
                    replace hbW : Below w.heap.size w u51 := hbW.trans (hb9.mono hbW.size)
                    replace hbR : Below U.heap.size U u51 := hbR.trans (hb9.mono hbR.size)
                    clear hb9
                    generalize u50.heap.size = g8 at B8 n81 n83 n84 n85 ⊢
                    clear p00 p01 p02 p10 p11 p20 p21
                    obtain ⟨p00, p01, p02, _⟩ := B1.cells
                    obtain ⟨p10, p11, _⟩ := M6.cells
                    obtain ⟨p20, p21, _⟩ := M7.cells
                    obtain ⟨p30, p31, p32, _⟩ := B8.cells
                    refine hK.out _ _ ?_ (fun hHeld => ?_)
                    · (try dsimp only)
                      exact ⟨p00, p01, p02, p10, p11, p20, p21⟩
                    clear hK K
                    try simp only [Act.put, List.setIfInBounds_toArray, List.set_cons_zero, List.set_cons_succ]
                    refine hCall (i := 16) rfl (by kernel_rfl) (by rfl) (fun K hK => ?_)
                    go_simp
                    obtain ⟨u52, hU, A8, hbU, hK9, ho⟩ := set3_world B8 (.bool n8) (.slice a8 x8.length c8) (.slice b8 y8.length d8)
                    rw [← hU]
                    clear hU
                    replace hbW := hbU _ _ hbW (by omega)
                    replace hbR := hbU _ _ hbR (by omega)
                    replace hM8 := hM8.keep hK9
                    replace B1 := B1.other ho (by omega)
                    replace B2 := B2.other ho (by omega)
                    replace M6 := M6.other ho (by omega)
                    replace M7 := M7.other ho (by omega)
                    clear hbU hK9 ho hX
                    have hX := HXU.out.below hbR
                    clear p00 p01 p02 p10 p11 p20 p21 p30 p31 p32
                    obtain ⟨p00, p01, p02, _⟩ := B1.cells
                    obtain ⟨p10, p11, _⟩ := M6.cells
                    obtain ⟨p20, p21, _⟩ := M7.cells
                    obtain ⟨p30, p31, p32, _⟩ := A8.cells
                    refine hK.out _ _ ?_ (fun hHeld => ?_)
                    · (try dsimp only)
                      exact ⟨p00, p01, p02, p10, p11, p20, p21⟩
                    clear hK K
                    try simp only [Act.put, List.setIfInBounds_toArray, List.set_cons_zero, List.set_cons_succ]
                    refine hTake (i := 17) (v := ?v248) rfl (by kernel_rfl) (by kernel_rfl) (by kernel_rfl) (fun _ _ _ h => h) (Or.inl ⟨by rfl, ?y248⟩) hHeld ?r248
                    case y248 =>
                      intro w9 hSw
                      (try dsimp only at hSw)
                      go_simp
                      try with_reducible rfl
                    try simp only [Act.put, List.setIfInBounds_toArray, List.set_cons_zero, List.set_cons_succ]
                    refine wpAnyH_done (by kernel_rfl) ?_ _
                    clear hHeld
                    go_wp2_with fail
                    refine wp_region_held_drew (S := (fun u => u.cell? ⟨w.heap.size, 0, none⟩ = some (.bool nh) ∧ u.cell? ⟨w.heap.size, 1, none⟩ = some (.slice ah xh.length ch) ∧ u.cell? ⟨w.heap.size, 2, none⟩ = some (.slice bh yh.length dh) ∧ u.cell? ⟨g6, 0, none⟩ = some (.int .i64 x0) ∧ u.cell? ⟨g6, 1, none⟩ = some (.int .i64 y0) ∧ u.cell? ⟨g7, 0, none⟩ = some (.int .i64 x1) ∧ u.cell? ⟨g7, 1, none⟩ = some (.int .i64 y1) ∧ u.cell? ⟨g8, 0, none⟩ = some (.bool n8) ∧ u.cell? ⟨g8, 1, none⟩ = some (.slice a8 x8.length c8) ∧ u.cell? ⟨g8, 2, none⟩ = some (.slice b8 y8.length d8))) (by kernel_rfl) ?_ (fun hHeld => ?_)
                    · (try dsimp only)
                      go_keep
                    have hdr : Below u52.heap.size u52 u52.drew := Below.drew1
                    generalize u52.drew = ud249 at hdr hHeld ⊢
                    replace hX := hX.below hdr
                    replace B2 := B2.below hdr
                    replace hM8 := hM8.below hdr
                    replace B1 := B1.below hdr
                    replace M6 := M6.below hdr
                    replace M7 := M7.below hdr
                    replace A8 := A8.below hdr
                    replace hbW : Below w.heap.size w ud249 := hbW.trans (hdr.mono hbW.size)
                    replace hbR : Below U.heap.size U ud249 := hbR.trans (hdr.mono hbR.size)
                    clear hdr
                    clear p00 p01 p02 p10 p11 p20 p21 p30 p31 p32
                    obtain ⟨p00, p01, p02, _⟩ := B1.cells
                    obtain ⟨p10, p11, _⟩ := M6.cells
                    obtain ⟨p20, p21, _⟩ := M7.cells
                    obtain ⟨p30, p31, p32, _⟩ := A8.cells
                    refine hTake (i := 0) (v := ?v250) rfl (by kernel_rfl) (by kernel_rfl) (by kernel_rfl) (fun _ _ _ h => h) (Or.inl ⟨by rfl, ?y250⟩) hHeld ?r250
                    case y250 =>
                      intro w9 hSw
                      (try dsimp only at hSw)
                      go_simp
                      try with_reducible rfl
                    try simp only [Act.put, List.setIfInBounds_toArray, List.set_cons_zero, List.set_cons_succ]
                    refine hTake (i := 1) (v := ?v251) rfl (by kernel_rfl) (by kernel_rfl) (by kernel_rfl) (fun _ _ _ h => h) (Or.inl ⟨by rfl, ?y251⟩) hHeld ?r251
                    case y251 =>
                      intro w9 hSw
                      (try dsimp only at hSw)
                      go_simp
                      try with_reducible rfl
                    try simp only [Act.put, List.setIfInBounds_toArray, List.set_cons_zero, List.set_cons_succ]
                    refine hTake (i := 3) (v := ?v252) rfl (by kernel_rfl) (by kernel_rfl) (by kernel_rfl) (fun _ _ _ h => h) (Or.inl ⟨by rfl, ?y252⟩) hHeld ?r252
                    case y252 =>
                      intro w9 hSw
                      (try dsimp only at hSw)
                      go_simp
                      try with_reducible rfl
                    try simp only [Act.put, List.setIfInBounds_toArray, List.set_cons_zero, List.set_cons_succ]
                    refine hTake (i := 4) (v := ?v253) rfl (by kernel_rfl) (by kernel_rfl) (by kernel_rfl) (fun _ _ _ h => h) (Or.inl ⟨by rfl, ?y253⟩) hHeld ?r253
                    case y253 =>
                      intro w9 hSw
                      (try dsimp only at hSw)
                      go_simp
                      try with_reducible rfl
                    try simp only [Act.put, List.setIfInBounds_toArray, List.set_cons_zero, List.set_cons_succ]
                    refine hTake (i := 5) (v := ?v254) rfl (by kernel_rfl) (by kernel_rfl) (by kernel_rfl) (fun _ _ _ h => h) (Or.inl ⟨by rfl, ?y254⟩) hHeld ?r254
                    case y254 =>
                      intro w9 hSw
                      (try dsimp only at hSw)
                      go_simp
                      try with_reducible rfl
                    try simp only [Act.put, List.setIfInBounds_toArray, List.set_cons_zero, List.set_cons_succ]
                    refine hTake (i := 6) (v := ?v255) rfl (by kernel_rfl) (by kernel_rfl) (by kernel_rfl) (fun _ _ _ h => h) (Or.inl ⟨by rfl, ?y255⟩) hHeld ?r255
                    case y255 =>
                      intro w9 hSw
                      (try dsimp only at hSw)
                      go_simp
                      try with_reducible rfl
                    try simp only [Act.put, List.setIfInBounds_toArray, List.set_cons_zero, List.set_cons_succ]
                    refine hTake (i := 7) (v := ?v256) rfl (by kernel_rfl) (by kernel_rfl) (by kernel_rfl) (fun _ _ _ h => h) (Or.inl ⟨by rfl, ?y256⟩) hHeld ?r256
                    case y256 =>
                      intro w9 hSw
                      (try dsimp only at hSw)
                      go_simp
                      try with_reducible rfl
                    try simp only [Act.put, List.setIfInBounds_toArray, List.set_cons_zero, List.set_cons_succ]
                    refine hTake (i := 8) (v := ?v257) rfl (by kernel_rfl) (by kernel_rfl) (by kernel_rfl) (fun _ _ _ h => h) (Or.inl ⟨by rfl, ?y257⟩) hHeld ?r257
                    case y257 =>
                      intro w9 hSw
                      (try dsimp only at hSw)
                      go_simp
                      try with_reducible rfl
                    try simp only [Act.put, List.setIfInBounds_toArray, List.set_cons_zero, List.set_cons_succ]
                    refine hCall (i := 2) rfl (by kernel_rfl) (by rfl) (fun K hK => ?_)
                    go_simp
                    refine (sof14_any y0 _ (by omega) (by omega)).mono ?_
                    rintro e u53 ⟨vt, rfl, hT1, hb53⟩
                    replace hX := hX.below hb53
                    replace B2 := B2.below hb53
                    replace hM8 := hM8.below hb53
                    replace B1 := B1.below hb53
                    replace M6 := M6.below hb53
                    replace M7 := M7.below hb53
                    replace A8 := A8.below hb53
                    replace hbW : Below w.heap.size w u53 := hbW.trans (hb53.mono hbW.size)
                    replace hbR : Below U.heap.size U u53 := hbR.trans (hb53.mono hbR.size)
                    clear hb53
                    clear p00 p01 p02 p10 p11 p20 p21 p30 p31 p32
                    obtain ⟨p00, p01, p02, _⟩ := B1.cells
                    obtain ⟨p10, p11, _⟩ := M6.cells
                    obtain ⟨p20, p21, _⟩ := M7.cells
                    obtain ⟨p30, p31, p32, _⟩ := A8.cells
                    go_wp2_with fail
                    refine hK.out _ _ ?_ (fun hHeld => ?_)
                    · (try dsimp only)
                      exact ⟨p00, p01, p02, p10, p11, p20, p21, p30, p31, p32⟩
                    clear hK K
                    try simp only [Act.put, List.setIfInBounds_toArray, List.set_cons_zero, List.set_cons_succ]
                    refine hCall (i := 9) rfl (by kernel_rfl) (by rfl) (fun K hK => ?_)
                    go_simp
                    refine (sof14_any (y1 - y0) _ (by omega) (by omega)).mono ?_
                    rintro e u54 ⟨ve, rfl, hE1, hb54⟩
                    replace hX := hX.below hb54
                    replace B2 := B2.below hb54
                    replace hM8 := hM8.below hb54
                    replace hT1 := hT1.below hb54
                    replace B1 := B1.below hb54
                    replace M6 := M6.below hb54
                    replace M7 := M7.below hb54
                    replace A8 := A8.below hb54
                    replace hbW : Below w.heap.size w u54 := hbW.trans (hb54.mono hbW.size)
                    replace hbR : Below U.heap.size U u54 := hbR.trans (hb54.mono hbR.size)
                    clear hb54
                    clear p00 p01 p02 p10 p11 p20 p21 p30 p31 p32
                    obtain ⟨p00, p01, p02, _⟩ := B1.cells
                    obtain ⟨p10, p11, _⟩ := M6.cells
                    obtain ⟨p20, p21, _⟩ := M7.cells
                    obtain ⟨p30, p31, p32, _⟩ := A8.cells
                    go_wp2_with fail
                    refine hK.out _ _ ?_ (fun hHeld => ?_)
                    · (try dsimp only)
                      exact ⟨p00, p01, p02, p10, p11, p20, p21, p30, p31, p32⟩
                    clear hK K
                    try simp only [Act.put, List.setIfInBounds_toArray, List.set_cons_zero, List.set_cons_succ]
                    refine hCall (i := 10) rfl (by kernel_rfl) (by rfl) (fun K hK => ?_)
                    go_simp
                    refine (smul_any (k + 3 + 2 + 1 + 2) 2 _ _ _ _ _ hM8 hE1.ct (by omega) (by decide) (by omega) (by decide)).mono ?_
                    rintro e u55 ⟨vy, rfl, hY1, hb55⟩
                    replace hX := hX.below hb55
                    replace B2 := B2.below hb55
                    replace hM8 := hM8.below hb55
                    replace hT1 := hT1.below hb55
                    replace hE1 := hE1.below hb55
                    replace B1 := B1.below hb55
                    replace M6 := M6.below hb55
                    replace M7 := M7.below hb55
                    replace A8 := A8.below hb55
                    replace hbW : Below w.heap.size w u55 := hbW.trans (hb55.mono hbW.size)
                    replace hbR : Below U.heap.size U u55 := hbR.trans (hb55.mono hbR.size)
                    clear hb55
                    clear p00 p01 p02 p10 p11 p20 p21 p30 p31 p32
                    obtain ⟨p00, p01, p02, _⟩ := B1.cells
                    obtain ⟨p10, p11, _⟩ := M6.cells
                    obtain ⟨p20, p21, _⟩ := M7.cells
                    obtain ⟨p30, p31, p32, _⟩ := A8.cells
                    go_wp2_with fail
                    refine hK.out _ _ ?_ (fun hHeld => ?_)
                    · (try dsimp only)
                      exact ⟨p00, p01, p02, p10, p11, p20, p21, p30, p31, p32⟩
                    clear hK K
                    try simp only [Act.put, List.setIfInBounds_toArray, List.set_cons_zero, List.set_cons_succ]
                    refine hCall (i := 11) rfl (by kernel_rfl) (by rfl) (fun K hK => ?_)
                    go_simp
                    refine (sadd_any 2 (k + 3 + 2 + 1 + 2 + 2) _ _ _ _ _ hT1.ct hY1.ct (by decide) (by omega) (by decide) (by omega)).mono ?_
                    rintro e u56 ⟨vr, rfl, hR, hb56⟩
                    replace hX := hX.below hb56
                    replace B2 := B2.below hb56
                    replace hM8 := hM8.below hb56
                    replace hT1 := hT1.below hb56
                    replace hE1 := hE1.below hb56
                    replace hY1 := hY1.below hb56
                    replace B1 := B1.below hb56
                    replace M6 := M6.below hb56
                    replace M7 := M7.below hb56
                    replace A8 := A8.below hb56
                    replace hbW : Below w.heap.size w u56 := hbW.trans (hb56.mono hbW.size)
                    replace hbR : Below U.heap.size U u56 := hbR.trans (hb56.mono hbR.size)
                    clear hb56
                    replace hR := (hR.eq HVAL.out).le (show 2 + (k + 3 + 2 + 1 + 2 + 2) + 1 ≤ k + 13 by omega)
                    clear p00 p01 p02 p10 p11 p20 p21 p30 p31 p32
                    obtain ⟨p00, p01, p02, _⟩ := B1.cells
                    obtain ⟨p10, p11, _⟩ := M6.cells
                    obtain ⟨p20, p21, _⟩ := M7.cells
                    obtain ⟨p30, p31, p32, _⟩ := A8.cells
                    go_wp2_with fail
                    refine hK.out _ _ ?_ (fun hHeld => ?_)
                    · (try dsimp only)
                      exact ⟨p00, p01, p02, p10, p11, p20, p21, p30, p31, p32⟩
                    clear hK K
                    try simp only [Act.put, List.setIfInBounds_toArray, List.set_cons_zero, List.set_cons_succ]
                    refine hCall (i := 12) rfl (by kernel_rfl) (by rfl) (fun K hK => ?_)
                    go_simp
                    obtain ⟨q1, q2, q3, q4, q5, q6⟩ := B2.cells
                    obtain ⟨nr, xr, yr, ⟨ar, cr, br, dr, rfl, hxr, hyr⟩, hFr⟩ := hR
                    go_simp
                    obtain ⟨u57, hU, A2, hbU, hK9, ho⟩ := set3_world B2 (.bool nr) (.slice ar xr.length cr) (.slice br yr.length dr)
                    rw [← hU]
                    clear hU q1 q2 q3 q4 q5 q6
                    replace hbW := hbU _ _ hbW (by omega)
                    replace hxr := hK9 _ _ _ hxr
                    replace hyr := hK9 _ _ _ hyr
                    replace B1 := B1.other ho (by omega)
                    replace M6 := M6.other ho (by omega)
                    replace M7 := M7.other ho (by omega)
                    replace A8 := A8.other ho (by omega)
                    clear hbU hK9 ho
                    clear p00 p01 p02 p10 p11 p20 p21 p30 p31 p32
                    obtain ⟨p00, p01, p02, _⟩ := B1.cells
                    obtain ⟨p10, p11, _⟩ := M6.cells
                    obtain ⟨p20, p21, _⟩ := M7.cells
                    obtain ⟨p30, p31, p32, _⟩ := A8.cells
                    refine hK.out _ _ ?_ (fun hHeld => ?_)
                    · (try dsimp only)
                      exact ⟨p00, p01, p02, p10, p11, p20, p21, p30, p31, p32⟩
                    clear hK K
                    try simp only [Act.put, List.setIfInBounds_toArray, List.set_cons_zero, List.set_cons_succ]
                    refine wpAnyH_done (by kernel_rfl) ?_ _
                    go_wp2
                    refine bodyPost_ret (by obtain ⟨r1, r2, r3, _⟩ := A2.cells; simp [results, Tryz.results15, go_sem, r1, r2, r3]) rfl ⟨_, rfl, ⟨_, _, _, ⟨_, _, _, _, rfl, hxr, hyr⟩, hFr⟩, hbW⟩
                  · go_simp
                    obtain ⟨u50, hU, B8, hb9⟩ : ∃ U, U = u49.alloc (.cells #[.bool false, .slice none 0 0, .slice none 0 0] 34) ∧ Box 34 U u49.heap.size (.bool false) (.slice none 0 0) (.slice none 0 0) ∧ Below u49.heap.size u49 U := ⟨_, rfl, Box.new _ _ _ _ _, al1 _⟩
                    rw [← hU]
                    clear hU
                    have n81 := hbR.size
                    have n83 := M6.lt
                    have n84 := M7.lt
                    have n85 := B2.lt
                    replace hX := hX.below hb9
                    replace B2 := B2.below hb9
                    replace hf1 := hf1.below hb9
                    replace hd1 := hd1.below hb9
                    replace hg1 := hg1.below hb9
                    replace B1 := B1.below hb9
                    replace M6 := M6.below hb9
                    replace M7 := M7.below hb9
                    replace hbW : Below w.heap.size w u50 := hbW.trans (hb9.mono hbW.size)
                    replace hbR : Below U.heap.size U u50 := hbR.trans (hb9.mono hbR.size)
                    clear hb9
                    generalize u49.heap.size = g8 at B8 n81 n83 n84 n85 ⊢
                    clear p00 p01 p02 p10 p11 p20 p21
                    obtain ⟨p00, p01, p02, _⟩ := B1.cells
                    obtain ⟨p10, p11, _⟩ := M6.cells
                    obtain ⟨p20, p21, _⟩ := M7.cells
                    obtain ⟨p30, p31, p32, _⟩ := B8.cells
                    refine hK.out _ _ ?_ (fun hHeld => ?_)
                    · (try dsimp only)
                      exact ⟨p00, p01, p02, p10, p11, p20, p21⟩
                    clear hK K
                    try simp only [Act.put, List.setIfInBounds_toArray, List.set_cons_zero, List.set_cons_succ]
                    refine hCall (i := 11) rfl (by kernel_rfl) (by rfl) (fun K hK => ?_)
                    go_simp
                    refine (squo_any (k + 3 + 2 + 1) 2 _ _ _ _ _ hd1.ct hg1.ct (by omega) (by decide) (by omega) (by decide)).mono ?_
                    rintro e u51 ⟨v8, rfl, hF8, hb51⟩
                    replace hX := hX.below hb51
                    replace B2 := B2.below hb51
                    replace hf1 := hf1.below hb51
                    replace hd1 := hd1.below hb51
                    replace hg1 := hg1.below hb51
                    replace B1 := B1.below hb51
                    replace M6 := M6.below hb51
                    replace M7 := M7.below hb51
                    replace B8 := B8.below hb51
                    replace hbW : Below w.heap.size w u51 := hbW.trans (hb51.mono hbW.size)
                    replace hbR : Below U.heap.size U u51 := hbR.trans (hb51.mono hbR.size)
                    clear hb51
                    generalize decide (((x1 - x0 : Int) : Rat) / ((16384 : Int) : Rat) ≠ 0) = qb
                    have hM8 := hF8.ct
                    obtain ⟨n8, x8, y8, ⟨a8, c8, b8, d8, rfl, _, _⟩, _⟩ := hF8
                    clear p00 p01 p02 p10 p11 p20 p21 p30 p31 p32
                    obtain ⟨p00, p01, p02, _⟩ := B1.cells
                    obtain ⟨p10, p11, _⟩ := M6.cells
                    obtain ⟨p20, p21, _⟩ := M7.cells
                    obtain ⟨p30, p31, p32, _⟩ := B8.cells
                    go_wp2_with fail
                    refine hK.out _ _ ?_ (fun hHeld => ?_)
                    · (try dsimp only)
                      exact ⟨p00, p01, p02, p10, p11, p20, p21⟩
                    clear hK K
                    try simp only [Act.put, List.setIfInBounds_toArray, List.set_cons_zero, List.set_cons_succ]
                    refine hTake (i := 12) (v := ?v258) rfl (by kernel_rfl) (by kernel_rfl) (by kernel_rfl) (fun _ _ _ h => h) (Or.inl ⟨by rfl, ?y258⟩) hHeld ?r258
                    case y258 =>
                      intro w9 hSw
                      (try dsimp only at hSw)
                      go_simp
                      try with_reducible rfl
                    try simp only [Act.put, List.setIfInBounds_toArray, List.set_cons_zero, List.set_cons_succ]
                    refine hTake (i := 13) (v := ?v259) rfl (by kernel_rfl) (by kernel_rfl) (by kernel_rfl) (fun _ _ _ h => h) (Or.inl ⟨by rfl, ?y259⟩) hHeld ?r259
                    case y259 =>
                      intro w9 hSw
                      (try dsimp only at hSw)
                      go_simp
                      try with_reducible rfl
                    try simp only [Act.put, List.setIfInBounds_toArray, List.set_cons_zero, List.set_cons_succ]
                    refine hTake (i := 14) (v := ?v260) rfl (by kernel_rfl) (by kernel_rfl) (by kernel_rfl) (fun _ _ _ h => h) (Or.inl ⟨by rfl, ?y260⟩) hHeld ?r260
                    case y260 =>
                      intro w9 hSw
                      (try dsimp only at hSw)
                      go_simp
                      try with_reducible rfl
                    try simp only [Act.put, List.setIfInBounds_toArray, List.set_cons_zero, List.set_cons_succ]
                    refine hCall (i := 16) rfl (by kernel_rfl) (by rfl) (fun K hK => ?_)
                    go_simp
                    obtain ⟨u52, hU, A8, hbU, hK9, ho⟩ := set3_world B8 (.bool n8) (.slice a8 x8.length c8) (.slice b8 y8.length d8)
                    rw [← hU]
                    clear hU
                    replace hbW := hbU _ _ hbW (by omega)
                    replace hbR := hbU _ _ hbR (by omega)
                    replace hM8 := hM8.keep hK9
                    replace B1 := B1.other ho (by omega)
                    replace B2 := B2.other ho (by omega)
                    replace M6 := M6.other ho (by omega)
                    replace M7 := M7.other ho (by omega)
                    clear hbU hK9 ho hX
                    have hX := HXU.out.below hbR
                    clear p00 p01 p02 p10 p11 p20 p21 p30 p31 p32
                    obtain ⟨p00, p01, p02, _⟩ := B1.cells
                    obtain ⟨p10, p11, _⟩ := M6.cells
                    obtain ⟨p20, p21, _⟩ := M7.cells
                    obtain ⟨p30, p31, p32, _⟩ := A8.cells
                    refine hK.out _ _ ?_ (fun hHeld => ?_)
                    · (try dsimp only)
                      exact ⟨p00, p01, p02, p10, p11, p20, p21⟩
                    clear hK K
                    try simp only [Act.put, List.setIfInBounds_toArray, List.set_cons_zero, List.set_cons_succ]
                    refine hTake (i := 17) (v := ?v261) rfl (by kernel_rfl) (by kernel_rfl) (by kernel_rfl) (fun _ _ _ h => h) (Or.inl ⟨by rfl, ?y261⟩) hHeld ?r261
                    case y261 =>
                      intro w9 hSw
                      (try dsimp only at hSw)
                      go_simp
                      try with_reducible rfl
                    try simp only [Act.put, List.setIfInBounds_toArray, List.set_cons_zero, List.set_cons_succ]
                    refine wpAnyH_done (by kernel_rfl) ?_ _
                    clear hHeld
                    go_wp2_with fail
                    refine wp_region_held_drew (S := (fun u => u.cell? ⟨w.heap.size, 0, none⟩ = some (.bool nh) ∧ u.cell? ⟨w.heap.size, 1, none⟩ = some (.slice ah xh.length ch) ∧ u.cell? ⟨w.heap.size, 2, none⟩ = some (.slice bh yh.length dh) ∧ u.cell? ⟨g6, 0, none⟩ = some (.int .i64 x0) ∧ u.cell? ⟨g6, 1, none⟩ = some (.int .i64 y0) ∧ u.cell? ⟨g7, 0, none⟩ = some (.int .i64 x1) ∧ u.cell? ⟨g7, 1, none⟩ = some (.int .i64 y1) ∧ u.cell? ⟨g8, 0, none⟩ = some (.bool n8) ∧ u.cell? ⟨g8, 1, none⟩ = some (.slice a8 x8.length c8) ∧ u.cell? ⟨g8, 2, none⟩ = some (.slice b8 y8.length d8))) (by kernel_rfl) ?_ (fun hHeld => ?_)
                    · (try dsimp only)
                      go_keep
                    have hdr : Below u52.heap.size u52 u52.drew := Below.drew1
                    generalize u52.drew = ud262 at hdr hHeld ⊢
                    replace hX := hX.below hdr
                    replace B2 := B2.below hdr
                    replace hM8 := hM8.below hdr
                    replace B1 := B1.below hdr
                    replace M6 := M6.below hdr
                    replace M7 := M7.below hdr
                    replace A8 := A8.below hdr
                    replace hbW : Below w.heap.size w ud262 := hbW.trans (hdr.mono hbW.size)
                    replace hbR : Below U.heap.size U ud262 := hbR.trans (hdr.mono hbR.size)
                    clear hdr
                    clear p00 p01 p02 p10 p11 p20 p21 p30 p31 p32
                    obtain ⟨p00, p01, p02, _⟩ := B1.cells
                    obtain ⟨p10, p11, _⟩ := M6.cells
                    obtain ⟨p20, p21, _⟩ := M7.cells
                    obtain ⟨p30, p31, p32, _⟩ := A8.cells
                    refine hTake (i := 0) (v := ?v263) rfl (by kernel_rfl) (by kernel_rfl) (by kernel_rfl) (fun _ _ _ h => h) (Or.inl ⟨by rfl, ?y263⟩) hHeld ?r263
                    case y263 =>
                      intro w9 hSw
                      (try dsimp only at hSw)
                      go_simp
                      try with_reducible rfl
                    try simp only [Act.put, List.setIfInBounds_toArray, List.set_cons_zero, List.set_cons_succ]
                    refine hTake (i := 1) (v := ?v264) rfl (by kernel_rfl) (by kernel_rfl) (by kernel_rfl) (fun _ _ _ h => h) (Or.inl ⟨by rfl, ?y264⟩) hHeld ?r264
                    case y264 =>
                      intro w9 hSw
                      (try dsimp only at hSw)
                      go_simp
                      try with_reducible rfl
                    try simp only [Act.put, List.setIfInBounds_toArray, List.set_cons_zero, List.set_cons_succ]
                    refine hTake (i := 3) (v := ?v265) rfl (by kernel_rfl) (by kernel_rfl) (by kernel_rfl) (fun _ _ _ h => h) (Or.inl ⟨by rfl, ?y265⟩) hHeld ?r265
                    case y265 =>
                      intro w9 hSw
                      (try dsimp only at hSw)
                      go_simp
                      try with_reducible rfl
                    try simp only [Act.put, List.setIfInBounds_toArray, List.set_cons_zero, List.set_cons_succ]
                    refine hTake (i := 4) (v := ?v266) rfl (by kernel_rfl) (by kernel_rfl) (by kernel_rfl) (fun _ _ _ h => h) (Or.inl ⟨by rfl, ?y266⟩) hHeld ?r266
                    case y266 =>
                      intro w9 hSw
                      (try dsimp only at hSw)
                      go_simp
                      try with_reducible rfl
                    try simp only [Act.put, List.setIfInBounds_toArray, List.set_cons_zero, List.set_cons_succ]
                    refine hTake (i := 5) (v := ?v267) rfl (by kernel_rfl) (by kernel_rfl) (by kernel_rfl) (fun _ _ _ h => h) (Or.inl ⟨by rfl, ?y267⟩) hHeld ?r267
                    case y267 =>
                      intro w9 hSw
                      (try dsimp only at hSw)
                      go_simp
                      try with_reducible rfl
                    try simp only [Act.put, List.setIfInBounds_toArray, List.set_cons_zero, List.set_cons_succ]
                    refine hTake (i := 6) (v := ?v268) rfl (by kernel_rfl) (by kernel_rfl) (by kernel_rfl) (fun _ _ _ h => h) (Or.inl ⟨by rfl, ?y268⟩) hHeld ?r268
                    case y268 =>
                      intro w9 hSw
                      (try dsimp only at hSw)
                      go_simp
                      try with_reducible rfl
                    try simp only [Act.put, List.setIfInBounds_toArray, List.set_cons_zero, List.set_cons_succ]
                    refine hTake (i := 7) (v := ?v269) rfl (by kernel_rfl) (by kernel_rfl) (by kernel_rfl) (fun _ _ _ h => h) (Or.inl ⟨by rfl, ?y269⟩) hHeld ?r269
                    case y269 =>
                      intro w9 hSw
                      (try dsimp only at hSw)
                      go_simp
                      try with_reducible rfl
                    try simp only [Act.put, List.setIfInBounds_toArray, List.set_cons_zero, List.set_cons_succ]
                    refine hTake (i := 8) (v := ?v270) rfl (by kernel_rfl) (by kernel_rfl) (by kernel_rfl) (fun _ _ _ h => h) (Or.inl ⟨by rfl, ?y270⟩) hHeld ?r270
                    case y270 =>
                      intro w9 hSw
                      (try dsimp only at hSw)
                      go_simp
                      try with_reducible rfl
                    try simp only [Act.put, List.setIfInBounds_toArray, List.set_cons_zero, List.set_cons_succ]
                    refine hCall (i := 2) rfl (by kernel_rfl) (by rfl) (fun K hK => ?_)
                    go_simp
                    refine (sof14_any y0 _ (by omega) (by omega)).mono ?_
                    rintro e u53 ⟨vt, rfl, hT1, hb53⟩
                    replace hX := hX.below hb53
                    replace B2 := B2.below hb53
                    replace hM8 := hM8.below hb53
                    replace B1 := B1.below hb53
                    replace M6 := M6.below hb53
                    replace M7 := M7.below hb53
                    replace A8 := A8.below hb53
                    replace hbW : Below w.heap.size w u53 := hbW.trans (hb53.mono hbW.size)
                    replace hbR : Below U.heap.size U u53 := hbR.trans (hb53.mono hbR.size)
                    clear hb53
                    clear p00 p01 p02 p10 p11 p20 p21 p30 p31 p32
                    obtain ⟨p00, p01, p02, _⟩ := B1.cells
                    obtain ⟨p10, p11, _⟩ := M6.cells
                    obtain ⟨p20, p21, _⟩ := M7.cells
                    obtain ⟨p30, p31, p32, _⟩ := A8.cells
                    go_wp2_with fail
                    refine hK.out _ _ ?_ (fun hHeld => ?_)
                    · (try dsimp only)
                      exact ⟨p00, p01, p02, p10, p11, p20, p21, p30, p31, p32⟩
                    clear hK K
                    try simp only [Act.put, List.setIfInBounds_toArray, List.set_cons_zero, List.set_cons_succ]
                    refine hCall (i := 9) rfl (by kernel_rfl) (by rfl) (fun K hK => ?_)
                    go_simp
                    refine (sof14_any (y1 - y0) _ (by omega) (by omega)).mono ?_
                    rintro e u54 ⟨ve, rfl, hE1, hb54⟩
                    replace hX := hX.below hb54
                    replace B2 := B2.below hb54
                    replace hM8 := hM8.below hb54
                    replace hT1 := hT1.below hb54
                    replace B1 := B1.below hb54
                    replace M6 := M6.below hb54
                    replace M7 := M7.below hb54
                    replace A8 := A8.below hb54
                    replace hbW : Below w.heap.size w u54 := hbW.trans (hb54.mono hbW.size)
                    replace hbR : Below U.heap.size U u54 := hbR.trans (hb54.mono hbR.size)
                    clear hb54
                    clear p00 p01 p02 p10 p11 p20 p21 p30 p31 p32
                    obtain ⟨p00, p01, p02, _⟩ := B1.cells
                    obtain ⟨p10, p11, _⟩ := M6.cells
                    obtain ⟨p20, p21, _⟩ := M7.cells
                    obtain ⟨p30, p31, p32, _⟩ := A8.cells
                    go_wp2_with fail
                    refine hK.out _ _ ?_ (fun hHeld => ?_)
                    · (try dsimp only)
                      exact ⟨p00, p01, p02, p10, p11, p20, p21, p30, p31, p32⟩
                    clear hK K
                    try simp only [Act.put, List.setIfInBounds_toArray, List.set_cons_zero, List.set_cons_succ]
                    refine hCall (i := 10) rfl (by kernel_rfl) (by rfl) (fun K hK => ?_)
                    go_simp
                    refine (smul_any (k + 3 + 2 + 1 + 2) 2 _ _ _ _ _ hM8 hE1.ct (by omega) (by decide) (by omega) (by decide)).mono ?_
                    rintro e u55 ⟨vy, rfl, hY1, hb55⟩
                    replace hX := hX.below hb55
                    replace B2 := B2.below hb55
                    replace hM8 := hM8.below hb55
                    replace hT1 := hT1.below hb55
                    replace hE1 := hE1.below hb55
                    replace B1 := B1.below hb55
                    replace M6 := M6.below hb55
                    replace M7 := M7.below hb55
                    replace A8 := A8.below hb55
                    replace hbW : Below w.heap.size w u55 := hbW.trans (hb55.mono hbW.size)
                    replace hbR : Below U.heap.size U u55 := hbR.trans (hb55.mono hbR.size)
                    clear hb55
                    clear p00 p01 p02 p10 p11 p20 p21 p30 p31 p32
                    obtain ⟨p00, p01, p02, _⟩ := B1.cells
                    obtain ⟨p10, p11, _⟩ := M6.cells
                    obtain ⟨p20, p21, _⟩ := M7.cells
                    obtain ⟨p30, p31, p32, _⟩ := A8.cells
                    go_wp2_with fail
                    refine hK.out _ _ ?_ (fun hHeld => ?_)
                    · (try dsimp only)
                      exact ⟨p00, p01, p02, p10, p11, p20, p21, p30, p31, p32⟩
                    clear hK K
                    try simp only [Act.put, List.setIfInBounds_toArray, List.set_cons_zero, List.set_cons_succ]
                    refine hCall (i := 11) rfl (by kernel_rfl) (by rfl) (fun K hK => ?_)
                    go_simp
                    refine (sadd_any 2 (k + 3 + 2 + 1 + 2 + 2) _ _ _ _ _ hT1.ct hY1.ct (by decide) (by omega) (by decide) (by omega)).mono ?_
                    rintro e u56 ⟨vr, rfl, hR, hb56⟩
                    replace hX := hX.below hb56
                    replace B2 := B2.below hb56
                    replace hM8 := hM8.below hb56
                    replace hT1 := hT1.below hb56
                    replace hE1 := hE1.below hb56
                    replace hY1 := hY1.below hb56
                    replace B1 := B1.below hb56
                    replace M6 := M6.below hb56
                    replace M7 := M7.below hb56
                    replace A8 := A8.below hb56
                    replace hbW : Below w.heap.size w u56 := hbW.trans (hb56.mono hbW.size)
                    replace hbR : Below U.heap.size U u56 := hbR.trans (hb56.mono hbR.size)
                    clear hb56
                    replace hR := (hR.eq HVAL.out).le (show 2 + (k + 3 + 2 + 1 + 2 + 2) + 1 ≤ k + 13 by omega)
                    clear p00 p01 p02 p10 p11 p20 p21 p30 p31 p32
                    obtain ⟨p00, p01, p02, _⟩ := B1.cells
                    obtain ⟨p10, p11, _⟩ := M6.cells
                    obtain ⟨p20, p21, _⟩ := M7.cells
                    obtain ⟨p30, p31, p32, _⟩ := A8.cells
                    go_wp2_with fail
                    refine hK.out _ _ ?_ (fun hHeld => ?_)
                    · (try dsimp only)
                      exact ⟨p00, p01, p02, p10, p11, p20, p21, p30, p31, p32⟩
                    clear hK K
                    try simp only [Act.put, List.setIfInBounds_toArray, List.set_cons_zero, List.set_cons_succ]
                    refine hCall (i := 12) rfl (by kernel_rfl) (by rfl) (fun K hK => ?_)
                    go_simp
                    obtain ⟨q1, q2, q3, q4, q5, q6⟩ := B2.cells
                    obtain ⟨nr, xr, yr, ⟨ar, cr, br, dr, rfl, hxr, hyr⟩, hFr⟩ := hR
                    go_simp
                    obtain ⟨u57, hU, A2, hbU, hK9, ho⟩ := set3_world B2 (.bool nr) (.slice ar xr.length cr) (.slice br yr.length dr)
                    rw [← hU]
                    clear hU q1 q2 q3 q4 q5 q6
                    replace hbW := hbU _ _ hbW (by omega)
                    replace hxr := hK9 _ _ _ hxr
                    replace hyr := hK9 _ _ _ hyr
                    replace B1 := B1.other ho (by omega)
                    replace M6 := M6.other ho (by omega)
                    replace M7 := M7.other ho (by omega)
                    replace A8 := A8.other ho (by omega)
                    clear hbU hK9 ho
                    clear p00 p01 p02 p10 p11 p20 p21 p30 p31 p32
                    obtain ⟨p00, p01, p02, _⟩ := B1.cells
                    obtain ⟨p10, p11, _⟩ := M6.cells
                    obtain ⟨p20, p21, _⟩ := M7.cells
                    obtain ⟨p30, p31, p32, _⟩ := A8.cells
                    refine hK.out _ _ ?_ (fun hHeld => ?_)
                    · (try dsimp only)
                      exact ⟨p00, p01, p02, p10, p11, p20, p21, p30, p31, p32⟩
                    clear hK K
                    try simp only [Act.put, List.setIfInBounds_toArray, List.set_cons_zero, List.set_cons_succ]
                    refine wpAnyH_done (by kernel_rfl) ?_ _
                    go_wp2
                    refine bodyPost_ret (by obtain ⟨r1, r2, r3, _⟩ := A2.cells; simp [results, Tryz.results15, go_sem, r1, r2, r3]) rfl ⟨_, rfl, ⟨_, _, _, ⟨_, _, _, _, rfl, hxr, hyr⟩, hFr⟩, hbW⟩
                · go_simp
                  obtain ⟨u49, hU, B8, hb9⟩ : ∃ U, U = u48.alloc (.cells #[.bool false, .slice none 0 0, .slice none 0 0] 34) ∧ Box 34 U u48.heap.size (.bool false) (.slice none 0 0) (.slice none 0 0) ∧ Below u48.heap.size u48 U := ⟨_, rfl, Box.new _ _ _ _ _, al1 _⟩
                  rw [← hU]
                  clear hU
                  have n81 := hbR.size
                  have n83 := M6.lt
                  have n84 := M7.lt
                  have n85 := B2.lt
                  replace hX := hX.below hb9
                  replace B2 := B2.below hb9
                  replace hf1 := hf1.below hb9
                  replace hd1 := hd1.below hb9
                  replace B1 := B1.below hb9
                  replace M6 := M6.below hb9
                  replace M7 := M7.below hb9
                  replace hbW : Below w.heap.size w u49 := hbW.trans (hb9.mono hbW.size)
                  replace hbR : Below U.heap.size U u49 := hbR.trans (hb9.mono hbR.size)
                  clear hb9
                  generalize u48.heap.size = g8 at B8 n81 n83 n84 n85 ⊢
                  clear p00 p01 p02 p10 p11 p20 p21
                  obtain ⟨p00, p01, p02, _⟩ := B1.cells
                  obtain ⟨p10, p11, _⟩ := M6.cells
                  obtain ⟨p20, p21, _⟩ := M7.cells
                  obtain ⟨p30, p31, p32, _⟩ := B8.cells
                  refine hK.out _ _ ?_ (fun hHeld => ?_)
                  · (try dsimp only)
                    exact ⟨p00, p01, p02, p10, p11, p20, p21⟩
                  clear hK K
                  try simp only [Act.put, List.setIfInBounds_toArray, List.set_cons_zero, List.set_cons_succ]
                  refine hCall (i := 10) rfl (by kernel_rfl) (by rfl) (fun K hK => ?_)
                  go_simp
                  refine (sof14_any (x1 - x0) _ (by omega) (by omega)).mono ?_
                  rintro e u50 ⟨vg, rfl, hg1, hb50⟩
                  replace hX := hX.below hb50
                  replace B2 := B2.below hb50
                  replace hf1 := hf1.below hb50
                  replace hd1 := hd1.below hb50
                  replace B1 := B1.below hb50
                  replace M6 := M6.below hb50
                  replace M7 := M7.below hb50
                  replace B8 := B8.below hb50
                  replace hbW : Below w.heap.size w u50 := hbW.trans (hb50.mono hbW.size)
                  replace hbR : Below U.heap.size U u50 := hbR.trans (hb50.mono hbR.size)
                  clear hb50
                  clear p00 p01 p02 p10 p11 p20 p21 p30 p31 p32
                  obtain ⟨p00, p01, p02, _⟩ := B1.cells
                  obtain ⟨p10, p11, _⟩ := M6.cells
                  obtain ⟨p20, p21, _⟩ := M7.cells
                  obtain ⟨p30, p31, p32, _⟩ := B8.cells
                  go_wp2_with fail
                  refine hK.out _ _ ?_ (fun hHeld => ?_)
                  · (try dsimp only)
                    exact ⟨p00, p01, p02, p10, p11, p20, p21⟩
                  clear hK K
                  try simp only [Act.put, List.setIfInBounds_toArray, List.set_cons_zero, List.set_cons_succ]
                  refine hCall (i := 11) rfl (by kernel_rfl) (by rfl) (fun K hK => ?_)
                  go_simp
                  refine (squo_any (k + 3 + 2 + 1) 2 _ _ _ _ _ hd1.ct hg1.ct (by omega) (by decide) (by omega) (by decide)).mono ?_
                  rintro e u51 ⟨v8, rfl, hF8, hb51⟩
                  replace hX := hX.below hb51
                  replace B2 := B2.below hb51
                  replace hf1 := hf1.below hb51
                  replace hd1 := hd1.below hb51
                  replace hg1 := hg1.below hb51
                  replace B1 := B1.below hb51
                  replace M6 := M6.below hb51
                  replace M7 := M7.below hb51
                  replace B8 := B8.below hb51
                  replace hbW : Below w.heap.size w u51 := hbW.trans (hb51.mono hbW.size)
                  replace hbR : Below U.heap.size U u51 := hbR.trans (hb51.mono hbR.size)
                  clear hb51
                  generalize decide (((x1 - x0 : Int) : Rat) / ((16384 : Int) : Rat) ≠ 0) = qb
                  have hM8 := hF8.ct
                  obtain ⟨n8, x8, y8, ⟨a8, c8, b8, d8, rfl, _, _⟩, _⟩ := hF8
                  clear p00 p01 p02 p10 p11 p20 p21 p30 p31 p32
                  obtain ⟨p00, p01, p02, _⟩ := B1.cells
                  obtain ⟨p10, p11, _⟩ := M6.cells
                  obtain ⟨p20, p21, _⟩ := M7.cells
                  obtain ⟨p30, p31, p32, _⟩ := B8.cells
                  go_wp2_with fail
                  refine hK.out _ _ ?_ (fun hHeld => ?_)
                  · (try dsimp only)
                    exact ⟨p00, p01, p02, p10, p11, p20, p21⟩
                  clear hK K
                  try simp only [Act.put, List.setIfInBounds_toArray, List.set_cons_zero, List.set_cons_succ]
                  refine hTake (i := 12) (v := ?v271) rfl (by kernel_rfl) (by kernel_rfl) (by kernel_rfl) (fun _ _ _ h => h) (Or.inl ⟨by rfl, ?y271⟩) hHeld ?r271
                  case y271 =>
                    intro w9 hSw
                    (try dsimp only at hSw)
                    go_simp
                    try with_reducible rfl
                  try simp only [Act.put, List.setIfInBounds_toArray, List.set_cons_zero, List.set_cons_succ]
                  refine hTake (i := 13) (v := ?v272) rfl (by kernel_rfl) (by kernel_rfl) (by kernel_rfl) (fun _ _ _ h => h) (Or.inl ⟨by rfl, ?y272⟩) hHeld ?r272
                  case y272 =>
                    intro w9 hSw
                    (try dsimp only at hSw)
                    go_simp
                    try with_reducible rfl
                  try simp only [Act.put, List.setIfInBounds_toArray, List.set_cons_zero, List.set_cons_succ]
                  refine hTake (i := 14) (v := ?v273) rfl (by kernel_rfl) (by kernel_rfl) (by kernel_rfl) (fun _ _ _ h => h) (Or.inl ⟨by rfl, ?y273⟩) hHeld ?r273
                  case y273 =>
                    intro w9 hSw
                    (try dsimp only at hSw)
                    go_simp
                    try with_reducible rfl
                  try simp only [Act.put, List.setIfInBounds_toArray, List.set_cons_zero, List.set_cons_succ]
                  refine hCall (i := 16) rfl (by kernel_rfl) (by rfl) (fun K hK => ?_)
                  go_simp
                  obtain ⟨u52, hU, A8, hbU, hK9, ho⟩ := set3_world B8 (.bool n8) (.slice a8 x8.length c8) (.slice b8 y8.length d8)
                  rw [← hU]
                  clear hU
                  replace hbW := hbU _ _ hbW (by omega)
                  replace hbR := hbU _ _ hbR (by omega)
                  replace hM8 := hM8.keep hK9
                  replace B1 := B1.other ho (by omega)
                  replace B2 := B2.other ho (by omega)
                  replace M6 := M6.other ho (by omega)
                  replace M7 := M7.other ho (by omega)
                  clear hbU hK9 ho hX
                  have hX := HXU.out.below hbR
                  clear p00 p01 p02 p10 p11 p20 p21 p30 p31 p32
                  obtain ⟨p00, p01, p02, _⟩ := B1.cells
                  obtain ⟨p10, p11, _⟩ := M6.cells
                  obtain ⟨p20, p21, _⟩ := M7.cells
                  obtain ⟨p30, p31, p32, _⟩ := A8.cells
                  refine hK.out _ _ ?_ (fun hHeld => ?_)
                  · (try dsimp only)
                    exact ⟨p00, p01, p02, p10, p11, p20, p21⟩
                  clear hK K
                  try simp only [Act.put, List.setIfInBounds_toArray, List.set_cons_zero, List.set_cons_succ]
                  refine hTake (i := 17) (v := ?v274) rfl (by kernel_rfl) (by kernel_rfl) (by kernel_rfl) (fun _ _ _ h => h) (Or.inl ⟨by rfl, ?y274⟩) hHeld ?r274
                  case y274 =>
                    intro w9 hSw
                    (try dsimp only at hSw)
                    go_simp
                    try with_reducible rfl
                  try simp only [Act.put, List.setIfInBounds_toArray, List.set_cons_zero, List.set_cons_succ]
                  refine wpAnyH_done (by kernel_rfl) ?_ _
                  clear hHeld
                  go_wp2_with fail
                  refine wp_region_held_drew (S := (fun u => u.cell? ⟨w.heap.size, 0, none⟩ = some (.bool nh) ∧ u.cell? ⟨w.heap.size, 1, none⟩ = some (.slice ah xh.length ch) ∧ u.cell? ⟨w.heap.size, 2, none⟩ = some (.slice bh yh.length dh) ∧ u.cell? ⟨g6, 0, none⟩ = some (.int .i64 x0) ∧ u.cell? ⟨g6, 1, none⟩ = some (.int .i64 y0) ∧ u.cell? ⟨g7, 0, none⟩ = some (.int .i64 x1) ∧ u.cell? ⟨g7, 1, none⟩ = some (.int .i64 y1) ∧ u.cell? ⟨g8, 0, none⟩ = some (.bool n8) ∧ u.cell? ⟨g8, 1, none⟩ = some (.slice a8 x8.length c8) ∧ u.cell? ⟨g8, 2, none⟩ = some (.slice b8 y8.length d8))) (by kernel_rfl) ?_ (fun hHeld => ?_)
                  · (try dsimp only)
                    go_keep
                  have hdr : Below u52.heap.size u52 u52.drew := Below.drew1
                  generalize u52.drew = ud275 at hdr hHeld ⊢
                  replace hX := hX.below hdr
                  replace B2 := B2.below hdr
                  replace hM8 := hM8.below hdr
                  replace B1 := B1.below hdr
                  replace M6 := M6.below hdr
                  replace M7 := M7.below hdr
                  replace A8 := A8.below hdr
                  replace hbW : Below w.heap.size w ud275 := hbW.trans (hdr.mono hbW.size)
                  replace hbR : Below U.heap.size U ud275 := hbR.trans (hdr.mono hbR.size)
                  clear hdr
                  clear p00 p01 p02 p10 p11 p20 p21 p30 p31 p32
                  obtain ⟨p00, p01, p02, _⟩ := B1.cells
                  obtain ⟨p10, p11, _⟩ := M6.cells
                  obtain ⟨p20, p21, _⟩ := M7.cells
                  obtain ⟨p30, p31, p32, _⟩ := A8.cells
                  refine hTake (i := 0) (v := ?v276) rfl (by kernel_rfl) (by kernel_rfl) (by kernel_rfl) (fun _ _ _ h => h) (Or.inl ⟨by rfl, ?y276⟩) hHeld ?r276
                  case y276 =>
                    intro w9 hSw
                    (try dsimp only at hSw)
                    go_simp
                    try with_reducible rfl
                  try simp only [Act.put, List.setIfInBounds_toArray, List.set_cons_zero, List.set_cons_succ]
                  refine hTake (i := 1) (v := ?v277) rfl (by kernel_rfl) (by kernel_rfl) (by kernel_rfl) (fun _ _ _ h => h) (Or.inl ⟨by rfl, ?y277⟩) hHeld ?r277
                  case y277 =>
                    intro w9 hSw
                    (try dsimp only at hSw)
                    go_simp
                    try with_reducible rfl
                  try simp only [Act.put, List.setIfInBounds_toArray, List.set_cons_zero, List.set_cons_succ]
                  refine hTake (i := 3) (v := ?v278) rfl (by kernel_rfl) (by kernel_rfl) (by kernel_rfl) (fun _ _ _ h => h) (Or.inl ⟨by rfl, ?y278⟩) hHeld ?r278
                  case y278 =>
                    intro w9 hSw
                    (try dsimp only at hSw)
                    go_simp
                    try with_reducible rfl
                  try simp only [Act.put, List.setIfInBounds_toArray, List.set_cons_zero, List.set_cons_succ]
                  refine hTake (i := 4) (v := ?v279) rfl (by kernel_rfl) (by kernel_rfl) (by kernel_rfl) (fun _ _ _ h => h) (Or.inl ⟨by rfl, ?y279⟩) hHeld ?r279
                  case y279 =>
                    intro w9 hSw
                    (try dsimp only at hSw)
                    go_simp
                    try with_reducible rfl
                  try simp only [Act.put, List.setIfInBounds_toArray, List.set_cons_zero, List.set_cons_succ]
                  refine hTake (i := 5) (v := ?v280) rfl (by kernel_rfl) (by kernel_rfl) (by kernel_rfl) (fun _ _ _ h => h) (Or.inl ⟨by rfl, ?y280⟩) hHeld ?r280
                  case y280 =>
                    intro w9 hSw
                    (try dsimp only at hSw)
                    go_simp
                    try with_reducible rfl
                  try simp only [Act.put, List.setIfInBounds_toArray, List.set_cons_zero, List.set_cons_succ]
                  refine hTake (i := 6) (v := ?v281) rfl (by kernel_rfl) (by kernel_rfl) (by kernel_rfl) (fun _ _ _ h => h) (Or.inl ⟨by rfl, ?y281⟩) hHeld ?r281
                  case y281 =>
                    intro w9 hSw
                    (try dsimp only at hSw)
                    go_simp
                    try with_reducible rfl
                  try simp only [Act.put, List.setIfInBounds_toArray, List.set_cons_zero, List.set_cons_succ]
                  refine hTake (i := 7) (v := ?v282) rfl (by kernel_rfl) (by kernel_rfl) (by kernel_rfl) (fun _ _ _ h => h) (Or.inl ⟨by rfl, ?y282⟩) hHeld ?r282
                  case y282 =>
                    intro w9 hSw
                    (try dsimp only at hSw)
                    go_simp
                    try with_reducible rfl
                  try simp only [Act.put, List.setIfInBounds_toArray, List.set_cons_zero, List.set_cons_succ]
                  refine hTake (i := 8) (v := ?v283) rfl (by kernel_rfl) (by kernel_rfl) (by kernel_rfl) (fun _ _ _ h => h) (Or.inl ⟨by rfl, ?y283⟩) hHeld ?r283
                  case y283 =>
                    intro w9 hSw
                    (try dsimp only at hSw)
                    go_simp
                    try with_reducible rfl
                  try simp only [Act.put, List.setIfInBounds_toArray, List.set_cons_zero, List.set_cons_succ]
                  refine hCall (i := 2) rfl (by kernel_rfl) (by rfl) (fun K hK => ?_)
                  go_simp
                  refine (sof14_any y0 _ (by omega) (by omega)).mono ?_
                  rintro e u53 ⟨vt, rfl, hT1, hb53⟩
                  replace hX := hX.below hb53
                  replace B2 := B2.below hb53
                  replace hM8 := hM8.below hb53
                  replace B1 := B1.below hb53
                  replace M6 := M6.below hb53
                  replace M7 := M7.below hb53
                  replace A8 := A8.below hb53
                  replace hbW : Below w.heap.size w u53 := hbW.trans (hb53.mono hbW.size)
                  replace hbR : Below U.heap.size U u53 := hbR.trans (hb53.mono hbR.size)
                  clear hb53
                  clear p00 p01 p02 p10 p11 p20 p21 p30 p31 p32
                  obtain ⟨p00, p01, p02, _⟩ := B1.cells
                  obtain ⟨p10, p11, _⟩ := M6.cells
                  obtain ⟨p20, p21, _⟩ := M7.cells
                  obtain ⟨p30, p31, p32, _⟩ := A8.cells
                  go_wp2_with fail
                  refine hK.out _ _ ?_ (fun hHeld => ?_)
                  · (try dsimp only)
                    exact ⟨p00, p01, p02, p10, p11, p20, p21, p30, p31, p32⟩
                  clear hK K
                  try simp only [Act.put, List.setIfInBounds_toArray, List.set_cons_zero, List.set_cons_succ]
                  refine hCall (i := 9) rfl (by kernel_rfl) (by rfl) (fun K hK => ?_)
                  go_simp
                  refine (sof14_any (y1 - y0) _ (by omega) (by omega)).mono ?_
                  rintro e u54 ⟨ve, rfl, hE1, hb54⟩
                  replace hX := hX.below hb54
                  replace B2 := B2.below hb54
                  replace hM8 := hM8.below hb54
                  replace hT1 := hT1.below hb54
                  replace B1 := B1.below hb54
                  replace M6 := M6.below hb54
                  replace M7 := M7.below hb54
                  replace A8 := A8.below hb54
                  replace hbW : Below w.heap.size w u54 := hbW.trans (hb54.mono hbW.size)
                  replace hbR : Below U.heap.size U u54 := hbR.trans (hb54.mono hbR.size)
                  clear hb54
                  clear p00 p01 p02 p10 p11 p20 p21 p30 p31 p32
                  obtain ⟨p00, p01, p02, _⟩ := B1.cells
                  obtain ⟨p10, p11, _⟩ := M6.cells
                  obtain ⟨p20, p21, _⟩ := M7.cells
                  obtain ⟨p30, p31, p32, _⟩ := A8.cells
                  go_wp2_with fail
                  refine hK.out _ _ ?_ (fun hHeld => ?_)
                  · (try dsimp only)
                    exact ⟨p00, p01, p02, p10, p11, p20, p21, p30, p31, p32⟩
                  clear hK K
                  try simp only [Act.put, List.setIfInBounds_toArray, List.set_cons_zero, List.set_cons_succ]
                  refine hCall (i := 10) rfl (by kernel_rfl) (by rfl) (fun K hK => ?_)
                  go_simp
                  refine (smul_any (k + 3 + 2 + 1 + 2) 2 _ _ _ _ _ hM8 hE1.ct (by omega) (by decide) (by omega) (by decide)).mono ?_
                  rintro e u55 ⟨vy, rfl, hY1, hb55⟩
                  replace hX := hX.below hb55
                  replace B2 := B2.below hb55
                  replace hM8 := hM8.below hb55
                  replace hT1 := hT1.below hb55
                  replace hE1 := hE1.below hb55
                  replace B1 := B1.below hb55
                  replace M6 := M6.below hb55
                  replace M7 := M7.below hb55
                  replace A8 := A8.below hb55
                  replace hbW : Below w.heap.size w u55 := hbW.trans (hb55.mono hbW.size)
                  replace hbR : Below U.heap.size U u55 := hbR.trans (hb55.mono hbR.size)
                  clear hb55
                  clear p00 p01 p02 p10 p11 p20 p21 p30 p31 p32
                  obtain ⟨p00, p01, p02, _⟩ := B1.cells
                  obtain ⟨p10, p11, _⟩ := M6.cells
                  obtain ⟨p20, p21, _⟩ := M7.cells
                  obtain ⟨p30, p31, p32, _⟩ := A8.cells
                  go_wp2_with fail
                  refine hK.out _ _ ?_ (fun hHeld => ?_)
                  · (try dsimp only)
                    exact ⟨p00, p01, p02, p10, p11, p20, p21, p30, p31, p32⟩
                  clear hK K
                  try simp only [Act.put, List.setIfInBounds_toArray, List.set_cons_zero, List.set_cons_succ]
                  refine hCall (i := 11) rfl (by kernel_rfl) (by rfl) (fun K hK => ?_)
                  go_simp
                  refine (sadd_any 2 (k + 3 + 2 + 1 + 2 + 2) _ _ _ _ _ hT1.ct hY1.ct (by decide) (by omega) (by decide) (by omega)).mono ?_
                  rintro e u56 ⟨vr, rfl, hR, hb56⟩
                  replace hX := hX.below hb56
                  replace B2 := B2.below hb56
                  replace hM8 := hM8.below hb56
                  replace hT1 := hT1.below hb56
                  replace hE1 := hE1.below hb56
                  replace hY1 := hY1.below hb56
                  replace B1 := B1.below hb56
                  replace M6 := M6.below hb56
                  replace M7 := M7.below hb56
                  replace A8 := A8.below hb56
                  replace hbW : Below w.heap.size w u56 := hbW.trans (hb56.mono hbW.size)
                  replace hbR : Below U.heap.size U u56 := hbR.trans (hb56.mono hbR.size)
                  clear hb56
                  replace hR := (hR.eq HVAL.out).le (show 2 + (k + 3 + 2 + 1 + 2 + 2) + 1 ≤ k + 13 by omega)
                  clear p00 p01 p02 p10 p11 p20 p21 p30 p31 p32
                  obtain ⟨p00, p01, p02, _⟩ := B1.cells
                  obtain ⟨p10, p11, _⟩ := M6.cells
                  obtain ⟨p20, p21, _⟩ := M7.cells
                  obtain ⟨p30, p31, p32, _⟩ := A8.cells
                  go_wp2_with fail
                  refine hK.out _ _ ?_ (fun hHeld => ?_)
                  · (try dsimp only)
                    exact ⟨p00, p01, p02, p10, p11, p20, p21, p30, p31, p32⟩
                  clear hK K
                  try simp only [Act.put, List.setIfInBounds_toArray, List.set_cons_zero, List.set_cons_succ]
                  refine hCall (i := 12) rfl (by kernel_rfl) (by rfl) (fun K hK => ?_)
                  go_simp
                  obtain ⟨q1, q2, q3, q4, q5, q6⟩ := B2.cells
                  obtain ⟨nr, xr, yr, ⟨ar, cr, br, dr, rfl, hxr, hyr⟩, hFr⟩ := hR
                  go_simp
                  obtain ⟨u57, hU, A2, hbU, hK9, ho⟩ := set3_world B2 (.bool nr) (.slice ar xr.length cr) (.slice br yr.length dr)
                  rw [← hU]
                  clear hU q1 q2 q3 q4 q5 q6
                  replace hbW := hbU _ _ hbW (by omega)
                  replace hxr := hK9 _ _ _ hxr
                  replace hyr := hK9 _ _ _ hyr
                  replace B1 := B1.other ho (by omega)
                  replace M6 := M6.other ho (by omega)
                  replace M7 := M7.other ho (by omega)
                  replace A8 := A8.other ho (by omega)
                  clear hbU hK9 ho
                  clear p00 p01 p02 p10 p11 p20 p21 p30 p31 p32
                  obtain ⟨p00, p01, p02, _⟩ := B1.cells
                  obtain ⟨p10, p11, _⟩ := M6.cells
                  obtain ⟨p20, p21, _⟩ := M7.cells
                  obtain ⟨p30, p31, p32, _⟩ := A8.cells
                  refine hK.out _ _ ?_ (fun hHeld => ?_)
                  · (try dsimp only)
                    exact ⟨p00, p01, p02, p10, p11, p20, p21, p30, p31, p32⟩
                  clear hK K
                  try simp only [Act.put, List.setIfInBounds_toArray, List.set_cons_zero, List.set_cons_succ]
                  refine wpAnyH_done (by kernel_rfl) ?_ _
                  go_wp2
                  refine bodyPost_ret (by obtain ⟨r1, r2, r3, _⟩ := A2.cells; simp [results, Tryz.results15, go_sem, r1, r2, r3]) rfl ⟨_, rfl, ⟨_, _, _, ⟨_, _, _, _, rfl, hxr, hyr⟩, hFr⟩, hbW⟩
              · go_simp
                obtain ⟨u48, hU, B8, hb9⟩ : ∃ U, U = u47.alloc (.cells #[.bool false, .slice none 0 0, .slice none 0 0] 34) ∧ Box 34 U u47.heap.size (.bool false) (.slice none 0 0) (.slice none 0 0) ∧ Below u47.heap.size u47 U := ⟨_, rfl, Box.new _ _ _ _ _, al1 _⟩
                rw [← hU]
                clear hU
                have n81 := hbR.size
                have n83 := M6.lt
                have n84 := M7.lt
                have n85 := B2.lt
                replace hX := hX.below hb9
                replace B2 := B2.below hb9
                replace hf1 := hf1.below hb9
                replace B1 := B1.below hb9
                replace M6 := M6.below hb9
                replace M7 := M7.below hb9
                replace hbW : Below w.heap.size w u48 := hbW.trans (hb9.mono hbW.size)
                replace hbR : Below U.heap.size U u48 := hbR.trans (hb9.mono hbR.size)
                clear hb9
                generalize u47.heap.size = g8 at B8 n81 n83 n84 n85 ⊢
                clear p00 p01 p02 p10 p11 p20 p21
                obtain ⟨p00, p01, p02, _⟩ := B1.cells
                obtain ⟨p10, p11, _⟩ := M6.cells
                obtain ⟨p20, p21, _⟩ := M7.cells
                obtain ⟨p30, p31, p32, _⟩ := B8.cells
                refine hK.out _ _ ?_ (fun hHeld => ?_)
                · (try dsimp only)
                  exact ⟨p00, p01, p02, p10, p11, p20, p21⟩
                clear hK K
                try simp only [Act.put, List.setIfInBounds_toArray, List.set_cons_zero, List.set_cons_succ]
                refine hCall (i := 4) rfl (by kernel_rfl) (by rfl) (fun K hK => ?_)
                go_simp
                refine (ssub_any (k + 3) 2 _ _ _ _ _ hX hf1.ct (by omega) (by decide) (by omega) (by decide)).mono ?_
                rintro e u49 ⟨vd, rfl, hd1, hb49⟩
                replace hX := hX.below hb49
                replace B2 := B2.below hb49
                replace hf1 := hf1.below hb49
                replace B1 := B1.below hb49
                replace M6 := M6.below hb49
                replace M7 := M7.below hb49
                replace B8 := B8.below hb49
                replace hbW : Below w.heap.size w u49 := hbW.trans (hb49.mono hbW.size)
                replace hbR : Below U.heap.size U u49 := hbR.trans (hb49.mono hbR.size)
                clear hb49
                clear p00 p01 p02 p10 p11 p20 p21 p30 p31 p32
                obtain ⟨p00, p01, p02, _⟩ := B1.cells
                obtain ⟨p10, p11, _⟩ := M6.cells
                obtain ⟨p20, p21, _⟩ := M7.cells
                obtain ⟨p30, p31, p32, _⟩ := B8.cells
                go_wp2_with fail
                refine hK.out _ _ ?_ (fun hHeld => ?_)
                · (try dsimp only)
                  exact ⟨p00, p01, p02, p10, p11, p20, p21⟩
                clear hK K
                try simp only [Act.put, List.setIfInBounds_toArray, List.set_cons_zero, List.set_cons_succ]
                refine hCall (i := 10) rfl (by kernel_rfl) (by rfl) (fun K hK => ?_)
                go_simp
                refine (sof14_any (x1 - x0) _ (by omega) (by omega)).mono ?_
                rintro e u50 ⟨vg, rfl, hg1, hb50⟩
                replace hX := hX.below hb50
                replace B2 := B2.below hb50
                replace hf1 := hf1.below hb50
                replace hd1 := hd1.below hb50
                replace B1 := B1.below hb50
                replace M6 := M6.below hb50
                replace M7 := M7.below hb50
                replace B8 := B8.below hb50
                replace hbW : Below w.heap.size w u50 := hbW.trans (hb50.mono hbW.size)
                replace hbR : Below U.heap.size U u50 := hbR.trans (hb50.mono hbR.size)
                clear hb50
                clear p00 p01 p02 p10 p11 p20 p21 p30 p31 p32
                obtain ⟨p00, p01, p02, _⟩ := B1.cells
                obtain ⟨p10, p11, _⟩ := M6.cells
                obtain ⟨p20, p21, _⟩ := M7.cells
                obtain ⟨p30, p31, p32, _⟩ := B8.cells
                go_wp2_with fail
                refine hK.out _ _ ?_ (fun hHeld => ?_)
                · (try dsimp only)
                  exact ⟨p00, p01, p02, p10, p11, p20, p21⟩
                clear hK K
                try simp only [Act.put, List.setIfInBounds_toArray, List.set_cons_zero, List.set_cons_succ]
                refine hCall (i := 11) rfl (by kernel_rfl) (by rfl) (fun K hK => ?_)
                go_simp
                refine (squo_any (k + 3 + 2 + 1) 2 _ _ _ _ _ hd1.ct hg1.ct (by omega) (by decide) (by omega) (by decide)).mono ?_
                rintro e u51 ⟨v8, rfl, hF8, hb51⟩
                replace hX := hX.below hb51
                replace B2 := B2.below hb51
                replace hf1 := hf1.below hb51
                replace hd1 := hd1.below hb51
                replace hg1 := hg1.below hb51
                replace B1 := B1.below hb51
                replace M6 := M6.below hb51
                replace M7 := M7.below hb51
                replace B8 := B8.below hb51
                replace hbW : Below w.heap.size w u51 := hbW.trans (hb51.mono hbW.size)
                replace hbR : Below U.heap.size U u51 := hbR.trans (hb51.mono hbR.size)
                clear hb51
                generalize decide (((x1 - x0 : Int) : Rat) / ((16384 : Int) : Rat) ≠ 0) = qb
                have hM8 := hF8.ct
                obtain ⟨n8, x8, y8, ⟨a8, c8, b8, d8, rfl, _, _⟩, _⟩ := hF8
                clear p00 p01 p02 p10 p11 p20 p21 p30 p31 p32
                obtain ⟨p00, p01, p02, _⟩ := B1.cells
                obtain ⟨p10, p11, _⟩ := M6.cells
                obtain ⟨p20, p21, _⟩ := M7.cells
                obtain ⟨p30, p31, p32, _⟩ := B8.cells
                go_wp2_with fail
                refine hK.out _ _ ?_ (fun hHeld => ?_)
                · (try dsimp only)
                  exact ⟨p00, p01, p02, p10, p11, p20, p21⟩
                clear hK K
                try simp only [Act.put, List.setIfInBounds_toArray, List.set_cons_zero, List.set_cons_succ]
                refine hTake (i := 12) (v := ?v284) rfl (by kernel_rfl) (by kernel_rfl) (by kernel_rfl) (fun _ _ _ h => h) (Or.inl ⟨by rfl, ?y284⟩) hHeld ?r284
                case y284 =>
                  intro w9 hSw
                  (try dsimp only at hSw)
                  go_simp
                  try with_reducible rfl
                try simp only [Act.put, List.setIfInBounds_toArray, List.set_cons_zero, List.set_cons_succ]
                refine hTake (i := 13) (v := ?v285) rfl (by kernel_rfl) (by kernel_rfl) (by kernel_rfl) (fun _ _ _ h => h) (Or.inl ⟨by rfl, ?y285⟩) hHeld ?r285
                case y285 =>
                  intro w9 hSw
                  (try dsimp only at hSw)
                  go_simp
                  try with_reducible rfl
                try simp only [Act.put, List.setIfInBounds_toArray, List.set_cons_zero, List.set_cons_succ]
                refine hTake (i := 14) (v := ?v286) rfl (by kernel_rfl) (by kernel_rfl) (by kernel_rfl) (fun _ _ _ h => h) (Or.inl ⟨by rfl, ?y286⟩) hHeld ?r286
                case y286 =>
                  intro w9 hSw
                  (try dsimp only at hSw)
                  go_simp
                  try with_reducible rfl
                try simp only [Act.put, List.setIfInBounds_toArray, List.set_cons_zero, List.set_cons_succ]
                refine hCall (i := 16) rfl (by kernel_rfl) (by rfl) (fun K hK => ?_)
                go_simp
                obtain ⟨u52, hU, A8, hbU, hK9, ho⟩ := set3_world B8 (.bool n8) (.slice a8 x8.length c8) (.slice b8 y8.length d8)
                rw [← hU]
                clear hU
                replace hbW := hbU _ _ hbW (by omega)
                replace hbR := hbU _ _ hbR (by omega)
                replace hM8 := hM8.keep hK9
                replace B1 := B1.other ho (by omega)
                replace B2 := B2.other ho (by omega)
                replace M6 := M6.other ho (by omega)
                replace M7 := M7.other ho (by omega)
                clear hbU hK9 ho hX
                have hX := HXU.out.below hbR
                clear p00 p01 p02 p10 p11 p20 p21 p30 p31 p32
                obtain ⟨p00, p01, p02, _⟩ := B1.cells
                obtain ⟨p10, p11, _⟩ := M6.cells
                obtain ⟨p20, p21, _⟩ := M7.cells
                obtain ⟨p30, p31, p32, _⟩ := A8.cells
                refine hK.out _ _ ?_ (fun hHeld => ?_)
                · (try dsimp only)
                  exact ⟨p00, p01, p02, p10, p11, p20, p21⟩
                clear hK K
                try simp only [Act.put, List.setIfInBounds_toArray, List.set_cons_zero, List.set_cons_succ]
                refine hTake (i := 17) (v := ?v287) rfl (by kernel_rfl) (by kernel_rfl) (by kernel_rfl) (fun _ _ _ h => h) (Or.inl ⟨by rfl, ?y287⟩) hHeld ?r287
                case y287 =>
                  intro w9 hSw
                  (try dsimp only at hSw)
                  go_simp
                  try with_reducible rfl
                try simp only [Act.put, List.setIfInBounds_toArray, List.set_cons_zero, List.set_cons_succ]
                refine wpAnyH_done (by kernel_rfl) ?_ _
                clear hHeld
                go_wp2_with fail
                refine wp_region_held_drew (S := (fun u => u.cell? ⟨w.heap.size, 0, none⟩ = some (.bool nh) ∧ u.cell? ⟨w.heap.size, 1, none⟩ = some (.slice ah xh.length ch) ∧ u.cell? ⟨w.heap.size, 2, none⟩ = some (.slice bh yh.length dh) ∧ u.cell? ⟨g6, 0, none⟩ = some (.int .i64 x0) ∧ u.cell? ⟨g6, 1, none⟩ = some (.int .i64 y0) ∧ u.cell? ⟨g7, 0, none⟩ = some (.int .i64 x1) ∧ u.cell? ⟨g7, 1, none⟩ = some (.int .i64 y1) ∧ u.cell? ⟨g8, 0, none⟩ = some (.bool n8) ∧ u.cell? ⟨g8, 1, none⟩ = some (.slice a8 x8.length c8) ∧ u.cell? ⟨g8, 2, none⟩ = some (.slice b8 y8.length d8))) (by kernel_rfl) ?_ (fun hHeld => ?_)
                · (try dsimp only)
                  go_keep
                have hdr : Below u52.heap.size u52 u52.drew := Below.drew1
                generalize u52.drew = ud288 at hdr hHeld ⊢
                replace hX := hX.below hdr
                replace B2 := B2.below hdr
                replace hM8 := hM8.below hdr
                replace B1 := B1.below hdr
                replace M6 := M6.below hdr
                replace M7 := M7.below hdr
                replace A8 := A8.below hdr
                replace hbW : Below w.heap.size w ud288 := hbW.trans (hdr.mono hbW.size)
                replace hbR : Below U.heap.size U ud288 := hbR.trans (hdr.mono hbR.size)
                clear hdr
                clear p00 p01 p02 p10 p11 p20 p21 p30 p31 p32
                obtain ⟨p00, p01, p02, _⟩ := B1.cells
                obtain ⟨p10, p11, _⟩ := M6.cells
                obtain ⟨p20, p21, _⟩ := M7.cells
                obtain ⟨p30, p31, p32, _⟩ := A8.cells
                refine hTake (i := 0) (v := ?v289) rfl (by kernel_rfl) (by kernel_rfl) (by kernel_rfl) (fun _ _ _ h => h) (Or.inl ⟨by rfl, ?y289⟩) hHeld ?r289
                case y289 =>
                  intro w9 hSw
                  (try dsimp only at hSw)
                  go_simp
                  try with_reducible rfl
                try simp only [Act.put, List.setIfInBounds_toArray, List.set_cons_zero, List.set_cons_succ]
                refine hTake (i := 1) (v := ?v290) rfl (by kernel_rfl) (by kernel_rfl) (by kernel_rfl) (fun _ _ _ h => h) (Or.inl ⟨by rfl, ?y290⟩) hHeld ?r290
                case y290 =>
                  intro w9 hSw
                  (try dsimp only at hSw)
                  go_simp
                  try with_reducible rfl
                try simp only [Act.put, List.setIfInBounds_toArray, List.set_cons_zero, List.set_cons_succ]
                refine hTake (i := 3) (v := ?v291) rfl (by kernel_rfl) (by kernel_rfl) (by kernel_rfl) (fun _ _ _ h => h) (Or.inl ⟨by rfl, ?y291⟩) hHeld ?r291
                case y291 =>
                  intro w9 hSw
                  (try dsimp only at hSw)
                  go_simp
                  try with_reducible rfl
                try simp only [Act.put, List.setIfInBounds_toArray, List.set_cons_zero, List.set_cons_succ]
                refine hTake (i := 4) (v := ?v292) rfl (by kernel_rfl) (by kernel_rfl) (by kernel_rfl) (fun _ _ _ h => h) (Or.inl ⟨by rfl, ?y292⟩) hHeld ?r292
                case y292 =>
                  intro w9 hSw
                  (try dsimp only at hSw)
                  go_simp
                  try with_reducible rfl
                try simp only [Act.put, List.setIfInBounds_toArray, List.set_cons_zero, List.set_cons_succ]
                refine hTake (i := 5) (v := ?v293) rfl (by kernel_rfl) (by kernel_rfl) (by kernel_rfl) (fun _ _ _ h => h) (Or.inl ⟨by rfl, ?y293⟩) hHeld ?r293
                case y293 =>
                  intro w9 hSw
                  (try dsimp only at hSw)
                  go_simp
                  try with_reducible rfl
                try simp only [Act.put, List.setIfInBounds_toArray, List.set_cons_zero, List.set_cons_succ]
                refine hTake (i := 6) (v := ?v294) rfl (by kernel_rfl) (by kernel_rfl) (by kernel_rfl) (fun _ _ _ h => h) (Or.inl ⟨by rfl, ?y294⟩) hHeld ?r294
                case y294 =>
                  intro w9 hSw
                  (try dsimp only at hSw)
                  go_simp
                  try with_reducible rfl
                try simp only [Act.put, List.setIfInBounds_toArray, List.set_cons_zero, List.set_cons_succ]
                refine hTake (i := 7) (v := ?v295) rfl (by kernel_rfl) (by kernel_rfl) (by kernel_rfl) (fun _ _ _ h => h) (Or.inl ⟨by rfl, ?y295⟩) hHeld ?r295
                case y295 =>
                  intro w9 hSw
                  (try dsimp only at hSw)
                  go_simp
                  try with_reducible rfl
                try simp only [Act.put, List.setIfInBounds_toArray, List.set_cons_zero, List.set_cons_succ]
                refine hTake (i := 8) (v := ?v296) rfl (by kernel_rfl) (by kernel_rfl) (by kernel_rfl) (fun _ _ _ h => h) (Or.inl ⟨by rfl, ?y296⟩) hHeld ?r296
                case y296 =>
                  intro w9 hSw
                  (try dsimp only at hSw)
                  go_simp
                  try with_reducible rfl
                try simp only [Act.put, List.setIfInBounds_toArray, List.set_cons_zero, List.set_cons_succ]
                refine hCall (i := 2) rfl (by kernel_rfl) (by rfl) (fun K hK => ?_)
                go_simp
                refine (sof14_any y0 _ (by omega) (by omega)).mono ?_
                rintro e u53 ⟨vt, rfl, hT1, hb53⟩
                replace hX := hX.below hb53
                replace B2 := B2.below hb53
                replace hM8 := hM8.below hb53
                replace B1 := B1.below hb53
                replace M6 := M6.below hb53
                replace M7 := M7.below hb53
                replace A8 := A8.below hb53
                replace hbW : Below w.heap.size w u53 := hbW.trans (hb53.mono hbW.size)
                replace hbR : Below U.heap.size U u53 := hbR.trans (hb53.mono hbR.size)
                clear hb53
                clear p00 p01 p02 p10 p11 p20 p21 p30 p31 p32
                obtain ⟨p00, p01, p02, _⟩ := B1.cells
                obtain ⟨p10, p11, _⟩ := M6.cells
                obtain ⟨p20, p21, _⟩ := M7.cells
                obtain ⟨p30, p31, p32, _⟩ := A8.cells
                go_wp2_with fail
                refine hK.out _ _ ?_ (fun hHeld => ?_)
                · (try dsimp only)
                  exact ⟨p00, p01, p02, p10, p11, p20, p21, p30, p31, p32⟩
                clear hK K
                try simp only [Act.put, List.setIfInBounds_toArray, List.set_cons_zero, List.set_cons_succ]
                refine hCall (i := 9) rfl (by kernel_rfl) (by rfl) (fun K hK => ?_)
                go_simp
                refine (sof14_any (y1 - y0) _ (by omega) (by omega)).mono ?_
                rintro e u54 ⟨ve, rfl, hE1, hb54⟩
                replace hX := hX.below hb54
                replace B2 := B2.below hb54
                replace hM8 := hM8.below hb54
                replace hT1 := hT1.below hb54
                replace B1 := B1.below hb54
                replace M6 := M6.below hb54
                replace M7 := M7.below hb54
                replace A8 := A8.below hb54
                replace hbW : Below w.heap.size w u54 := hbW.trans (hb54.mono hbW.size)
                replace hbR : Below U.heap.size U u54 := hbR.trans (hb54.mono hbR.size)
                clear hb54
                clear p00 p01 p02 p10 p11 p20 p21 p30 p31 p32
                obtain ⟨p00, p01, p02, _⟩ := B1.cells
                obtain ⟨p10, p11, _⟩ := M6.cells
                obtain ⟨p20, p21, _⟩ := M7.cells
                obtain ⟨p30, p31, p32, _⟩ := A8.cells
                go_wp2_with fail
                refine hK.out _ _ ?_ (fun hHeld => ?_)
                · (try dsimp only)
                  exact ⟨p00, p01, p02, p10, p11, p20, p21, p30, p31, p32⟩
                clear hK K
                try simp only [Act.put, List.setIfInBounds_toArray, List.set_cons_zero, List.set_cons_succ]
                refine hCall (i := 10) rfl (by kernel_rfl) (by rfl) (fun K hK => ?_)
                go_simp
                refine (smul_any (k + 3 + 2 + 1 + 2) 2 _ _ _ _ _ hM8 hE1.ct (by omega) (by decide) (by omega) (by decide)).mono ?_
                rintro e u55 ⟨vy, rfl, hY1, hb55⟩
                replace hX := hX.below hb55
                replace B2 := B2.below hb55
                replace hM8 := hM8.below hb55
                replace hT1 := hT1.below hb55
                replace hE1 := hE1.below hb55
                replace B1 := B1.below hb55
                replace M6 := M6.below hb55
                replace M7 := M7.below hb55
                replace A8 := A8.below hb55
                replace hbW : Below w.heap.size w u55 := hbW.trans (hb55.mono hbW.size)
                replace hbR : Below U.heap.size U u55 := hbR.trans (hb55.mono hbR.size)
                clear hb55
                clear p00 p01 p02 p10 p11 p20 p21 p30 p31 p32
                obtain ⟨p00, p01, p02, _⟩ := B1.cells
                obtain ⟨p10, p11, _⟩ := M6.cells
                obtain ⟨p20, p21, _⟩ := M7.cells
                obtain ⟨p30, p31, p32, _⟩ := A8.cells
                go_wp2_with fail
                refine hK.out _ _ ?_ (fun hHeld => ?_)
                · (try dsimp only)
                  exact ⟨p00, p01, p02, p10, p11, p20, p21, p30, p31, p32⟩
                clear hK K
                try simp only [Act.put, List.setIfInBounds_toArray, List.set_cons_zero, List.set_cons_succ]
                refine hCall (i := 11) rfl (by kernel_rfl) (by rfl) (fun K hK => ?_)
                go_simp
                refine (sadd_any 2 (k + 3 + 2 + 1 + 2 + 2) _ _ _ _ _ hT1.ct hY1.ct (by decide) (by omega) (by decide) (by omega)).mono ?_
                rintro e u56 ⟨vr, rfl, hR, hb56⟩
                replace hX := hX.below hb56
                replace B2 := B2.below hb56
                replace hM8 := hM8.below hb56
                replace hT1 := hT1.below hb56
                replace hE1 := hE1.below hb56
                replace hY1 := hY1.below hb56
                replace B1 := B1.below hb56
                replace M6 := M6.below hb56
                replace M7 := M7.below hb56
                replace A8 := A8.below hb56
                replace hbW : Below w.heap.size w u56 := hbW.trans (hb56.mono hbW.size)
                replace hbR : Below U.heap.size U u56 := hbR.trans (hb56.mono hbR.size)
                clear hb56
                replace hR := (hR.eq HVAL.out).le (show 2 + (k + 3 + 2 + 1 + 2 + 2) + 1 ≤ k + 13 by omega)
                clear p00 p01 p02 p10 p11 p20 p21 p30 p31 p32
                obtain ⟨p00, p01, p02, _⟩ := B1.cells
                obtain ⟨p10, p11, _⟩ := M6.cells
                obtain ⟨p20, p21, _⟩ := M7.cells
                obtain ⟨p30, p31, p32, _⟩ := A8.cells
                go_wp2_with fail
                refine hK.out _ _ ?_ (fun hHeld => ?_)
                · (try dsimp only)
                  exact ⟨p00, p01, p02, p10, p11, p20, p21, p30, p31, p32⟩
                clear hK K
                try simp only [Act.put, List.setIfInBounds_toArray, List.set_cons_zero, List.set_cons_succ]
                refine hCall (i := 12) rfl (by kernel_rfl) (by rfl) (fun K hK => ?_)
                go_simp
                obtain ⟨q1, q2, q3, q4, q5, q6⟩ := B2.cells
                obtain ⟨nr, xr, yr, ⟨ar, cr, br, dr, rfl, hxr, hyr⟩, hFr⟩ := hR
                go_simp
                obtain ⟨u57, hU, A2, hbU, hK9, ho⟩ := set3_world B2 (.bool nr) (.slice ar xr.length cr) (.slice br yr.length dr)
                rw [← hU]
                clear hU q1 q2 q3 q4 q5 q6
                replace hbW := hbU _ _ hbW (by omega)
                replace hxr := hK9 _ _ _ hxr
                replace hyr := hK9 _ _ _ hyr
                replace B1 := B1.other ho (by omega)
                replace M6 := M6.other ho (by omega)
                replace M7 := M7.other ho (by omega)
                replace A8 := A8.other ho (by omega)
                clear hbU hK9 ho
                clear p00 p01 p02 p10 p11 p20 p21 p30 p31 p32
                obtain ⟨p00, p01, p02, _⟩ := B1.cells
                obtain ⟨p10, p11, _⟩ := M6.cells
                obtain ⟨p20, p21, _⟩ := M7.cells
                obtain ⟨p30, p31, p32, _⟩ := A8.cells
                refine hK.out _ _ ?_ (fun hHeld => ?_)
                · (try dsimp only)
                  exact ⟨p00, p01, p02, p10, p11, p20, p21, p30, p31, p32⟩
                clear hK K
                try simp only [Act.put, List.setIfInBounds_toArray, List.set_cons_zero, List.set_cons_succ]
                refine wpAnyH_done (by kernel_rfl) ?_ _
                go_wp2
                refine bodyPost_ret (by obtain ⟨r1, r2, r3, _⟩ := A2.cells; simp [results, Tryz.results15, go_sem, r1, r2, r3]) rfl ⟨_, rfl, ⟨_, _, _, ⟨_, _, _, _, rfl, hxr, hyr⟩, hFr⟩, hbW⟩
            · go_simp
              obtain ⟨u47, hU, B8, hb9⟩ : ∃ U, U = ud236.alloc (.cells #[.bool false, .slice none 0 0, .slice none 0 0] 34) ∧ Box 34 U ud236.heap.size (.bool false) (.slice none 0 0) (.slice none 0 0) ∧ Below ud236.heap.size ud236 U := ⟨_, rfl, Box.new _ _ _ _ _, al1 _⟩
              rw [← hU]
              clear hU
              have n81 := hbR.size
              have n83 := M6.lt
              have n84 := M7.lt
              have n85 := B2.lt
              replace hX := hX.below hb9
              replace B2 := B2.below hb9
              replace B1 := B1.below hb9
              replace M6 := M6.below hb9
              replace M7 := M7.below hb9
              replace hbW : Below w.heap.size w u47 := hbW.trans (hb9.mono hbW.size)
              replace hbR : Below U.heap.size U u47 := hbR.trans (hb9.mono hbR.size)
              clear hb9
              generalize ud236.heap.size = g8 at B8 n81 n83 n84 n85 ⊢
              clear p00 p01 p02 p10 p11 p20 p21
              obtain ⟨p00, p01, p02, _⟩ := B1.cells
              obtain ⟨p10, p11, _⟩ := M6.cells
              obtain ⟨p20, p21, _⟩ := M7.cells
              obtain ⟨p30, p31, p32, _⟩ := B8.cells
              refine hK.out _ _ ?_ (fun hHeld => ?_)
              · (try dsimp only)
                exact ⟨p00, p01, p02, p10, p11, p20, p21⟩
              clear hK K
              try simp only [Act.put, List.setIfInBounds_toArray, List.set_cons_zero, List.set_cons_succ]
              refine hCall (i := 3) rfl (by kernel_rfl) (by rfl) (fun K hK => ?_)
              go_simp
              refine (sof14_any x0 _ (by omega) (by omega)).mono ?_
              rintro e u48 ⟨vf, rfl, hf1, hb48⟩
              replace hX := hX.below hb48
              replace B2 := B2.below hb48
              replace B1 := B1.below hb48
              replace M6 := M6.below hb48
              replace M7 := M7.below hb48
              replace B8 := B8.below hb48
              replace hbW : Below w.heap.size w u48 := hbW.trans (hb48.mono hbW.size)
              replace hbR : Below U.heap.size U u48 := hbR.trans (hb48.mono hbR.size)
              clear hb48
              clear p00 p01 p02 p10 p11 p20 p21 p30 p31 p32
              obtain ⟨p00, p01, p02, _⟩ := B1.cells
              obtain ⟨p10, p11, _⟩ := M6.cells
              obtain ⟨p20, p21, _⟩ := M7.cells
              obtain ⟨p30, p31, p32, _⟩ := B8.cells
              go_wp2_with fail
              refine hK.out _ _ ?_ (fun hHeld => ?_)
              · (try dsimp only)
                exact ⟨p00, p01, p02, p10, p11, p20, p21⟩
              clear hK K
              try simp only [Act.put, List.setIfInBounds_toArray, List.set_cons_zero, List.set_cons_succ]
              refine hCall (i := 4) rfl (by kernel_rfl) (by rfl) (fun K hK => ?_)
              go_simp
              refine (ssub_any (k + 3) 2 _ _ _ _ _ hX hf1.ct (by omega) (by decide) (by omega) (by decide)).mono ?_
              rintro e u49 ⟨vd, rfl, hd1, hb49⟩
              replace hX := hX.below hb49
              replace B2 := B2.below hb49
              replace hf1 := hf1.below hb49
              replace B1 := B1.below hb49
              replace M6 := M6.below hb49
              replace M7 := M7.below hb49
              replace B8 := B8.below hb49
              replace hbW : Below w.heap.size w u49 := hbW.trans (hb49.mono hbW.size)
              replace hbR : Below U.heap.size U u49 := hbR.trans (hb49.mono hbR.size)
              clear hb49
              clear p00 p01 p02 p10 p11 p20 p21 p30 p31 p32
              obtain ⟨p00, p01, p02, _⟩ := B1.cells
              obtain ⟨p10, p11, _⟩ := M6.cells
              obtain ⟨p20, p21, _⟩ := M7.cells
              obtain ⟨p30, p31, p32, _⟩ := B8.cells
              go_wp2_with fail
              refine hK.out _ _ ?_ (fun hHeld => ?_)
              · (try dsimp only)
                exact ⟨p00, p01, p02, p10, p11, p20, p21⟩
              clear hK K
              try simp only [Act.put, List.setIfInBounds_toArray, List.set_cons_zero, List.set_cons_succ]
              refine hCall (i := 10) rfl (by kernel_rfl) (by rfl) (fun K hK => ?_)
              go_simp
              refine (sof14_any (x1 - x0) _ (by omega) (by omega)).mono ?_
              rintro e u50 ⟨vg, rfl, hg1, hb50⟩
              replace hX := hX.below hb50
              replace B2 := B2.below hb50
              replace hf1 := hf1.below hb50
              replace hd1 := hd1.below hb50
              replace B1 := B1.below hb50
              replace M6 := M6.below hb50
              replace M7 := M7.below hb50
              replace B8 := B8.below hb50
              replace hbW : Below w.heap.size w u50 := hbW.trans (hb50.mono hbW.size)
              replace hbR : Below U.heap.size U u50 := hbR.trans (hb50.mono hbR.size)
              clear hb50
              clear p00 p01 p02 p10 p11 p20 p21 p30 p31 p32
              obtain ⟨p00, p01, p02, _⟩ := B1.cells
              obtain ⟨p10, p11, _⟩ := M6.cells
              obtain ⟨p20, p21, _⟩ := M7.cells
              obtain ⟨p30, p31, p32, _⟩ := B8.cells
              go_wp2_with fail
              refine hK.out _ _ ?_ (fun hHeld => ?_)
              · (try dsimp only)
                exact ⟨p00, p01, p02, p10, p11, p20, p21⟩
              clear hK K
              try simp only [Act.put, List.setIfInBounds_toArray, List.set_cons_zero, List.set_cons_succ]
              refine hCall (i := 11) rfl (by kernel_rfl) (by rfl) (fun K hK => ?_)
              go_simp
              refine (squo_any (k + 3 + 2 + 1) 2 _ _ _ _ _ hd1.ct hg1.ct (by omega) (by decide) (by omega) (by decide)).mono ?_
              rintro e u51 ⟨v8, rfl, hF8, hb51⟩
              replace hX := hX.below hb51
              replace B2 := B2.below hb51
              replace hf1 := hf1.below hb51
              replace hd1 := hd1.below hb51
              replace hg1 := hg1.below hb51
              replace B1 := B1.below hb51
              replace M6 := M6.below hb51
              replace M7 := M7.below hb51
              replace B8 := B8.below hb51
              replace hbW : Below w.heap.size w u51 := hbW.trans (hb51.mono hbW.size)
              replace hbR : Below U.heap.size U u51 := hbR.trans (hb51.mono hbR.size)
              clear hb51
              generalize decide (((x1 - x0 : Int) : Rat) / ((16384 : Int) : Rat) ≠ 0) = qb
              have hM8 := hF8.ct
              obtain ⟨n8, x8, y8, ⟨a8, c8, b8, d8, rfl, _, _⟩, _⟩ := hF8
              clear p00 p01 p02 p10 p11 p20 p21 p30 p31 p32
              obtain ⟨p00, p01, p02, _⟩ := B1.cells
              obtain ⟨p10, p11, _⟩ := M6.cells
              obtain ⟨p20, p21, _⟩ := M7.cells
              obtain ⟨p30, p31, p32, _⟩ := B8.cells
              go_wp2_with fail
              refine hK.out _ _ ?_ (fun hHeld => ?_)
              · (try dsimp only)
                exact ⟨p00, p01, p02, p10, p11, p20, p21⟩
              clear hK K
              try simp only [Act.put, List.setIfInBounds_toArray, List.set_cons_zero, List.set_cons_succ]
              refine hTake (i := 12) (v := ?v297) rfl (by kernel_rfl) (by kernel_rfl) (by kernel_rfl) (fun _ _ _ h => h) (Or.inl ⟨by rfl, ?y297⟩) hHeld ?r297
              case y297 =>
                intro w9 hSw
                (try dsimp only at hSw)
                go_simp
                try with_reducible rfl
              try simp only [Act.put, List.setIfInBounds_toArray, List.set_cons_zero, List.set_cons_succ]
              refine hTake (i := 13) (v := ?v298) rfl (by kernel_rfl) (by kernel_rfl) (by kernel_rfl) (fun _ _ _ h => h) (Or.inl ⟨by rfl, ?y298⟩) hHeld ?r298
              case y298 =>
                intro w9 hSw
                (try dsimp only at hSw)
                go_simp
                try with_reducible rfl
              try simp only [Act.put, List.setIfInBounds_toArray, List.set_cons_zero, List.set_cons_succ]
              refine hTake (i := 14) (v := ?v299) rfl (by kernel_rfl) (by kernel_rfl) (by kernel_rfl) (fun _ _ _ h => h) (Or.inl ⟨by rfl, ?y299⟩) hHeld ?r299
              case y299 =>
                intro w9 hSw
                (try dsimp only at hSw)
                go_simp
                try with_reducible rfl
              try simp only [Act.put, List.setIfInBounds_toArray, List.set_cons_zero, List.set_cons_succ]
              refine hCall (i := 16) rfl (by kernel_rfl) (by rfl) (fun K hK => ?_)
              go_simp
              obtain ⟨u52, hU, A8, hbU, hK9, ho⟩ := set3_world B8 (.bool n8) (.slice a8 x8.length c8) (.slice b8 y8.length d8)
              rw [← hU]
              clear hU
              replace hbW := hbU _ _ hbW (by omega)
              replace hbR := hbU _ _ hbR (by omega)
              replace hM8 := hM8.keep hK9
              replace B1 := B1.other ho (by omega)
              replace B2 := B2.other ho (by omega)
              replace M6 := M6.other ho (by omega)
              replace M7 := M7.other ho (by omega)
              clear hbU hK9 ho hX
              have hX := HXU.out.below hbR
              clear p00 p01 p02 p10 p11 p20 p21 p30 p31 p32
              obtain ⟨p00, p01, p02, _⟩ := B1.cells
              obtain ⟨p10, p11, _⟩ := M6.cells
              obtain ⟨p20, p21, _⟩ := M7.cells
              obtain ⟨p30, p31, p32, _⟩ := A8.cells
              refine hK.out _ _ ?_ (fun hHeld => ?_)
              · (try dsimp only)
                exact ⟨p00, p01, p02, p10, p11, p20, p21⟩
              clear hK K
              try simp only [Act.put, List.setIfInBounds_toArray, List.set_cons_zero, List.set_cons_succ]
              refine hTake (i := 17) (v := ?v300) rfl (by kernel_rfl) (by kernel_rfl) (by kernel_rfl) (fun _ _ _ h => h) (Or.inl ⟨by rfl, ?y300⟩) hHeld ?r300
              case y300 =>
                intro w9 hSw
                (try dsimp only at hSw)
                go_simp
                try with_reducible rfl
              try simp only [Act.put, List.setIfInBounds_toArray, List.set_cons_zero, List.set_cons_succ]
              refine wpAnyH_done (by kernel_rfl) ?_ _
              clear hHeld
              go_wp2_with fail
              refine wp_region_held_drew (S := (fun u => u.cell? ⟨w.heap.size, 0, none⟩ = some (.bool nh) ∧ u.cell? ⟨w.heap.size, 1, none⟩ = some (.slice ah xh.length ch) ∧ u.cell? ⟨w.heap.size, 2, none⟩ = some (.slice bh yh.length dh) ∧ u.cell? ⟨g6, 0, none⟩ = some (.int .i64 x0) ∧ u.cell? ⟨g6, 1, none⟩ = some (.int .i64 y0) ∧ u.cell? ⟨g7, 0, none⟩ = some (.int .i64 x1) ∧ u.cell? ⟨g7, 1, none⟩ = some (.int .i64 y1) ∧ u.cell? ⟨g8, 0, none⟩ = some (.bool n8) ∧ u.cell? ⟨g8, 1, none⟩ = some (.slice a8 x8.length c8) ∧ u.cell? ⟨g8, 2, none⟩ = some (.slice b8 y8.length d8))) (by kernel_rfl) ?_ (fun hHeld => ?_)
              · (try dsimp only)
                go_keep
              have hdr : Below u52.heap.size u52 u52.drew := Below.drew1
              generalize u52.drew = ud301 at hdr hHeld ⊢
              replace hX := hX.below hdr
              replace B2 := B2.below hdr
              replace hM8 := hM8.below hdr
              replace B1 := B1.below hdr
              replace M6 := M6.below hdr
              replace M7 := M7.below hdr
              replace A8 := A8.below hdr
              replace hbW : Below w.heap.size w ud301 := hbW.trans (hdr.mono hbW.size)
              replace hbR : Below U.heap.size U ud301 := hbR.trans (hdr.mono hbR.size)
              clear hdr
              clear p00 p01 p02 p10 p11 p20 p21 p30 p31 p32
              obtain ⟨p00, p01, p02, _⟩ := B1.cells
              obtain ⟨p10, p11, _⟩ := M6.cells
              obtain ⟨p20, p21, _⟩ := M7.cells
              obtain ⟨p30, p31, p32, _⟩ := A8.cells
              refine hTake (i := 0) (v := ?v302) rfl (by kernel_rfl) (by kernel_rfl) (by kernel_rfl) (fun _ _ _ h => h) (Or.inl ⟨by rfl, ?y302⟩) hHeld ?r302
              case y302 =>
                intro w9 hSw
                (try dsimp only at hSw)
                go_simp
                try with_reducible rfl
              try simp only [Act.put, List.setIfInBounds_toArray, List.set_cons_zero, List.set_cons_succ]
              refine hTake (i := 1) (v := ?v303) rfl (by kernel_rfl) (by kernel_rfl) (by kernel_rfl) (fun _ _ _ h => h) (Or.inl ⟨by rfl, ?y303⟩) hHeld ?r303
              case y303 =>
                intro w9 hSw
                (try dsimp only at hSw)
                go_simp
                try with_reducible rfl
              try simp only [Act.put, List.setIfInBounds_toArray, List.set_cons_zero, List.set_cons_succ]
              refine hTake (i := 3) (v := ?v304) rfl (by kernel_rfl) (by kernel_rfl) (by kernel_rfl) (fun _ _ _ h => h) (Or.inl ⟨by rfl, ?y304⟩) hHeld ?r304
              case y304 =>
                intro w9 hSw
                (try dsimp only at hSw)
                go_simp
                try with_reducible rfl
              try simp only [Act.put, List.setIfInBounds_toArray, List.set_cons_zero, List.set_cons_succ]
              refine hTake (i := 4) (v := ?v305) rfl (by kernel_rfl) (by kernel_rfl) (by kernel_rfl) (fun _ _ _ h => h) (Or.inl ⟨by rfl, ?y305⟩) hHeld ?r305
              case y305 =>
                intro w9 hSw
                (try dsimp only at hSw)
                go_simp
                try with_reducible rfl
              try simp only [Act.put, List.setIfInBounds_toArray, List.set_cons_zero, List.set_cons_succ]
              refine hTake (i := 5) (v := ?v306) rfl (by kernel_rfl) (by kernel_rfl) (by kernel_rfl) (fun _ _ _ h => h) (Or.inl ⟨by rfl, ?y306⟩) hHeld ?r306
              case y306 =>
                intro w9 hSw
                (try dsimp only at hSw)
                go_simp
                try with_reducible rfl
              try simp only [Act.put, List.setIfInBounds_toArray, List.set_cons_zero, List.set_cons_succ]
              refine hTake (i := 6) (v := ?v307) rfl (by kernel_rfl) (by kernel_rfl) (by kernel_rfl) (fun _ _ _ h => h) (Or.inl ⟨by rfl, ?y307⟩) hHeld ?r307
              case y307 =>
                intro w9 hSw
                (try dsimp only at hSw)
                go_simp
                try with_reducible rfl
              try simp only [Act.put, List.setIfInBounds_toArray, List.set_cons_zero, List.set_cons_succ]
              refine hTake (i := 7) (v := ?v308) rfl (by kernel_rfl) (by kernel_rfl) (by kernel_rfl) (fun _ _ _ h => h) (Or.inl ⟨by rfl, ?y308⟩) hHeld ?r308
              case y308 =>
                intro w9 hSw
                (try dsimp only at hSw)
                go_simp
                try with_reducible rfl
              try simp only [Act.put, List.setIfInBounds_toArray, List.set_cons_zero, List.set_cons_succ]
              refine hTake (i := 8) (v := ?v309) rfl (by kernel_rfl) (by kernel_rfl) (by kernel_rfl) (fun _ _ _ h => h) (Or.inl ⟨by rfl, ?y309⟩) hHeld ?r309
              case y309 =>
                intro w9 hSw
                (try dsimp only at hSw)
                go_simp
                try with_reducible rfl
              try simp only [Act.put, List.setIfInBounds_toArray, List.set_cons_zero, List.set_cons_succ]
              refine hCall (i := 2) rfl (by kernel_rfl) (by rfl) (fun K hK => ?_)
              go_simp
              refine (sof14_any y0 _ (by omega) (by omega)).mono ?_
              rintro e u53 ⟨vt, rfl, hT1, hb53⟩
              replace hX := hX.below hb53
              replace B2 := B2.below hb53
              replace hM8 := hM8.below hb53
              replace B1 := B1.below hb53
              replace M6 := M6.below hb53
              replace M7 := M7.below hb53
              replace A8 := A8.below hb53
              replace hbW : Below w.heap.size w u53 := hbW.trans (hb53.mono hbW.size)
              replace hbR : Below U.heap.size U u53 := hbR.trans (hb53.mono hbR.size)
              clear hb53
              clear p00 p01 p02 p10 p11 p20 p21 p30 p31 p32
              obtain ⟨p00, p01, p02, _⟩ := B1.cells
              obtain ⟨p10, p11, _⟩ := M6.cells
              obtain ⟨p20, p21, _⟩ := M7.cells
              obtain ⟨p30, p31, p32, _⟩ := A8.cells
              go_wp2_with fail
              refine hK.out _ _ ?_ (fun hHeld => ?_)
              · (try dsimp only)
                exact ⟨p00, p01, p02, p10, p11, p20, p21, p30, p31, p32⟩
              clear hK K
              try simp only [Act.put, List.setIfInBounds_toArray, List.set_cons_zero, List.set_cons_succ]
              refine hCall (i := 9) rfl (by kernel_rfl) (by rfl) (fun K hK => ?_)
              go_simp
              refine (sof14_any (y1 - y0) _ (by omega) (by omega)).mono ?_
              rintro e u54 ⟨ve, rfl, hE1, hb54⟩
              replace hX := hX.below hb54
              replace B2 := B2.below hb54
              replace hM8 := hM8.below hb54
              replace hT1 := hT1.below hb54
              replace B1 := B1.below hb54
              replace M6 := M6.below hb54
              replace M7 := M7.below hb54
              replace A8 := A8.below hb54
              replace hbW : Below w.heap.size w u54 := hbW.trans (hb54.mono hbW.size)
              replace hbR : Below U.heap.size U u54 := hbR.trans (hb54.mono hbR.size)
              clear hb54
              clear p00 p01 p02 p10 p11 p20 p21 p30 p31 p32
              obtain ⟨p00, p01, p02, _⟩ := B1.cells
              obtain ⟨p10, p11, _⟩ := M6.cells
              obtain ⟨p20, p21, _⟩ := M7.cells
              obtain ⟨p30, p31, p32, _⟩ := A8.cells
              go_wp2_with fail
              refine hK.out _ _ ?_ (fun hHeld => ?_)
              · (try dsimp only)
                exact ⟨p00, p01, p02, p10, p11, p20, p21, p30, p31, p32⟩
              clear hK K
              try simp only [Act.put, List.setIfInBounds_toArray, List.set_cons_zero, List.set_cons_succ]
              refine hCall (i := 10) rfl (by kernel_rfl) (by rfl) (fun K hK => ?_)
              go_simp
              refine (smul_any (k + 3 + 2 + 1 + 2) 2 _ _ _ _ _ hM8 hE1.ct (by omega) (by decide) (by omega) (by decide)).mono ?_
              rintro e u55 ⟨vy, rfl, hY1, hb55⟩
              replace hX := hX.below hb55
              replace B2 := B2.below hb55
              replace hM8 := hM8.below hb55
              replace hT1 := hT1.below hb55
              replace hE1 := hE1.below hb55
              replace B1 := B1.below hb55
              replace M6 := M6.below hb55
              replace M7 := M7.below hb55
              replace A8 := A8.below hb55
              replace hbW : Below w.heap.size w u55 := hbW.trans (hb55.mono hbW.size)
              replace hbR : Below U.heap.size U u55 := hbR.trans (hb55.mono hbR.size)
              clear hb55
              clear p00 p01 p02 p10 p11 p20 p21 p30 p31 p32
              obtain ⟨p00, p01, p02, _⟩ := B1.cells
              obtain ⟨p10, p11, _⟩ := M6.cells
              obtain ⟨p20, p21, _⟩ := M7.cells
              obtain ⟨p30, p31, p32, _⟩ := A8.cells
              go_wp2_with fail
              refine hK.out _ _ ?_ (fun hHeld => ?_)
              · (try dsimp only)
                exact ⟨p00, p01, p02, p10, p11, p20, p21, p30, p31, p32⟩
              clear hK K
              try simp only [Act.put, List.setIfInBounds_toArray, List.set_cons_zero, List.set_cons_succ]
              refine hCall (i := 11) rfl (by kernel_rfl) (by rfl) (fun K hK => ?_)
              go_simp
              refine (sadd_any 2 (k + 3 + 2 + 1 + 2 + 2) _ _ _ _ _ hT1.ct hY1.ct (by decide) (by omega) (by decide) (by omega)).mono ?_
              rintro e u56 ⟨vr, rfl, hR, hb56⟩
              replace hX := hX.below hb56
              replace B2 := B2.below hb56
              replace hM8 := hM8.below hb56
              replace hT1 := hT1.below hb56
              replace hE1 := hE1.below hb56
              replace hY1 := hY1.below hb56
              replace B1 := B1.below hb56
              replace M6 := M6.below hb56
              replace M7 := M7.below hb56
              replace A8 := A8.below hb56
              replace hbW : Below w.heap.size w u56 := hbW.trans (hb56.mono hbW.size)
              replace hbR : Below U.heap.size U u56 := hbR.trans (hb56.mono hbR.size)
              clear hb56
              replace hR := (hR.eq HVAL.out).le (show 2 + (k + 3 + 2 + 1 + 2 + 2) + 1 ≤ k + 13 by omega)
              clear p00 p01 p02 p10 p11 p20 p21 p30 p31 p32
              obtain ⟨p00, p01, p02, _⟩ := B1.cells
              obtain ⟨p10, p11, _⟩ := M6.cells
              obtain ⟨p20, p21, _⟩ := M7.cells
              obtain ⟨p30, p31, p32, _⟩ := A8.cells
              go_wp2_with fail
              refine hK.out _ _ ?_ (fun hHeld => ?_)
              · (try dsimp only)
                exact ⟨p00, p01, p02, p10, p11, p20, p21, p30, p31, p32⟩
              clear hK K
              try simp only [Act.put, List.setIfInBounds_toArray, List.set_cons_zero, List.set_cons_succ]
              refine hCall (i := 12) rfl (by kernel_rfl) (by rfl) (fun K hK => ?_)
              go_simp
              obtain ⟨q1, q2, q3, q4, q5, q6⟩ := B2.cells
              obtain ⟨nr, xr, yr, ⟨ar, cr, br, dr, rfl, hxr, hyr⟩, hFr⟩ := hR
              go_simp
              obtain ⟨u57, hU, A2, hbU, hK9, ho⟩ := set3_world B2 (.bool nr) (.slice ar xr.length cr) (.slice br yr.length dr)
              rw [← hU]
              clear hU q1 q2 q3 q4 q5 q6
              replace hbW := hbU _ _ hbW (by omega)
              replace hxr := hK9 _ _ _ hxr
              replace hyr := hK9 _ _ _ hyr
              replace B1 := B1.other ho (by omega)
              replace M6 := M6.other ho (by omega)
              replace M7 := M7.other ho (by omega)
              replace A8 := A8.other ho (by omega)
              clear hbU hK9 ho
              clear p00 p01 p02 p10 p11 p20 p21 p30 p31 p32
              obtain ⟨p00, p01, p02, _⟩ := B1.cells
              obtain ⟨p10, p11, _⟩ := M6.cells
              obtain ⟨p20, p21, _⟩ := M7.cells
              obtain ⟨p30, p31, p32, _⟩ := A8.cells
              refine hK.out _ _ ?_ (fun hHeld => ?_)
              · (try dsimp only)
                exact ⟨p00, p01, p02, p10, p11, p20, p21, p30, p31, p32⟩
              clear hK K
              try simp only [Act.put, List.setIfInBounds_toArray, List.set_cons_zero, List.set_cons_succ]
              refine wpAnyH_done (by kernel_rfl) ?_ _
              go_wp2
              refine bodyPost_ret (by obtain ⟨r1, r2, r3, _⟩ := A2.cells; simp [results, Tryz.results15, go_sem, r1, r2, r3]) rfl ⟨_, rfl, ⟨_, _, _, ⟨_, _, _, _, rfl, hxr, hyr⟩, hFr⟩, hbW⟩
          · go_simp
            obtain ⟨u41, hU, L7, hb9⟩ : ∃ U, U = ud221.alloc (.cells #[.int .i64 0, .int .i64 0] 49) ∧ BxP U ud221.heap.size (.int .i64 0) (.int .i64 0) ∧ Below ud221.heap.size ud221 U := ⟨_, rfl, BxP.new _ _ _, bl1 _⟩
            rw [← hU]
            clear hU
            have n71 := hbR.size
            have n72 := T2.1
            replace hX := hX.below hb9
            replace B2 := B2.below hb9
            replace T2 := T2.below hb9
            replace B1 := B1.below hb9
            replace hbW : Below w.heap.size w u41 := hbW.trans (hb9.mono hbW.size)
            replace hbR : Below U.heap.size U u41 := hbR.trans (hb9.mono hbR.size)
            clear hb9
            generalize ud221.heap.size = g7 at L7 n71 n72 ⊢
            clear p00 p01 p02 p03 p10 p11 p12
            obtain ⟨p00, p01, p02, p03⟩ := T2.cells
            obtain ⟨p10, p11, p12, _⟩ := B1.cells
            obtain ⟨p20, p21, _⟩ := L7.cells
            refine hK.out _ _ ?_ (fun hHeld => ?_)
            · (try dsimp only)
              exact ⟨p00, p01, p02, p03, p10, p11, p12⟩
            clear hK K
            try simp only [Act.put, List.setIfInBounds_toArray, List.set_cons_zero, List.set_cons_succ]
            refine hCall (i := 9) rfl (by kernel_rfl) (by rfl) (fun K hK => ?_)
            go_simp
            obtain ⟨u42, hU, L6, hb9⟩ : ∃ U, U = u41.alloc (.cells #[.int .i64 0, .int .i64 0] 49) ∧ BxP U u41.heap.size (.int .i64 0) (.int .i64 0) ∧ Below u41.heap.size u41 U := ⟨_, rfl, BxP.new _ _ _, bl1 _⟩
            rw [← hU]
            clear hU
            have n61 := hbR.size
            have n62 := T2.1
            have nn2 := L7.lt
            replace hX := hX.below hb9
            replace B2 := B2.below hb9
            replace T2 := T2.below hb9
            replace B1 := B1.below hb9
            replace L7 := L7.below hb9
            replace hbW : Below w.heap.size w u42 := hbW.trans (hb9.mono hbW.size)
            replace hbR : Below U.heap.size U u42 := hbR.trans (hb9.mono hbR.size)
            clear hb9
            generalize u41.heap.size = g6 at L6 n61 n62 nn2 ⊢
            clear p00 p01 p02 p03 p10 p11 p12 p20 p21
            obtain ⟨p00, p01, p02, p03⟩ := T2.cells
            obtain ⟨p10, p11, p12, _⟩ := B1.cells
            obtain ⟨p20, p21, _⟩ := L7.cells
            obtain ⟨p30, p31, _⟩ := L6.cells
            refine hK.out _ _ ?_ (fun hHeld => ?_)
            · (try dsimp only)
              exact ⟨p00, p01, p02, p03, p10, p11, p12⟩
            clear hK K
            try simp only [Act.put, List.setIfInBounds_toArray, List.set_cons_zero, List.set_cons_succ]
            refine hCall (i := 11) rfl (by kernel_rfl) (by rfl) (fun K hK => ?_)
            go_simp
            obtain ⟨q1, q2, q3, q4⟩ := L6.cells
            go_simp
            obtain ⟨u43, hU, M6, hbU, ho⟩ := L6.set_world (.int .i64 x0) (.int .i64 y0)
            rw [← hU]
            clear hU q1 q2 q3 q4
            replace hbW := hbU _ _ hbW (by omega)
            replace hbR := hbU _ _ hbR (by omega)
            replace T2 := T2.other ho (by omega)
            replace B1 := B1.other ho (by omega)
            replace B2 := B2.other ho (by omega)
            replace L7 := L7.other ho (by omega)
            clear hbU ho hX
            have hX := HXU.out.below hbR
            clear p00 p01 p02 p03 p10 p11 p12 p20 p21 p30 p31
            obtain ⟨p00, p01, p02, p03⟩ := T2.cells
            obtain ⟨p10, p11, p12, _⟩ := B1.cells
            obtain ⟨p20, p21, _⟩ := L7.cells
            obtain ⟨p30, p31, _⟩ := M6.cells
            refine hK.out _ _ ?_ (fun hHeld => ?_)
            · (try dsimp only)
              exact ⟨p00, p01, p02, p03, p10, p11, p12⟩
            clear hK K
            try simp only [Act.put, List.setIfInBounds_toArray, List.set_cons_zero, List.set_cons_succ]
            refine hCall (i := 12) rfl (by kernel_rfl) (by rfl) (fun K hK => ?_)
            go_simp
            obtain ⟨q1, q2, q3, q4⟩ := L7.cells
            go_simp
            obtain ⟨u44, hU, M7, hbU, ho⟩ := L7.set_world (.int .i64 x1) (.int .i64 y1)
            rw [← hU]
            clear hU q1 q2 q3 q4
            replace hbW := hbU _ _ hbW (by omega)
            replace hbR := hbU _ _ hbR (by omega)
            replace T2 := T2.other ho (by omega)
            replace B1 := B1.other ho (by omega)
            replace B2 := B2.other ho (by omega)
            replace M6 := M6.other ho (by omega)
            clear hbU ho hX
            have hX := HXU.out.below hbR
            clear p00 p01 p02 p03 p10 p11 p12 p20 p21 p30 p31
            obtain ⟨p00, p01, p02, p03⟩ := T2.cells
            obtain ⟨p10, p11, p12, _⟩ := B1.cells
            obtain ⟨p20, p21, _⟩ := M6.cells
            obtain ⟨p30, p31, _⟩ := M7.cells
            refine hK.out _ _ ?_ (fun hHeld => ?_)
            · (try dsimp only)
              exact ⟨p00, p01, p02, p03, p10, p11, p12⟩
            clear hK K
            try simp only [Act.put, List.setIfInBounds_toArray, List.set_cons_zero, List.set_cons_succ]
            refine wpAnyH_done (by kernel_rfl) ?_ _
            clear hHeld
            go_wp2_with fail
            clear p00 p01 p02 p03 p10 p11 p12 p20 p21 p30 p31 T2
            obtain ⟨p00, p01, p02, _⟩ := B1.cells
            obtain ⟨p10, p11, _⟩ := M6.cells
            obtain ⟨p20, p21, _⟩ := M7.cells
            refine wp_region_held_drew (S := (fun u => u.cell? ⟨w.heap.size, 0, none⟩ = some (.bool nh) ∧ u.cell? ⟨w.heap.size, 1, none⟩ = some (.slice ah xh.length ch) ∧ u.cell? ⟨w.heap.size, 2, none⟩ = some (.slice bh yh.length dh) ∧ u.cell? ⟨g6, 0, none⟩ = some (.int .i64 x0) ∧ u.cell? ⟨g6, 1, none⟩ = some (.int .i64 y0) ∧ u.cell? ⟨g7, 0, none⟩ = some (.int .i64 x1) ∧ u.cell? ⟨g7, 1, none⟩ = some (.int .i64 y1))) (by kernel_rfl) ?_ (fun hHeld => ?_)
            · (try dsimp only)
              go_keep
            have hdr : Below u44.heap.size u44 u44.drew := Below.drew1
            generalize u44.drew = ud310 at hdr hHeld ⊢
            replace hX := hX.below hdr
            replace B2 := B2.below hdr
            replace B1 := B1.below hdr
            replace M6 := M6.below hdr
            replace M7 := M7.below hdr
            replace hbW : Below w.heap.size w ud310 := hbW.trans (hdr.mono hbW.size)
            replace hbR : Below U.heap.size U ud310 := hbR.trans (hdr.mono hbR.size)
            clear hdr
            clear p00 p01 p02 p10 p11 p20 p21
            obtain ⟨p00, p01, p02, _⟩ := B1.cells
            obtain ⟨p10, p11, _⟩ := M6.cells
            obtain ⟨p20, p21, _⟩ := M7.cells
            refine hTake (i := 0) (v := ?v311) rfl (by kernel_rfl) (by kernel_rfl) (by kernel_rfl) (fun _ _ _ h => h) (Or.inl ⟨by rfl, ?y311⟩) hHeld ?r311
            case y311 =>
              intro w9 hSw
              (try dsimp only at hSw)
              go_simp
              try with_reducible rfl
            try simp only [Act.put, List.setIfInBounds_toArray, List.set_cons_zero, List.set_cons_succ]
            refine hTake (i := 1) (v := ?v312) rfl (by kernel_rfl) (by kernel_rfl) (by kernel_rfl) (fun _ _ _ h => h) (Or.inl ⟨by rfl, ?y312⟩) hHeld ?r312
            case y312 =>
              intro w9 hSw
              (try dsimp only at hSw)
              go_simp
              try with_reducible rfl
            try simp only [Act.put, List.setIfInBounds_toArray, List.set_cons_zero, List.set_cons_succ]
            refine hTake (i := 2) (v := ?v313) rfl (by kernel_rfl) (by kernel_rfl) (by kernel_rfl) (fun _ _ _ h => h) (Or.inl ⟨by rfl, ?y313⟩) hHeld ?r313
            case y313 =>
              intro w9 hSw
              (try dsimp only at hSw)
              go_simp
              try with_reducible rfl
            try simp only [Act.put, List.setIfInBounds_toArray, List.set_cons_zero, List.set_cons_succ]
            refine hCall (i := 3) rfl (by kernel_rfl) (by rfl) (fun K hK => ?_)
            go_simp
            refine (sof14_any x1 _ (by omega) (by omega)).mono ?_
            rintro e u45 ⟨vb, rfl, hFb, hb45⟩
            replace hX := hX.below hb45
            replace B2 := B2.below hb45
            replace B1 := B1.below hb45
            replace M6 := M6.below hb45
            replace M7 := M7.below hb45
            replace hbW : Below w.heap.size w u45 := hbW.trans (hb45.mono hbW.size)
            replace hbR : Below U.heap.size U u45 := hbR.trans (hb45.mono hbR.size)
            clear hb45
            clear p00 p01 p02 p10 p11 p20 p21
            obtain ⟨p00, p01, p02, _⟩ := B1.cells
            obtain ⟨p10, p11, _⟩ := M6.cells
            obtain ⟨p20, p21, _⟩ := M7.cells
            go_wp2_with fail
            refine hK.out _ _ ?_ (fun hHeld => ?_)
            · (try dsimp only)
              exact ⟨p00, p01, p02, p10, p11, p20, p21⟩
            clear hK K
            try simp only [Act.put, List.setIfInBounds_toArray, List.set_cons_zero, List.set_cons_succ]
            refine hCall (i := 4) rfl (by kernel_rfl) (by rfl) (fun K hK => ?_)
            go_simp
            refine (scmp_any (k + 3) 2 _ _ _ _ _ hX hFb.ct (by omega) (by decide) (by omega) (by decide)).mono ?_
            rintro e u46 ⟨rfl, hb46⟩
            replace hX := hX.below hb46
            replace B2 := B2.below hb46
            replace hFb := hFb.below hb46
            replace B1 := B1.below hb46
            replace M6 := M6.below hb46
            replace M7 := M7.below hb46
            replace hbW : Below w.heap.size w u46 := hbW.trans (hb46.mono hbW.size)
            replace hbR : Below U.heap.size U u46 := hbR.trans (hb46.mono hbR.size)
            clear hb46 hFb
            rw [HS.out]
            clear p00 p01 p02 p10 p11 p20 p21
            obtain ⟨p00, p01, p02, _⟩ := B1.cells
            obtain ⟨p10, p11, _⟩ := M6.cells
            obtain ⟨p20, p21, _⟩ := M7.cells
            go_wp2_with fail
            refine hK.out _ _ ?_ (fun hHeld => ?_)
            · (try dsimp only)
              exact ⟨p00, p01, p02, p10, p11, p20, p21⟩
            clear hK K
            try simp only [Act.put, List.setIfInBounds_toArray, List.set_cons_zero, List.set_cons_succ]
            refine hTake (i := 5) (v := ?v314) rfl (by kernel_rfl) (by kernel_rfl) (by kernel_rfl) (fun _ _ _ h => h) (Or.inl ⟨by rfl, ?y314⟩) hHeld ?r314
            case y314 =>
              intro w9 hSw
              (try dsimp only at hSw)
              go_simp
              try with_reducible rfl
            try simp only [Act.put, List.setIfInBounds_toArray, List.set_cons_zero, List.set_cons_succ]
            refine wpAnyH_done (by kernel_rfl) ?_ _
            clear hHeld
            go_wp2_with fail
            refine wp_region_held_drew (S := (fun u => u.cell? ⟨w.heap.size, 0, none⟩ = some (.bool nh) ∧ u.cell? ⟨w.heap.size, 1, none⟩ = some (.slice ah xh.length ch) ∧ u.cell? ⟨w.heap.size, 2, none⟩ = some (.slice bh yh.length dh) ∧ u.cell? ⟨g6, 0, none⟩ = some (.int .i64 x0) ∧ u.cell? ⟨g6, 1, none⟩ = some (.int .i64 y0) ∧ u.cell? ⟨g7, 0, none⟩ = some (.int .i64 x1) ∧ u.cell? ⟨g7, 1, none⟩ = some (.int .i64 y1))) (by kernel_rfl) ?_ (fun hHeld => ?_)
            · (try dsimp only)
              go_keep
            have hdr : Below u46.heap.size u46 u46.drew := Below.drew1
            generalize u46.drew = ud315 at hdr hHeld ⊢
            replace hX := hX.below hdr
            replace B2 := B2.below hdr
            replace B1 := B1.below hdr
            replace M6 := M6.below hdr
            replace M7 := M7.below hdr
            replace hbW : Below w.heap.size w ud315 := hbW.trans (hdr.mono hbW.size)
            replace hbR : Below U.heap.size U ud315 := hbR.trans (hdr.mono hbR.size)
            clear hdr
            clear p00 p01 p02 p10 p11 p20 p21
            obtain ⟨p00, p01, p02, _⟩ := B1.cells
            obtain ⟨p10, p11, _⟩ := M6.cells
            obtain ⟨p20, p21, _⟩ := M7.cells
            refine hTake (i := 0) (v := ?v316) rfl (by kernel_rfl) (by kernel_rfl) (by kernel_rfl) (fun _ _ _ h => h) (Or.inl ⟨by rfl, ?y316⟩) hHeld ?r316
            case y316 =>
              intro w9 hSw
              (try dsimp only at hSw)
              go_simp
              try with_reducible rfl
            try simp only [Act.put, List.setIfInBounds_toArray, List.set_cons_zero, List.set_cons_succ]
            refine hTake (i := 1) (v := ?v317) rfl (by kernel_rfl) (by kernel_rfl) (by kernel_rfl) (fun _ _ _ h => h) (Or.inl ⟨by rfl, ?y317⟩) hHeld ?r317
            case y317 =>
              intro w9 hSw
              (try dsimp only at hSw)
              go_simp
              try with_reducible rfl
            try simp only [Act.put, List.setIfInBounds_toArray, List.set_cons_zero, List.set_cons_succ]
            refine hTake (i := 2) (v := ?v318) rfl (by kernel_rfl) (by kernel_rfl) (by kernel_rfl) (fun _ _ _ h => h) (Or.inl ⟨by rfl, ?y318⟩) hHeld ?r318
            case y318 =>
              intro w9 hSw
              (try dsimp only at hSw)
              go_simp
              try with_reducible rfl
            try simp only [Act.put, List.setIfInBounds_toArray, List.set_cons_zero, List.set_cons_succ]
            refine hTake (i := 5) (v := ?v319) rfl (by kernel_rfl) (by kernel_rfl) (by kernel_rfl) (fun _ _ _ h => h) (Or.inl ⟨by rfl, ?y319⟩) hHeld ?r319
            case y319 =>
              intro w9 hSw
              (try dsimp only at hSw)
              go_simp
              try with_reducible rfl
            try simp only [Act.put, List.setIfInBounds_toArray, List.set_cons_zero, List.set_cons_succ]
            refine hTake (i := 6) (v := ?v320) rfl (by kernel_rfl) (by kernel_rfl) (by kernel_rfl) (fun _ _ _ h => h) (Or.inl ⟨by rfl, ?y320⟩) hHeld ?r320
            case y320 =>
              intro w9 hSw
              (try dsimp only at hSw)
              go_simp
              try with_reducible rfl
            try simp only [Act.put, List.setIfInBounds_toArray, List.set_cons_zero, List.set_cons_succ]
            refine hTake (i := 7) (v := ?v321) rfl (by kernel_rfl) (by kernel_rfl) (by kernel_rfl) (fun _ _ _ h => h) (Or.inl ⟨by rfl, ?y321⟩) hHeld ?r321
            case y321 =>
              intro w9 hSw
              (try dsimp only at hSw)
              go_simp
              try with_reducible rfl
            try simp only [Act.put, List.setIfInBounds_toArray, List.set_cons_zero, List.set_cons_succ]
            refine hTake (i := 8) (v := ?v322) rfl (by kernel_rfl) (by kernel_rfl) (by kernel_rfl) (fun _ _ _ h => h) (Or.inl ⟨by rfl, ?y322⟩) hHeld ?r322
            case y322 =>
              intro w9 hSw
              (try dsimp only at hSw)
              go_simp
              try with_reducible rfl
            try simp only [Act.put, List.setIfInBounds_toArray, List.set_cons_zero, List.set_cons_succ]
            refine hTake (i := 9) (v := ?v323) rfl (by kernel_rfl) (by kernel_rfl) (by kernel_rfl) (fun _ _ _ h => h) (Or.inl ⟨by rfl, ?y323⟩) hHeld ?r323
            case y323 =>
              intro w9 hSw
              (try dsimp only at hSw)
              go_simp
              try with_reducible rfl
            try simp only [Act.put, List.setIfInBounds_toArray, List.set_cons_zero, List.set_cons_succ]
            refine wpAnyH_ready (rs := [3, 15]) (by kernel_rfl) (by simp) (hCons (i := 3) rfl (by rfl) (fun K hK => ?_) (hCons (i := 15) rfl (by rfl) (fun K hK => ?_) AllReadyH.nil))
            · go_simp
              refine (sof14_any x0 _ (by omega) (by omega)).mono ?_
              rintro e u47 ⟨vf, rfl, hf1, hb47⟩
              replace hX := hX.below hb47
              replace B2 := B2.below hb47
              replace B1 := B1.below hb47
              replace M6 := M6.below hb47
              replace M7 := M7.below hb47
              replace hbW : Below w.heap.size w u47 := hbW.trans (hb47.mono hbW.size)
              replace hbR : Below U.heap.size U u47 := hbR.trans (hb47.mono hbR.size)
              clear hb47
              clear p00 p01 p02 p10 p11 p20 p21
              obtain ⟨p00, p01, p02, _⟩ := B1.cells
              obtain ⟨p10, p11, _⟩ := M6.cells
              obtain ⟨p20, p21, _⟩ := M7.cells
              go_wp2_with fail
              refine hK.out _ _ ?_ (fun hHeld => ?_)
              · (try dsimp only)
                exact ⟨p00, p01, p02, p10, p11, p20, p21⟩
              clear hK K
              try simp only [Act.put, List.setIfInBounds_toArray, List.set_cons_zero, List.set_cons_succ]
              refine wpAnyH_ready (rs := [4, 15]) (by kernel_rfl) (by simp) (hCons (i := 4) rfl (by rfl) (fun K hK => ?_) (hCons (i := 15) rfl (by rfl) (fun K hK => ?_) AllReadyH.nil))
              · go_simp
                refine (ssub_any (k + 3) 2 _ _ _ _ _ hX hf1.ct (by omega) (by decide) (by omega) (by decide)).mono ?_
                rintro e u48 ⟨vd, rfl, hd1, hb48⟩
                replace hX := hX.below hb48
                replace B2 := B2.below hb48
                replace hf1 := hf1.below hb48
                replace B1 := B1.below hb48
                replace M6 := M6.below hb48
                replace M7 := M7.below hb48
                replace hbW : Below w.heap.size w u48 := hbW.trans (hb48.mono hbW.size)
                replace hbR : Below U.heap.size U u48 := hbR.trans (hb48.mono hbR.size)
                clear hb48
                clear p00 p01 p02 p10 p11 p20 p21
                obtain ⟨p00, p01, p02, _⟩ := B1.cells
                obtain ⟨p10, p11, _⟩ := M6.cells
                obtain ⟨p20, p21, _⟩ := M7.cells
                go_wp2_with fail
                refine hK.out _ _ ?_ (fun hHeld => ?_)
                · (try dsimp only)
                  exact ⟨p00, p01, p02, p10, p11, p20, p21⟩
                clear hK K
                try simp only [Act.put, List.setIfInBounds_toArray, List.set_cons_zero, List.set_cons_succ]
                refine wpAnyH_ready (rs := [10, 15]) (by kernel_rfl) (by simp) (hCons (i := 10) rfl (by rfl) (fun K hK => ?_) (hCons (i := 15) rfl (by rfl) (fun K hK => ?_) AllReadyH.nil))
                · go_simp
                  refine (sof14_any (x1 - x0) _ (by omega) (by omega)).mono ?_
                  rintro e u49 ⟨vg, rfl, hg1, hb49⟩
                  replace hX := hX.below hb49
                  replace B2 := B2.below hb49
                  replace hf1 := hf1.below hb49
                  replace hd1 := hd1.below hb49
                  replace B1 := B1.below hb49
                  replace M6 := M6.below hb49
                  replace M7 := M7.below hb49
                  replace hbW : Below w.heap.size w u49 := hbW.trans (hb49.mono hbW.size)
                  replace hbR : Below U.heap.size U u49 := hbR.trans (hb49.mono hbR.size)
                  clear hb49
                  clear p00 p01 p02 p10 p11 p20 p21
                  obtain ⟨p00, p01, p02, _⟩ := B1.cells
                  obtain ⟨p10, p11, _⟩ := M6.cells
                  obtain ⟨p20, p21, _⟩ := M7.cells
                  go_wp2_with fail
                  refine hK.out _ _ ?_ (fun hHeld => ?_)
                  · (try dsimp only)
                    exact ⟨p00, p01, p02, p10, p11, p20, p21⟩
                  clear hK K
                  try simp only [Act.put, List.setIfInBounds_toArray, List.set_cons_zero, List.set_cons_succ]
                  refine wpAnyH_ready (rs := [11, 15]) (by kernel_rfl) (by simp) (hCons (i := 11) rfl (by rfl) (fun K hK => ?_) (hCons (i := 15) rfl (by rfl) (fun K hK => ?_) AllReadyH.nil))
                  · go_simp
                    refine (squo_any (k + 3 + 2 + 1) 2 _ _ _ _ _ hd1.ct hg1.ct (by omega) (by decide) (by omega) (by decide)).mono ?_
                    rintro e u50 ⟨v8, rfl, hF8, hb50⟩
                    replace hX := hX.below hb50
                    replace B2 := B2.below hb50
                    replace hf1 := hf1.below hb50
                    replace hd1 := hd1.below hb50
                    replace hg1 := hg1.below hb50
                    replace B1 := B1.below hb50
                    replace M6 := M6.below hb50
                    replace M7 := M7.below hb50
                    replace hbW : Below w.heap.size w u50 := hbW.trans (hb50.mono hbW.size)
                    replace hbR : Below U.heap.size U u50 := hbR.trans (hb50.mono hbR.size)
                    clear hb50
                    generalize decide (((x1 - x0 : Int) : Rat) / ((16384 : Int) : Rat) ≠ 0) = qb
                    have hM8 := hF8.ct
                    obtain ⟨n8, x8, y8, ⟨a8, c8, b8, d8, rfl, _, _⟩, _⟩ := hF8
                    clear p00 p01 p02 p10 p11 p20 p21
                    obtain ⟨p00, p01, p02, _⟩ := B1.cells
                    obtain ⟨p10, p11, _⟩ := M6.cells
                    obtain ⟨p20, p21, _⟩ := M7.cells
                    go_wp2_with fail
                    refine hK.out _ _ ?_ (fun hHeld => ?_)
                    · (try dsimp only)
                      exact ⟨p00, p01, p02, p10, p11, p20, p21⟩
                    clear hK K
                    try simp only [Act.put, List.setIfInBounds_toArray, List.set_cons_zero, List.set_cons_succ]
                    refine hTake (i := 12) (v := ?v324) rfl (by kernel_rfl) (by kernel_rfl) (by kernel_rfl) (fun _ _ _ h => h) (Or.inl ⟨by rfl, ?y324⟩) hHeld ?r324
                    case y324 =>
                      intro w9 hSw
                      (try dsimp only at hSw)
                      go_simp
                      try with_reducible rfl
                    try simp only [Act.put, List.setIfInBounds_toArray, List.set_cons_zero, List.set_cons_succ]
                    refine hTake (i := 13) (v := ?v325) rfl (by kernel_rfl) (by kernel_rfl) (by kernel_rfl) (fun _ _ _ h => h) (Or.inl ⟨by rfl, ?y325⟩) hHeld ?r325
                    case y325 =>
                      intro w9 hSw
                      (try dsimp only at hSw)
                      go_simp
                      try with_reducible rfl
                    try simp only [Act.put, List.setIfInBounds_toArray, List.set_cons_zero, List.set_cons_succ]
                    refine hTake (i := 14) (v := ?v326) rfl (by kernel_rfl) (by kernel_rfl) (by kernel_rfl) (fun _ _ _ h => h) (Or.inl ⟨by rfl, ?y326⟩) hHeld ?r326
                    case y326 =>
                      intro w9 hSw
                      (try dsimp only at hSw)
                      go_simp
                      try with_reducible rfl
                    try simp only [Act.put, List.setIfInBounds_toArray, List.set_cons_zero, List.set_cons_succ]
                    refine hCall (i := 15) rfl (by kernel_rfl) (by rfl) (fun K hK => ?_)
                    go_simp
                    obtain ⟨u51, hU, B8, hb9⟩ : ∃ U, U = u50.alloc (.cells #[.bool false, .slice none 0 0, .slice none 0 0] 34) ∧ Box 34 U u50.heap.size (.bool false) (.slice none 0 0) (.slice none 0 0) ∧ Below u50.heap.size u50 U := ⟨_, rfl, Box.new _ _ _ _ _, al1 _⟩
                    rw [← hU]
                    clear hU
                    have n81 := hbR.size
                    have n83 := M6.lt
                    have n84 := M7.lt
                    have n85 := B2.lt
                    replace hX := hX.below hb9
                    replace B2 := B2.below hb9
                    replace hf1 := hf1.below hb9
                    replace hd1 := hd1.below hb9
                    replace hg1 := hg1.below hb9
                    replace hM8 := hM8.below hb9
                    replace B1 := B1.below hb9
                    replace M6 := M6.below hb9
                    replace M7 := M7.below hb9
                    replace hbW : Below w.heap.size w u51 := hbW.trans (hb9.mono hbW.size)
                    replace hbR : Below U.heap.size U u51 := hbR.trans (hb9.mono hbR.size)
                    clear hb9
                    generalize u50.heap.size = g8 at B8 n81 n83 n84 n85 ⊢
                    clear p00 p01 p02 p10 p11 p20 p21
                    obtain ⟨p00, p01, p02, _⟩ := B1.cells
                    obtain ⟨p10, p11, _⟩ := M6.cells
                    obtain ⟨p20, p21, _⟩ := M7.cells
                    obtain ⟨p30, p31, p32, _⟩ := B8.cells
                    refine hK.out _ _ ?_ (fun hHeld => ?_)
                    · (try dsimp only)
                      exact ⟨p00, p01, p02, p10, p11, p20, p21⟩
                    clear hK K
                    try simp only [Act.put, List.setIfInBounds_toArray, List.set_cons_zero, List.set_cons_succ]
                    refine hCall (i := 16) rfl (by kernel_rfl) (by rfl) (fun K hK => ?_)
                    go_simp
                    obtain ⟨u52, hU, A8, hbU, hK9, ho⟩ := set3_world B8 (.bool n8) (.slice a8 x8.length c8) (.slice b8 y8.length d8)
                    rw [← hU]
                    clear hU
                    replace hbW := hbU _ _ hbW (by omega)
                    replace hbR := hbU _ _ hbR (by omega)
                    replace hM8 := hM8.keep hK9
                    replace B1 := B1.other ho (by omega)
                    replace B2 := B2.other ho (by omega)
                    replace M6 := M6.other ho (by omega)
                    replace M7 := M7.other ho (by omega)
                    clear hbU hK9 ho hX
                    have hX := HXU.out.below hbR
                    clear p00 p01 p02 p10 p11 p20 p21 p30 p31 p32
                    obtain ⟨p00, p01, p02, _⟩ := B1.cells
                    obtain ⟨p10, p11, _⟩ := M6.cells
                    obtain ⟨p20, p21, _⟩ := M7.cells
                    obtain ⟨p30, p31, p32, _⟩ := A8.cells
                    refine hK.out _ _ ?_ (fun hHeld => ?_)
                    · (try dsimp only)
                      exact ⟨p00, p01, p02, p10, p11, p20, p21⟩
                    clear hK K
                    try simp only [Act.put, List.setIfInBounds_toArray, List.set_cons_zero, List.set_cons_succ]
                    refine hTake (i := 17) (v := ?v327) rfl (by kernel_rfl) (by kernel_rfl) (by kernel_rfl) (fun _ _ _ h => h) (Or.inl ⟨by rfl, ?y327⟩) hHeld ?r327
                    case y327 =>
                      intro w9 hSw
                      (try dsimp only at hSw)
                      go_simp
                      try with_reducible rfl
                    try simp only [Act.put, List.setIfInBounds_toArray, List.set_cons_zero, List.set_cons_succ]
                    refine wpAnyH_done (by kernel_rfl) ?_ _
                    clear hHeld
                    go_wp2_with fail
                    refine wp_region_held_drew (S := (fun u => u.cell? ⟨w.heap.size, 0, none⟩ = some (.bool nh) ∧ u.cell? ⟨w.heap.size, 1, none⟩ = some (.slice ah xh.length ch) ∧ u.cell? ⟨w.heap.size, 2, none⟩ = some (.slice bh yh.length dh) ∧ u.cell? ⟨g6, 0, none⟩ = some (.int .i64 x0) ∧ u.cell? ⟨g6, 1, none⟩ = some (.int .i64 y0) ∧ u.cell? ⟨g7, 0, none⟩ = some (.int .i64 x1) ∧ u.cell? ⟨g7, 1, none⟩ = some (.int .i64 y1) ∧ u.cell? ⟨g8, 0, none⟩ = some (.bool n8) ∧ u.cell? ⟨g8, 1, none⟩ = some (.slice a8 x8.length c8) ∧ u.cell? ⟨g8, 2, none⟩ = some (.slice b8 y8.length d8))) (by kernel_rfl) ?_ (fun hHeld => ?_)
                    · (try dsimp only)
                      go_keep
                    have hdr : Below u52.heap.size u52 u52.drew := Below.drew1
                    generalize u52.drew = ud328 at hdr hHeld ⊢
                    replace hX := hX.below hdr
                    replace B2 := B2.below hdr
                    replace hM8 := hM8.below hdr
                    replace B1 := B1.below hdr
                    replace M6 := M6.below hdr
                    replace M7 := M7.below hdr
                    replace A8 := A8.below hdr
                    replace hbW : Below w.heap.size w ud328 := hbW.trans (hdr.mono hbW.size)
                    replace hbR : Below U.heap.size U ud328 := hbR.trans (hdr.mono hbR.size)
                    clear hdr
                    clear p00 p01 p02 p10 p11 p20 p21 p30 p31 p32
                    obtain ⟨p00, p01, p02, _⟩ := B1.cells
                    obtain ⟨p10, p11, _⟩ := M6.cells
                    obtain ⟨p20, p21, _⟩ := M7.cells
                    obtain ⟨p30, p31, p32, _⟩ := A8.cells
                    refine hTake (i := 0) (v := ?v329) rfl (by kernel_rfl) (by kernel_rfl) (by kernel_rfl) (fun _ _ _ h => h) (Or.inl ⟨by rfl, ?y329⟩) hHeld ?r329
                    case y329 =>
                      intro w9 hSw
                      (try dsimp only at hSw)
                      go_simp
                      try with_reducible rfl
                    try simp only [Act.put, List.setIfInBounds_toArray, List.set_cons_zero, List.set_cons_succ]
                    refine hTake (i := 1) (v := ?v330) rfl (by kernel_rfl) (by kernel_rfl) (by kernel_rfl) (fun _ _ _ h => h) (Or.inl ⟨by rfl, ?y330⟩) hHeld ?r330
                    case y330 =>
                      intro w9 hSw
                      (try dsimp only at hSw)
                      go_simp
                      try with_reducible rfl
                    try simp only [Act.put, List.setIfInBounds_toArray, List.set_cons_zero, List.set_cons_succ]
                    refine hTake (i := 3) (v := ?v331) rfl (by kernel_rfl) (by kernel_rfl) (by kernel_rfl) (fun _ _ _ h => h) (Or.inl ⟨by rfl, ?y331⟩) hHeld ?r331
                    case y331 =>
                      intro w9 hSw
                      (try dsimp only at hSw)
                      go_simp
                      try with_reducible rfl
                    try simp only [Act.put, List.setIfInBounds_toArray, List.set_cons_zero, List.set_cons_succ]
                    refine hTake (i := 4) (v := ?v332) rfl (by kernel_rfl) (by kernel_rfl) (by kernel_rfl) (fun _ _ _ h => h) (Or.inl ⟨by rfl, ?y332⟩) hHeld ?r332
                    case y332 =>
                      intro w9 hSw
                      (try dsimp only at hSw)
                      go_simp
                      try with_reducible rfl
                    try simp only [Act.put, List.setIfInBounds_toArray, List.set_cons_zero, List.set_cons_succ]
                    refine hTake (i := 5) (v := ?v333) rfl (by kernel_rfl) (by kernel_rfl) (by kernel_rfl) (fun _ _ _ h => h) (Or.inl ⟨by rfl, ?y333⟩) hHeld ?r333
                    case y333 =>
                      intro w9 hSw
                      (try dsimp only at hSw)
                      go_simp
                      try with_reducible rfl
                    try simp only [Act.put, List.setIfInBounds_toArray, List.set_cons_zero, List.set_cons_succ]
                    refine hTake (i := 6) (v := ?v334) rfl (by kernel_rfl) (by kernel_rfl) (by kernel_rfl) (fun _ _ _ h => h) (Or.inl ⟨by rfl, ?y334⟩) hHeld ?r334
                    case y334 =>
                      intro w9 hSw
                      (try dsimp only at hSw)
                      go_simp
                      try with_reducible rfl
                    try simp only [Act.put, List.setIfInBounds_toArray, List.set_cons_zero, List.set_cons_succ]
                    refine hTake (i := 7) (v := ?v335) rfl (by kernel_rfl) (by kernel_rfl) (by kernel_rfl) (fun _ _ _ h => h) (Or.inl ⟨by rfl, ?y335⟩) hHeld ?r335
                    case y335 =>
                      intro w9 hSw
                      (try dsimp only at hSw)
                      go_simp
                      try with_reducible rfl
                    try simp only [Act.put, List.setIfInBounds_toArray, List.set_cons_zero, List.set_cons_succ]
                    refine hTake (i := 8) (v := ?v336) rfl (by kernel_rfl) (by kernel_rfl) (by kernel_rfl) (fun _ _ _ h => h) (Or.inl ⟨by rfl, ?y336⟩) hHeld ?r336
                    case y336 =>
                      intro w9 hSw
                      (try dsimp only at hSw)
                      go_simp
                      try with_reducible rfl
                    try simp only [Act.put, List.setIfInBounds_toArray, List.set_cons_zero, List.set_cons_succ]
                    refine hCall (i := 2) rfl (by kernel_rfl) (by rfl) (fun K hK => ?_)
                    go_simp
                    refine (sof14_any y0 _ (by omega) (by omega)).mono ?_
                    rintro e u53 ⟨vt, rfl, hT1, hb53⟩
                    replace hX := hX.below hb53
                    replace B2 := B2.below hb53
                    replace hM8 := hM8.below hb53
                    replace B1 := B1.below hb53
                    replace M6 := M6.below hb53
                    replace M7 := M7.below hb53
                    replace A8 := A8.below hb53
                    replace hbW : Below w.heap.size w u53 := hbW.trans (hb53.mono hbW.size)
                    replace hbR : Below U.heap.size U u53 := hbR.trans (hb53.mono hbR.size)
                    clear hb53
                    clear p00 p01 p02 p10 p11 p20 p21 p30 p31 p32
                    obtain ⟨p00, p01, p02, _⟩ := B1.cells
                    obtain ⟨p10, p11, _⟩ := M6.cells
                    obtain ⟨p20, p21, _⟩ := M7.cells
                    obtain ⟨p30, p31, p32, _⟩ := A8.cells
                    go_wp2_with fail
                    refine hK.out _ _ ?_ (fun hHeld => ?_)
                    · (try dsimp only)
                      exact ⟨p00, p01, p02, p10, p11, p20, p21, p30, p31, p32⟩
                    clear hK K
                    try simp only [Act.put, List.setIfInBounds_toArray, List.set_cons_zero, List.set_cons_succ]
                    refine hCall (i := 9) rfl (by kernel_rfl) (by rfl) (fun K hK => ?_)
                    go_simp
                    refine (sof14_any (y1 - y0) _ (by omega) (by omega)).mono ?_
                    rintro e u54 ⟨ve, rfl, hE1, hb54⟩
                    replace hX := hX.below hb54
                    replace B2 := B2.below hb54
                    replace hM8 := hM8.below hb54
                    replace hT1 := hT1.below hb54
                    replace B1 := B1.below hb54
                    replace M6 := M6.below hb54
                    replace M7 := M7.below hb54
                    replace A8 := A8.below hb54
                    replace hbW : Below w.heap.size w u54 := hbW.trans (hb54.mono hbW.size)
                    replace hbR : Below U.heap.size U u54 := hbR.trans (hb54.mono hbR.size)
                    clear hb54
                    clear p00 p01 p02 p10 p11 p20 p21 p30 p31 p32
                    obtain ⟨p00, p01, p02, _⟩ := B1.cells
                    obtain ⟨p10, p11, _⟩ := M6.cells
                    obtain ⟨p20, p21, _⟩ := M7.cells
                    obtain ⟨p30, p31, p32, _⟩ := A8.cells
                    go_wp2_with fail
                    refine hK.out _ _ ?_ (fun hHeld => ?_)
                    · (try dsimp only)
                      exact ⟨p00, p01, p02, p10, p11, p20, p21, p30, p31, p32⟩
                    clear hK K
                    try simp only [Act.put, List.setIfInBounds_toArray, List.set_cons_zero, List.set_cons_succ]
                    refine hCall (i := 10) rfl (by kernel_rfl) (by rfl) (fun K hK => ?_)
                    go_simp
                    refine (smul_any (k + 3 + 2 + 1 + 2) 2 _ _ _ _ _ hM8 hE1.ct (by omega) (by decide) (by omega) (by decide)).mono ?_
                    rintro e u55 ⟨vy, rfl, hY1, hb55⟩
                    replace hX := hX.below hb55
                    replace B2 := B2.below hb55
                    replace hM8 := hM8.below hb55
                    replace hT1 := hT1.below hb55
                    replace hE1 := hE1.below hb55
                    replace B1 := B1.below hb55
                    replace M6 := M6.below hb55
                    replace M7 := M7.below hb55
                    replace A8 := A8.below hb55
                    replace hbW : Below w.heap.size w u55 := hbW.trans (hb55.mono hbW.size)
                    replace hbR : Below U.heap.size U u55 := hbR.trans (hb55.mono hbR.size)
                    clear hb55
                    clear p00 p01 p02 p10 p11 p20 p21 p30 p31 p32
                    obtain ⟨p00, p01, p02, _⟩ := B1.cells
                    obtain ⟨p10, p11, _⟩ := M6.cells
                    obtain ⟨p20, p21, _⟩ := M7.cells
                    obtain ⟨p30, p31, p32, _⟩ := A8.cells
                    go_wp2_with fail
                    refine hK.out _ _ ?_ (fun hHeld => ?_)
                    · (try dsimp only)
                      exact ⟨p00, p01, p02, p10, p11, p20, p21, p30, p31, p32⟩
                    clear hK K
                    try simp only [Act.put, List.setIfInBounds_toArray, List.set_cons_zero, List.set_cons_succ]
                    refine hCall (i := 11) rfl (by kernel_rfl) (by rfl) (fun K hK => ?_)
                    go_simp
                    refine (sadd_any 2 (k + 3 + 2 + 1 + 2 + 2) _ _ _ _ _ hT1.ct hY1.ct (by decide) (by omega) (by decide) (by omega)).mono ?_
                    rintro e u56 ⟨vr, rfl, hR, hb56⟩
                    replace hX := hX.below hb56
                    replace B2 := B2.below hb56
                    replace hM8 := hM8.below hb56
                    replace hT1 := hT1.below hb56
                    replace hE1 := hE1.below hb56
                    replace hY1 := hY1.below hb56
                    replace B1 := B1.below hb56
                    replace M6 := M6.below hb56
                    replace M7 := M7.below hb56
                    replace A8 := A8.below hb56
                    replace hbW : Below w.heap.size w u56 := hbW.trans (hb56.mono hbW.size)
                    replace hbR : Below U.heap.size U u56 := hbR.trans (hb56.mono hbR.size)
                    clear hb56
                    replace hR := (hR.eq HVAL.out).le (show 2 + (k + 3 + 2 + 1 + 2 + 2) + 1 ≤ k + 13 by omega)
                    clear p00 p01 p02 p10 p11 p20 p21 p30 p31 p32
                    obtain ⟨p00, p01, p02, _⟩ := B1.cells
                    obtain ⟨p10, p11, _⟩ := M6.cells
                    obtain ⟨p20, p21, _⟩ := M7.cells
                    obtain ⟨p30, p31, p32, _⟩ := A8.cells
                    go_wp2_with fail
                    refine hK.out _ _ ?_ (fun hHeld => ?_)
                    · (try dsimp only)
                      exact ⟨p00, p01, p02, p10, p11, p20, p21, p30, p31, p32⟩
                    clear hK K
                    try simp only [Act.put, List.setIfInBounds_toArray, List.set_cons_zero, List.set_cons_succ]
                    refine hCall (i := 12) rfl (by kernel_rfl) (by rfl) (fun K hK => ?_)
                    go_simp
                    obtain ⟨q1, q2, q3, q4, q5, q6⟩ := B2.cells
                    obtain ⟨nr, xr, yr, ⟨ar, cr, br, dr, rfl, hxr, hyr⟩, hFr⟩ := hR
                    go_simp
                    obtain ⟨u57, hU, A2, hbU, hK9, ho⟩ := set3_world B2 (.bool nr) (.slice ar xr.length cr) (.slice br yr.length dr)
                    rw [← hU]
                    clear hU q1 q2 q3 q4 q5 q6
                    replace hbW := hbU _ _ hbW (by omega)
                    replace hxr := hK9 _ _ _ hxr
                    replace hyr := hK9 _ _ _ hyr
                    replace B1 := B1.other ho (by omega)
                    replace M6 := M6.other ho (by omega)
                    replace M7 := M7.other ho (by omega)
                    replace A8 := A8.other ho (by omega)
                    clear hbU hK9 ho
                    clear p00 p01 p02 p10 p11 p20 p21 p30 p31 p32
                    obtain ⟨p00, p01, p02, _⟩ := B1.cells
                    obtain ⟨p10, p11, _⟩ := M6.cells
                    obtain ⟨p20, p21, _⟩ := M7.cells
                    obtain ⟨p30, p31, p32, _⟩ := A8.cells
                    refine hK.out _ _ ?_ (fun hHeld => ?_)
                    · (try dsimp only)
                      exact ⟨p00, p01, p02, p10, p11, p20, p21, p30, p31, p32⟩
                    clear hK K
                    try simp only [Act.put, List.setIfInBounds_toArray, List.set_cons_zero, List.set_cons_succ]
                    refine wpAnyH_done (by kernel_rfl) ?_ _
                    go_wp2
                    refine bodyPost_ret (by obtain ⟨r1, r2, r3, _⟩ := A2.cells; simp [results, Tryz.results15, go_sem, r1, r2, r3]) rfl ⟨_, rfl, ⟨_, _, _, ⟨_, _, _, _, rfl, hxr, hyr⟩, hFr⟩, hbW⟩
                  · go_simp
                    obtain ⟨u50, hU, B8, hb9⟩ : ∃ U, U = u49.alloc (.cells #[.bool false, .slice none 0 0, .slice none 0 0] 34) ∧ Box 34 U u49.heap.size (.bool false) (.slice none 0 0) (.slice none 0 0) ∧ Below u49.heap.size u49 U := ⟨_, rfl, Box.new _ _ _ _ _, al1 _⟩
                    rw [← hU]
                    clear hU
                    have n81 := hbR.size
                    have n83 := M6.lt
                    have n84 := M7.lt
                    have n85 := B2.lt
                    replace hX := hX.below hb9
                    replace B2 := B2.below hb9
                    replace hf1 := hf1.below hb9
                    replace hd1 := hd1.below hb9
                    replace hg1 := hg1.below hb9
                    replace B1 := B1.below hb9
                    replace M6 := M6.below hb9
                    replace M7 := M7.below hb9
                    replace hbW : Below w.heap.size w u50 := hbW.trans (hb9.mono hbW.size)
                    replace hbR : Below U.heap.size U u50 := hbR.trans (hb9.mono hbR.size)
                    clear hb9
                    generalize u49.heap.size = g8 at B8 n81 n83 n84 n85 ⊢
                    clear p00 p01 p02 p10 p11 p20 p21
                    obtain ⟨p00, p01, p02, _⟩ := B1.cells
                    obtain ⟨p10, p11, _⟩ := M6.cells
                    obtain ⟨p20, p21, _⟩ := M7.cells
                    obtain ⟨p30, p31, p32, _⟩ := B8.cells
                    refine hK.out _ _ ?_ (fun hHeld => ?_)
                    · (try dsimp only)
                      exact ⟨p00, p01, p02, p10, p11, p20, p21⟩
                    clear hK K
                    try simp only [Act.put, List.setIfInBounds_toArray, List.set_cons_zero, List.set_cons_succ]
                    refine hCall (i := 11) rfl (by kernel_rfl) (by rfl) (fun K hK => ?_)
                    go_simp
                    refine (squo_any (k + 3 + 2 + 1) 2 _ _ _ _ _ hd1.ct hg1.ct (by omega) (by decide) (by omega) (by decide)).mono ?_
                    rintro e u51 ⟨v8, rfl, hF8, hb51⟩
                    replace hX := hX.below hb51
                    replace B2 := B2.below hb51
                    replace hf1 := hf1.below hb51
                    replace hd1 := hd1.below hb51
                    replace hg1 := hg1.below hb51
                    replace B1 := B1.below hb51
                    replace M6 := M6.below hb51
                    replace M7 := M7.below hb51
                    replace B8 := B8.below hb51
                    replace hbW : Below w.heap.size w u51 := hbW.trans (hb51.mono hbW.size)
                    replace hbR : Below U.heap.size U u51 := hbR.trans (hb51.mono hbR.size)
                    clear hb51
                    generalize decide (((x1 - x0 : Int) : Rat) / ((16384 : Int) : Rat) ≠ 0) = qb
                    have hM8 := hF8.ct
                    obtain ⟨n8, x8, y8, ⟨a8, c8, b8, d8, rfl, _, _⟩, _⟩ := hF8
                    clear p00 p01 p02 p10 p11 p20 p21 p30 p31 p32
                    obtain ⟨p00, p01, p02, _⟩ := B1.cells
                    obtain ⟨p10, p11, _⟩ := M6.cells
                    obtain ⟨p20, p21, _⟩ := M7.cells
                    obtain ⟨p30, p31, p32, _⟩ := B8.cells
                    go_wp2_with fail
                    refine hK.out _ _ ?_ (fun hHeld => ?_)
                    · (try dsimp only)
                      exact ⟨p00, p01, p02, p10, p11, p20, p21⟩
                    clear hK K
                    try simp only [Act.put, List.setIfInBounds_toArray, List.set_cons_zero, List.set_cons_succ]
                    refine hTake (i := 12) (v := ?v337) rfl (by kernel_rfl) (by kernel_rfl) (by kernel_rfl) (fun _ _ _ h => h) (Or.inl ⟨by rfl, ?y337⟩) hHeld ?r337
                    case y337 =>
                      intro w9 hSw
                      (try dsimp only at hSw)
                      go_simp
                      try with_reducible rfl
                    try simp only [Act.put, List.setIfInBounds_toArray, List.set_cons_zero, List.set_cons_succ]
                    refine hTake (i := 13) (v := ?v338) rfl (by kernel_rfl) (by kernel_rfl) (by kernel_rfl) (fun _ _ _ h => h) (Or.inl ⟨by rfl, ?y338⟩) hHeld ?r338
                    case y338 =>
                      intro w9 hSw
                      (try dsimp only at hSw)
                      go_simp
                      try with_reducible rfl
                    try simp only [Act.put, List.setIfInBounds_toArray, List.set_cons_zero, List.set_cons_succ]
                    refine hTake (i := 14) (v := ?v339) rfl (by kernel_rfl) (by kernel_rfl) (by kernel_rfl) (fun _ _ _ h => h) (Or.inl ⟨by rfl, ?y339⟩) hHeld ?r339
                    case y339 =>
                      intro w9 hSw
                      (try dsimp only at hSw)
                      go_simp
                      try with_reducible rfl
                    try simp only [Act.put, List.setIfInBounds_toArray, List.set_cons_zero, List.set_cons_succ]
                    refine hCall (i := 16) rfl (by kernel_rfl) (by rfl) (fun K hK => ?_)
                    go_simp
                    obtain ⟨u52, hU, A8, hbU, hK9, ho⟩ := set3_world B8 (.bool n8) (.slice a8 x8.length c8) (.slice b8 y8.length d8)
                    rw [← hU]
                    clear hU
                    replace hbW := hbU _ _ hbW (by omega)
                    replace hbR := hbU _ _ hbR (by omega)
                    replace hM8 := hM8.keep hK9
                    replace B1 := B1.other ho (by omega)
                    replace B2 := B2.other ho (by omega)
                    replace M6 := M6.other ho (by omega)
                    replace M7 := M7.other ho (by omega)
                    clear hbU hK9 ho hX
                    have hX := HXU.out.below hbR
                    clear p00 p01 p02 p10 p11 p20 p21 p30 p31 p32
                    obtain ⟨p00, p01, p02, _⟩ := B1.cells
                    obtain ⟨p10, p11, _⟩ := M6.cells
                    obtain ⟨p20, p21, _⟩ := M7.cells
                    obtain ⟨p30, p31, p32, _⟩ := A8.cells
                    refine hK.out _ _ ?_ (fun hHeld => ?_)
                    · (try dsimp only)
                      exact ⟨p00, p01, p02, p10, p11, p20, p21⟩
                    clear hK K
                    try simp only [Act.put, List.setIfInBounds_toArray, List.set_cons_zero, List.set_cons_succ]
                    refine hTake (i := 17) (v := ?v340) rfl (by kernel_rfl) (by kernel_rfl) (by kernel_rfl) (fun _ _ _ h => h) (Or.inl ⟨by rfl, ?y340⟩) hHeld ?r340
                    case y340 =>
                      intro w9 hSw
                      (try dsimp only at hSw)
                      go_simp
                      try with_reducible rfl
                    try simp only [Act.put, List.setIfInBounds_toArray, List.set_cons_zero, List.set_cons_succ]
                    refine wpAnyH_done (by kernel_rfl) ?_ _
                    clear hHeld
                    go_wp2_with fail
                    refine wp_region_held_drew (S := (fun u => u.cell? ⟨w.heap.size, 0, none⟩ = some (.bool nh) ∧ u.cell? ⟨w.heap.size, 1, none⟩ = some (.slice ah xh.length ch) ∧ u.cell? ⟨w.heap.size, 2, none⟩ = some (.slice bh yh.length dh) ∧ u.cell? ⟨g6, 0, none⟩ = some (.int .i64 x0) ∧ u.cell? ⟨g6, 1, none⟩ = some (.int .i64 y0) ∧ u.cell? ⟨g7, 0, none⟩ = some (.int .i64 x1) ∧ u.cell? ⟨g7, 1, none⟩ = some (.int .i64 y1) ∧ u.cell? ⟨g8, 0, none⟩ = some (.bool n8) ∧ u.cell? ⟨g8, 1, none⟩ = some (.slice a8 x8.length c8) ∧ u.cell? ⟨g8, 2, none⟩ = some (.slice b8 y8.length d8))) (by kernel_rfl) ?_ (fun hHeld => ?_)
                    · (try dsimp only)
                      go_keep
                    have hdr : Below u52.heap.size u52 u52.drew := Below.drew1
                    generalize u52.drew = ud341 at hdr hHeld ⊢
                    replace hX := hX.below hdr
                    replace B2 := B2.below hdr
                    replace hM8 := hM8.below hdr
                    replace B1 := B1.below hdr
                    replace M6 := M6.below hdr
                    replace M7 := M7.below hdr
                    replace A8 := A8.below hdr
                    replace hbW : Below w.heap.size w ud341 := hbW.trans (hdr.mono hbW.size)
                    replace hbR : Below U.heap.size U ud341 := hbR.trans (hdr.mono hbR.size)
                    clear hdr
                    clear p00 p01 p02 p10 p11 p20 p21 p30 p31 p32
                    obtain ⟨p00, p01, p02, _⟩ := B1.cells
                    obtain ⟨p10, p11, _⟩ := M6.cells
                    obtain ⟨p20, p21, _⟩ := M7.cells
                    obtain ⟨p30, p31, p32, _⟩ := A8.cells
                    refine hTake (i := 0) (v := ?v342) rfl (by kernel_rfl) (by kernel_rfl) (by kernel_rfl) (fun _ _ _ h => h) (Or.inl ⟨by rfl, ?y342⟩) hHeld ?r342
                    case y342 =>
                      intro w9 hSw
                      (try dsimp only at hSw)
                      go_simp
                      try with_reducible rfl
                    try simp only [Act.put, List.setIfInBounds_toArray, List.set_cons_zero, List.set_cons_succ]
                    refine hTake (i := 1) (v := ?v343) rfl (by kernel_rfl) (by kernel_rfl) (by kernel_rfl) (fun _ _ _ h => h) (Or.inl ⟨by rfl, ?y343⟩) hHeld ?r343
                    case y343 =>
                      intro w9 hSw
                      (try dsimp only at hSw)
                      go_simp
                      try with_reducible rfl
                    try simp only [Act.put, List.setIfInBounds_toArray, List.set_cons_zero, List.set_cons_succ]
                    refine hTake (i := 3) (v := ?v344) rfl (by kernel_rfl) (by kernel_rfl) (by kernel_rfl) (fun _ _ _ h => h) (Or.inl ⟨by rfl, ?y344⟩) hHeld ?r344
                    case y344 =>
                      intro w9 hSw
                      (try dsimp only at hSw)
                      go_simp
                      try with_reducible rfl
                    try simp only [Act.put, List.setIfInBounds_toArray, List.set_cons_zero, List.set_cons_succ]
                    refine hTake (i := 4) (v := ?v345) rfl (by kernel_rfl) (by kernel_rfl) (by kernel_rfl) (fun _ _ _ h => h) (Or.inl ⟨by rfl, ?y345⟩) hHeld ?r345
                    case y345 =>
                      intro w9 hSw
                      (try dsimp only at hSw)
                      go_simp
                      try with_reducible rfl
                    try simp only [Act.put, List.setIfInBounds_toArray, List.set_cons_zero, List.set_cons_succ]
                    refine hTake (i := 5) (v := ?v346) rfl (by kernel_rfl) (by kernel_rfl) (by kernel_rfl) (fun _ _ _ h => h) (Or.inl ⟨by rfl, ?y346⟩) hHeld ?r346
                    case y346 =>
                      intro w9 hSw
                      (try dsimp only at hSw)
                      go_simp
                      try with_reducible rfl
                    try simp only [Act.put, List.setIfInBounds_toArray, List.set_cons_zero, List.set_cons_succ]
                    refine hTake (i := 6) (v := ?v347) rfl (by kernel_rfl) (by kernel_rfl) (by kernel_rfl) (fun _ _ _ h => h) (Or.inl ⟨by rfl, ?y347⟩) hHeld ?r347
                    case y347 =>
                      intro w9 hSw
                      (try dsimp only at hSw)
                      go_simp
                      try with_reducible rfl
                    try simp only [Act.put, List.setIfInBounds_toArray, List.set_cons_zero, List.set_cons_succ]
                    refine hTake (i := 7) (v := ?v348) rfl (by kernel_rfl) (by kernel_rfl) (by kernel_rfl) (fun _ _ _ h => h) (Or.inl ⟨by rfl, ?y348⟩) hHeld ?r348
                    case y348 =>
                      intro w9 hSw
                      (try dsimp only at hSw)
                      go_simp
                      try with_reducible rfl
                    try simp only [Act.put, List.setIfInBounds_toArray, List.set_cons_zero, List.set_cons_succ]
                    refine hTake (i := 8) (v := ?v349) rfl (by kernel_rfl) (by kernel_rfl) (by kernel_rfl) (fun _ _ _ h => h) (Or.inl ⟨by rfl, ?y349⟩) hHeld ?r349
                    case y349 =>
                      intro w9 hSw
                      (try dsimp only at hSw)
                      go_simp
                      try with_reducible rfl
                    try simp only [Act.put, List.setIfInBounds_toArray, List.set_cons_zero, List.set_cons_succ]
                    refine hCall (i := 2) rfl (by kernel_rfl) (by rfl) (fun K hK => ?_)
                    go_simp
                    refine (sof14_any y0 _ (by omega) (by omega)).mono ?_
                    rintro e u53 ⟨vt, rfl, hT1, hb53⟩
                    replace hX := hX.below hb53
                    replace B2 := B2.below hb53
                    replace hM8 := hM8.below hb53
                    replace B1 := B1.below hb53
                    replace M6 := M6.below hb53
                    replace M7 := M7.below hb53
                    replace A8 := A8.below hb53
                    replace hbW : Below w.heap.size w u53 := hbW.trans (hb53.mono hbW.size)
                    replace hbR : Below U.heap.size U u53 := hbR.trans (hb53.mono hbR.size)
                    clear hb53
                    clear p00 p01 p02 p10 p11 p20 p21 p30 p31 p32
                    obtain ⟨p00, p01, p02, _⟩ := B1.cells
                    obtain ⟨p10, p11, _⟩ := M6.cells
                    obtain ⟨p20, p21, _⟩ := M7.cells
                    obtain ⟨p30, p31, p32, _⟩ := A8.cells
                    go_wp2_with fail
                    refine hK.out _ _ ?_ (fun hHeld => ?_)
                    · (try dsimp only)
                      exact ⟨p00, p01, p02, p10, p11, p20, p21, p30, p31, p32⟩
                    clear hK K
                    try simp only [Act.put, List.setIfInBounds_toArray, List.set_cons_zero, List.set_cons_succ]
                    refine hCall (i := 9) rfl (by kernel_rfl) (by rfl) (fun K hK => ?_)
                    go_simp
                    refine (sof14_any (y1 - y0) _ (by omega) (by omega)).mono ?_
                    rintro e u54 ⟨ve, rfl, hE1, hb54⟩
                    replace hX := hX.below hb54
                    replace B2 := B2.below hb54
                    replace hM8 := hM8.below hb54
                    replace hT1 := hT1.below hb54
                    replace B1 := B1.below hb54
                    replace M6 := M6.below hb54
                    replace M7 := M7.below hb54
                    replace A8 := A8.below hb54
                    replace hbW : Below w.heap.size w u54 := hbW.trans (hb54.mono hbW.size)
                    replace hbR : Below U.heap.size U u54 := hbR.trans (hb54.mono hbR.size)
                    clear hb54
                    clear p00 p01 p02 p10 p11 p20 p21 p30 p31 p32
                    obtain ⟨p00, p01, p02, _⟩ := B1.cells
                    obtain ⟨p10, p11, _⟩ := M6.cells
                    obtain ⟨p20, p21, _⟩ := M7.cells
                    obtain ⟨p30, p31, p32, _⟩ := A8.cells
                    go_wp2_with fail
                    refine hK.out _ _ ?_ (fun hHeld => ?_)
                    · (try dsimp only)
                      exact ⟨p00, p01, p02, p10, p11, p20, p21, p30, p31, p32⟩
                    clear hK K
                    try simp only [Act.put, List.setIfInBounds_toArray, List.set_cons_zero, List.set_cons_succ]
                    refine hCall (i := 10) rfl (by kernel_rfl) (by rfl) (fun K hK => ?_)
                    go_simp
                    refine (smul_any (k + 3 + 2 + 1 + 2) 2 _ _ _ _ _ hM8 hE1.ct (by omega) (by decide) (by omega) (by decide)).mono ?_
                    rintro e u55 ⟨vy, rfl, hY1, hb55⟩
                    replace hX := hX.below hb55
                    replace B2 := B2.below hb55
                    replace hM8 := hM8.below hb55
                    replace hT1 := hT1.below hb55
                    replace hE1 := hE1.below hb55
                    replace B1 := B1.below hb55
                    replace M6 := M6.below hb55
                    replace M7 := M7.below hb55
                    replace A8 := A8.below hb55
                    replace hbW : Below w.heap.size w u55 := hbW.trans (hb55.mono hbW.size)
                    replace hbR : Below U.heap.size U u55 := hbR.trans (hb55.mono hbR.size)
                    clear hb55
                    clear p00 p01 p02 p10 p11 p20 p21 p30 p31 p32
                    obtain ⟨p00, p01, p02, _⟩ := B1.cells
                    obtain ⟨p10, p11, _⟩ := M6.cells
                    obtain ⟨p20, p21, _⟩ := M7.cells
                    obtain ⟨p30, p31, p32, _⟩ := A8.cells
                    go_wp2_with fail
                    refine hK.out _ _ ?_ (fun hHeld => ?_)
                    · (try dsimp only)
                      exact ⟨p00, p01, p02, p10, p11, p20, p21, p30, p31, p32⟩
                    clear hK K
                    try simp only [Act.put, List.setIfInBounds_toArray, List.set_cons_zero, List.set_cons_succ]
                    refine hCall (i := 11) rfl (by kernel_rfl) (by rfl) (fun K hK => ?_)
                    go_simp
                    refine (sadd_any 2 (k + 3 + 2 + 1 + 2 + 2) _ _ _ _ _ hT1.ct hY1.ct (by decide) (by omega) (by decide) (by omega)).mono ?_
                    rintro e u56 ⟨vr, rfl, hR, hb56⟩
                    replace hX := hX.below hb56
                    replace B2 := B2.below hb56
                    replace hM8 := hM8.below hb56
                    replace hT1 := hT1.below hb56
                    replace hE1 := hE1.below hb56
                    replace hY1 := hY1.below hb56
                    replace B1 := B1.below hb56
                    replace M6 := M6.below hb56
                    replace M7 := M7.below hb56
                    replace A8 := A8.below hb56
                    replace hbW : Below w.heap.size w u56 := hbW.trans (hb56.mono hbW.size)
                    replace hbR : Below U.heap.size U u56 := hbR.trans (hb56.mono hbR.size)
                    clear hb56
                    replace hR := (hR.eq HVAL.out).le (show 2 + (k + 3 + 2 + 1 + 2 + 2) + 1 ≤ k + 13 by omega)
                    clear p00 p01 p02 p10 p11 p20 p21 p30 p31 p32
                    obtain ⟨p00, p01, p02, _⟩ := B1.cells
                    obtain ⟨p10, p11, _⟩ := M6.cells
                    obtain ⟨p20, p21, _⟩ := M7.cells
                    obtain ⟨p30, p31, p32, _⟩ := A8.cells
                    go_wp2_with fail
                    refine hK.out _ _ ?_ (fun hHeld => ?_)
                    · (try dsimp only)
                      exact ⟨p00, p01, p02, p10, p11, p20, p21, p30, p31, p32⟩
                    clear hK K
                    try simp only [Act.put, List.setIfInBounds_toArray, List.set_cons_zero, List.set_cons_succ]
                    refine hCall (i := 12) rfl (by kernel_rfl) (by rfl) (fun K hK => ?_)
                    go_simp
                    obtain ⟨q1, q2, q3, q4, q5, q6⟩ := B2.cells
                    obtain ⟨nr, xr, yr, ⟨ar, cr, br, dr, rfl, hxr, hyr⟩, hFr⟩ := hR
                    go_simp
                    obtain ⟨u57, hU, A2, hbU, hK9, ho⟩ := set3_world B2 (.bool nr) (.slice ar xr.length cr) (.slice br yr.length dr)
                    rw [← hU]
                    clear hU q1 q2 q3 q4 q5 q6
                    replace hbW := hbU _ _ hbW (by omega)
                    replace hxr := hK9 _ _ _ hxr
                    replace hyr := hK9 _ _ _ hyr
                    replace B1 := B1.other ho (by omega)
                    replace M6 := M6.other ho (by omega)
                    replace M7 := M7.other ho (by omega)
                    replace A8 := A8.other ho (by omega)
                    clear hbU hK9 ho
                    clear p00 p01 p02 p10 p11 p20 p21 p30 p31 p32
                    obtain ⟨p00, p01, p02, _⟩ := B1.cells
                    obtain ⟨p10, p11, _⟩ := M6.cells
                    obtain ⟨p20, p21, _⟩ := M7.cells
                    obtain ⟨p30, p31, p32, _⟩ := A8.cells
                    refine hK.out _ _ ?_ (fun hHeld => ?_)
                    · (try dsimp only)
                      exact ⟨p00, p01, p02, p10, p11, p20, p21, p30, p31, p32⟩
                    clear hK K
                    try simp only [Act.put, List.setIfInBounds_toArray, List.set_cons_zero, List.set_cons_succ]
                    refine wpAnyH_done (by kernel_rfl) ?_ _
                    go_wp2
                    refine bodyPost_ret (by obtain ⟨r1, r2, r3, _⟩ := A2.cells; simp [results, Tryz.results15, go_sem, r1, r2, r3]) rfl ⟨_, rfl, ⟨_, _, _, ⟨_, _, _, _, rfl, hxr, hyr⟩, hFr⟩, hbW⟩
                · go_simp
                  obtain ⟨u49, hU, B8, hb9⟩ : ∃ U, U = u48.alloc (.cells #[.bool false, .slice none 0 0, .slice none 0 0] 34) ∧ Box 34 U u48.heap.size (.bool false) (.slice none 0 0) (.slice none 0 0) ∧ Below u48.heap.size u48 U := ⟨_, rfl, Box.new _ _ _ _ _, al1 _⟩
                  rw [← hU]
                  clear hU
                  have n81 := hbR.size
                  have n83 := M6.lt
                  have n84 := M7.lt
                  have n85 := B2.lt
                  replace hX := hX.below hb9
                  replace B2 := B2.below hb9
                  replace hf1 := hf1.below hb9
                  replace hd1 := hd1.below hb9
                  replace B1 := B1.below hb9
                  replace M6 := M6.below hb9
                  replace M7 := M7.below hb9
                  replace hbW : Below w.heap.size w u49 := hbW.trans (hb9.mono hbW.size)
                  replace hbR : Below U.heap.size U u49 := hbR.trans (hb9.mono hbR.size)
                  clear hb9
                  generalize u48.heap.size = g8 at B8 n81 n83 n84 n85 ⊢
                  clear p00 p01 p02 p10 p11 p20 p21
                  obtain ⟨p00, p01, p02, _⟩ := B1.cells
                  obtain ⟨p10, p11, _⟩ := M6.cells
                  obtain ⟨p20, p21, _⟩ := M7.cells
                  obtain ⟨p30, p31, p32, _⟩ := B8.cells
                  refine hK.out _ _ ?_ (fun hHeld => ?_)
                  · (try dsimp only)
                    exact ⟨p00, p01, p02, p10, p11, p20, p21⟩
                  clear hK K
                  try simp only [Act.put, List.setIfInBounds_toArray, List.set_cons_zero, List.set_cons_succ]
                  refine hCall (i := 10) rfl (by kernel_rfl) (by rfl) (fun K hK => ?_)
                  go_simp
                  refine (sof14_any (x1 - x0) _ (by omega) (by omega)).mono ?_
                  rintro e u50 ⟨vg, rfl, hg1, hb50⟩
                  replace hX := hX.below hb50
                  replace B2 := B2.below hb50
                  replace hf1 := hf1.below hb50
                  replace hd1 := hd1.below hb50
                  replace B1 := B1.below hb50
                  replace M6 := M6.below hb50
                  replace M7 := M7.below hb50
                  replace B8 := B8.below hb50
                  replace hbW : Below w.heap.size w u50 := hbW.trans (hb50.mono hbW.size)
                  replace hbR : Below U.heap.size U u50 := hbR.trans (hb50.mono hbR.size)
                  clear hb50
                  clear p00 p01 p02 p10 p11 p20 p21 p30 p31 p32
                  obtain ⟨p00, p01, p02, _⟩ := B1.cells
                  obtain ⟨p10, p11, _⟩ := M6.cells
                  obtain ⟨p20, p21, _⟩ := M7.cells
                  obtain ⟨p30, p31, p32, _⟩ := B8.cells
                  go_wp2_with fail
                  refine hK.out _ _ ?_ (fun hHeld => ?_)
                  · (try dsimp only)
                    exact ⟨p00, p01, p02, p10, p11, p20, p21⟩
                  clear hK K
                  try simp only [Act.put, List.setIfInBounds_toArray, List.set_cons_zero, List.set_cons_succ]
                  refine hCall (i := 11) rfl (by kernel_rfl) (by rfl) (fun K hK => ?_)
                  go_simp
                  refine (squo_any (k + 3 + 2 + 1) 2 _ _ _ _ _ hd1.ct hg1.ct (by omega) (by decide) (by omega) (by decide)).mono ?_
                  rintro e u51 ⟨v8, rfl, hF8, hb51⟩
                  replace hX := hX.below hb51
                  replace B2 := B2.below hb51
                  replace hf1 := hf1.below hb51
                  replace hd1 := hd1.below hb51
                  replace hg1 := hg1.below hb51
                  replace B1 := B1.below hb51
                  replace M6 := M6.below hb51
                  replace M7 := M7.below hb51
                  replace B8 := B8.below hb51
                  replace hbW : Below w.heap.size w u51 := hbW.trans (hb51.mono hbW.size)
                  replace hbR : Below U.heap.size U u51 := hbR.trans (hb51.mono hbR.size)
                  clear hb51
                  generalize decide (((x1 - x0 : Int) : Rat) / ((16384 : Int) : Rat) ≠ 0) = qb
                  have hM8 := hF8.ct
                  obtain ⟨n8, x8, y8, ⟨a8, c8, b8, d8, rfl, _, _⟩, _⟩ := hF8
                  clear p00 p01 p02 p10 p11 p20 p21 p30 p31 p32
                  obtain ⟨p00, p01, p02, _⟩ := B1.cells
                  obtain ⟨p10, p11, _⟩ := M6.cells
                  obtain ⟨p20, p21, _⟩ := M7.cells
                  obtain ⟨p30, p31, p32, _⟩ := B8.cells
                  go_wp2_with fail
                  refine hK.out _ _ ?_ (fun hHeld => ?_)
                  · (try dsimp only)
                    exact ⟨p00, p01, p02, p10, p11, p20, p21⟩
                  clear hK K
                  try simp only [Act.put, List.setIfInBounds_toArray, List.set_cons_zero, List.set_cons_succ]
                  refine hTake (i := 12) (v := ?v350) rfl (by kernel_rfl) (by kernel_rfl) (by kernel_rfl) (fun _ _ _ h => h) (Or.inl ⟨by rfl, ?y350⟩) hHeld ?r350
                  case y350 =>
                    intro w9 hSw
                    (try dsimp only at hSw)
                    go_simp
                    try with_reducible rfl
                  try simp only [Act.put, List.setIfInBounds_toArray, List.set_cons_zero, List.set_cons_succ]
                  refine hTake (i := 13) (v := ?v351) rfl (by kernel_rfl) (by kernel_rfl) (by kernel_rfl) (fun _ _ _ h => h) (Or.inl ⟨by rfl, ?y351⟩) hHeld ?r351
                  case y351 =>
                    intro w9 hSw
                    (try dsimp only at hSw)
                    go_simp
                    try with_reducible rfl
                  try simp only [Act.put, List.setIfInBounds_toArray, List.set_cons_zero, List.set_cons_succ]
                  refine hTake (i := 14) (v := ?v352) rfl (by kernel_rfl) (by kernel_rfl) (by kernel_rfl) (fun _ _ _ h => h) (Or.inl ⟨by rfl, ?y352⟩) hHeld ?r352
                  case y352 =>
                    intro w9 hSw
                    (try dsimp only at hSw)
                    go_simp
                    try with_reducible rfl
                  try simp only [Act.put, List.setIfInBounds_toArray, List.set_cons_zero, List.set_cons_succ]
                  refine hCall (i := 16) rfl (by kernel_rfl) (by rfl) (fun K hK => ?_)
                  go_simp
                  obtain ⟨u52, hU, A8, hbU, hK9, ho⟩ := set3_world B8 (.bool n8) (.slice a8 x8.length c8) (.slice b8 y8.length d8)
                  rw [← hU]
                  clear hU
                  replace hbW := hbU _ _ hbW (by omega)
                  replace hbR := hbU _ _ hbR (by omega)
                  replace hM8 := hM8.keep hK9
                  replace B1 := B1.other ho (by omega)
                  replace B2 := B2.other ho (by omega)
                  replace M6 := M6.other ho (by omega)
                  replace M7 := M7.other ho (by omega)
                  clear hbU hK9 ho hX
                  have hX := HXU.out.below hbR
                  clear p00 p01 p02 p10 p11 p20 p21 p30 p31 p32
                  obtain ⟨p00, p01, p02, _⟩ := B1.cells
                  obtain ⟨p10, p11, _⟩ := M6.cells
                  obtain ⟨p20, p21, _⟩ := M7.cells
                  obtain ⟨p30, p31, p32, _⟩ := A8.cells
                  refine hK.out _ _ ?_ (fun hHeld => ?_)
                  · (try dsimp only)
                    exact ⟨p00, p01, p02, p10, p11, p20, p21⟩
                  clear hK K
                  try simp only [Act.put, List.setIfInBounds_toArray, List.set_cons_zero, List.set_cons_succ]
                  refine hTake (i := 17) (v := ?v353) rfl (by kernel_rfl) (by kernel_rfl) (by kernel_rfl) (fun _ _ _ h => h) (Or.inl ⟨by rfl, ?y353⟩) hHeld ?r353
                  case y353 =>
                    intro w9 hSw
                    (try dsimp only at hSw)
                    go_simp
                    try with_reducible rfl
                  try simp only [Act.put, List.setIfInBounds_toArray, List.set_cons_zero, List.set_cons_succ]
                  refine wpAnyH_done (by kernel_rfl) ?_ _
                  clear hHeld
                  go_wp2_with fail
                  refine wp_region_held_drew (S := (fun u => u.cell? ⟨w.heap.size, 0, none⟩ = some (.bool nh) ∧ u.cell? ⟨w.heap.size, 1, none⟩ = some (.slice ah xh.length ch) ∧ u.cell? ⟨w.heap.size, 2, none⟩ = some (.slice bh yh.length dh) ∧ u.cell? ⟨g6, 0, none⟩ = some (.int .i64 x0) ∧ u.cell? ⟨g6, 1, none⟩ = some (.int .i64 y0) ∧ u.cell? ⟨g7, 0, none⟩ = some (.int .i64 x1) ∧ u.cell? ⟨g7, 1, none⟩ = some (.int .i64 y1) ∧ u.cell? ⟨g8, 0, none⟩ = some (.bool n8) ∧ u.cell? ⟨g8, 1, none⟩ = some (.slice a8 x8.length c8) ∧ u.cell? ⟨g8, 2, none⟩ = some (.slice b8 y8.length d8))) (by kernel_rfl) ?_ (fun hHeld => ?_)
                  · (try dsimp only)
                    go_keep
                  have hdr : Below u52.heap.size u52 u52.drew := Below.drew1
                  generalize u52.drew = ud354 at hdr hHeld ⊢
                  replace hX := hX.below hdr
                  replace B2 := B2.below hdr
                  replace hM8 := hM8.below hdr
                  replace B1 := B1.below hdr
                  replace M6 := M6.below hdr
                  replace M7 := M7.below hdr
                  replace A8 := A8.below hdr
                  replace hbW : Below w.heap.size w ud354 := hbW.trans (hdr.mono hbW.size)
                  replace hbR : Below U.heap.size U ud354 := hbR.trans (hdr.mono hbR.size)
                  clear hdr
                  clear p00 p01 p02 p10 p11 p20 p21 p30 p31 p32
                  obtain ⟨p00, p01, p02, _⟩ := B1.cells
                  obtain ⟨p10, p11, _⟩ := M6.cells
                  obtain ⟨p20, p21, _⟩ := M7.cells
                  obtain ⟨p30, p31, p32, _⟩ := A8.cells
                  refine hTake (i := 0) (v := ?v355) rfl (by kernel_rfl) (by kernel_rfl) (by kernel_rfl) (fun _ _ _ h => h) (Or.inl ⟨by rfl, ?y355⟩) hHeld ?r355
                  case y355 =>
                    intro w9 hSw
                    (try dsimp only at hSw)
                    go_simp
                    try with_reducible rfl
                  try simp only [Act.put, List.setIfInBounds_toArray, List.set_cons_zero, List.set_cons_succ]
                  refine hTake (i := 1) (v := ?v356) rfl (by kernel_rfl) (by kernel_rfl) (by kernel_rfl) (fun _ _ _ h => h) (Or.inl ⟨by rfl, ?y356⟩) hHeld ?r356
                  case y356 =>
                    intro w9 hSw
                    (try dsimp only at hSw)
                    go_simp
                    try with_reducible rfl
                  try simp only [Act.put, List.setIfInBounds_toArray, List.set_cons_zero, List.set_cons_succ]
                  refine hTake (i := 3) (v := ?v357) rfl (by kernel_rfl) (by kernel_rfl) (by kernel_rfl) (fun _ _ _ h => h) (Or.inl ⟨by rfl, ?y357⟩) hHeld ?r357
                  case y357 =>
                    intro w9 hSw
                    (try dsimp only at hSw)
                    go_simp
                    try with_reducible rfl
                  try simp only [Act.put, List.setIfInBounds_toArray, List.set_cons_zero, List.set_cons_succ]
                  refine hTake (i := 4) (v := ?v358) rfl (by kernel_rfl) (by kernel_rfl) (by kernel_rfl) (fun _ _ _ h => h) (Or.inl ⟨by rfl, ?y358⟩) hHeld ?r358
                  case y358 =>
                    intro w9 hSw
                    (try dsimp only at hSw)
                    go_simp
                    try with_reducible rfl
                  try simp only [Act.put, List.setIfInBounds_toArray, List.set_cons_zero, List.set_cons_succ]
                  refine hTake (i := 5) (v := ?v359) rfl (by kernel_rfl) (by kernel_rfl) (by kernel_rfl) (fun _ _ _ h => h) (Or.inl ⟨by rfl, ?y359⟩) hHeld ?r359
                  case y359 =>
                    intro w9 hSw
                    (try dsimp only at hSw)
                    go_simp
                    try with_reducible rfl
                  try simp only [Act.put, List.setIfInBounds_toArray, List.set_cons_zero, List.set_cons_succ]
                  refine hTake (i := 6) (v := ?v360) rfl (by kernel_rfl) (by kernel_rfl) (by kernel_rfl) (fun _ _ _ h => h) (Or.inl ⟨by rfl, ?y360⟩) hHeld ?r360
                  case y360 =>
                    intro w9 hSw
                    (try dsimp only at hSw)
                    go_simp
                    try with_reducible rfl
                  try simp only [Act.put, List.setIfInBounds_toArray, List.set_cons_zero, List.set_cons_succ]
                  refine hTake (i := 7) (v := ?v361) rfl (by kernel_rfl) (by kernel_rfl) (by kernel_rfl) (fun _ _ _ h => h) (Or.inl ⟨by rfl, ?y361⟩) hHeld ?r361
                  case y361 =>
                    intro w9 hSw
                    (try dsimp only at hSw)
                    go_simp
                    try with_reducible rfl
                  try simp only [Act.put, List.setIfInBounds_toArray, List.set_cons_zero, List.set_cons_succ]
                  refine hTake (i := 8) (v := ?v362) rfl (by kernel_rfl) (by kernel_rfl) (by kernel_rfl) (fun _ _ _ h => h) (Or.inl ⟨by rfl, ?y362⟩) hHeld ?r362
                  case y362 =>
                    intro w9 hSw
                    (try dsimp only at hSw)
                    go_simp
                    try with_reducible rfl
                  try simp only [Act.put, List.setIfInBounds_toArray, List.set_cons_zero, List.set_cons_succ]
                  refine hCall (i := 2) rfl (by kernel_rfl) (by rfl) (fun K hK => ?_)
                  go_simp
                  refine (sof14_any y0 _ (by omega) (by omega)).mono ?_
                  rintro e u53 ⟨vt, rfl, hT1, hb53⟩
                  replace hX := hX.below hb53
                  replace B2 := B2.below hb53
                  replace hM8 := hM8.below hb53
                  replace B1 := B1.below hb53
                  replace M6 := M6.below hb53
                  replace M7 := M7.below hb53
                  replace A8 := A8.below hb53
                  replace hbW : Below w.heap.size w u53 := hbW.trans (hb53.mono hbW.size)
                  replace hbR : Below U.heap.size U u53 := hbR.trans (hb53.mono hbR.size)
                  clear hb53
                  clear p00 p01 p02 p10 p11 p20 p21 p30 p31 p32
                  obtain ⟨p00, p01, p02, _⟩ := B1.cells
                  obtain ⟨p10, p11, _⟩ := M6.cells
                  obtain ⟨p20, p21, _⟩ := M7.cells
                  obtain ⟨p30, p31, p32, _⟩ := A8.cells
                  go_wp2_with fail
                  refine hK.out _ _ ?_ (fun hHeld => ?_)
                  · (try dsimp only)
                    exact ⟨p00, p01, p02, p10, p11, p20, p21, p30, p31, p32⟩
                  clear hK K
                  try simp only [Act.put, List.setIfInBounds_toArray, List.set_cons_zero, List.set_cons_succ]
                  refine hCall (i := 9) rfl (by kernel_rfl) (by rfl) (fun K hK => ?_)
                  go_simp
                  refine (sof14_any (y1 - y0) _ (by omega) (by omega)).mono ?_
                  rintro e u54 ⟨ve, rfl, hE1, hb54⟩
                  replace hX := hX.below hb54
                  replace B2 := B2.below hb54
                  replace hM8 := hM8.below hb54
                  replace hT1 := hT1.below hb54
                  replace B1 := B1.below hb54
                  replace M6 := M6.below hb54
                  replace M7 := M7.below hb54
                  replace A8 := A8.below hb54
                  replace hbW : Below w.heap.size w u54 := hbW.trans (hb54.mono hbW.size)
                  replace hbR : Below U.heap.size U u54 := hbR.trans (hb54.mono hbR.size)
                  clear hb54
                  clear p00 p01 p02 p10 p11 p20 p21 p30 p31 p32
                  obtain ⟨p00, p01, p02, _⟩ := B1.cells
                  obtain ⟨p10, p11, _⟩ := M6.cells
                  obtain ⟨p20, p21, _⟩ := M7.cells
                  obtain ⟨p30, p31, p32, _⟩ := A8.cells
                  go_wp2_with fail
                  refine hK.out _ _ ?_ (fun hHeld => ?_)
                  · (try dsimp only)
                    exact ⟨p00, p01, p02, p10, p11, p20, p21, p30, p31, p32⟩
                  clear hK K
                  try simp only [Act.put, List.setIfInBounds_toArray, List.set_cons_zero, List.set_cons_succ]
                  refine hCall (i := 10) rfl (by kernel_rfl) (by rfl) (fun K hK => ?_)
                  go_simp
                  refine (smul_any (k + 3 + 2 + 1 + 2) 2 _ _ _ _ _ hM8 hE1.ct (by omega) (by decide) (by omega) (by decide)).mono ?_
                  rintro e u55 ⟨vy, rfl, hY1, hb55⟩
                  replace hX := hX.below hb55
                  replace B2 := B2.below hb55
                  replace hM8 := hM8.below hb55
                  replace hT1 := hT1.below hb55
                  replace hE1 := hE1.below hb55
                  replace B1 := B1.below hb55
                  replace M6 := M6.below hb55
                  replace M7 := M7.below hb55
                  replace A8 := A8.below hb55
                  replace hbW : Below w.heap.size w u55 := hbW.trans (hb55.mono hbW.size)
                  replace hbR : Below U.heap.size U u55 := hbR.trans (hb55.mono hbR.size)
                  clear hb55
                  clear p00 p01 p02 p10 p11 p20 p21 p30 p31 p32
                  obtain ⟨p00, p01, p02, _⟩ := B1.cells
                  obtain ⟨p10, p11, _⟩ := M6.cells
                  obtain ⟨p20, p21, _⟩ := M7.cells
                  obtain ⟨p30, p31, p32, _⟩ := A8.cells
                  go_wp2_with fail
                  refine hK.out _ _ ?_ (fun hHeld => ?_)
                  · (try dsimp only)
                    exact ⟨p00, p01, p02, p10, p11, p20, p21, p30, p31, p32⟩
                  clear hK K
                  try simp only [Act.put, List.setIfInBounds_toArray, List.set_cons_zero, List.set_cons_succ]
                  refine hCall (i := 11) rfl (by kernel_rfl) (by rfl) (fun K hK => ?_)
                  go_simp
                  refine (sadd_any 2 (k + 3 + 2 + 1 + 2 + 2) _ _ _ _ _ hT1.ct hY1.ct (by decide) (by omega) (by decide) (by omega)).mono ?_
                  rintro e u56 ⟨vr, rfl, hR, hb56⟩
                  replace hX := hX.below hb56
                  replace B2 := B2.below hb56
                  replace hM8 := hM8.below hb56
                  replace hT1 := hT1.below hb56
                  replace hE1 := hE1.below hb56
                  replace hY1 := hY1.below hb56
                  replace B1 := B1.below hb56
                  replace M6 := M6.below hb56
                  replace M7 := M7.below hb56
                  replace A8 := A8.below hb56
                  replace hbW : Below w.heap.size w u56 := hbW.trans (hb56.mono hbW.size)
                  replace hbR : Below U.heap.size U u56 := hbR.trans (hb56.mono hbR.size)
                  clear hb56
                  replace hR := (hR.eq HVAL.out).le (show 2 + (k + 3 + 2 + 1 + 2 + 2) + 1 ≤ k + 13 by omega)
                  clear p00 p01 p02 p10 p11 p20 p21 p30 p31 p32
                  obtain ⟨p00, p01, p02, _⟩ := B1.cells
                  obtain ⟨p10, p11, _⟩ := M6.cells
                  obtain ⟨p20, p21, _⟩ := M7.cells
                  obtain ⟨p30, p31, p32, _⟩ := A8.cells
                  go_wp2_with fail
                  refine hK.out _ _ ?_ (fun hHeld => ?_)
                  · (try dsimp only)
                    exact ⟨p00, p01, p02, p10, p11, p20, p21, p30, p31, p32⟩
                  clear hK K
                  try simp only [Act.put, List.setIfInBounds_toArray, List.set_cons_zero, List.set_cons_succ]
                  refine hCall (i := 12) rfl (by kernel_rfl) (by rfl) (fun K hK => ?_)
                  go_simp
                  obtain ⟨q1, q2, q3, q4, q5, q6⟩ := B2.cells
                  obtain ⟨nr, xr, yr, ⟨ar, cr, br, dr, rfl, hxr, hyr⟩, hFr⟩ := hR
                  go_simp
                  obtain ⟨u57, hU, A2, hbU, hK9, ho⟩ := set3_world B2 (.bool nr) (.slice ar xr.length cr) (.slice br yr.length dr)
                  rw [← hU]
                  clear hU q1 q2 q3 q4 q5 q6
                  replace hbW := hbU _ _ hbW (by omega)
                  replace hxr := hK9 _ _ _ hxr
                  replace hyr := hK9 _ _ _ hyr
                  replace B1 := B1.other ho (by omega)
                  replace M6 := M6.other ho (by omega)
                  replace M7 := M7.other ho (by omega)
                  replace A8 := A8.other ho (by omega)
                  clear hbU hK9 ho
                  clear p00 p01 p02 p10 p11 p20 p21 p30 p31 p32
                  obtain ⟨p00, p01, p02, _⟩ := B1.cells
                  obtain ⟨p10, p11, _⟩ := M6.cells
                  obtain ⟨p20, p21, _⟩ := M7.cells
                  obtain ⟨p30, p31, p32, _⟩ := A8.cells
                  refine hK.out _ _ ?_ (fun hHeld => ?_)
                  · (try dsimp only)
                    exact ⟨p00, p01, p02, p10, p11, p20, p21, p30, p31, p32⟩
                  clear hK K
                  try simp only [Act.put, List.setIfInBounds_toArray, List.set_cons_zero, List.set_cons_succ]
                  refine wpAnyH_done (by kernel_rfl) ?_ _
                  go_wp2
                  refine bodyPost_ret (by obtain ⟨r1, r2, r3, _⟩ := A2.cells; simp [results, Tryz.results15, go_sem, r1, r2, r3]) rfl ⟨_, rfl, ⟨_, _, _, ⟨_, _, _, _, rfl, hxr, hyr⟩, hFr⟩, hbW⟩
              · go_simp
                obtain ⟨u48, hU, B8, hb9⟩ : ∃ U, U = u47.alloc (.cells #[.bool false, .slice none 0 0, .slice none 0 0] 34) ∧ Box 34 U u47.heap.size (.bool false) (.slice none 0 0) (.slice none 0 0) ∧ Below u47.heap.size u47 U := ⟨_, rfl, Box.new _ _ _ _ _, al1 _⟩
                rw [← hU]
                clear hU
                have n81 := hbR.size
                have n83 := M6.lt
                have n84 := M7.lt
                have n85 := B2.lt
                replace hX := hX.below hb9
                replace B2 := B2.below hb9
                replace hf1 := hf1.below hb9
                replace B1 := B1.below hb9
                replace M6 := M6.below hb9
                replace M7 := M7.below hb9
                replace hbW : Below w.heap.size w u48 := hbW.trans (hb9.mono hbW.size)
                replace hbR : Below U.heap.size U u48 := hbR.trans (hb9.mono hbR.size)
                clear hb9
                generalize u47.heap.size = g8 at B8 n81 n83 n84 n85 ⊢
                clear p00 p01 p02 p10 p11 p20 p21
                obtain ⟨p00, p01, p02, _⟩ := B1.cells
                obtain ⟨p10, p11, _⟩ := M6.cells
                obtain ⟨p20, p21, _⟩ := M7.cells
                obtain ⟨p30, p31, p32, _⟩ := B8.cells
                refine hK.out _ _ ?_ (fun hHeld => ?_)
                · (try dsimp only)
                  exact ⟨p00, p01, p02, p10, p11, p20, p21⟩
                clear hK K
                try simp only [Act.put, List.setIfInBounds_toArray, List.set_cons_zero, List.set_cons_succ]
                refine hCall (i := 4) rfl (by kernel_rfl) (by rfl) (fun K hK => ?_)
                go_simp
                refine (ssub_any (k + 3) 2 _ _ _ _ _ hX hf1.ct (by omega) (by decide) (by omega) (by decide)).mono ?_
                rintro e u49 ⟨vd, rfl, hd1, hb49⟩
                replace hX := hX.below hb49
                replace B2 := B2.below hb49
                replace hf1 := hf1.below hb49
                replace B1 := B1.below hb49
                replace M6 := M6.below hb49
                replace M7 := M7.below hb49
                replace B8 := B8.below hb49
                replace hbW : Below w.heap.size w u49 := hbW.trans (hb49.mono hbW.size)
                replace hbR : Below U.heap.size U u49 := hbR.trans (hb49.mono hbR.size)
                clear hb49
                clear p00 p01 p02 p10 p11 p20 p21 p30 p31 p32
                obtain ⟨p00, p01, p02, _⟩ := B1.cells
                obtain ⟨p10, p11, _⟩ := M6.cells
                obtain ⟨p20, p21, _⟩ := M7.cells
                obtain ⟨p30, p31, p32, _⟩ := B8.cells
                go_wp2_with fail
                refine hK.out _ _ ?_ (fun hHeld => ?_)
                · (try dsimp only)
                  exact ⟨p00, p01, p02, p10, p11, p20, p21⟩
                clear hK K
                try simp only [Act.put, List.setIfInBounds_toArray, List.set_cons_zero, List.set_cons_succ]
                refine hCall (i := 10) rfl (by kernel_rfl) (by rfl) (fun K hK => ?_)
                go_simp
                refine (sof14_any (x1 - x0) _ (by omega) (by omega)).mono ?_
                rintro e u50 ⟨vg, rfl, hg1, hb50⟩
                replace hX := hX.below hb50
                replace B2 := B2.below hb50
                replace hf1 := hf1.below hb50
                replace hd1 := hd1.below hb50
                replace B1 := B1.below hb50
                replace M6 := M6.below hb50
                replace M7 := M7.below hb50
                replace B8 := B8.below hb50
                replace hbW : Below w.heap.size w u50 := hbW.trans (hb50.mono hbW.size)
                replace hbR : Below U.heap.size U u50 := hbR.trans (hb50.mono hbR.size)
                clear hb50
                clear p00 p01 p02 p10 p11 p20 p21 p30 p31 p32
                obtain ⟨p00, p01, p02, _⟩ := B1.cells
                obtain ⟨p10, p11, _⟩ := M6.cells
                obtain ⟨p20, p21, _⟩ := M7.cells
                obtain ⟨p30, p31, p32, _⟩ := B8.cells
                go_wp2_with fail
                refine hK.out _ _ ?_ (fun hHeld => ?_)
                · (try dsimp only)
                  exact ⟨p00, p01, p02, p10, p11, p20, p21⟩
                clear hK K
                try simp only [Act.put, List.setIfInBounds_toArray, List.set_cons_zero, List.set_cons_succ]
                refine hCall (i := 11) rfl (by kernel_rfl) (by rfl) (fun K hK => ?_)
                go_simp
                refine (squo_any (k + 3 + 2 + 1) 2 _ _ _ _ _ hd1.ct hg1.ct (by omega) (by decide) (by omega) (by decide)).mono ?_
                rintro e u51 ⟨v8, rfl, hF8, hb51⟩
                replace hX := hX.below hb51
                replace B2 := B2.below hb51
                replace hf1 := hf1.below hb51
                replace hd1 := hd1.below hb51
                replace hg1 := hg1.below hb51
                replace B1 := B1.below hb51
                replace M6 := M6.below hb51
                replace M7 := M7.below hb51
                replace B8 := B8.below hb51
                replace hbW : Below w.heap.size w u51 := hbW.trans (hb51.mono hbW.size)
                replace hbR : Below U.heap.size U u51 := hbR.trans (hb51.mono hbR.size)
                clear hb51
                generalize decide (((x1 - x0 : Int) : Rat) / ((16384 : Int) : Rat) ≠ 0) = qb
                have hM8 := hF8.ct
                obtain ⟨n8, x8, y8, ⟨a8, c8, b8, d8, rfl, _, _⟩, _⟩ := hF8
                clear p00 p01 p02 p10 p11 p20 p21 p30 p31 p32
                obtain ⟨p00, p01, p02, _⟩ := B1.cells
                obtain ⟨p10, p11, _⟩ := M6.cells
                obtain ⟨p20, p21, _⟩ := M7.cells
                obtain ⟨p30, p31, p32, _⟩ := B8.cells
                go_wp2_with fail
                refine hK.out _ _ ?_ (fun hHeld => ?_)
                · (try dsimp only)
                  exact ⟨p00, p01, p02, p10, p11, p20, p21⟩
                clear hK K
                try simp only [Act.put, List.setIfInBounds_toArray, List.set_cons_zero, List.set_cons_succ]
                refine hTake (i := 12) (v := ?v363) rfl (by kernel_rfl) (by kernel_rfl) (by kernel_rfl) (fun _ _ _ h => h) (Or.inl ⟨by rfl, ?y363⟩) hHeld ?r363
                case y363 =>
                  intro w9 hSw
                  (try dsimp only at hSw)
                  go_simp
                  try with_reducible rfl
                try simp only [Act.put, List.setIfInBounds_toArray, List.set_cons_zero, List.set_cons_succ]
                refine hTake (i := 13) (v := ?v364) rfl (by kernel_rfl) (by kernel_rfl) (by kernel_rfl) (fun _ _ _ h => h) (Or.inl ⟨by rfl, ?y364⟩) hHeld ?r364
                case y364 =>
                  intro w9 hSw
                  (try dsimp only at hSw)
                  go_simp
                  try with_reducible rfl
                try simp only [Act.put, List.setIfInBounds_toArray, List.set_cons_zero, List.set_cons_succ]
                refine hTake (i := 14) (v := ?v365) rfl (by kernel_rfl) (by kernel_rfl) (by kernel_rfl) (fun _ _ _ h => h) (Or.inl ⟨by rfl, ?y365⟩) hHeld ?r365
                case y365 =>
                  intro w9 hSw
                  (try dsimp only at hSw)
                  go_simp
                  try with_reducible rfl
                try simp only [Act.put, List.setIfInBounds_toArray, List.set_cons_zero, List.set_cons_succ]
                refine hCall (i := 16) rfl (by kernel_rfl) (by rfl) (fun K hK => ?_)
                go_simp
                obtain ⟨u52, hU, A8, hbU, hK9, ho⟩ := set3_world B8 (.bool n8) (.slice a8 x8.length c8) (.slice b8 y8.length d8)
                rw [← hU]
                clear hU
                replace hbW := hbU _ _ hbW (by omega)
                replace hbR := hbU _ _ hbR (by omega)
                replace hM8 := hM8.keep hK9
                replace B1 := B1.other ho (by omega)
                replace B2 := B2.other ho (by omega)
                replace M6 := M6.other ho (by omega)
                replace M7 := M7.other ho (by omega)
                clear hbU hK9 ho hX
                have hX := HXU.out.below hbR
                clear p00 p01 p02 p10 p11 p20 p21 p30 p31 p32
                obtain ⟨p00, p01, p02, _⟩ := B1.cells
                obtain ⟨p10, p11, _⟩ := M6.cells
                obtain ⟨p20, p21, _⟩ := M7.cells
                obtain ⟨p30, p31, p32, _⟩ := A8.cells
                refine hK.out _ _ ?_ (fun hHeld => ?_)
                · (try dsimp only)
                  exact ⟨p00, p01, p02, p10, p11, p20, p21⟩
                clear hK K
                try simp only [Act.put, List.setIfInBounds_toArray, List.set_cons_zero, List.set_cons_succ]
                refine hTake (i := 17) (v := ?v366) rfl (by kernel_rfl) (by kernel_rfl) (by kernel_rfl) (fun _ _ _ h => h) (Or.inl ⟨by rfl, ?y366⟩) hHeld ?r366
                case y366 =>
                  intro w9 hSw
                  (try dsimp only at hSw)
                  go_simp
                  try with_reducible rfl
                try simp only [Act.put, List.setIfInBounds_toArray, List.set_cons_zero, List.set_cons_succ]
                refine wpAnyH_done (by kernel_rfl) ?_ _
                clear hHeld
                go_wp2_with fail
                refine wp_region_held_drew (S := (fun u => u.cell? ⟨w.heap.size, 0, none⟩ = some (.bool nh) ∧ u.cell? ⟨w.heap.size, 1, none⟩ = some (.slice ah xh.length ch) ∧ u.cell? ⟨w.heap.size, 2, none⟩ = some (.slice bh yh.length dh) ∧ u.cell? ⟨g6, 0, none⟩ = some (.int .i64 x0) ∧ u.cell? ⟨g6, 1, none⟩ = some (.int .i64 y0) ∧ u.cell? ⟨g7, 0, none⟩ = some (.int .i64 x1) ∧ u.cell? ⟨g7, 1, none⟩ = some (.int .i64 y1) ∧ u.cell? ⟨g8, 0, none⟩ = some (.bool n8) ∧ u.cell? ⟨g8, 1, none⟩ = some (.slice a8 x8.length c8) ∧ u.cell? ⟨g8, 2, none⟩ = some (.slice b8 y8.length d8))) (by kernel_rfl) ?_ (fun hHeld => ?_)
                · (try dsimp only)
                  go_keep
                have hdr : Below u52.heap.size u52 u52.drew := Below.drew1
                generalize u52.drew = ud367 at hdr hHeld ⊢
                replace hX := hX.below hdr
                replace B2 := B2.below hdr
                replace hM8 := hM8.below hdr
                replace B1 := B1.below hdr
                replace M6 := M6.below hdr
                replace M7 := M7.below hdr
                replace A8 := A8.below hdr
                replace hbW : Below w.heap.size w ud367 := hbW.trans (hdr.mono hbW.size)
                replace hbR : Below U.heap.size U ud367 := hbR.trans (hdr.mono hbR.size)
                clear hdr
                clear p00 p01 p02 p10 p11 p20 p21 p30 p31 p32
                obtain ⟨p00, p01, p02, _⟩ := B1.cells
                obtain ⟨p10, p11, _⟩ := M6.cells
                obtain ⟨p20, p21, _⟩ := M7.cells
                obtain ⟨p30, p31, p32, _⟩ := A8.cells
                refine hTake (i := 0) (v := ?v368) rfl (by kernel_rfl) (by kernel_rfl) (by kernel_rfl) (fun _ _ _ h => h) (Or.inl ⟨by rfl, ?y368⟩) hHeld ?r368
                case y368 =>
                  intro w9 hSw
                  (try dsimp only at hSw)
                  go_simp
                  try with_reducible rfl
                try simp only [Act.put, List.setIfInBounds_toArray, List.set_cons_zero, List.set_cons_succ]
                refine hTake (i := 1) (v := ?v369) rfl (by kernel_rfl) (by kernel_rfl) (by kernel_rfl) (fun _ _ _ h => h) (Or.inl ⟨by rfl, ?y369⟩) hHeld ?r369
                case y369 =>
                  intro w9 hSw
                  (try dsimp only at hSw)
                  go_simp
                  try with_reducible rfl
                try simp only [Act.put, List.setIfInBounds_toArray, List.set_cons_zero, List.set_cons_succ]
                refine hTake (i := 3) (v := ?v370) rfl (by kernel_rfl) (by kernel_rfl) (by kernel_rfl) (fun _ _ _ h => h) (Or.inl ⟨by rfl, ?y370⟩) hHeld ?r370
                case y370 =>
                  intro w9 hSw
                  (try dsimp only at hSw)
                  go_simp
                  try with_reducible rfl
                try simp only [Act.put, List.setIfInBounds_toArray, List.set_cons_zero, List.set_cons_succ]
                refine hTake (i := 4) (v := ?v371) rfl (by kernel_rfl) (by kernel_rfl) (by kernel_rfl) (fun _ _ _ h => h) (Or.inl ⟨by rfl, ?y371⟩) hHeld ?r371
                case y371 =>
                  intro w9 hSw
                  (try dsimp only at hSw)
                  go_simp
                  try with_reducible rfl
                try simp only [Act.put, List.setIfInBounds_toArray, List.set_cons_zero, List.set_cons_succ]
                refine hTake (i := 5) (v := ?v372) rfl (by kernel_rfl) (by kernel_rfl) (by kernel_rfl) (fun _ _ _ h => h) (Or.inl ⟨by rfl, ?y372⟩) hHeld ?r372
                case y372 =>
                  intro w9 hSw
                  (try dsimp only at hSw)
                  go_simp
                  try with_reducible rfl
                try simp only [Act.put, List.setIfInBounds_toArray, List.set_cons_zero, List.set_cons_succ]
                refine hTake (i := 6) (v := ?v373) rfl (by kernel_rfl) (by kernel_rfl) (by kernel_rfl) (fun _ _ _ h => h) (Or.inl ⟨by rfl, ?y373⟩) hHeld ?r373
                case y373 =>
                  intro w9 hSw
                  (try dsimp only at hSw)
                  go_simp
                  try with_reducible rfl
                try simp only [Act.put, List.setIfInBounds_toArray, List.set_cons_zero, List.set_cons_succ]
                refine hTake (i := 7) (v := ?v374) rfl (by kernel_rfl) (by kernel_rfl) (by kernel_rfl) (fun _ _ _ h => h) (Or.inl ⟨by rfl, ?y374⟩) hHeld ?r374
                case y374 =>
                  intro w9 hSw
                  (try dsimp only at hSw)
                  go_simp
                  try with_reducible rfl
                try simp only [Act.put, List.setIfInBounds_toArray, List.set_cons_zero, List.set_cons_succ]
                refine hTake (i := 8) (v := ?v375) rfl (by kernel_rfl) (by kernel_rfl) (by kernel_rfl) (fun _ _ _ h => h) (Or.inl ⟨by rfl, ?y375⟩) hHeld ?r375
                case y375 =>
                  intro w9 hSw
                  (try dsimp only at hSw)
                  go_simp
                  try with_reducible rfl
                try simp only [Act.put, List.setIfInBounds_toArray, List.set_cons_zero, List.set_cons_succ]
                refine hCall (i := 2) rfl (by kernel_rfl) (by rfl) (fun K hK => ?_)
                go_simp
                refine (sof14_any y0 _ (by omega) (by omega)).mono ?_
                rintro e u53 ⟨vt, rfl, hT1, hb53⟩
                replace hX := hX.below hb53
                replace B2 := B2.below hb53
                replace hM8 := hM8.below hb53
                replace B1 := B1.below hb53
                replace M6 := M6.below hb53
                replace M7 := M7.below hb53
                replace A8 := A8.below hb53
                replace hbW : Below w.heap.size w u53 := hbW.trans (hb53.mono hbW.size)
                replace hbR : Below U.heap.size U u53 := hbR.trans (hb53.mono hbR.size)
                clear hb53
                clear p00 p01 p02 p10 p11 p20 p21 p30 p31 p32
                obtain ⟨p00, p01, p02, _⟩ := B1.cells
                obtain ⟨p10, p11, _⟩ := M6.cells
                obtain ⟨p20, p21, _⟩ := M7.cells
                obtain ⟨p30, p31, p32, _⟩ := A8.cells
                go_wp2_with fail
                refine hK.out _ _ ?_ (fun hHeld => ?_)
                · (try dsimp only)
                  exact ⟨p00, p01, p02, p10, p11, p20, p21, p30, p31, p32⟩
                clear hK K
                try simp only [Act.put, List.setIfInBounds_toArray, List.set_cons_zero, List.set_cons_succ]
                refine hCall (i := 9) rfl (by kernel_rfl) (by rfl) (fun K hK => ?_)
                go_simp
                refine (sof14_any (y1 - y0) _ (by omega) (by omega)).mono ?_
                rintro e u54 ⟨ve, rfl, hE1, hb54⟩
                replace hX := hX.below hb54
                replace B2 := B2.below hb54
                replace hM8 := hM8.below hb54
                replace hT1 := hT1.below hb54
                replace B1 := B1.below hb54
                replace M6 := M6.below hb54
                replace M7 := M7.below hb54
                replace A8 := A8.below hb54
                replace hbW : Below w.heap.size w u54 := hbW.trans (hb54.mono hbW.size)
                replace hbR : Below U.heap.size U u54 := hbR.trans (hb54.mono hbR.size)
                clear hb54
                clear p00 p01 p02 p10 p11 p20 p21 p30 p31 p32
                obtain ⟨p00, p01, p02, _⟩ := B1.cells
                obtain ⟨p10, p11, _⟩ := M6.cells
                obtain ⟨p20, p21, _⟩ := M7.cells
                obtain ⟨p30, p31, p32, _⟩ := A8.cells
                go_wp2_with fail
                refine hK.out _ _ ?_ (fun hHeld => ?_)
                · (try dsimp only)
                  exact ⟨p00, p01, p02, p10, p11, p20, p21, p30, p31, p32⟩
                clear hK K
                try simp only [Act.put, List.setIfInBounds_toArray, List.set_cons_zero, List.set_cons_succ]
                refine hCall (i := 10) rfl (by kernel_rfl) (by rfl) (fun K hK => ?_)
                go_simp
                refine (smul_any (k + 3 + 2 + 1 + 2) 2 _ _ _ _ _ hM8 hE1.ct (by omega) (by decide) (by omega) (by decide)).mono ?_
                rintro e u55 ⟨vy, rfl, hY1, hb55⟩
                replace hX := hX.below hb55
                replace B2 := B2.below hb55
                replace hM8 := hM8.below hb55
                replace hT1 := hT1.below hb55
                replace hE1 := hE1.below hb55
                replace B1 := B1.below hb55
                replace M6 := M6.below hb55
                replace M7 := M7.below hb55
                replace A8 := A8.below hb55
                replace hbW : Below w.heap.size w u55 := hbW.trans (hb55.mono hbW.size)
                replace hbR : Below U.heap.size U u55 := hbR.trans (hb55.mono hbR.size)
                clear hb55
                clear p00 p01 p02 p10 p11 p20 p21 p30 p31 p32
                obtain ⟨p00, p01, p02, _⟩ := B1.cells
                obtain ⟨p10, p11, _⟩ := M6.cells
                obtain ⟨p20, p21, _⟩ := M7.cells
                obtain ⟨p30, p31, p32, _⟩ := A8.cells
                go_wp2_with fail
                refine hK.out _ _ ?_ (fun hHeld => ?_)
                · (try dsimp only)
                  exact ⟨p00, p01, p02, p10, p11, p20, p21, p30, p31, p32⟩
                clear hK K
                try simp only [Act.put, List.setIfInBounds_toArray, List.set_cons_zero, List.set_cons_succ]
                refine hCall (i := 11) rfl (by kernel_rfl) (by rfl) (fun K hK => ?_)
                go_simp
                refine (sadd_any 2 (k + 3 + 2 + 1 + 2 + 2) _ _ _ _ _ hT1.ct hY1.ct (by decide) (by omega) (by decide) (by omega)).mono ?_
                rintro e u56 ⟨vr, rfl, hR, hb56⟩
                replace hX := hX.below hb56
                replace B2 := B2.below hb56
                replace hM8 := hM8.below hb56
                replace hT1 := hT1.below hb56
                replace hE1 := hE1.below hb56
                replace hY1 := hY1.below hb56
                replace B1 := B1.below hb56
                replace M6 := M6.below hb56
                replace M7 := M7.below hb56
                replace A8 := A8.below hb56
                replace hbW : Below w.heap.size w u56 := hbW.trans (hb56.mono hbW.size)
                replace hbR : Below U.heap.size U u56 := hbR.trans (hb56.mono hbR.size)
                clear hb56
                replace hR := (hR.eq HVAL.out).le (show 2 + (k + 3 + 2 + 1 + 2 + 2) + 1 ≤ k + 13 by omega)
                clear p00 p01 p02 p10 p11 p20 p21 p30 p31 p32
                obtain ⟨p00, p01, p02, _⟩ := B1.cells
                obtain ⟨p10, p11, _⟩ := M6.cells
                obtain ⟨p20, p21, _⟩ := M7.cells
                obtain ⟨p30, p31, p32, _⟩ := A8.cells
                go_wp2_with fail
                refine hK.out _ _ ?_ (fun hHeld => ?_)
                · (try dsimp only)
                  exact ⟨p00, p01, p02, p10, p11, p20, p21, p30, p31, p32⟩
                clear hK K
                try simp only [Act.put, List.setIfInBounds_toArray, List.set_cons_zero, List.set_cons_succ]
                refine hCall (i := 12) rfl (by kernel_rfl) (by rfl) (fun K hK => ?_)
                go_simp
                obtain ⟨q1, q2, q3, q4, q5, q6⟩ := B2.cells
                obtain ⟨nr, xr, yr, ⟨ar, cr, br, dr, rfl, hxr, hyr⟩, hFr⟩ := hR
                go_simp
                obtain ⟨u57, hU, A2, hbU, hK9, ho⟩ := set3_world B2 (.bool nr) (.slice ar xr.length cr) (.slice br yr.length dr)
                rw [← hU]
                clear hU q1 q2 q3 q4 q5 q6
                replace hbW := hbU _ _ hbW (by omega)
                replace hxr := hK9 _ _ _ hxr
                replace hyr := hK9 _ _ _ hyr
                replace B1 := B1.other ho (by omega)
                replace M6 := M6.other ho (by omega)
                replace M7 := M7.other ho (by omega)
                replace A8 := A8.other ho (by omega)
                clear hbU hK9 ho
                clear p00 p01 p02 p10 p11 p20 p21 p30 p31 p32
                obtain ⟨p00, p01, p02, _⟩ := B1.cells
                obtain ⟨p10, p11, _⟩ := M6.cells
                obtain ⟨p20, p21, _⟩ := M7.cells
                obtain ⟨p30, p31, p32, _⟩ := A8.cells
                refine hK.out _ _ ?_ (fun hHeld => ?_)
                · (try dsimp only)
                  exact ⟨p00, p01, p02, p10, p11, p20, p21, p30, p31, p32⟩
                clear hK K
                try simp only [Act.put, List.setIfInBounds_toArray, List.set_cons_zero, List.set_cons_succ]
                refine wpAnyH_done (by kernel_rfl) ?_ _
                go_wp2
                refine bodyPost_ret (by obtain ⟨r1, r2, r3, _⟩ := A2.cells; simp [results, Tryz.results15, go_sem, r1, r2, r3]) rfl ⟨_, rfl, ⟨_, _, _, ⟨_, _, _, _, rfl, hxr, hyr⟩, hFr⟩, hbW⟩
            · go_simp
              obtain ⟨u47, hU, B8, hb9⟩ : ∃ U, U = ud315.alloc (.cells #[.bool false, .slice none 0 0, .slice none 0 0] 34) ∧ Box 34 U ud315.heap.size (.bool false) (.slice none 0 0) (.slice none 0 0) ∧ Below ud315.heap.size ud315 U := ⟨_, rfl, Box.new _ _ _ _ _, al1 _⟩
              rw [← hU]
              clear hU
              have n81 := hbR.size
              have n83 := M6.lt
              have n84 := M7.lt
              have n85 := B2.lt
              replace hX := hX.below hb9
              replace B2 := B2.below hb9
              replace B1 := B1.below hb9
              replace M6 := M6.below hb9
              replace M7 := M7.below hb9
              replace hbW : Below w.heap.size w u47 := hbW.trans (hb9.mono hbW.size)
              replace hbR : Below U.heap.size U u47 := hbR.trans (hb9.mono hbR.size)
              clear hb9
              generalize ud315.heap.size = g8 at B8 n81 n83 n84 n85 ⊢
              clear p00 p01 p02 p10 p11 p20 p21
              obtain ⟨p00, p01, p02, _⟩ := B1.cells
              obtain ⟨p10, p11, _⟩ := M6.cells
              obtain ⟨p20, p21, _⟩ := M7.cells
              obtain ⟨p30, p31, p32, _⟩ := B8.cells
              refine hK.out _ _ ?_ (fun hHeld => ?_)
              · (try dsimp only)
                exact ⟨p00, p01, p02, p10, p11, p20, p21⟩
              clear hK K
              try simp only [Act.put, List.setIfInBounds_toArray, List.set_cons_zero, List.set_cons_succ]
              refine hCall (i := 3) rfl (by kernel_rfl) (by rfl) (fun K hK => ?_)
              go_simp
              refine (sof14_any x0 _ (by omega) (by omega)).mono ?_
              rintro e u48 ⟨vf, rfl, hf1, hb48⟩
              replace hX := hX.below hb48
              replace B2 := B2.below hb48
              replace B1 := B1.below hb48
              replace M6 := M6.below hb48
              replace M7 := M7.below hb48
              replace B8 := B8.below hb48
              replace hbW : Below w.heap.size w u48 := hbW.trans (hb48.mono hbW.size)
              replace hbR : Below U.heap.size U u48 := hbR.trans (hb48.mono hbR.size)
              clear hb48
              clear p00 p01 p02 p10 p11 p20 p21 p30 p31 p32
              obtain ⟨p00, p01, p02, _⟩ := B1.cells
              obtain ⟨p10, p11, _⟩ := M6.cells
              obtain ⟨p20, p21, _⟩ := M7.cells
              obtain ⟨p30, p31, p32, _⟩ := B8.cells
              go_wp2_with fail
              refine hK.out _ _ ?_ (fun hHeld => ?_)
              · (try dsimp only)
                exact ⟨p00, p01, p02, p10, p11, p20, p21⟩
              clear hK K
              try simp only [Act.put, List.setIfInBounds_toArray, List.set_cons_zero, List.set_cons_succ]
              refine hCall (i := 4) rfl (by kernel_rfl) (by rfl) (fun K hK => ?_)
              go_simp
              refine (ssub_any (k + 3) 2 _ _ _ _ _ hX hf1.ct (by omega) (by decide) (by omega) (by decide)).mono ?_
              rintro e u49 ⟨vd, rfl, hd1, hb49⟩
              replace hX := hX.below hb49
              replace B2 := B2.below hb49
              replace hf1 := hf1.below hb49
              replace B1 := B1.below hb49
              replace M6 := M6.below hb49
              replace M7 := M7.below hb49
              replace B8 := B8.below hb49
              replace hbW : Below w.heap.size w u49 := hbW.trans (hb49.mono hbW.size)
              replace hbR : Below U.heap.size U u49 := hbR.trans (hb49.mono hbR.size)
              clear hb49
              clear p00 p01 p02 p10 p11 p20 p21 p30 p31 p32
              obtain ⟨p00, p01, p02, _⟩ := B1.cells
              obtain ⟨p10, p11, _⟩ := M6.cells
              obtain ⟨p20, p21, _⟩ := M7.cells
              obtain ⟨p30, p31, p32, _⟩ := B8.cells
              go_wp2_with fail
              refine hK.out _ _ ?_ (fun hHeld => ?_)
              · (try dsimp only)
                exact ⟨p00, p01, p02, p10, p11, p20, p21⟩
              clear hK K
              try simp only [Act.put, List.setIfInBounds_toArray, List.set_cons_zero, List.set_cons_succ]
              refine hCall (i := 10) rfl (by kernel_rfl) (by rfl) (fun K hK => ?_)
              go_simp
              refine (sof14_any (x1 - x0) _ (by omega) (by omega)).mono ?_
              rintro e u50 ⟨vg, rfl, hg1, hb50⟩
              replace hX := hX.below hb50
              replace B2 := B2.below hb50
              replace hf1 := hf1.below hb50
              replace hd1 := hd1.below hb50
              replace B1 := B1.below hb50
              replace M6 := M6.below hb50
              replace M7 := M7.below hb50
              replace B8 := B8.below hb50
              replace hbW : Below w.heap.size w u50 := hbW.trans (hb50.mono hbW.size)
              replace hbR : Below U.heap.size U u50 := hbR.trans (hb50.mono hbR.size)
              clear hb50
              clear p00 p01 p02 p10 p11 p20 p21 p30 p31 p32
              obtain ⟨p00, p01, p02, _⟩ := B1.cells
              obtain ⟨p10, p11, _⟩ := M6.cells
              obtain ⟨p20, p21, _⟩ := M7.cells
              obtain ⟨p30, p31, p32, _⟩ := B8.cells
              go_wp2_with fail
              refine hK.out _ _ ?_ (fun hHeld => ?_)
              · (try dsimp only)
                exact ⟨p00, p01, p02, p10, p11, p20, p21⟩
              clear hK K
              try simp only [Act.put, List.setIfInBounds_toArray, List.set_cons_zero, List.set_cons_succ]
              refine hCall (i := 11) rfl (by kernel_rfl) (by rfl) (fun K hK => ?_)
              go_simp
              refine (squo_any (k + 3 + 2 + 1) 2 _ _ _ _ _ hd1.ct hg1.ct (by omega) (by decide) (by omega) (by decide)).mono ?_
              rintro e u51 ⟨v8, rfl, hF8, hb51⟩
              replace hX := hX.below hb51
              replace B2 := B2.below hb51
              replace hf1 := hf1.below hb51
              replace hd1 := hd1.below hb51
              replace hg1 := hg1.below hb51
              replace B1 := B1.below hb51
              replace M6 := M6.below hb51
              replace M7 := M7.below hb51
              replace B8 := B8.below hb51
              replace hbW : Below w.heap.size w u51 := hbW.trans (hb51.mono hbW.size)
              replace hbR : Below U.heap.size U u51 := hbR.trans (hb51.mono hbR.size)
              clear hb51
              generalize decide (((x1 - x0 : Int) : Rat) / ((16384 : Int) : Rat) ≠ 0) = qb
              have hM8 := hF8.ct
              obtain ⟨n8, x8, y8, ⟨a8, c8, b8, d8, rfl, _, _⟩, _⟩ := hF8
              clear p00 p01 p02 p10 p11 p20 p21 p30 p31 p32
              obtain ⟨p00, p01, p02, _⟩ := B1.cells
              obtain ⟨p10, p11, _⟩ := M6.cells
              obtain ⟨p20, p21, _⟩ := M7.cells
              obtain ⟨p30, p31, p32, _⟩ := B8.cells
              go_wp2_with fail
              refine hK.out _ _ ?_ (fun hHeld => ?_)
              · (try dsimp only)
                exact ⟨p00, p01, p02, p10, p11, p20, p21⟩
              clear hK K
              try simp only [Act.put, List.setIfInBounds_toArray, List.set_cons_zero, List.set_cons_succ]
              refine hTake (i := 12) (v := ?v376) rfl (by kernel_rfl) (by kernel_rfl) (by kernel_rfl) (fun _ _ _ h => h) (Or.inl ⟨by rfl, ?y376⟩) hHeld ?r376
              case y376 =>
                intro w9 hSw
                (try dsimp only at hSw)
                go_simp
                try with_reducible rfl
              try simp only [Act.put, List.setIfInBounds_toArray, List.set_cons_zero, List.set_cons_succ]
              refine hTake (i := 13) (v := ?v377) rfl (by kernel_rfl) (by kernel_rfl) (by kernel_rfl) (fun _ _ _ h => h) (Or.inl ⟨by rfl, ?y377⟩) hHeld ?r377
              case y377 =>
                intro w9 hSw
                (try dsimp only at hSw)
                go_simp
                try with_reducible rfl
              try simp only [Act.put, List.setIfInBounds_toArray, List.set_cons_zero, List.set_cons_succ]
              refine hTake (i := 14) (v := ?v378) rfl (by kernel_rfl) (by kernel_rfl) (by kernel_rfl) (fun _ _ _ h => h) (Or.inl ⟨by rfl, ?y378⟩) hHeld ?r378
              case y378 =>
                intro w9 hSw
                (try dsimp only at hSw)
                go_simp
                try with_reducible rfl
              try simp only [Act.put, List.setIfInBounds_toArray, List.set_cons_zero, List.set_cons_succ]
              refine hCall (i := 16) rfl (by kernel_rfl) (by rfl) (fun K hK => ?_)
              go_simp
              obtain ⟨u52, hU, A8, hbU, hK9, ho⟩ := set3_world B8 (.bool n8) (.slice a8 x8.length c8) (.slice b8 y8.length d8)
              rw [← hU]
              clear hU
              replace hbW := hbU _ _ hbW (by omega)
              replace hbR := hbU _ _ hbR (by omega)
              replace hM8 := hM8.keep hK9
              replace B1 := B1.other ho (by omega)
              replace B2 := B2.other ho (by omega)
              replace M6 := M6.other ho (by omega)
              replace M7 := M7.other ho (by omega)
              clear hbU hK9 ho hX
              have hX := HXU.out.below hbR
              clear p00 p01 p02 p10 p11 p20 p21 p30 p31 p32
              obtain ⟨p00, p01, p02, _⟩ := B1.cells
              obtain ⟨p10, p11, _⟩ := M6.cells
              obtain ⟨p20, p21, _⟩ := M7.cells
              obtain ⟨p30, p31, p32, _⟩ := A8.cells
              refine hK.out _ _ ?_ (fun hHeld => ?_)
              · (try dsimp only)
                exact ⟨p00, p01, p02, p10, p11, p20, p21⟩
              clear hK K
              try simp only [Act.put, List.setIfInBounds_toArray, List.set_cons_zero, List.set_cons_succ]
              refine hTake (i := 17) (v := ?v379) rfl (by kernel_rfl) (by kernel_rfl) (by kernel_rfl) (fun _ _ _ h => h) (Or.inl ⟨by rfl, ?y379⟩) hHeld ?r379
              case y379 =>
                intro w9 hSw
                (try dsimp only at hSw)
                go_simp
                try with_reducible rfl
              try simp only [Act.put, List.setIfInBounds_toArray, List.set_cons_zero, List.set_cons_succ]
              refine wpAnyH_done (by kernel_rfl) ?_ _
              clear hHeld
              go_wp2_with fail
              refine wp_region_held_drew (S := (fun u => u.cell? ⟨w.heap.size, 0, none⟩ = some (.bool nh) ∧ u.cell? ⟨w.heap.size, 1, none⟩ = some (.slice ah xh.length ch) ∧ u.cell? ⟨w.heap.size, 2, none⟩ = some (.slice bh yh.length dh) ∧ u.cell? ⟨g6, 0, none⟩ = some (.int .i64 x0) ∧ u.cell? ⟨g6, 1, none⟩ = some (.int .i64 y0) ∧ u.cell? ⟨g7, 0, none⟩ = some (.int .i64 x1) ∧ u.cell? ⟨g7, 1, none⟩ = some (.int .i64 y1) ∧ u.cell? ⟨g8, 0, none⟩ = some (.bool n8) ∧ u.cell? ⟨g8, 1, none⟩ = some (.slice a8 x8.length c8) ∧ u.cell? ⟨g8, 2, none⟩ = some (.slice b8 y8.length d8))) (by kernel_rfl) ?_ (fun hHeld => ?_)
              · (try dsimp only)
                go_keep
              have hdr : Below u52.heap.size u52 u52.drew := Below.drew1
              generalize u52.drew = ud380 at hdr hHeld ⊢
              replace hX := hX.below hdr
              replace B2 := B2.below hdr
              replace hM8 := hM8.below hdr
              replace B1 := B1.below hdr
              replace M6 := M6.below hdr
              replace M7 := M7.below hdr
              replace A8 := A8.below hdr
              replace hbW : Below w.heap.size w ud380 := hbW.trans (hdr.mono hbW.size)
              replace hbR : Below U.heap.size U ud380 := hbR.trans (hdr.mono hbR.size)
              clear hdr
              clear p00 p01 p02 p10 p11 p20 p21 p30 p31 p32
              obtain ⟨p00, p01, p02, _⟩ := B1.cells
              obtain ⟨p10, p11, _⟩ := M6.cells
              obtain ⟨p20, p21, _⟩ := M7.cells
              obtain ⟨p30, p31, p32, _⟩ := A8.cells
              refine hTake (i := 0) (v := ?v381) rfl (by kernel_rfl) (by kernel_rfl) (by kernel_rfl) (fun _ _ _ h => h) (Or.inl ⟨by rfl, ?y381⟩) hHeld ?r381
              case y381 =>
                intro w9 hSw
                (try dsimp only at hSw)
                go_simp
                try with_reducible rfl
              try simp only [Act.put, List.setIfInBounds_toArray, List.set_cons_zero, List.set_cons_succ]
              refine hTake (i := 1) (v := ?v382) rfl (by kernel_rfl) (by kernel_rfl) (by kernel_rfl) (fun _ _ _ h => h) (Or.inl ⟨by rfl, ?y382⟩) hHeld ?r382
              case y382 =>
                intro w9 hSw
                (try dsimp only at hSw)
                go_simp
                try with_reducible rfl
              try simp only [Act.put, List.setIfInBounds_toArray, List.set_cons_zero, List.set_cons_succ]
              refine hTake (i := 3) (v := ?v383) rfl (by kernel_rfl) (by kernel_rfl) (by kernel_rfl) (fun _ _ _ h => h) (Or.inl ⟨by rfl, ?y383⟩) hHeld ?r383
              case y383 =>
                intro w9 hSw
                (try dsimp only at hSw)
                go_simp
                try with_reducible rfl
              try simp only [Act.put, List.setIfInBounds_toArray, List.set_cons_zero, List.set_cons_succ]
              refine hTake (i := 4) (v := ?v384) rfl (by kernel_rfl) (by kernel_rfl) (by kernel_rfl) (fun _ _ _ h => h) (Or.inl ⟨by rfl, ?y384⟩) hHeld ?r384
              case y384 =>
                intro w9 hSw
                (try dsimp only at hSw)
                go_simp
                try with_reducible rfl
              try simp only [Act.put, List.setIfInBounds_toArray, List.set_cons_zero, List.set_cons_succ]
              refine hTake (i := 5) (v := ?v385) rfl (by kernel_rfl) (by kernel_rfl) (by kernel_rfl) (fun _ _ _ h => h) (Or.inl ⟨by rfl, ?y385⟩) hHeld ?r385
              case y385 =>
                intro w9 hSw
                (try dsimp only at hSw)
                go_simp
                try with_reducible rfl
              try simp only [Act.put, List.setIfInBounds_toArray, List.set_cons_zero, List.set_cons_succ]
              refine hTake (i := 6) (v := ?v386) rfl (by kernel_rfl) (by kernel_rfl) (by kernel_rfl) (fun _ _ _ h => h) (Or.inl ⟨by rfl, ?y386⟩) hHeld ?r386
              case y386 =>
                intro w9 hSw
                (try dsimp only at hSw)
                go_simp
                try with_reducible rfl
              try simp only [Act.put, List.setIfInBounds_toArray, List.set_cons_zero, List.set_cons_succ]
              refine hTake (i := 7) (v := ?v387) rfl (by kernel_rfl) (by kernel_rfl) (by kernel_rfl) (fun _ _ _ h => h) (Or.inl ⟨by rfl, ?y387⟩) hHeld ?r387
              case y387 =>
                intro w9 hSw
                (try dsimp only at hSw)
                go_simp
                try with_reducible rfl
              try simp only [Act.put, List.setIfInBounds_toArray, List.set_cons_zero, List.set_cons_succ]
              refine hTake (i := 8) (v := ?v388) rfl (by kernel_rfl) (by kernel_rfl) (by kernel_rfl) (fun _ _ _ h => h) (Or.inl ⟨by rfl, ?y388⟩) hHeld ?r388
              case y388 =>
                intro w9 hSw
                (try dsimp only at hSw)
                go_simp
                try with_reducible rfl
              try simp only [Act.put, List.setIfInBounds_toArray, List.set_cons_zero, List.set_cons_succ]
              refine hCall (i := 2) rfl (by kernel_rfl) (by rfl) (fun K hK => ?_)
              go_simp
              refine (sof14_any y0 _ (by omega) (by omega)).mono ?_
              rintro e u53 ⟨vt, rfl, hT1, hb53⟩
              replace hX := hX.below hb53
              replace B2 := B2.below hb53
              replace hM8 := hM8.below hb53
              replace B1 := B1.below hb53
              replace M6 := M6.below hb53
              replace M7 := M7.below hb53
              replace A8 := A8.below hb53
              replace hbW : Below w.heap.size w u53 := hbW.trans (hb53.mono hbW.size)
              replace hbR : Below U.heap.size U u53 := hbR.trans (hb53.mono hbR.size)
              clear hb53
              clear p00 p01 p02 p10 p11 p20 p21 p30 p31 p32
              obtain ⟨p00, p01, p02, _⟩ := B1.cells
              obtain ⟨p10, p11, _⟩ := M6.cells
              obtain ⟨p20, p21, _⟩ := M7.cells
              obtain ⟨p30, p31, p32, _⟩ := A8.cells
              go_wp2_with fail
              refine hK.out _ _ ?_ (fun hHeld => ?_)
              · (try dsimp only)
                exact ⟨p00, p01, p02, p10, p11, p20, p21, p30, p31, p32⟩
              clear hK K
              try simp only [Act.put, List.setIfInBounds_toArray, List.set_cons_zero, List.set_cons_succ]
              refine hCall (i := 9) rfl (by kernel_rfl) (by rfl) (fun K hK => ?_)
              go_simp
              refine (sof14_any (y1 - y0) _ (by omega) (by omega)).mono ?_
              rintro e u54 ⟨ve, rfl, hE1, hb54⟩
              replace hX := hX.below hb54
              replace B2 := B2.below hb54
              replace hM8 := hM8.below hb54
              replace hT1 := hT1.below hb54
              replace B1 := B1.below hb54
              replace M6 := M6.below hb54
              replace M7 := M7.below hb54
              replace A8 := A8.below hb54
              replace hbW : Below w.heap.size w u54 := hbW.trans (hb54.mono hbW.size)
              replace hbR : Below U.heap.size U u54 := hbR.trans (hb54.mono hbR.size)
              clear hb54
              clear p00 p01 p02 p10 p11 p20 p21 p30 p31 p32
              obtain ⟨p00, p01, p02, _⟩ := B1.cells
              obtain ⟨p10, p11, _⟩ := M6.cells
              obtain ⟨p20, p21, _⟩ := M7.cells
              obtain ⟨p30, p31, p32, _⟩ := A8.cells
              go_wp2_with fail
              refine hK.out _ _ ?_ (fun hHeld => ?_)
              · (try dsimp only)
                exact ⟨p00, p01, p02, p10, p11, p20, p21, p30, p31, p32⟩
              clear hK K
              try simp only [Act.put, List.setIfInBounds_toArray, List.set_cons_zero, List.set_cons_succ]
              refine hCall (i := 10) rfl (by kernel_rfl) (by rfl) (fun K hK => ?_)
              go_simp
              refine (smul_any (k + 3 + 2 + 1 + 2) 2 _ _ _ _ _ hM8 hE1.ct (by omega) (by decide) (by omega) (by decide)).mono ?_
              rintro e u55 ⟨vy, rfl, hY1, hb55⟩
              replace hX := hX.below hb55
              replace B2 := B2.below hb55
              replace hM8 := hM8.below hb55
              replace hT1 := hT1.below hb55
              replace hE1 := hE1.below hb55
              replace B1 := B1.below hb55
              replace M6 := M6.below hb55
              replace M7 := M7.below hb55
              replace A8 := A8.below hb55
              replace hbW : Below w.heap.size w u55 := hbW.trans (hb55.mono hbW.size)
              replace hbR : Below U.heap.size U u55 := hbR.trans (hb55.mono hbR.size)
              clear hb55
              clear p00 p01 p02 p10 p11 p20 p21 p30 p31 p32
              obtain ⟨p00, p01, p02, _⟩ := B1.cells
              obtain ⟨p10, p11, _⟩ := M6.cells
              obtain ⟨p20, p21, _⟩ := M7.cells
              obtain ⟨p30, p31, p32, _⟩ := A8.cells
              go_wp2_with fail
              refine hK.out _ _ ?_ (fun hHeld => ?_)
              · (try dsimp only)
                exact ⟨p00, p01, p02, p10, p11, p20, p21, p30, p31, p32⟩
              clear hK K
              try simp only [Act.put, List.setIfInBounds_toArray, List.set_cons_zero, List.set_cons_succ]
              refine hCall (i := 11) rfl (by kernel_rfl) (by rfl) (fun K hK => ?_)
              go_simp
              refine (sadd_any 2 (k + 3 + 2 + 1 + 2 + 2) _ _ _ _ _ hT1.ct hY1.ct (by decide) (by omega) (by decide) (by omega)).mono ?_
              rintro e u56 ⟨vr, rfl, hR, hb56⟩
              replace hX := hX.below hb56
              replace B2 := B2.below hb56
              replace hM8 := hM8.below hb56
              replace hT1 := hT1.below hb56
              replace hE1 := hE1.below hb56
              replace hY1 := hY1.below hb56
              replace B1 := B1.below hb56
              replace M6 := M6.below hb56
              replace M7 := M7.below hb56
              replace A8 := A8.below hb56
              replace hbW : Below w.heap.size w u56 := hbW.trans (hb56.mono hbW.size)
              replace hbR : Below U.heap.size U u56 := hbR.trans (hb56.mono hbR.size)
              clear hb56
              replace hR := (hR.eq HVAL.out).le (show 2 + (k + 3 + 2 + 1 + 2 + 2) + 1 ≤ k + 13 by omega)
              clear p00 p01 p02 p10 p11 p20 p21 p30 p31 p32
              obtain ⟨p00, p01, p02, _⟩ := B1.cells
              obtain ⟨p10, p11, _⟩ := M6.cells
              obtain ⟨p20, p21, _⟩ := M7.cells
              obtain ⟨p30, p31, p32, _⟩ := A8.cells
              go_wp2_with fail
              refine hK.out _ _ ?_ (fun hHeld => ?_)
              · (try dsimp only)
                exact ⟨p00, p01, p02, p10, p11, p20, p21, p30, p31, p32⟩
              clear hK K
              try simp only [Act.put, List.setIfInBounds_toArray, List.set_cons_zero, List.set_cons_succ]
              refine hCall (i := 12) rfl (by kernel_rfl) (by rfl) (fun K hK => ?_)
              go_simp
              obtain ⟨q1, q2, q3, q4, q5, q6⟩ := B2.cells
              obtain ⟨nr, xr, yr, ⟨ar, cr, br, dr, rfl, hxr, hyr⟩, hFr⟩ := hR
              go_simp
              obtain ⟨u57, hU, A2, hbU, hK9, ho⟩ := set3_world B2 (.bool nr) (.slice ar xr.length cr) (.slice br yr.length dr)
              rw [← hU]
              clear hU q1 q2 q3 q4 q5 q6
              replace hbW := hbU _ _ hbW (by omega)
              replace hxr := hK9 _ _ _ hxr
              replace hyr := hK9 _ _ _ hyr
              replace B1 := B1.other ho (by omega)
              replace M6 := M6.other ho (by omega)
              replace M7 := M7.other ho (by omega)
              replace A8 := A8.other ho (by omega)
              clear hbU hK9 ho
              clear p00 p01 p02 p10 p11 p20 p21 p30 p31 p32
              obtain ⟨p00, p01, p02, _⟩ := B1.cells
              obtain ⟨p10, p11, _⟩ := M6.cells
              obtain ⟨p20, p21, _⟩ := M7.cells
              obtain ⟨p30, p31, p32, _⟩ := A8.cells
              refine hK.out _ _ ?_ (fun hHeld => ?_)
              · (try dsimp only)
                exact ⟨p00, p01, p02, p10, p11, p20, p21, p30, p31, p32⟩
              clear hK K
              try simp only [Act.put, List.setIfInBounds_toArray, List.set_cons_zero, List.set_cons_succ]
              refine wpAnyH_done (by kernel_rfl) ?_ _
              go_wp2
              refine bodyPost_ret (by obtain ⟨r1, r2, r3, _⟩ := A2.cells; simp [results, Tryz.results15, go_sem, r1, r2, r3]) rfl ⟨_, rfl, ⟨_, _, _, ⟨_, _, _, _, rfl, hxr, hyr⟩, hFr⟩, hbW⟩
        · have gd : decide (s ≤ 0) = false := decide_eq_false (by rw [← HS.out]; exact Int.not_le.2 (sgn_pos.2 (Rat.not_le.1 hle)))
          have HLT : Hid (((x1 : Int) : Rat) / ((16384 : Int) : Rat) < p) := Rat.not_le.1 hle
          go_wp2_with fail
          refine wp_region_held_drew (S := (fun u => u.cell? ⟨b, (off + j * 2), none⟩ = some (.int .i64 x0) ∧ u.cell? ⟨b, (off + j * 2 + 1), none⟩ = some (.int .i64 y0) ∧ u.cell? ⟨b, (off + (j + 1) * 2), none⟩ = some (.int .i64 x1) ∧ u.cell? ⟨b, (off + (j + 1) * 2 + 1), none⟩ = some (.int .i64 y1) ∧ u.cell? ⟨w.heap.size, 0, none⟩ = some (.bool nh) ∧ u.cell? ⟨w.heap.size, 1, none⟩ = some (.slice ah xh.length ch) ∧ u.cell? ⟨w.heap.size, 2, none⟩ = some (.slice bh yh.length dh))) (by kernel_rfl) ?_ (fun hHeld => ?_)
          · (try dsimp only)
            go_keep
          have hdr : Below wr.heap.size wr wr.drew := Below.drew1
          generalize wr.drew = ud389 at hdr hHeld ⊢
          replace hX := hX.below hdr
          replace B2 := B2.below hdr
          replace T2 := T2.below hdr
          replace B1 := B1.below hdr
          replace hbW : Below w.heap.size w ud389 := hbW.trans (hdr.mono hbW.size)
          replace hbR : Below U.heap.size U ud389 := hbR.trans (hdr.mono hbR.size)
          clear hdr
          clear p00 p01 p02 p03 p10 p11 p12
          obtain ⟨p00, p01, p02, p03⟩ := T2.cells
          obtain ⟨p10, p11, p12, _⟩ := B1.cells
          refine hTake (i := 0) (v := ?v390) rfl (by kernel_rfl) (by kernel_rfl) (by kernel_rfl) (fun _ _ _ h => h) (Or.inl ⟨by rfl, ?y390⟩) hHeld ?r390
          case y390 =>
            intro w9 hSw
            (try dsimp only at hSw)
            go_simp
            try with_reducible rfl
          try simp only [Act.put, List.setIfInBounds_toArray, List.set_cons_zero, List.set_cons_succ]
          refine hTake (i := 1) (v := ?v391) rfl (by kernel_rfl) (by kernel_rfl) (by kernel_rfl) (fun _ _ _ h => h) (Or.inl ⟨by rfl, ?y391⟩) hHeld ?r391
          case y391 =>
            intro w9 hSw
            (try dsimp only at hSw)
            go_simp
            try with_reducible rfl
          try simp only [Act.put, List.setIfInBounds_toArray, List.set_cons_zero, List.set_cons_succ]
          refine hTake (i := 2) (v := ?v392) rfl (by kernel_rfl) (by kernel_rfl) (by kernel_rfl) (fun _ _ _ h => h) (Or.inl ⟨by rfl, ?y392⟩) hHeld ?r392
          case y392 =>
            intro w9 hSw
            (try dsimp only at hSw)
            go_simp
            try with_reducible rfl
          try simp only [Act.put, List.setIfInBounds_toArray, List.set_cons_zero, List.set_cons_succ]
          refine hTake (i := 3) (v := ?v393) rfl (by kernel_rfl) (by kernel_rfl) (by kernel_rfl) (fun _ _ _ h => h) (Or.inl ⟨by rfl, ?y393⟩) hHeld ?r393
          case y393 =>
            intro w9 hSw
            (try dsimp only at hSw)
            go_simp
            try with_reducible rfl
          try simp only [Act.put, List.setIfInBounds_toArray, List.set_cons_zero, List.set_cons_succ]
          refine hTake (i := 4) (v := ?v394) rfl (by kernel_rfl) (by kernel_rfl) (by kernel_rfl) (fun _ _ _ h => h) (Or.inl ⟨by rfl, ?y394⟩) hHeld ?r394
          case y394 =>
            intro w9 hSw
            (try dsimp only at hSw)
            go_simp
            try with_reducible rfl
          try simp only [Act.put, List.setIfInBounds_toArray, List.set_cons_zero, List.set_cons_succ]
          refine hTake (i := 5) (v := ?v395) rfl (by kernel_rfl) (by kernel_rfl) (by kernel_rfl) (fun _ _ _ h => h) (Or.inl ⟨by rfl, ?y395⟩) hHeld ?r395
          case y395 =>
            intro w9 hSw
            (try dsimp only at hSw)
            go_simp
            try with_reducible rfl
          try simp only [Act.put, List.setIfInBounds_toArray, List.set_cons_zero, List.set_cons_succ]
          refine hTake (i := 6) (v := ?v396) rfl (by kernel_rfl) (by kernel_rfl) (by kernel_rfl) (fun _ _ _ h => h) (Or.inl ⟨by rfl, ?y396⟩) hHeld ?r396
          case y396 =>
            intro w9 hSw
            (try dsimp only at hSw)
            go_simp
            try with_reducible rfl
          try simp only [Act.put, List.setIfInBounds_toArray, List.set_cons_zero, List.set_cons_succ]
          refine hTake (i := 7) (v := ?v397) rfl (by kernel_rfl) (by kernel_rfl) (by kernel_rfl) (fun _ _ _ h => h) (Or.inl ⟨by rfl, ?y397⟩) hHeld ?r397
          case y397 =>
            intro w9 hSw
            (try dsimp only at hSw)
            go_simp
            try with_reducible rfl
          try simp only [Act.put, List.setIfInBounds_toArray, List.set_cons_zero, List.set_cons_succ]
          refine hTake (i := 8) (v := ?v398) rfl (by kernel_rfl) (by kernel_rfl) (by kernel_rfl) (fun _ _ _ h => h) (Or.inl ⟨by rfl, ?y398⟩) hHeld ?r398
          case y398 =>
            intro w9 hSw
            (try dsimp only at hSw)
            go_simp
            try with_reducible rfl
          try simp only [Act.put, List.setIfInBounds_toArray, List.set_cons_zero, List.set_cons_succ]
          refine wpAnyH_ready (rs := [9, 10]) (by kernel_rfl) (by simp) (hCons (i := 9) rfl (by rfl) (fun K hK => ?_) (hCons (i := 10) rfl (by rfl) (fun K hK => ?_) AllReadyH.nil))
          · go_simp
            obtain ⟨u41, hU, L6, hb9⟩ : ∃ U, U = ud389.alloc (.cells #[.int .i64 0, .int .i64 0] 49) ∧ BxP U ud389.heap.size (.int .i64 0) (.int .i64 0) ∧ Below ud389.heap.size ud389 U := ⟨_, rfl, BxP.new _ _ _, bl1 _⟩
            rw [← hU]
            clear hU
            have n61 := hbR.size
            have n62 := T2.1
            replace hX := hX.below hb9
            replace B2 := B2.below hb9
            replace T2 := T2.below hb9
            replace B1 := B1.below hb9
            replace hbW : Below w.heap.size w u41 := hbW.trans (hb9.mono hbW.size)
            replace hbR : Below U.heap.size U u41 := hbR.trans (hb9.mono hbR.size)
            clear hb9
            generalize ud389.heap.size = g6 at L6 n61 n62 ⊢
            clear p00 p01 p02 p03 p10 p11 p12
            obtain ⟨p00, p01, p02, p03⟩ := T2.cells
            obtain ⟨p10, p11, p12, _⟩ := B1.cells
            obtain ⟨p20, p21, _⟩ := L6.cells
            refine hK.out _ _ ?_ (fun hHeld => ?_)
            · (try dsimp only)
              exact ⟨p00, p01, p02, p03, p10, p11, p12⟩
            clear hK K
            try simp only [Act.put, List.setIfInBounds_toArray, List.set_cons_zero, List.set_cons_succ]
            refine hCall (i := 10) rfl (by kernel_rfl) (by rfl) (fun K hK => ?_)
            go_simp
            obtain ⟨u42, hU, L7, hb9⟩ : ∃ U, U = u41.alloc (.cells #[.int .i64 0, .int .i64 0] 49) ∧ BxP U u41.heap.size (.int .i64 0) (.int .i64 0) ∧ Below u41.heap.size u41 U := ⟨_, rfl, BxP.new _ _ _, bl1 _⟩
            rw [← hU]
            clear hU
            have n71 := hbR.size
            have n72 := T2.1
            have nn2 := L6.lt
            replace hX := hX.below hb9
            replace B2 := B2.below hb9
            replace T2 := T2.below hb9
            replace B1 := B1.below hb9
            replace L6 := L6.below hb9
            replace hbW : Below w.heap.size w u42 := hbW.trans (hb9.mono hbW.size)
            replace hbR : Below U.heap.size U u42 := hbR.trans (hb9.mono hbR.size)
            clear hb9
            generalize u41.heap.size = g7 at L7 n71 n72 nn2 ⊢
            clear p00 p01 p02 p03 p10 p11 p12 p20 p21
            obtain ⟨p00, p01, p02, p03⟩ := T2.cells
            obtain ⟨p10, p11, p12, _⟩ := B1.cells
            obtain ⟨p20, p21, _⟩ := L6.cells
            obtain ⟨p30, p31, _⟩ := L7.cells
            refine hK.out _ _ ?_ (fun hHeld => ?_)
            · (try dsimp only)
              exact ⟨p00, p01, p02, p03, p10, p11, p12⟩
            clear hK K
            try simp only [Act.put, List.setIfInBounds_toArray, List.set_cons_zero, List.set_cons_succ]
            refine hCall (i := 11) rfl (by kernel_rfl) (by rfl) (fun K hK => ?_)
            go_simp
            obtain ⟨q1, q2, q3, q4⟩ := L6.cells
            go_simp
            obtain ⟨u43, hU, M6, hbU, ho⟩ := L6.set_world (.int .i64 x0) (.int .i64 y0)
            rw [← hU]
            clear hU q1 q2 q3 q4
            replace hbW := hbU _ _ hbW (by omega)
            replace hbR := hbU _ _ hbR (by omega)
            replace T2 := T2.other ho (by omega)
            replace B1 := B1.other ho (by omega)
            replace B2 := B2.other ho (by omega)
            replace L7 := L7.other ho (by omega)
            clear hbU ho hX
            have hX := HXU.out.below hbR
            clear p00 p01 p02 p03 p10 p11 p12 p20 p21 p30 p31
            obtain ⟨p00, p01, p02, p03⟩ := T2.cells
            obtain ⟨p10, p11, p12, _⟩ := B1.cells
            obtain ⟨p20, p21, _⟩ := L7.cells
            obtain ⟨p30, p31, _⟩ := M6.cells
            refine hK.out _ _ ?_ (fun hHeld => ?_)
            · (try dsimp only)
              exact ⟨p00, p01, p02, p03, p10, p11, p12⟩
            clear hK K
            try simp only [Act.put, List.setIfInBounds_toArray, List.set_cons_zero, List.set_cons_succ]
            refine hCall (i := 12) rfl (by kernel_rfl) (by rfl) (fun K hK => ?_)
            go_simp
            obtain ⟨q1, q2, q3, q4⟩ := L7.cells
            go_simp
            obtain ⟨u44, hU, M7, hbU, ho⟩ := L7.set_world (.int .i64 x1) (.int .i64 y1)
            rw [← hU]
            clear hU q1 q2 q3 q4
            replace hbW := hbU _ _ hbW (by omega)
            replace hbR := hbU _ _ hbR (by omega)
            replace T2 := T2.other ho (by omega)
            replace B1 := B1.other ho (by omega)
            replace B2 := B2.other ho (by omega)
            replace M6 := M6.other ho (by omega)
            clear hbU ho hX
            have hX := HXU.out.below hbR
            clear p00 p01 p02 p03 p10 p11 p12 p20 p21 p30 p31
            obtain ⟨p00, p01, p02, p03⟩ := T2.cells
            obtain ⟨p10, p11, p12, _⟩ := B1.cells
            obtain ⟨p20, p21, _⟩ := M6.cells
            obtain ⟨p30, p31, _⟩ := M7.cells
            refine hK.out _ _ ?_ (fun hHeld => ?_)
            · (try dsimp only)
              exact ⟨p00, p01, p02, p03, p10, p11, p12⟩
            clear hK K
            try simp only [Act.put, List.setIfInBounds_toArray, List.set_cons_zero, List.set_cons_succ]
            refine wpAnyH_done (by kernel_rfl) ?_ _
            clear hHeld
            go_wp2_with fail
            clear p00 p01 p02 p03 p10 p11 p12 p20 p21 p30 p31 T2
            obtain ⟨p00, p01, p02, _⟩ := B1.cells
            obtain ⟨p10, p11, _⟩ := M6.cells
            obtain ⟨p20, p21, _⟩ := M7.cells
            refine wp_region_held_drew (S := (fun u => u.cell? ⟨w.heap.size, 0, none⟩ = some (.bool nh) ∧ u.cell? ⟨w.heap.size, 1, none⟩ = some (.slice ah xh.length ch) ∧ u.cell? ⟨w.heap.size, 2, none⟩ = some (.slice bh yh.length dh) ∧ u.cell? ⟨g6, 0, none⟩ = some (.int .i64 x0) ∧ u.cell? ⟨g6, 1, none⟩ = some (.int .i64 y0) ∧ u.cell? ⟨g7, 0, none⟩ = some (.int .i64 x1) ∧ u.cell? ⟨g7, 1, none⟩ = some (.int .i64 y1))) (by kernel_rfl) ?_ (fun hHeld => ?_)
            · (try dsimp only)
              go_keep
            have hdr : Below u44.heap.size u44 u44.drew := Below.drew1
            generalize u44.drew = ud399 at hdr hHeld ⊢
            replace hX := hX.below hdr
            replace B2 := B2.below hdr
            replace B1 := B1.below hdr
            replace M6 := M6.below hdr
            replace M7 := M7.below hdr
            replace hbW : Below w.heap.size w ud399 := hbW.trans (hdr.mono hbW.size)
            replace hbR : Below U.heap.size U ud399 := hbR.trans (hdr.mono hbR.size)
            clear hdr
            clear p00 p01 p02 p10 p11 p20 p21
            obtain ⟨p00, p01, p02, _⟩ := B1.cells
            obtain ⟨p10, p11, _⟩ := M6.cells
            obtain ⟨p20, p21, _⟩ := M7.cells
            refine hTake (i := 0) (v := ?v400) rfl (by kernel_rfl) (by kernel_rfl) (by kernel_rfl) (fun _ _ _ h => h) (Or.inl ⟨by rfl, ?y400⟩) hHeld ?r400
            case y400 =>
              intro w9 hSw
              (try dsimp only at hSw)
              go_simp
              try with_reducible rfl
            try simp only [Act.put, List.setIfInBounds_toArray, List.set_cons_zero, List.set_cons_succ]
            refine hTake (i := 1) (v := ?v401) rfl (by kernel_rfl) (by kernel_rfl) (by kernel_rfl) (fun _ _ _ h => h) (Or.inl ⟨by rfl, ?y401⟩) hHeld ?r401
            case y401 =>
              intro w9 hSw
              (try dsimp only at hSw)
              go_simp
              try with_reducible rfl
            try simp only [Act.put, List.setIfInBounds_toArray, List.set_cons_zero, List.set_cons_succ]
            refine hTake (i := 2) (v := ?v402) rfl (by kernel_rfl) (by kernel_rfl) (by kernel_rfl) (fun _ _ _ h => h) (Or.inl ⟨by rfl, ?y402⟩) hHeld ?r402
            case y402 =>
              intro w9 hSw
              (try dsimp only at hSw)
              go_simp
              try with_reducible rfl
            try simp only [Act.put, List.setIfInBounds_toArray, List.set_cons_zero, List.set_cons_succ]
            refine hCall (i := 3) rfl (by kernel_rfl) (by rfl) (fun K hK => ?_)
            go_simp
            refine (sof14_any x1 _ (by omega) (by omega)).mono ?_
            rintro e u45 ⟨vb, rfl, hFb, hb45⟩
            replace hX := hX.below hb45
            replace B2 := B2.below hb45
            replace B1 := B1.below hb45
            replace M6 := M6.below hb45
            replace M7 := M7.below hb45
            replace hbW : Below w.heap.size w u45 := hbW.trans (hb45.mono hbW.size)
            replace hbR : Below U.heap.size U u45 := hbR.trans (hb45.mono hbR.size)
            clear hb45
            clear p00 p01 p02 p10 p11 p20 p21
            obtain ⟨p00, p01, p02, _⟩ := B1.cells
            obtain ⟨p10, p11, _⟩ := M6.cells
            obtain ⟨p20, p21, _⟩ := M7.cells
            go_wp2_with fail
            refine hK.out _ _ ?_ (fun hHeld => ?_)
            · (try dsimp only)
              exact ⟨p00, p01, p02, p10, p11, p20, p21⟩
            clear hK K
            try simp only [Act.put, List.setIfInBounds_toArray, List.set_cons_zero, List.set_cons_succ]
            refine hCall (i := 4) rfl (by kernel_rfl) (by rfl) (fun K hK => ?_)
            go_simp
            refine (scmp_any (k + 3) 2 _ _ _ _ _ hX hFb.ct (by omega) (by decide) (by omega) (by decide)).mono ?_
            rintro e u46 ⟨rfl, hb46⟩
            replace hX := hX.below hb46
            replace B2 := B2.below hb46
            replace hFb := hFb.below hb46
            replace B1 := B1.below hb46
            replace M6 := M6.below hb46
            replace M7 := M7.below hb46
            replace hbW : Below w.heap.size w u46 := hbW.trans (hb46.mono hbW.size)
            replace hbR : Below U.heap.size U u46 := hbR.trans (hb46.mono hbR.size)
            clear hb46 hFb
            rw [HS.out]
            clear p00 p01 p02 p10 p11 p20 p21
            obtain ⟨p00, p01, p02, _⟩ := B1.cells
            obtain ⟨p10, p11, _⟩ := M6.cells
            obtain ⟨p20, p21, _⟩ := M7.cells
            go_wp2_with fail
            refine hK.out _ _ ?_ (fun hHeld => ?_)
            · (try dsimp only)
              exact ⟨p00, p01, p02, p10, p11, p20, p21⟩
            clear hK K
            try simp only [Act.put, List.setIfInBounds_toArray, List.set_cons_zero, List.set_cons_succ]
            refine hTake (i := 5) (v := ?v403) rfl (by kernel_rfl) (by kernel_rfl) (by kernel_rfl) (fun _ _ _ h => h) (Or.inl ⟨by rfl, ?y403⟩) hHeld ?r403
            case y403 =>
              intro w9 hSw
              (try dsimp only at hSw)
              go_simp
              try with_reducible rfl
            try simp only [Act.put, List.setIfInBounds_toArray, List.set_cons_zero, List.set_cons_succ]
            refine wpAnyH_done (by kernel_rfl) ?_ _
            clear hHeld
            go_wp2
            go_roundw
            case rel =>
              refine ⟨j + 1, by omega, by go_num, fun i hi hi2 => ?_, hbR⟩
              rcases Nat.lt_or_ge i j with h1 | h1
              · exact HNO.out i h1 hi2
              · have : i = j := by omega
                rw [this, HST.out.2]
                exact HLT.out
            case measure => simp [intOf]; omega
          · go_simp
            obtain ⟨u41, hU, L7, hb9⟩ : ∃ U, U = ud389.alloc (.cells #[.int .i64 0, .int .i64 0] 49) ∧ BxP U ud389.heap.size (.int .i64 0) (.int .i64 0) ∧ Below ud389.heap.size ud389 U := ⟨_, rfl, BxP.new _ _ _, bl1 _⟩
            rw [← hU]
            clear hU
            have n71 := hbR.size
            have n72 := T2.1
            replace hX := hX.below hb9
            replace B2 := B2.below hb9
            replace T2 := T2.below hb9
            replace B1 := B1.below hb9
            replace hbW : Below w.heap.size w u41 := hbW.trans (hb9.mono hbW.size)
            replace hbR : Below U.heap.size U u41 := hbR.trans (hb9.mono hbR.size)
            clear hb9
            generalize ud389.heap.size = g7 at L7 n71 n72 ⊢
            clear p00 p01 p02 p03 p10 p11 p12
            obtain ⟨p00, p01, p02, p03⟩ := T2.cells
            obtain ⟨p10, p11, p12, _⟩ := B1.cells
            obtain ⟨p20, p21, _⟩ := L7.cells
            refine hK.out _ _ ?_ (fun hHeld => ?_)
            · (try dsimp only)
              exact ⟨p00, p01, p02, p03, p10, p11, p12⟩
            clear hK K
            try simp only [Act.put, List.setIfInBounds_toArray, List.set_cons_zero, List.set_cons_succ]
            refine hCall (i := 9) rfl (by kernel_rfl) (by rfl) (fun K hK => ?_)
            go_simp
            obtain ⟨u42, hU, L6, hb9⟩ : ∃ U, U = u41.alloc (.cells #[.int .i64 0, .int .i64 0] 49) ∧ BxP U u41.heap.size (.int .i64 0) (.int .i64 0) ∧ Below u41.heap.size u41 U := ⟨_, rfl, BxP.new _ _ _, bl1 _⟩
            rw [← hU]
            clear hU
            have n61 := hbR.size
            have n62 := T2.1
            have nn2 := L7.lt
            replace hX := hX.below hb9
            replace B2 := B2.below hb9
            replace T2 := T2.below hb9
            replace B1 := B1.below hb9
            replace L7 := L7.below hb9
            replace hbW : Below w.heap.size w u42 := hbW.trans (hb9.mono hbW.size)
            replace hbR : Below U.heap.size U u42 := hbR.trans (hb9.mono hbR.size)
            clear hb9
            generalize u41.heap.size = g6 at L6 n61 n62 nn2 ⊢
            clear p00 p01 p02 p03 p10 p11 p12 p20 p21
            obtain ⟨p00, p01, p02, p03⟩ := T2.cells
            obtain ⟨p10, p11, p12, _⟩ := B1.cells
            obtain ⟨p20, p21, _⟩ := L7.cells
            obtain ⟨p30, p31, _⟩ := L6.cells
            refine hK.out _ _ ?_ (fun hHeld => ?_)
            · (try dsimp only)
              exact ⟨p00, p01, p02, p03, p10, p11, p12⟩
            clear hK K
            try simp only [Act.put, List.setIfInBounds_toArray, List.set_cons_zero, List.set_cons_succ]
            refine hCall (i := 11) rfl (by kernel_rfl) (by rfl) (fun K hK => ?_)
            go_simp
            obtain ⟨q1, q2, q3, q4⟩ := L6.cells
            go_simp
            obtain ⟨u43, hU, M6, hbU, ho⟩ := L6.set_world (.int .i64 x0) (.int .i64 y0)
            rw [← hU]
            clear hU q1 q2 q3 q4
            replace hbW := hbU _ _ hbW (by omega)
            replace hbR := hbU _ _ hbR (by omega)
            replace T2 := T2.other ho (by omega)
            replace B1 := B1.other ho (by omega)
            replace B2 := B2.other ho (by omega)
            replace L7 := L7.other ho (by omega)
            clear hbU ho hX
            have hX := HXU.out.below hbR
            clear p00 p01 p02 p03 p10 p11 p12 p20 p21 p30 p31
            obtain ⟨p00, p01, p02, p03⟩ := T2.cells
            obtain ⟨p10, p11, p12, _⟩ := B1.cells
            obtain ⟨p20, p21, _⟩ := L7.cells
            obtain ⟨p30, p31, _⟩ := M6.cells
            refine hK.out _ _ ?_ (fun hHeld => ?_)
            · (try dsimp only)
              exact ⟨p00, p01, p02, p03, p10, p11, p12⟩
            clear hK K
            try simp only [Act.put, List.setIfInBounds_toArray, List.set_cons_zero, List.set_cons_succ]
            refine hCall (i := 12) rfl (by kernel_rfl) (by rfl) (fun K hK => ?_)
            go_simp
            obtain ⟨q1, q2, q3, q4⟩ := L7.cells
            go_simp
            obtain ⟨u44, hU, M7, hbU, ho⟩ := L7.set_world (.int .i64 x1) (.int .i64 y1)
            rw [← hU]
            clear hU q1 q2 q3 q4
            replace hbW := hbU _ _ hbW (by omega)
            replace hbR := hbU _ _ hbR (by omega)
            replace T2 := T2.other ho (by omega)
            replace B1 := B1.other ho (by omega)
            replace B2 := B2.other ho (by omega)
            replace M6 := M6.other ho (by omega)
            clear hbU ho hX
            have hX := HXU.out.below hbR
            clear p00 p01 p02 p03 p10 p11 p12 p20 p21 p30 p31
            obtain ⟨p00, p01, p02, p03⟩ := T2.cells
            obtain ⟨p10, p11, p12, _⟩ := B1.cells
            obtain ⟨p20, p21, _⟩ := M6.cells
            obtain ⟨p30, p31, _⟩ := M7.cells
            refine hK.out _ _ ?_ (fun hHeld => ?_)
            · (try dsimp only)
              exact ⟨p00, p01, p02, p03, p10, p11, p12⟩
            clear hK K
            try simp only [Act.put, List.setIfInBounds_toArray, List.set_cons_zero, List.set_cons_succ]
            refine wpAnyH_done (by kernel_rfl) ?_ _
            clear hHeld
            go_wp2_with fail
            clear p00 p01 p02 p03 p10 p11 p12 p20 p21 p30 p31 T2
            obtain ⟨p00, p01, p02, _⟩ := B1.cells
            obtain ⟨p10, p11, _⟩ := M6.cells
            obtain ⟨p20, p21, _⟩ := M7.cells
            refine wp_region_held_drew (S := (fun u => u.cell? ⟨w.heap.size, 0, none⟩ = some (.bool nh) ∧ u.cell? ⟨w.heap.size, 1, none⟩ = some (.slice ah xh.length ch) ∧ u.cell? ⟨w.heap.size, 2, none⟩ = some (.slice bh yh.length dh) ∧ u.cell? ⟨g6, 0, none⟩ = some (.int .i64 x0) ∧ u.cell? ⟨g6, 1, none⟩ = some (.int .i64 y0) ∧ u.cell? ⟨g7, 0, none⟩ = some (.int .i64 x1) ∧ u.cell? ⟨g7, 1, none⟩ = some (.int .i64 y1))) (by kernel_rfl) ?_ (fun hHeld => ?_)
            · (try dsimp only)
              go_keep
            have hdr : Below u44.heap.size u44 u44.drew := Below.drew1
            generalize u44.drew = ud404 at hdr hHeld ⊢
            replace hX := hX.below hdr
            replace B2 := B2.below hdr
            replace B1 := B1.below hdr
            replace M6 := M6.below hdr
            replace M7 := M7.below hdr
            replace hbW : Below w.heap.size w ud404 := hbW.trans (hdr.mono hbW.size)
            replace hbR : Below U.heap.size U ud404 := hbR.trans (hdr.mono hbR.size)
            clear hdr
            clear p00 p01 p02 p10 p11 p20 p21
            obtain ⟨p00, p01, p02, _⟩ := B1.cells
            obtain ⟨p10, p11, _⟩ := M6.cells
            obtain ⟨p20, p21, _⟩ := M7.cells
            refine hTake (i := 0) (v := ?v405) rfl (by kernel_rfl) (by kernel_rfl) (by kernel_rfl) (fun _ _ _ h => h) (Or.inl ⟨by rfl, ?y405⟩) hHeld ?r405
            case y405 =>
              intro w9 hSw
              (try dsimp only at hSw)
              go_simp
              try with_reducible rfl
            try simp only [Act.put, List.setIfInBounds_toArray, List.set_cons_zero, List.set_cons_succ]
            refine hTake (i := 1) (v := ?v406) rfl (by kernel_rfl) (by kernel_rfl) (by kernel_rfl) (fun _ _ _ h => h) (Or.inl ⟨by rfl, ?y406⟩) hHeld ?r406
            case y406 =>
              intro w9 hSw
              (try dsimp only at hSw)
              go_simp
              try with_reducible rfl
            try simp only [Act.put, List.setIfInBounds_toArray, List.set_cons_zero, List.set_cons_succ]
            refine hTake (i := 2) (v := ?v407) rfl (by kernel_rfl) (by kernel_rfl) (by kernel_rfl) (fun _ _ _ h => h) (Or.inl ⟨by rfl, ?y407⟩) hHeld ?r407
            case y407 =>
              intro w9 hSw
              (try dsimp only at hSw)
              go_simp
              try with_reducible rfl
            try simp only [Act.put, List.setIfInBounds_toArray, List.set_cons_zero, List.set_cons_succ]
            refine hCall (i := 3) rfl (by kernel_rfl) (by rfl) (fun K hK => ?_)
            go_simp
            refine (sof14_any x1 _ (by omega) (by omega)).mono ?_
            rintro e u45 ⟨vb, rfl, hFb, hb45⟩
            replace hX := hX.below hb45
            replace B2 := B2.below hb45
            replace B1 := B1.below hb45
            replace M6 := M6.below hb45
            replace M7 := M7.below hb45
            replace hbW : Below w.heap.size w u45 := hbW.trans (hb45.mono hbW.size)
            replace hbR : Below U.heap.size U u45 := hbR.trans (hb45.mono hbR.size)
            clear hb45
            clear p00 p01 p02 p10 p11 p20 p21
            obtain ⟨p00, p01, p02, _⟩ := B1.cells
            obtain ⟨p10, p11, _⟩ := M6.cells
            obtain ⟨p20, p21, _⟩ := M7.cells
            go_wp2_with fail
            refine hK.out _ _ ?_ (fun hHeld => ?_)
            · (try dsimp only)
              exact ⟨p00, p01, p02, p10, p11, p20, p21⟩
            clear hK K
            try simp only [Act.put, List.setIfInBounds_toArray, List.set_cons_zero, List.set_cons_succ]
            refine hCall (i := 4) rfl (by kernel_rfl) (by rfl) (fun K hK => ?_)
            go_simp
            refine (scmp_any (k + 3) 2 _ _ _ _ _ hX hFb.ct (by omega) (by decide) (by omega) (by decide)).mono ?_
            rintro e u46 ⟨rfl, hb46⟩
            replace hX := hX.below hb46
            replace B2 := B2.below hb46
            replace hFb := hFb.below hb46
            replace B1 := B1.below hb46
            replace M6 := M6.below hb46
            replace M7 := M7.below hb46
            replace hbW : Below w.heap.size w u46 := hbW.trans (hb46.mono hbW.size)
            replace hbR : Below U.heap.size U u46 := hbR.trans (hb46.mono hbR.size)
            clear hb46 hFb
            rw [HS.out]
            clear p00 p01 p02 p10 p11 p20 p21
            obtain ⟨p00, p01, p02, _⟩ := B1.cells
            obtain ⟨p10, p11, _⟩ := M6.cells
            obtain ⟨p20, p21, _⟩ := M7.cells
            go_wp2_with fail
            refine hK.out _ _ ?_ (fun hHeld => ?_)
            · (try dsimp only)
              exact ⟨p00, p01, p02, p10, p11, p20, p21⟩
            clear hK K
            try simp only [Act.put, List.setIfInBounds_toArray, List.set_cons_zero, List.set_cons_succ]
            refine hTake (i := 5) (v := ?v408) rfl (by kernel_rfl) (by kernel_rfl) (by kernel_rfl) (fun _ _ _ h => h) (Or.inl ⟨by rfl, ?y408⟩) hHeld ?r408
            case y408 =>
              intro w9 hSw
              (try dsimp only at hSw)
              go_simp
              try with_reducible rfl
            try simp only [Act.put, List.setIfInBounds_toArray, List.set_cons_zero, List.set_cons_succ]
            refine wpAnyH_done (by kernel_rfl) ?_ _
            clear hHeld
            go_wp2
            go_roundw
            case rel =>
              refine ⟨j + 1, by omega, by go_num, fun i hi hi2 => ?_, hbR⟩
              rcases Nat.lt_or_ge i j with h1 | h1
              · exact HNO.out i h1 hi2
              · have : i = j := by omega
                rw [this, HST.out.2]
                exact HLT.out
            case measure => simp [intOf]; omega
      · have HX : Hid (beQ l q = p) := by
          show _ = _
          rw [HQ.out]
          rcases frP_iff.1 HF.out with hh | hh
          · obtain rfl := List.length_eq_zero_iff.1 hh
            rfl
          · exfalso
            have h3 := (FpP.doc.1 hh).1
            have := HNO.out (l.length - 2) (by omega) (by omega)
            rw [show l.length - 2 + 1 = l.length - 1 by omega, hh.2.2.2.1] at this
            dsimp only at this
            rw [r14_one] at this
            exact absurd HP1.out.2 (Rat.not_le.2 this)
        have g1 : ¬ (j : Int) + 1 < (l.length : Int) := by omega
        have hsz := HBW.out.size
        have hs1 := HB2.out.lt
        obtain ⟨p0, p1, p2, _⟩ := B1.cells
        obtain ⟨q1, q2, q3, q4, q5, q6⟩ := B2.cells
        have hx' := HRX.out.1.below hbR
        have hy' := HRX.out.2.below hbR
        clear hP hX
        go_wp2
        refine ret3 (v := .agg #[.bool nh, .slice ah xh.length ch, .slice bh yh.length dh]) B2 rfl (fun U hU => by obtain ⟨r1, r2, r3, _⟩ := hU.cells; simp [results, Tryz.results15, go_sem, r1, r2, r3]) (fun U hU hK => ⟨_, rfl, Fr.le (Fr.eq ⟨_, _, _, ⟨_, _, _, _, rfl, hK _ _ _ hx', hK _ _ _ hy'⟩, HFH.out⟩ HX.out.symm) (show k + 3 ≤ k + 13 by omega), hU _ _ hbW (by omega)⟩)

end Go.Proofs.YtdholmnniccbcaaGreatDoor
