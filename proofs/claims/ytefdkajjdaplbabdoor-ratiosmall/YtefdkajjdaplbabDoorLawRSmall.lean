/-
  foundrylaw02.RatioSmall: the walk.
-/
import Derived.Test.YtefdkajjdaplbabDoorSmall0
import Derived.Deep.Cut
namespace Go.Proofs.YtefdkajjdaplbabDoor
open Go.RowKit
set_option linter.unusedSimpArgs false
set_option linter.unusedVariables false

theorem mul_bound {a b : Int} (ha : -524288 ≤ a ∧ a < 524288) (hb : -524288 ≤ b ∧ b < 524288) : -274877906944 ≤ a * b ∧ a * b ≤ 274877906944 := by
  have h1 : (a * b).natAbs ≤ 274877906944 := by
    rw [Int.natAbs_mul]
    exact Nat.le_trans (Nat.mul_le_mul (show a.natAbs ≤ 524288 by omega) (show b.natAbs ≤ 524288 by omega)) (by decide)
  omega

set_option maxHeartbeats 8000000 in
set_option maxRecDepth 100000 in
theorem walkRatioSmall (x0 y0 x1 y1 x2 y2 : Int) (w : World) (wx0 : (Lit.int .i32 x0).wf = true) (wy0 : (Lit.int .i32 y0).wf = true) (wx1 : (Lit.int .i32 x1).wf = true) (wy1 : (Lit.int .i32 y1).wf = true)
    (wx2 : (Lit.int .i32 x2).wf = true) (wy2 : (Lit.int .i32 y2).wf = true) (htab : Pow w) :
    Calls Tryd.prog 3 #[.agg #[.int .i32 x0, .int .i32 y0], .agg #[.int .i32 x1, .int .i32 y1], .agg #[.int .i32 x2, .int .i32 y2]] w fun e w' => e = .returned (.bool true) ∧ Below w.heap.size w w' := by
  have hx0 := wf_i32_bounds wx0
  have hy0 := wf_i32_bounds wy0
  have hx1 := wf_i32_bounds wx1
  have hy1 := wf_i32_bounds wy1
  have hx2 := wf_i32_bounds wx2
  clear wx0 wy0 wx1 wy1 wx2 wy2
  go_enter Tryd.func3, Tryd.ntmps3
  go_wp2_with fail
  refine (awake2_any _ (htab.below (al3 _ _ _))).mono ?_
  rintro e u1 ⟨rfl, hb1⟩
  obtain ⟨B1, B2, B3, hbW⟩ := pairs3 hb1
  clear hb1
  obtain ⟨p1, p2⟩ := B1.cells
  obtain ⟨p3, p4⟩ := B2.cells
  obtain ⟨p5, p6⟩ := B3.cells
  by_cases z1 : x1 = 0
  · have g1 : (x1 == 0) = true := beq_iff_eq.2 z1
    clear z1
    go_wp2_with fail
    refine (awake2_any _ (htab.below hbW)).mono ?_
    rintro e uf ⟨rfl, hbf⟩
    go_wp2
    go_ret
    exact ⟨rfl, hbW.trans (hbf.mono hbW.size)⟩
  have g1 : (x1 == 0) = false := beq_eq_false_iff_ne.2 z1
  by_cases z2 : y1 = 0
  · have g2 : (y1 == 0) = true := beq_iff_eq.2 z2
    clear z1 z2
    go_wp2_with fail
    refine (awake2_any _ (htab.below hbW)).mono ?_
    rintro e uf ⟨rfl, hbf⟩
    go_wp2
    go_ret
    exact ⟨rfl, hbW.trans (hbf.mono hbW.size)⟩
  have g2 : (y1 == 0) = false := beq_eq_false_iff_ne.2 z2
  clear z1 z2
  go_wp2_with fail
  go_quiet (fail)
  clear g1 g2 p1 p2 p3 p4 p5 p6 B1 B2
  replace B3 := B3.below (below_drewN (Below.refl _ _) nq)
  replace hbW := below_drewN hbW nq
  generalize u1.drewN nq = u at B3 hbW ⊢
  obtain ⟨n, hn⟩ : ∃ n, x0 / 4096 = n := ⟨_, rfl⟩
  obtain ⟨d, hd⟩ : ∃ d, x1 / 4096 = d := ⟨_, rfl⟩
  obtain ⟨m, hm⟩ : ∃ m, y0 / 4096 = m := ⟨_, rfl⟩
  obtain ⟨e, he⟩ : ∃ e, y1 / 4096 = e := ⟨_, rfl⟩
  rw [hn, hd, hm, he]
  have bn : -524288 ≤ n ∧ n < 524288 := by omega
  have bd : -524288 ≤ d ∧ d < 524288 := by omega
  have bm : -524288 ≤ m ∧ m < 524288 := by omega
  have be : -524288 ≤ e ∧ e < 524288 := by omega
  clear hn hd hm he hx0 hy0 hx1 hy1
  by_cases d0 : d = 0
  · have g1 : (d == 0) = true := beq_iff_eq.2 d0
    clear d0
    go_wp2
    go_ret
    exact ⟨rfl, hbW⟩
  have g1 : (d == 0) = false := beq_eq_false_iff_ne.2 d0
  by_cases e0 : e = 0
  · have g2 : (e == 0) = true := beq_iff_eq.2 e0
    clear e0 d0
    go_wp2
    go_ret
    exact ⟨rfl, hbW⟩
  have g2 : (e == 0) = false := beq_eq_false_iff_ne.2 e0
  have SC := sgn_cross (n := n) (m := m) d0 e0
  obtain ⟨p, hp⟩ : ∃ p, n * e = p := ⟨_, rfl⟩
  obtain ⟨r, hr⟩ : ∃ r, m * d = r := ⟨_, rfl⟩
  have bp : -274877906944 ≤ p ∧ p ≤ 274877906944 := by rw [← hp]; exact mul_bound bn be
  have br : -274877906944 ≤ r ∧ r ≤ 274877906944 := by rw [← hr]; exact mul_bound bm bd
  rw [hp, hr] at SC
  have HS : Hid (sgnQ ((n : Rat) / (d : Rat) - (m : Rat) / (e : Rat)) = if (decide (d < 0) != decide (e < 0)) = true then sgnI (-p - -r) else sgnI (p - r)) := SC
  clear SC d0 e0
  go_upto_if 61 with fail
  go_cut [11, 12] from 16 (fun s11 s12 wx => ∃ L R : Int, s11 = .int .i64 L ∧ s12 = .int .i64 R ∧ -274877906944 ≤ L ∧ L ≤ 274877906944 ∧ -274877906944 ≤ R ∧ R ≤ 274877906944 ∧ sgnQ ((n : Rat) / (d : Rat) - (m : Rat) / (e : Rat)) = sgnI (L - R) ∧ wx = u)
  case first =>
    cases hbb : (!(decide (d < 0) == decide (e < 0))) with
    | true =>
      go_wp2_with fail
      go_meet
      exact ⟨-p, -r, rfl, rfl, by omega, by omega, by omega, by omega, HS.out.trans (if_pos hbb), rfl⟩
    | false =>
      go_wp2_with fail
      go_meet
      exact ⟨p, r, rfl, rfl, bp.1, bp.2, br.1, br.2, HS.out.trans (if_neg (by intro h; exact absurd (hbb.symm.trans h) (by decide))), rfl⟩
  case rest =>
  obtain ⟨L, R, rfl, rfl, b1, b2, b3, b4, hLR, rfl⟩ := hcut
  clear HS hp hr bp br g1 g2
  have HLR : Hid (sgnQ ((n : Rat) / (d : Rat) - (m : Rat) / (e : Rat)) = sgnI (L - R)) := hLR
  clear hLR
  go_upto_if 68 with fail
  go_cut [13] from 16 (fun s13 wx => s13 = .int .i64 (if L < R then -1 else 0) ∧ wx = wc)
  case first =>
    by_cases h1 : L < R
    · go_wp2_with fail
      go_meet
      exact ⟨by rw [if_pos h1], rfl⟩
    · go_wp2_with fail
      go_meet
      exact ⟨by rw [if_neg (by omega)], rfl⟩
  case rest =>
  obtain ⟨rfl, rfl⟩ := hcut
  obtain ⟨s0, hs0⟩ : ∃ s0, (if L < R then (-1 : Int) else 0) = s0 := ⟨_, rfl⟩
  rw [hs0]
  have HS0 : Hid ((if L < R then (-1 : Int) else 0) = s0) := hs0
  clear hs0
  go_upto_if 71 with fail
  go_cut [13] from 16 (fun s13 wx => s13 = .int .i64 (sgnI (L - R)) ∧ wx = wc)
  case first =>
    by_cases h1 : R < L
    · go_wp2_with fail
      go_meet
      exact ⟨by rw [show sgnI (L - R) = 1 by unfold sgnI; rw [if_neg (by omega), if_pos (by omega)]], rfl⟩
    · go_wp2_with fail
      go_meet
      refine ⟨?_, rfl⟩
      rw [← HS0.out]
      by_cases h2 : L < R
      · rw [if_pos h2, show sgnI (L - R) = -1 by unfold sgnI; rw [if_pos (by omega)]]
      · rw [if_neg h2, show sgnI (L - R) = 0 by unfold sgnI; rw [if_neg (by omega), if_neg (by omega)]]
  case rest =>
  obtain ⟨rfl, rfl⟩ := hcut
  clear HS0
  obtain ⟨sq, hsq⟩ : ∃ sq, sgnI (L - R) = sq := ⟨_, rfl⟩
  rw [hsq]
  have HQ : Hid (sgnQ ((n : Rat) / (d : Rat) - (m : Rat) / (e : Rat)) = sq) := by show _ = _; rw [HLR.out, hsq]
  clear HLR hsq b1 b2 b3 b4
  have gs : (sq != sq) = false := by simp
  go_wp2_with fail
  refine (make_any n d _ (by omega) (by omega) (by omega) (by omega)).mono ?_
  rintro e' u2 ⟨v2, rfl, hF2, hb2⟩
  replace B3 := B3.below hb2
  replace hbW : Below w.heap.size w u2 := hbW.trans (hb2.mono hbW.size)
  clear hb2
  go_wp2_with fail
  refine (make_any m e _ (by omega) (by omega) (by omega) (by omega)).mono ?_
  rintro e' u3 ⟨v3, rfl, hF3, hb3⟩
  replace hF2 := hF2.below hb3
  replace B3 := B3.below hb3
  replace hbW : Below w.heap.size w u3 := hbW.trans (hb3.mono hbW.size)
  clear hb3
  go_wp2_with fail
  refine (qcmp_any 2 2 _ _ _ _ _ hF2.ct hF3.ct (by decide) (by decide) (by decide) (by decide)).mono ?_
  rintro e' u4 ⟨rfl, hb4⟩
  rw [HQ.out]
  replace B3 := B3.below hb4
  replace hbW : Below w.heap.size w u4 := hbW.trans (hb4.mono hbW.size)
  clear hb4 HQ hF2 hF3
  obtain ⟨p5, p6⟩ := B3.cells
  go_wp2_with fail
  refine (make_any x2 3 _ (by omega) (by omega) (by decide) (by decide)).mono ?_
  rintro e' u5 ⟨v5, rfl, hF5, hb5⟩
  replace B3 := B3.below hb5
  replace hbW : Below w.heap.size w u5 := hbW.trans (hb5.mono hbW.size)
  clear hb5 p5 p6 gs
  go_wp2_with fail
  refine (whole_any 3 _ (by decide) (by decide)).mono ?_
  rintro e' u6 ⟨v6, rfl, hF6, hb6⟩
  replace hF5 := hF5.below hb6
  replace B3 := B3.below hb6
  replace hbW : Below w.heap.size w u6 := hbW.trans (hb6.mono hbW.size)
  clear hb6
  go_wp2_with fail
  refine (qmul_any 2 2 _ _ _ _ _ hF5.ct hF6.ct (by decide) (by decide) (by decide) (by decide)).mono ?_
  rintro e' u7 ⟨v7, rfl, hF7, hb7⟩
  replace B3 := B3.below hb7
  replace hbW : Below w.heap.size w u7 := hbW.trans (hb7.mono hbW.size)
  clear hb7 hF5 hF6
  have hq7 : (x2 : Rat) / ((3 : Int) : Rat) * ((3 : Int) : Rat) = (x2 : Rat) := by have : ((3 : Int) : Rat) = 3 := rfl; rw [this]; grind
  rw [hq7] at hF7
  have hW := hF7.ct
  obtain ⟨n7, x7, y7, ⟨a7, c7, b7, d7, rfl, r7, t7⟩, f7, l7, l7', e7⟩ := hF7
  have hy7 : y7 = [1] := by
    refine (V_eq_one t7.lim f7.2.1).1 ?_
    rw [← f7.parts.2, e7]; rfl
  subst hy7
  obtain ⟨bk, off, rfl, hbk, hc7⟩ := t7.fm.at (Below.refl _ _) 0 (by simp)
  simp at hc7
  obtain ⟨W, hWe, BW, hbU⟩ : ∃ W, W = u7.alloc (.cells #[.bool n7, .slice a7 x7.length c7, .slice (some ⟨bk, off, none⟩) 1 d7] 29) ∧ Box 29 W u7.heap.size (.bool n7) (.slice a7 x7.length c7) (.slice (some ⟨bk, off, none⟩) 1 d7) ∧ Below u7.heap.size u7 W := ⟨_, rfl, Box.new _ _ _ _ _, al1 _⟩
  have kd : (1 : Nat) ≤ d7 := by have := t7.le; simpa using this
  have kd2 : d7 ≤ 9223372036854775807 := by have := t7.cap; unfold maxLen at this; omega
  have hW' : Ct u7 (.agg #[.bool n7, .slice a7 x7.length c7, .slice (some ⟨bk, off, none⟩) 1 d7]) 4 (x2 : Rat) := hW
  clear hW hq7
  simp only [List.length_cons, List.length_nil]
  go_wp2_with fail
  rw [← hWe]
  clear hWe
  replace B3 := B3.below hbU
  replace t7 := t7.below hbU
  replace hW' := hW'.below hbU
  replace hbW : Below w.heap.size w W := hbW.trans (hbU.mono hbW.size)
  clear hbU r7 f7 l7 l7' e7 hbk hc7
  generalize u7.heap.size = bw at BW ⊢
  obtain ⟨q1, q2, q3, _⟩ := BW.cells
  obtain ⟨p5, p6⟩ := B3.cells
  have hwx : IntKind.i64.wrap x2 = x2 := by rw [wrap_i64]; split <;> omega
  go_region_held3 (fun u => u.cell? ⟨bw, 0, none⟩ = some (.bool n7) ∧ u.cell? ⟨bw, 1, none⟩ = some (.slice a7 x7.length c7) ∧ u.cell? ⟨bw, 2, none⟩ = some (.slice (some ⟨bk, off, none⟩) 1 d7) ∧ u.cell? ⟨w.heap.size + 1 + 1, 0, none⟩ = some (.int .i32 x2) ∧ u.cell? ⟨w.heap.size + 1 + 1, 1, none⟩ = some (.int .i32 y2)) (go_keep)
    (first
      | (go_at_call 8
         try rw [hwx]
         refine (whole_any x2 _ ?_ ?_).mono ?_
         · omega
         · omega
         rintro e' u8 ⟨v8, rfl, hF8, hb8⟩
         replace hb8 : Below W.heap.size W u8 := Below.drew1.trans hb8
         replace BW := BW.below hb8
         replace B3 := B3.below hb8
         replace t7 := t7.below hb8
         replace hW' := hW'.below hb8
         replace hbW : Below w.heap.size w u8 := hbW.trans (hb8.mono hbW.size)
         clear hb8 q1 q2 q3 p5 p6
         obtain ⟨q1, q2, q3, _⟩ := BW.cells
         obtain ⟨p5, p6⟩ := B3.cells)
      | (go_at_call 5
         refine (qcmp_any 4 2 (x2 : Rat) (x2 : Rat) _ _ _ hW' hF8.ct (by decide) (by decide) (by decide) (by decide)).mono ?_
         rintro e' u9 ⟨rfl, hb9⟩
         rw [sgn_same (q := (x2 : Rat)) (r := (x2 : Rat)) rfl]
         replace BW := BW.below hb9
         replace B3 := B3.below hb9
         replace t7 := t7.below hb9
         replace hbW : Below w.heap.size w u9 := hbW.trans (hb9.mono hbW.size)
         clear hb9 hF8 q1 q2 q3 p5 p6
         obtain ⟨q1, q2, q3, _⟩ := BW.cells
         obtain ⟨p5, p6⟩ := B3.cells)
      | (go_at_call 10
         refine (of_any 1 _ (by decide)).mono ?_
         rintro e' ua ⟨aa, ca, os, rfl, hva, hta, hra, hba⟩
         have ro := hra.rd
         replace BW := BW.below hba
         replace B3 := B3.below hba
         replace t7 := t7.below hba
         replace hbW : Below w.heap.size w ua := hbW.trans (hba.mono hbW.size)
         clear hba hra q1 q2 q3 p5 p6
         obtain ⟨q1, q2, q3, _⟩ := BW.cells
         obtain ⟨p5, p6⟩ := B3.cells)
      | (go_at_call 9
         refine (cmp_any (some ⟨bk, off, none⟩) d7 [1] _ _ _ _ t7 ro).mono ?_
         rintro e' ub ⟨rfl, hbb2⟩
         have hcz : cmpN (V [1]) (V os) = 0 := by rw [hva]; rfl
         rw [hcz]
         replace BW := BW.below hbb2
         replace B3 := B3.below hbb2
         replace hbW : Below w.heap.size w ub := hbW.trans (hbb2.mono hbW.size)
         clear hbb2 hcz q1 q2 q3 p5 p6
         obtain ⟨q1, q2, q3, _⟩ := BW.cells
         obtain ⟨p5, p6⟩ := B3.cells))
  go_wp2
  go_ret
  exact ⟨rfl, hbW⟩

end Go.Proofs.YtefdkajjdaplbabDoor
