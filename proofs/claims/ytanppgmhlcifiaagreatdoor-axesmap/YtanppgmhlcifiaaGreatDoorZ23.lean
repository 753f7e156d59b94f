/-
  foundryref06.User: the walk.
-/
import Derived.Test.YtanppgmhlcifiaaGreatDoorZ22
import Derived.Test.YtanppgmhlcifiaaGreatDoorZ17
import Derived.Test.YtanppgmhlcifiaaGreatDoorZ4
namespace Go.Proofs.YtanppgmhlcifiaaGreatDoor
open Go.RowKit Go.Maps
set_option linter.unusedSimpArgs false
set_option linter.unusedVariables false

theorem usQ_big {lo us hi : Int} {q : Rat} (h1 : ((1 : Int) : Rat) < q) : ((us : Int) : Rat) + clQ q * ((wdA lo us hi q : Int) : Rat) = ((us : Int) : Rat) + ((1 : Int) : Rat) * ((hi - us : Int) : Rat) := by
  have e1 : ((-1 : Int) : Rat) < ((1 : Int) : Rat) := Rat.intCast_lt_intCast.2 (by decide)
  have e2 : (0 : Rat) < ((1 : Int) : Rat) := by decide
  have n1 : ¬ q < ((-1 : Int) : Rat) := by grind
  have n2 : ¬ q < 0 := by grind
  rw [clQ, if_neg n1, if_pos h1, wdA, if_neg n2]
theorem usQ_small {lo us hi : Int} {q : Rat} (h1 : ¬ ((1 : Int) : Rat) < q) (h2 : q < ((-1 : Int) : Rat)) : ((us : Int) : Rat) + clQ q * ((wdA lo us hi q : Int) : Rat) = ((us : Int) : Rat) + ((-1 : Int) : Rat) * ((us - lo : Int) : Rat) := by
  have e2 : ((-1 : Int) : Rat) < (0 : Rat) := by decide
  have n2 : q < 0 := by grind
  rw [clQ, if_pos h2, wdA, if_pos n2]
theorem usQ_neg {lo us hi : Int} {q : Rat} (h1 : ¬ ((1 : Int) : Rat) < q) (h2 : ¬ q < ((-1 : Int) : Rat)) (h3 : q < 0) : ((us : Int) : Rat) + clQ q * ((wdA lo us hi q : Int) : Rat) = ((us : Int) : Rat) + q * ((us - lo : Int) : Rat) := by
  rw [clQ, if_neg h2, if_neg h1, wdA, if_pos h3]
theorem usQ_pos {lo us hi : Int} {q : Rat} (h1 : ¬ ((1 : Int) : Rat) < q) (h2 : ¬ q < ((-1 : Int) : Rat)) (h3 : ¬ q < 0) : ((us : Int) : Rat) + clQ q * ((wdA lo us hi q : Int) : Rat) = ((us : Int) : Rat) + q * ((hi - us : Int) : Rat) := by
  rw [clQ, if_neg h2, if_neg h1, wdA, if_neg h3]

set_option maxHeartbeats 8000000 in
set_option maxRecDepth 100000 in
theorem suserQ_any (t : Ax) (k : Nat) (q : Rat) (v : Value) (w : World) (ht : Axw t) (h : Ct w v k q) (hk : k ≤ 10000) (hk2 : 2 ≤ k) :
    Calls Tryz.prog 11 #[.agg (axC t), v] w fun e w' => ∃ v', e = .returned v' ∧ Fr w' v' (k + 5) (usQ t q) ∧ Below w.heap.size w w' := by
  have hk3 : k ≤ 100000 := by omega
  have hk4 : k ≤ 1000000 := by omega
  have hX := h
  obtain ⟨n, xs, ys, ⟨a, c, a', c', rfl, _, _⟩, hz1⟩ := h
  clear hz1
  have hal := fun W => soneA_any t W ht.1
  cases h1 : onA t with
  | false =>
    have HQ : Hid (usQ t q = 0) := by show usQ t q = 0; simp [usQ, h1]
    rw [h1] at hal
    obtain ⟨tx, lo, us, hi⟩ := t
    unfold axC at hal ⊢
    dsimp only at hal ⊢
    obtain ⟨W, hW, X1, B2, B3, hbW⟩ : ∃ W, W = ((w.alloc (.cells #[.string tx, .int .i64 lo, .int .i64 us, .int .i64 hi] 23)).alloc (.cells #[.bool n, .slice a xs.length c, .slice a' ys.length c'] 32)).alloc (.cells #[.bool false, .slice none 0 0, .slice none 0 0] 32) ∧ BxA W w.heap.size (.string tx) (.int .i64 lo) (.int .i64 us) (.int .i64 hi) ∧ Box 32 W (w.heap.size + 1) (.bool n) (.slice a xs.length c) (.slice a' ys.length c') ∧ Box 32 W (w.heap.size + 1 + 1) (.bool false) (.slice none 0 0) (.slice none 0 0) ∧ Below w.heap.size w W := ⟨_, rfl, ((BxA.new w _ _ _ _).below (bl1 _)).below (bl1 _), (Box.new1 _ w _ _ _ _).alloc _, Box.new2 _ w _ _ _ _ _, al3 _ _ _⟩
    go_enter Tryz.func11, Tryz.ntmps11
    go_wp2_with fail
    rw [← hW]
    clear hW
    obtain ⟨p00, p01, p02, p03, _⟩ := X1.cells
    obtain ⟨p10, p11, p12, _⟩ := B2.cells
    obtain ⟨p20, p21, p22, _⟩ := B3.cells
    refine (hal _).mono ?_
    rintro e u1 ⟨rfl, hb1⟩
    replace X1 := X1.below hb1
    replace B2 := B2.below hb1
    replace B3 := B3.below hb1
    replace hbW : Below w.heap.size w u1 := hbW.trans (hb1.mono hbW.size)
    clear hb1
    clear p00 p01 p02 p03 p10 p11 p12 p20 p21 p22
    obtain ⟨p00, p01, p02, p03, _⟩ := X1.cells
    obtain ⟨p10, p11, p12, _⟩ := B2.cells
    obtain ⟨p20, p21, p22, _⟩ := B3.cells
    go_wp2_with fail
    refine (szero_any _).mono ?_
    rintro e u2 ⟨v2, rfl, hF2, hb2⟩
    replace X1 := X1.below hb2
    replace B2 := B2.below hb2
    replace B3 := B3.below hb2
    replace hbW : Below w.heap.size w u2 := hbW.trans (hb2.mono hbW.size)
    clear hb2
    clear p00 p01 p02 p03 p10 p11 p12 p20 p21 p22
    obtain ⟨p00, p01, p02, p03, _⟩ := X1.cells
    obtain ⟨p10, p11, p12, _⟩ := B2.cells
    obtain ⟨p20, p21, p22, _⟩ := B3.cells
    replace hF2 := (hF2.eq (r := usQ ⟨tx, lo, us, hi⟩ q) (by rw [HQ.out])).le (show 2 ≤ k + 5 by omega)
    clear p00 p01 p02 p03 p10 p11 p12 p20 p21 p22
    obtain ⟨n', xs', ys', ⟨e1, f1, e2, f2, rfl, hx', hy'⟩, hF⟩ := hF2
    have hs := B3.lt
    obtain ⟨q1, q2, q3, q4, q5, q6⟩ := B3.cells
    go_wp2
    refine ret3 (v := .agg #[.bool n', .slice e1 xs'.length f1, .slice e2 ys'.length f2]) B3 rfl (fun U hU => by obtain ⟨r1, r2, r3, _⟩ := hU.cells; simp [results, Tryz.results11, go_sem, r1, r2, r3]) (fun U hU hK => ⟨_, rfl, ⟨_, _, _, ⟨_, _, _, _, rfl, hK _ _ _ hx', hK _ _ _ hy'⟩, hF⟩, hU _ _ hbW (by omega)⟩)
  | true =>
  obtain ⟨_, k1, k2, k3, k4⟩ := onA_iff.1 h1
  have HQ : Hid (usQ t q = ((t.us : Int) : Rat) + clQ q * ((wdA t.lo t.us t.hi q : Int) : Rat)) := by show _ = _; rw [usQ, if_pos h1]
  rw [h1] at hal
  clear h1 ht
  obtain ⟨tx, lo, us, hi⟩ := t
  unfold axC at hal ⊢
  dsimp only at hal HQ k1 k2 k3 k4 ⊢
  have n12 : w.heap.size + 1 ≠ w.heap.size + 1 + 1 := by omega
  have n11 : w.heap.size ≠ w.heap.size + 1 + 1 := by omega
  have n10 : w.heap.size ≠ w.heap.size + 1 := by omega
  obtain ⟨s1, hs1⟩ : ∃ s, sgnQ (q - ((1 : Int) : Rat)) = s := ⟨_, rfl⟩
  obtain ⟨s2, hs2⟩ : ∃ s, sgnQ (q - ((-1 : Int) : Rat)) = s := ⟨_, rfl⟩
  obtain ⟨s3, hs3⟩ : ∃ s, sgnQ q = s := ⟨_, rfl⟩
  have HS : Hid (sgnQ (q - ((1 : Int) : Rat)) = s1 ∧ sgnQ (q - ((-1 : Int) : Rat)) = s2 ∧ sgnQ q = s3) := ⟨hs1, hs2, hs3⟩
  have hc : ((1 : Int) : Rat) < q ∨ (¬ ((1 : Int) : Rat) < q ∧ q < ((-1 : Int) : Rat)) ∨ (¬ ((1 : Int) : Rat) < q ∧ ¬ q < ((-1 : Int) : Rat) ∧ q < 0) ∨ (¬ ((1 : Int) : Rat) < q ∧ ¬ q < ((-1 : Int) : Rat) ∧ ¬ q < 0) := by
    by_cases h1 : ((1 : Int) : Rat) < q
    · exact .inl h1
    · by_cases h2 : q < ((-1 : Int) : Rat)
      · exact .inr (.inl ⟨h1, h2⟩)
      · by_cases h3 : q < 0
        · exact .inr (.inr (.inl ⟨h1, h2, h3⟩))
        · exact .inr (.inr (.inr ⟨h1, h2, h3⟩))
  clear hs1 hs2 hs3
  rcases hc with h1 | ⟨h1, h2⟩ | ⟨h1, h2, h3⟩ | ⟨h1, h2, h3⟩
  · have HQ2 : Hid (usQ ⟨tx, lo, us, hi⟩ q = ((us : Int) : Rat) + ((1 : Int) : Rat) * ((hi - us : Int) : Rat)) := HQ.out.trans (usQ_big h1)
    have hd1 : decide (0 < s1) = true := by rw [← HS.out.1]; exact decide_eq_true (sgn_pos.2 h1)
    obtain ⟨W, hW, X1, B2, B3, hbW⟩ : ∃ W, W = ((w.alloc (.cells #[.string tx, .int .i64 lo, .int .i64 us, .int .i64 hi] 23)).alloc (.cells #[.bool n, .slice a xs.length c, .slice a' ys.length c'] 32)).alloc (.cells #[.bool false, .slice none 0 0, .slice none 0 0] 32) ∧ BxA W w.heap.size (.string tx) (.int .i64 lo) (.int .i64 us) (.int .i64 hi) ∧ Box 32 W (w.heap.size + 1) (.bool n) (.slice a xs.length c) (.slice a' ys.length c') ∧ Box 32 W (w.heap.size + 1 + 1) (.bool false) (.slice none 0 0) (.slice none 0 0) ∧ Below w.heap.size w W := ⟨_, rfl, ((BxA.new w _ _ _ _).below (bl1 _)).below (bl1 _), (Box.new1 _ w _ _ _ _).alloc _, Box.new2 _ w _ _ _ _ _, al3 _ _ _⟩
    go_enter Tryz.func11, Tryz.ntmps11
    go_wp2_with fail
    rw [← hW]
    clear hW
    replace hX := hX.below hbW
    obtain ⟨p00, p01, p02, p03, _⟩ := X1.cells
    obtain ⟨p10, p11, p12, _⟩ := B2.cells
    obtain ⟨p20, p21, p22, _⟩ := B3.cells
    refine (hal _).mono ?_
    rintro e u1 ⟨rfl, hb1⟩
    replace hX := hX.below hb1
    replace X1 := X1.below hb1
    replace B2 := B2.below hb1
    replace B3 := B3.below hb1
    replace hbW : Below w.heap.size w u1 := hbW.trans (hb1.mono hbW.size)
    clear hb1
    clear p00 p01 p02 p03 p10 p11 p12 p20 p21 p22
    obtain ⟨p00, p01, p02, p03, _⟩ := X1.cells
    obtain ⟨p10, p11, p12, _⟩ := B2.cells
    obtain ⟨p20, p21, p22, _⟩ := B3.cells
    clear hal
    go_wp2_with fail
    refine wp_region_held_drew (S := (fun u => u.cell? ⟨w.heap.size, 0, none⟩ = some (.string tx) ∧ u.cell? ⟨w.heap.size, 1, none⟩ = some (.int .i64 lo) ∧ u.cell? ⟨w.heap.size, 2, none⟩ = some (.int .i64 us) ∧ u.cell? ⟨w.heap.size, 3, none⟩ = some (.int .i64 hi) ∧ u.cell? ⟨(w.heap.size + 1), 0, none⟩ = some (.bool n) ∧ u.cell? ⟨(w.heap.size + 1), 1, none⟩ = some (.slice a xs.length c) ∧ u.cell? ⟨(w.heap.size + 1), 2, none⟩ = some (.slice a' ys.length c') ∧ u.cell? ⟨(w.heap.size + 1 + 1), 0, none⟩ = some (.bool false) ∧ u.cell? ⟨(w.heap.size + 1 + 1), 1, none⟩ = some (.slice none 0 0) ∧ u.cell? ⟨(w.heap.size + 1 + 1), 2, none⟩ = some (.slice none 0 0))) (by kernel_rfl) ?_ (fun hHeld => ?_)
    · (try dsimp only)
      go_keep
    have hdr : Below u1.heap.size u1 u1.drew := Below.drew1
    generalize u1.drew = ud83 at hdr hHeld ⊢
    replace hX := hX.below hdr
    replace X1 := X1.below hdr
    replace B2 := B2.below hdr
    replace B3 := B3.below hdr
    replace hbW : Below w.heap.size w ud83 := hbW.trans (hdr.mono hbW.size)
    clear hdr
    clear p00 p01 p02 p03 p10 p11 p12 p20 p21 p22
    obtain ⟨p00, p01, p02, p03, _⟩ := X1.cells
    obtain ⟨p10, p11, p12, _⟩ := B2.cells
    obtain ⟨p20, p21, p22, _⟩ := B3.cells
    refine hTake (i := 0) (v := ?v84) rfl (by kernel_rfl) (by kernel_rfl) (by kernel_rfl) (fun _ _ _ h => h) (Or.inl ⟨by rfl, ?y84⟩) hHeld ?r84
    case y84 =>
      intro w9 hSw
      (try dsimp only at hSw)
      go_simp
      try with_reducible rfl
    try simp only [Act.put, List.setIfInBounds_toArray, List.set_cons_zero, List.set_cons_succ]
    refine hCall (i := 1) rfl (by kernel_rfl) (by rfl) (fun K hK => ?_)
    go_simp
    refine (swhole_any (1) _ (by decide) (by decide)).mono ?_
    rintro e u2 ⟨vc, rfl, hFc, hb2⟩
    replace hX := hX.below hb2
    replace X1 := X1.below hb2
    replace B2 := B2.below hb2
    replace B3 := B3.below hb2
    replace hbW : Below w.heap.size w u2 := hbW.trans (hb2.mono hbW.size)
    clear hb2
    clear p00 p01 p02 p03 p10 p11 p12 p20 p21 p22
    obtain ⟨p00, p01, p02, p03, _⟩ := X1.cells
    obtain ⟨p10, p11, p12, _⟩ := B2.cells
    obtain ⟨p20, p21, p22, _⟩ := B3.cells
    go_wp2_with fail
    refine hK.out _ _ ?_ (fun hHeld => ?_)
    · (try dsimp only)
      exact ⟨p00, p01, p02, p03, p10, p11, p12, p20, p21, p22⟩
    clear hK K
    try simp only [Act.put, List.setIfInBounds_toArray, List.set_cons_zero, List.set_cons_succ]
    refine hCall (i := 2) rfl (by kernel_rfl) (by rfl) (fun K hK => ?_)
    go_simp
    refine (scmp_any k 2 q ((1 : Int) : Rat) _ _ _ hX hFc.ct hk3 (by decide) hk2 (by decide)).mono ?_
    rintro e u3 ⟨rfl, hb3⟩
    replace hX := hX.below hb3
    replace hFc := hFc.below hb3
    replace X1 := X1.below hb3
    replace B2 := B2.below hb3
    replace B3 := B3.below hb3
    replace hbW : Below w.heap.size w u3 := hbW.trans (hb3.mono hbW.size)
    clear hb3 hFc
    rw [HS.out.1]
    clear p00 p01 p02 p03 p10 p11 p12 p20 p21 p22
    obtain ⟨p00, p01, p02, p03, _⟩ := X1.cells
    obtain ⟨p10, p11, p12, _⟩ := B2.cells
    obtain ⟨p20, p21, p22, _⟩ := B3.cells
    go_wp2_with fail
    refine hK.out _ _ ?_ (fun hHeld => ?_)
    · (try dsimp only)
      exact ⟨p00, p01, p02, p03, p10, p11, p12, p20, p21, p22⟩
    clear hK K
    try simp only [Act.put, List.setIfInBounds_toArray, List.set_cons_zero, List.set_cons_succ]
    refine hTake (i := 3) (v := ?v85) rfl (by kernel_rfl) (by kernel_rfl) (by kernel_rfl) (fun _ _ _ h => h) (Or.inl ⟨by rfl, ?y85⟩) hHeld ?r85
    case y85 =>
      intro w9 hSw
      (try dsimp only at hSw)
      go_simp
      try with_reducible rfl
    try simp only [Act.put, List.setIfInBounds_toArray, List.set_cons_zero, List.set_cons_succ]
    refine wpAnyH_done (by kernel_rfl) ?_ _
    clear hHeld
    go_wp2_with fail
    refine (swhole_any (1) _ (by decide) (by decide)).mono ?_
    rintro e u4 ⟨v4, rfl, hF4, hb4⟩
    replace hX := hX.below hb4
    replace X1 := X1.below hb4
    replace B2 := B2.below hb4
    replace B3 := B3.below hb4
    replace hbW : Below w.heap.size w u4 := hbW.trans (hb4.mono hbW.size)
    clear hb4
    clear p00 p01 p02 p03 p10 p11 p12 p20 p21 p22
    obtain ⟨p00, p01, p02, p03, _⟩ := X1.cells
    obtain ⟨p10, p11, p12, _⟩ := B2.cells
    obtain ⟨p20, p21, p22, _⟩ := B3.cells
    clear p00 p01 p02 p03 p10 p11 p12 p20 p21 p22
    clear hX
    have hX := hF4.ct
    obtain ⟨n4, x4, y4, ⟨a4, c4, b4, d4, rfl, _, _⟩, _⟩ := hF4
    obtain ⟨q1, q2, q3, q4, q5, q6⟩ := B2.cells
    obtain ⟨r1, r2, r3, _⟩ := X1.cells
    go_wp2_with fail
    obtain ⟨u5, hU, A2, hbU, hK9, ho⟩ := set3_world B2 (.bool n4) (.slice a4 x4.length c4) (.slice b4 y4.length d4)
    rw [← hU]
    clear hU q1 q2 q3 q4 q5 q6 r1 r2 r3
    replace hbW := hbU _ _ hbW (by omega)
    replace hX := hX.keep hK9
    replace X1 := X1.other ho n10
    replace B3 := B3.other ho (Ne.symm n12)
    clear hbU hK9 ho
    clear B2
    have B2 := A2
    clear A2
    obtain ⟨p00, p01, p02, p03, _⟩ := X1.cells
    obtain ⟨p10, p11, p12, _⟩ := B2.cells
    obtain ⟨p20, p21, p22, _⟩ := B3.cells
    refine wp_region_held_drew (S := (fun u => u.cell? ⟨w.heap.size, 0, none⟩ = some (.string tx) ∧ u.cell? ⟨w.heap.size, 1, none⟩ = some (.int .i64 lo) ∧ u.cell? ⟨w.heap.size, 2, none⟩ = some (.int .i64 us) ∧ u.cell? ⟨w.heap.size, 3, none⟩ = some (.int .i64 hi) ∧ u.cell? ⟨(w.heap.size + 1), 0, none⟩ = some (.bool n4) ∧ u.cell? ⟨(w.heap.size + 1), 1, none⟩ = some (.slice a4 x4.length c4) ∧ u.cell? ⟨(w.heap.size + 1), 2, none⟩ = some (.slice b4 y4.length d4) ∧ u.cell? ⟨(w.heap.size + 1 + 1), 0, none⟩ = some (.bool false) ∧ u.cell? ⟨(w.heap.size + 1 + 1), 1, none⟩ = some (.slice none 0 0) ∧ u.cell? ⟨(w.heap.size + 1 + 1), 2, none⟩ = some (.slice none 0 0))) (by kernel_rfl) ?_ (fun hHeld => ?_)
    · (try dsimp only)
      go_keep
    have hdr : Below u5.heap.size u5 u5.drew := Below.drew1
    generalize u5.drew = ud86 at hdr hHeld ⊢
    replace hX := hX.below hdr
    replace X1 := X1.below hdr
    replace B2 := B2.below hdr
    replace B3 := B3.below hdr
    replace hbW : Below w.heap.size w ud86 := hbW.trans (hdr.mono hbW.size)
    clear hdr
    clear p00 p01 p02 p03 p10 p11 p12 p20 p21 p22
    obtain ⟨p00, p01, p02, p03, _⟩ := X1.cells
    obtain ⟨p10, p11, p12, _⟩ := B2.cells
    obtain ⟨p20, p21, p22, _⟩ := B3.cells
    refine hTake (i := 0) (v := ?v87) rfl (by kernel_rfl) (by kernel_rfl) (by kernel_rfl) (fun _ _ _ h => h) (Or.inl ⟨by rfl, ?y87⟩) hHeld ?r87
    case y87 =>
      intro w9 hSw
      (try dsimp only at hSw)
      go_simp
      try with_reducible rfl
    try simp only [Act.put, List.setIfInBounds_toArray, List.set_cons_zero, List.set_cons_succ]
    refine hCall (i := 1) rfl (by kernel_rfl) (by rfl) (fun K hK => ?_)
    go_simp
    refine (swhole_any (-1) _ (by decide) (by decide)).mono ?_
    rintro e u6 ⟨vc, rfl, hFc, hb6⟩
    replace hX := hX.below hb6
    replace X1 := X1.below hb6
    replace B2 := B2.below hb6
    replace B3 := B3.below hb6
    replace hbW : Below w.heap.size w u6 := hbW.trans (hb6.mono hbW.size)
    clear hb6
    clear p00 p01 p02 p03 p10 p11 p12 p20 p21 p22
    obtain ⟨p00, p01, p02, p03, _⟩ := X1.cells
    obtain ⟨p10, p11, p12, _⟩ := B2.cells
    obtain ⟨p20, p21, p22, _⟩ := B3.cells
    go_wp2_with fail
    refine hK.out _ _ ?_ (fun hHeld => ?_)
    · (try dsimp only)
      exact ⟨p00, p01, p02, p03, p10, p11, p12, p20, p21, p22⟩
    clear hK K
    try simp only [Act.put, List.setIfInBounds_toArray, List.set_cons_zero, List.set_cons_succ]
    refine hCall (i := 2) rfl (by kernel_rfl) (by rfl) (fun K hK => ?_)
    go_simp
    refine (scmp_any 2 2 ((1 : Int) : Rat) ((-1 : Int) : Rat) _ _ _ hX hFc.ct (by decide) (by decide) (by decide) (by decide)).mono ?_
    rintro e u7 ⟨rfl, hb7⟩
    replace hX := hX.below hb7
    replace hFc := hFc.below hb7
    replace X1 := X1.below hb7
    replace B2 := B2.below hb7
    replace B3 := B3.below hb7
    replace hbW : Below w.heap.size w u7 := hbW.trans (hb7.mono hbW.size)
    clear hb7 hFc
    rw [show sgnQ (((1 : Int) : Rat) - ((-1 : Int) : Rat)) = 1 by decide +kernel]
    clear p00 p01 p02 p03 p10 p11 p12 p20 p21 p22
    obtain ⟨p00, p01, p02, p03, _⟩ := X1.cells
    obtain ⟨p10, p11, p12, _⟩ := B2.cells
    obtain ⟨p20, p21, p22, _⟩ := B3.cells
    go_wp2_with fail
    refine hK.out _ _ ?_ (fun hHeld => ?_)
    · (try dsimp only)
      exact ⟨p00, p01, p02, p03, p10, p11, p12, p20, p21, p22⟩
    clear hK K
    try simp only [Act.put, List.setIfInBounds_toArray, List.set_cons_zero, List.set_cons_succ]
    refine hTake (i := 3) (v := ?v88) rfl (by kernel_rfl) (by kernel_rfl) (by kernel_rfl) (fun _ _ _ h => h) (Or.inl ⟨by rfl, ?y88⟩) hHeld ?r88
    case y88 =>
      intro w9 hSw
      (try dsimp only at hSw)
      go_simp
      try with_reducible rfl
    try simp only [Act.put, List.setIfInBounds_toArray, List.set_cons_zero, List.set_cons_succ]
    refine wpAnyH_done (by kernel_rfl) ?_ _
    clear hHeld
    go_wp2_with fail
    refine (ssign_any 2 ((1 : Int) : Rat) _ _ hX (by decide) (by decide)).mono ?_
    rintro e u8 ⟨rfl, hb8⟩
    replace hX := hX.below hb8
    replace X1 := X1.below hb8
    replace B2 := B2.below hb8
    replace B3 := B3.below hb8
    replace hbW : Below w.heap.size w u8 := hbW.trans (hb8.mono hbW.size)
    clear hb8
    clear p00 p01 p02 p03 p10 p11 p12 p20 p21 p22
    obtain ⟨p00, p01, p02, p03, _⟩ := X1.cells
    obtain ⟨p10, p11, p12, _⟩ := B2.cells
    obtain ⟨p20, p21, p22, _⟩ := B3.cells
    rw [show sgnQ ((1 : Int) : Rat) = 1 by decide +kernel]
    go_wp2_with fail
    clear p00 p01 p02 p03 p10 p11 p12 p20 p21 p22
    obtain ⟨p00, p01, p02, p03, _⟩ := X1.cells
    obtain ⟨p10, p11, p12, _⟩ := B2.cells
    refine wp_region_held_drew (S := (fun u => u.cell? ⟨w.heap.size, 0, none⟩ = some (.string tx) ∧ u.cell? ⟨w.heap.size, 1, none⟩ = some (.int .i64 lo) ∧ u.cell? ⟨w.heap.size, 2, none⟩ = some (.int .i64 us) ∧ u.cell? ⟨w.heap.size, 3, none⟩ = some (.int .i64 hi) ∧ u.cell? ⟨(w.heap.size + 1), 0, none⟩ = some (.bool n4) ∧ u.cell? ⟨(w.heap.size + 1), 1, none⟩ = some (.slice a4 x4.length c4) ∧ u.cell? ⟨(w.heap.size + 1), 2, none⟩ = some (.slice b4 y4.length d4))) (by kernel_rfl) ?_ (fun hHeld => ?_)
    · (try dsimp only)
      go_keep
    have hdr : Below u8.heap.size u8 u8.drew := Below.drew1
    generalize u8.drew = ud89 at hdr hHeld ⊢
    replace hX := hX.below hdr
    replace B3 := B3.below hdr
    replace X1 := X1.below hdr
    replace B2 := B2.below hdr
    replace hbW : Below w.heap.size w ud89 := hbW.trans (hdr.mono hbW.size)
    clear hdr
    clear p00 p01 p02 p03 p10 p11 p12
    obtain ⟨p00, p01, p02, p03, _⟩ := X1.cells
    obtain ⟨p10, p11, p12, _⟩ := B2.cells
    refine hTake (i := 0) (v := ?v90) rfl (by kernel_rfl) (by kernel_rfl) (by kernel_rfl) (fun _ _ _ h => h) (Or.inl ⟨by rfl, ?y90⟩) hHeld ?r90
    case y90 =>
      intro w9 hSw
      (try dsimp only at hSw)
      go_simp
      try with_reducible rfl
    try simp only [Act.put, List.setIfInBounds_toArray, List.set_cons_zero, List.set_cons_succ]
    refine hTake (i := 1) (v := ?v91) rfl (by kernel_rfl) (by kernel_rfl) (by kernel_rfl) (fun _ _ _ h => h) (Or.inl ⟨by rfl, ?y91⟩) hHeld ?r91
    case y91 =>
      intro w9 hSw
      (try dsimp only at hSw)
      go_simp
      try with_reducible rfl
    try simp only [Act.put, List.setIfInBounds_toArray, List.set_cons_zero, List.set_cons_succ]
    refine hTake (i := 3) (v := ?v92) rfl (by kernel_rfl) (by kernel_rfl) (by kernel_rfl) (fun _ _ _ h => h) (Or.inl ⟨by rfl, ?y92⟩) hHeld ?r92
    case y92 =>
      intro w9 hSw
      (try dsimp only at hSw)
      go_simp
      try with_reducible rfl
    try simp only [Act.put, List.setIfInBounds_toArray, List.set_cons_zero, List.set_cons_succ]
    refine hTake (i := 4) (v := ?v93) rfl (by kernel_rfl) (by kernel_rfl) (by kernel_rfl) (fun _ _ _ h => h) (Or.inl ⟨by rfl, ?y93⟩) hHeld ?r93
    case y93 =>
      intro w9 hSw
      (try dsimp only at hSw)
      go_simp
      try with_reducible rfl
    try simp only [Act.put, List.setIfInBounds_toArray, List.set_cons_zero, List.set_cons_succ]
    refine hCall (i := 2) rfl (by kernel_rfl) (by rfl) (fun K hK => ?_)
    go_simp
    refine (swhole_any us _ (by omega) (by omega)).mono ?_
    rintro e u9 ⟨vu, rfl, hU1, hb9⟩
    replace hX := hX.below hb9
    replace B3 := B3.below hb9
    replace X1 := X1.below hb9
    replace B2 := B2.below hb9
    replace hbW : Below w.heap.size w u9 := hbW.trans (hb9.mono hbW.size)
    clear hb9
    clear p00 p01 p02 p03 p10 p11 p12
    obtain ⟨p00, p01, p02, p03, _⟩ := X1.cells
    obtain ⟨p10, p11, p12, _⟩ := B2.cells
    go_wp2_with fail
    refine hK.out _ _ ?_ (fun hHeld => ?_)
    · (try dsimp only)
      exact ⟨p00, p01, p02, p03, p10, p11, p12⟩
    clear hK K
    try simp only [Act.put, List.setIfInBounds_toArray, List.set_cons_zero, List.set_cons_succ]
    refine hCall (i := 5) rfl (by kernel_rfl) (by rfl) (fun K hK => ?_)
    go_simp
    refine (swhole_any (hi - us) _ (by omega) (by omega)).mono ?_
    rintro e u10 ⟨vw, rfl, hWd, hb10⟩
    replace hX := hX.below hb10
    replace B3 := B3.below hb10
    replace hU1 := hU1.below hb10
    replace X1 := X1.below hb10
    replace B2 := B2.below hb10
    replace hbW : Below w.heap.size w u10 := hbW.trans (hb10.mono hbW.size)
    clear hb10
    clear p00 p01 p02 p03 p10 p11 p12
    obtain ⟨p00, p01, p02, p03, _⟩ := X1.cells
    obtain ⟨p10, p11, p12, _⟩ := B2.cells
    go_wp2_with fail
    refine hK.out _ _ ?_ (fun hHeld => ?_)
    · (try dsimp only)
      exact ⟨p00, p01, p02, p03, p10, p11, p12⟩
    clear hK K
    try simp only [Act.put, List.setIfInBounds_toArray, List.set_cons_zero, List.set_cons_succ]
    refine hCall (i := 6) rfl (by kernel_rfl) (by rfl) (fun K hK => ?_)
    go_simp
    refine (smul_any 2 2 ((1 : Int) : Rat) ((hi - us : Int) : Rat) _ _ _ hX hWd.ct (by decide) (by decide) (by decide) (by decide)).mono ?_
    rintro e u11 ⟨vm, rfl, hM1, hb11⟩
    replace hX := hX.below hb11
    replace B3 := B3.below hb11
    replace hU1 := hU1.below hb11
    replace hWd := hWd.below hb11
    replace X1 := X1.below hb11
    replace B2 := B2.below hb11
    replace hbW : Below w.heap.size w u11 := hbW.trans (hb11.mono hbW.size)
    clear hb11
    clear p00 p01 p02 p03 p10 p11 p12
    obtain ⟨p00, p01, p02, p03, _⟩ := X1.cells
    obtain ⟨p10, p11, p12, _⟩ := B2.cells
    go_wp2_with fail
    refine hK.out _ _ ?_ (fun hHeld => ?_)
    · (try dsimp only)
      exact ⟨p00, p01, p02, p03, p10, p11, p12⟩
    clear hK K
    try simp only [Act.put, List.setIfInBounds_toArray, List.set_cons_zero, List.set_cons_succ]
    refine hCall (i := 7) rfl (by kernel_rfl) (by rfl) (fun K hK => ?_)
    go_simp
    refine (sadd_any 2 (2 + 2) ((us : Int) : Rat) (((1 : Int) : Rat) * ((hi - us : Int) : Rat)) _ _ _ hU1.ct hM1.ct (by decide) (by omega) (by decide) (by omega)).mono ?_
    rintro e u12 ⟨vr, rfl, hR, hb12⟩
    replace hX := hX.below hb12
    replace B3 := B3.below hb12
    replace hU1 := hU1.below hb12
    replace hWd := hWd.below hb12
    replace hM1 := hM1.below hb12
    replace X1 := X1.below hb12
    replace B2 := B2.below hb12
    replace hbW : Below w.heap.size w u12 := hbW.trans (hb12.mono hbW.size)
    clear hb12
    replace hR := (hR.eq HQ2.out.symm).le (show 2 + (2 + 2) + 1 ≤ k + 5 by omega)
    clear p00 p01 p02 p03 p10 p11 p12
    obtain ⟨p00, p01, p02, p03, _⟩ := X1.cells
    obtain ⟨p10, p11, p12, _⟩ := B2.cells
    go_wp2_with fail
    refine hK.out _ _ ?_ (fun hHeld => ?_)
    · (try dsimp only)
      exact ⟨p00, p01, p02, p03, p10, p11, p12⟩
    clear hK K
    try simp only [Act.put, List.setIfInBounds_toArray, List.set_cons_zero, List.set_cons_succ]
    refine hCall (i := 8) rfl (by kernel_rfl) (by rfl) (fun K hK => ?_)
    go_simp
    obtain ⟨q1, q2, q3, q4, q5, q6⟩ := B3.cells
    obtain ⟨nr, xr, yr, ⟨ar, cr, br, dr, rfl, hxr, hyr⟩, hFr⟩ := hR
    go_simp
    obtain ⟨u13, hU, A3, hbU, hK9, ho⟩ := set3_world B3 (.bool nr) (.slice ar xr.length cr) (.slice br yr.length dr)
    rw [← hU]
    clear hU q1 q2 q3 q4 q5 q6
    replace hbW := hbU _ _ hbW (by omega)
    replace hxr := hK9 _ _ _ hxr
    replace hyr := hK9 _ _ _ hyr
    replace X1 := X1.other ho n11
    replace B2 := B2.other ho n12
    clear hbU hK9 ho
    clear p00 p01 p02 p03 p10 p11 p12
    obtain ⟨p00, p01, p02, p03, _⟩ := X1.cells
    obtain ⟨p10, p11, p12, _⟩ := B2.cells
    refine hK.out _ _ ?_ (fun hHeld => ?_)
    · (try dsimp only)
      exact ⟨p00, p01, p02, p03, p10, p11, p12⟩
    clear hK K
    try simp only [Act.put, List.setIfInBounds_toArray, List.set_cons_zero, List.set_cons_succ]
    refine wpAnyH_done (by kernel_rfl) ?_ _
    go_wp2
    refine bodyPost_ret (by obtain ⟨r1, r2, r3, _⟩ := A3.cells; simp [results, Tryz.results11, go_sem, r1, r2, r3]) rfl ⟨_, rfl, ⟨_, _, _, ⟨_, _, _, _, rfl, hxr, hyr⟩, hFr⟩, hbW⟩
  · have HQ2 : Hid (usQ ⟨tx, lo, us, hi⟩ q = ((us : Int) : Rat) + ((-1 : Int) : Rat) * ((us - lo : Int) : Rat)) := HQ.out.trans (usQ_small h1 h2)
    have hd1 : decide (0 < s1) = false := by rw [← HS.out.1]; exact decide_eq_false (fun hh => h1 (sgn_pos.1 hh))
    have hd2 : decide (s2 < 0) = true := by rw [← HS.out.2.1]; exact decide_eq_true (sgn_neg.2 h2)
    obtain ⟨W, hW, X1, B2, B3, hbW⟩ : ∃ W, W = ((w.alloc (.cells #[.string tx, .int .i64 lo, .int .i64 us, .int .i64 hi] 23)).alloc (.cells #[.bool n, .slice a xs.length c, .slice a' ys.length c'] 32)).alloc (.cells #[.bool false, .slice none 0 0, .slice none 0 0] 32) ∧ BxA W w.heap.size (.string tx) (.int .i64 lo) (.int .i64 us) (.int .i64 hi) ∧ Box 32 W (w.heap.size + 1) (.bool n) (.slice a xs.length c) (.slice a' ys.length c') ∧ Box 32 W (w.heap.size + 1 + 1) (.bool false) (.slice none 0 0) (.slice none 0 0) ∧ Below w.heap.size w W := ⟨_, rfl, ((BxA.new w _ _ _ _).below (bl1 _)).below (bl1 _), (Box.new1 _ w _ _ _ _).alloc _, Box.new2 _ w _ _ _ _ _, al3 _ _ _⟩
    go_enter Tryz.func11, Tryz.ntmps11
    go_wp2_with fail
    rw [← hW]
    clear hW
    replace hX := hX.below hbW
    obtain ⟨p00, p01, p02, p03, _⟩ := X1.cells
    obtain ⟨p10, p11, p12, _⟩ := B2.cells
    obtain ⟨p20, p21, p22, _⟩ := B3.cells
    refine (hal _).mono ?_
    rintro e u1 ⟨rfl, hb1⟩
    replace hX := hX.below hb1
    replace X1 := X1.below hb1
    replace B2 := B2.below hb1
    replace B3 := B3.below hb1
    replace hbW : Below w.heap.size w u1 := hbW.trans (hb1.mono hbW.size)
    clear hb1
    clear p00 p01 p02 p03 p10 p11 p12 p20 p21 p22
    obtain ⟨p00, p01, p02, p03, _⟩ := X1.cells
    obtain ⟨p10, p11, p12, _⟩ := B2.cells
    obtain ⟨p20, p21, p22, _⟩ := B3.cells
    clear hal
    go_wp2_with fail
    refine wp_region_held_drew (S := (fun u => u.cell? ⟨w.heap.size, 0, none⟩ = some (.string tx) ∧ u.cell? ⟨w.heap.size, 1, none⟩ = some (.int .i64 lo) ∧ u.cell? ⟨w.heap.size, 2, none⟩ = some (.int .i64 us) ∧ u.cell? ⟨w.heap.size, 3, none⟩ = some (.int .i64 hi) ∧ u.cell? ⟨(w.heap.size + 1), 0, none⟩ = some (.bool n) ∧ u.cell? ⟨(w.heap.size + 1), 1, none⟩ = some (.slice a xs.length c) ∧ u.cell? ⟨(w.heap.size + 1), 2, none⟩ = some (.slice a' ys.length c') ∧ u.cell? ⟨(w.heap.size + 1 + 1), 0, none⟩ = some (.bool false) ∧ u.cell? ⟨(w.heap.size + 1 + 1), 1, none⟩ = some (.slice none 0 0) ∧ u.cell? ⟨(w.heap.size + 1 + 1), 2, none⟩ = some (.slice none 0 0))) (by kernel_rfl) ?_ (fun hHeld => ?_)
    · (try dsimp only)
      go_keep
    have hdr : Below u1.heap.size u1 u1.drew := Below.drew1
    generalize u1.drew = ud94 at hdr hHeld ⊢
    replace hX := hX.below hdr
    replace X1 := X1.below hdr
    replace B2 := B2.below hdr
    replace B3 := B3.below hdr
    replace hbW : Below w.heap.size w ud94 := hbW.trans (hdr.mono hbW.size)
    clear hdr
    clear p00 p01 p02 p03 p10 p11 p12 p20 p21 p22
    obtain ⟨p00, p01, p02, p03, _⟩ := X1.cells
    obtain ⟨p10, p11, p12, _⟩ := B2.cells
    obtain ⟨p20, p21, p22, _⟩ := B3.cells
    refine hTake (i := 0) (v := ?v95) rfl (by kernel_rfl) (by kernel_rfl) (by kernel_rfl) (fun _ _ _ h => h) (Or.inl ⟨by rfl, ?y95⟩) hHeld ?r95
    case y95 =>
      intro w9 hSw
      (try dsimp only at hSw)
      go_simp
      try with_reducible rfl
    try simp only [Act.put, List.setIfInBounds_toArray, List.set_cons_zero, List.set_cons_succ]
    refine hCall (i := 1) rfl (by kernel_rfl) (by rfl) (fun K hK => ?_)
    go_simp
    refine (swhole_any (1) _ (by decide) (by decide)).mono ?_
    rintro e u2 ⟨vc, rfl, hFc, hb2⟩
    replace hX := hX.below hb2
    replace X1 := X1.below hb2
    replace B2 := B2.below hb2
    replace B3 := B3.below hb2
    replace hbW : Below w.heap.size w u2 := hbW.trans (hb2.mono hbW.size)
    clear hb2
    clear p00 p01 p02 p03 p10 p11 p12 p20 p21 p22
    obtain ⟨p00, p01, p02, p03, _⟩ := X1.cells
    obtain ⟨p10, p11, p12, _⟩ := B2.cells
    obtain ⟨p20, p21, p22, _⟩ := B3.cells
    go_wp2_with fail
    refine hK.out _ _ ?_ (fun hHeld => ?_)
    · (try dsimp only)
      exact ⟨p00, p01, p02, p03, p10, p11, p12, p20, p21, p22⟩
    clear hK K
    try simp only [Act.put, List.setIfInBounds_toArray, List.set_cons_zero, List.set_cons_succ]
    refine hCall (i := 2) rfl (by kernel_rfl) (by rfl) (fun K hK => ?_)
    go_simp
    refine (scmp_any k 2 q ((1 : Int) : Rat) _ _ _ hX hFc.ct hk3 (by decide) hk2 (by decide)).mono ?_
    rintro e u3 ⟨rfl, hb3⟩
    replace hX := hX.below hb3
    replace hFc := hFc.below hb3
    replace X1 := X1.below hb3
    replace B2 := B2.below hb3
    replace B3 := B3.below hb3
    replace hbW : Below w.heap.size w u3 := hbW.trans (hb3.mono hbW.size)
    clear hb3 hFc
    rw [HS.out.1]
    clear p00 p01 p02 p03 p10 p11 p12 p20 p21 p22
    obtain ⟨p00, p01, p02, p03, _⟩ := X1.cells
    obtain ⟨p10, p11, p12, _⟩ := B2.cells
    obtain ⟨p20, p21, p22, _⟩ := B3.cells
    go_wp2_with fail
    refine hK.out _ _ ?_ (fun hHeld => ?_)
    · (try dsimp only)
      exact ⟨p00, p01, p02, p03, p10, p11, p12, p20, p21, p22⟩
    clear hK K
    try simp only [Act.put, List.setIfInBounds_toArray, List.set_cons_zero, List.set_cons_succ]
    refine hTake (i := 3) (v := ?v96) rfl (by kernel_rfl) (by kernel_rfl) (by kernel_rfl) (fun _ _ _ h => h) (Or.inl ⟨by rfl, ?y96⟩) hHeld ?r96
    case y96 =>
      intro w9 hSw
      (try dsimp only at hSw)
      go_simp
      try with_reducible rfl
    try simp only [Act.put, List.setIfInBounds_toArray, List.set_cons_zero, List.set_cons_succ]
    refine wpAnyH_done (by kernel_rfl) ?_ _
    clear hHeld
    go_wp2_with fail
    refine wp_region_held_drew (S := (fun u => u.cell? ⟨w.heap.size, 0, none⟩ = some (.string tx) ∧ u.cell? ⟨w.heap.size, 1, none⟩ = some (.int .i64 lo) ∧ u.cell? ⟨w.heap.size, 2, none⟩ = some (.int .i64 us) ∧ u.cell? ⟨w.heap.size, 3, none⟩ = some (.int .i64 hi) ∧ u.cell? ⟨(w.heap.size + 1), 0, none⟩ = some (.bool n) ∧ u.cell? ⟨(w.heap.size + 1), 1, none⟩ = some (.slice a xs.length c) ∧ u.cell? ⟨(w.heap.size + 1), 2, none⟩ = some (.slice a' ys.length c') ∧ u.cell? ⟨(w.heap.size + 1 + 1), 0, none⟩ = some (.bool false) ∧ u.cell? ⟨(w.heap.size + 1 + 1), 1, none⟩ = some (.slice none 0 0) ∧ u.cell? ⟨(w.heap.size + 1 + 1), 2, none⟩ = some (.slice none 0 0))) (by kernel_rfl) ?_ (fun hHeld => ?_)
    · (try dsimp only)
      go_keep
    have hdr : Below u3.heap.size u3 u3.drew := Below.drew1
    generalize u3.drew = ud97 at hdr hHeld ⊢
    replace hX := hX.below hdr
    replace X1 := X1.below hdr
    replace B2 := B2.below hdr
    replace B3 := B3.below hdr
    replace hbW : Below w.heap.size w ud97 := hbW.trans (hdr.mono hbW.size)
    clear hdr
    clear p00 p01 p02 p03 p10 p11 p12 p20 p21 p22
    obtain ⟨p00, p01, p02, p03, _⟩ := X1.cells
    obtain ⟨p10, p11, p12, _⟩ := B2.cells
    obtain ⟨p20, p21, p22, _⟩ := B3.cells
    refine hTake (i := 0) (v := ?v98) rfl (by kernel_rfl) (by kernel_rfl) (by kernel_rfl) (fun _ _ _ h => h) (Or.inl ⟨by rfl, ?y98⟩) hHeld ?r98
    case y98 =>
      intro w9 hSw
      (try dsimp only at hSw)
      go_simp
      try with_reducible rfl
    try simp only [Act.put, List.setIfInBounds_toArray, List.set_cons_zero, List.set_cons_succ]
    refine hCall (i := 1) rfl (by kernel_rfl) (by rfl) (fun K hK => ?_)
    go_simp
    refine (swhole_any (-1) _ (by decide) (by decide)).mono ?_
    rintro e u4 ⟨vc, rfl, hFc, hb4⟩
    replace hX := hX.below hb4
    replace X1 := X1.below hb4
    replace B2 := B2.below hb4
    replace B3 := B3.below hb4
    replace hbW : Below w.heap.size w u4 := hbW.trans (hb4.mono hbW.size)
    clear hb4
    clear p00 p01 p02 p03 p10 p11 p12 p20 p21 p22
    obtain ⟨p00, p01, p02, p03, _⟩ := X1.cells
    obtain ⟨p10, p11, p12, _⟩ := B2.cells
    obtain ⟨p20, p21, p22, _⟩ := B3.cells
    go_wp2_with fail
    refine hK.out _ _ ?_ (fun hHeld => ?_)
    · (try dsimp only)
      exact ⟨p00, p01, p02, p03, p10, p11, p12, p20, p21, p22⟩
    clear hK K
    try simp only [Act.put, List.setIfInBounds_toArray, List.set_cons_zero, List.set_cons_succ]
    refine hCall (i := 2) rfl (by kernel_rfl) (by rfl) (fun K hK => ?_)
    go_simp
    refine (scmp_any k 2 q ((-1 : Int) : Rat) _ _ _ hX hFc.ct hk3 (by decide) hk2 (by decide)).mono ?_
    rintro e u5 ⟨rfl, hb5⟩
    replace hX := hX.below hb5
    replace hFc := hFc.below hb5
    replace X1 := X1.below hb5
    replace B2 := B2.below hb5
    replace B3 := B3.below hb5
    replace hbW : Below w.heap.size w u5 := hbW.trans (hb5.mono hbW.size)
    clear hb5 hFc
    rw [HS.out.2.1]
    clear p00 p01 p02 p03 p10 p11 p12 p20 p21 p22
    obtain ⟨p00, p01, p02, p03, _⟩ := X1.cells
    obtain ⟨p10, p11, p12, _⟩ := B2.cells
    obtain ⟨p20, p21, p22, _⟩ := B3.cells
    go_wp2_with fail
    refine hK.out _ _ ?_ (fun hHeld => ?_)
    · (try dsimp only)
      exact ⟨p00, p01, p02, p03, p10, p11, p12, p20, p21, p22⟩
    clear hK K
    try simp only [Act.put, List.setIfInBounds_toArray, List.set_cons_zero, List.set_cons_succ]
    refine hTake (i := 3) (v := ?v99) rfl (by kernel_rfl) (by kernel_rfl) (by kernel_rfl) (fun _ _ _ h => h) (Or.inl ⟨by rfl, ?y99⟩) hHeld ?r99
    case y99 =>
      intro w9 hSw
      (try dsimp only at hSw)
      go_simp
      try with_reducible rfl
    try simp only [Act.put, List.setIfInBounds_toArray, List.set_cons_zero, List.set_cons_succ]
    refine wpAnyH_done (by kernel_rfl) ?_ _
    clear hHeld
    go_wp2_with fail
    refine (swhole_any (-1) _ (by decide) (by decide)).mono ?_
    rintro e u6 ⟨v4, rfl, hF4, hb6⟩
    replace hX := hX.below hb6
    replace X1 := X1.below hb6
    replace B2 := B2.below hb6
    replace B3 := B3.below hb6
    replace hbW : Below w.heap.size w u6 := hbW.trans (hb6.mono hbW.size)
    clear hb6
    clear p00 p01 p02 p03 p10 p11 p12 p20 p21 p22
    obtain ⟨p00, p01, p02, p03, _⟩ := X1.cells
    obtain ⟨p10, p11, p12, _⟩ := B2.cells
    obtain ⟨p20, p21, p22, _⟩ := B3.cells
    clear p00 p01 p02 p03 p10 p11 p12 p20 p21 p22
    clear hX
    have hX := hF4.ct
    obtain ⟨n4, x4, y4, ⟨a4, c4, b4, d4, rfl, _, _⟩, _⟩ := hF4
    obtain ⟨q1, q2, q3, q4, q5, q6⟩ := B2.cells
    obtain ⟨r1, r2, r3, _⟩ := X1.cells
    go_wp2_with fail
    obtain ⟨u7, hU, A2, hbU, hK9, ho⟩ := set3_world B2 (.bool n4) (.slice a4 x4.length c4) (.slice b4 y4.length d4)
    rw [← hU]
    clear hU q1 q2 q3 q4 q5 q6 r1 r2 r3
    replace hbW := hbU _ _ hbW (by omega)
    replace hX := hX.keep hK9
    replace X1 := X1.other ho n10
    replace B3 := B3.other ho (Ne.symm n12)
    clear hbU hK9 ho
    clear B2
    have B2 := A2
    clear A2
    obtain ⟨p00, p01, p02, p03, _⟩ := X1.cells
    obtain ⟨p10, p11, p12, _⟩ := B2.cells
    obtain ⟨p20, p21, p22, _⟩ := B3.cells
    refine (ssign_any 2 ((-1 : Int) : Rat) _ _ hX (by decide) (by decide)).mono ?_
    rintro e u8 ⟨rfl, hb8⟩
    replace hX := hX.below hb8
    replace X1 := X1.below hb8
    replace B2 := B2.below hb8
    replace B3 := B3.below hb8
    replace hbW : Below w.heap.size w u8 := hbW.trans (hb8.mono hbW.size)
    clear hb8
    clear p00 p01 p02 p03 p10 p11 p12 p20 p21 p22
    obtain ⟨p00, p01, p02, p03, _⟩ := X1.cells
    obtain ⟨p10, p11, p12, _⟩ := B2.cells
    obtain ⟨p20, p21, p22, _⟩ := B3.cells
    rw [show sgnQ ((-1 : Int) : Rat) = -1 by decide +kernel]
    go_wp2_with fail
    clear p00 p01 p02 p03 p10 p11 p12 p20 p21 p22
    obtain ⟨p00, p01, p02, p03, _⟩ := X1.cells
    obtain ⟨p10, p11, p12, _⟩ := B2.cells
    refine wp_region_held_drew (S := (fun u => u.cell? ⟨w.heap.size, 0, none⟩ = some (.string tx) ∧ u.cell? ⟨w.heap.size, 1, none⟩ = some (.int .i64 lo) ∧ u.cell? ⟨w.heap.size, 2, none⟩ = some (.int .i64 us) ∧ u.cell? ⟨w.heap.size, 3, none⟩ = some (.int .i64 hi) ∧ u.cell? ⟨(w.heap.size + 1), 0, none⟩ = some (.bool n4) ∧ u.cell? ⟨(w.heap.size + 1), 1, none⟩ = some (.slice a4 x4.length c4) ∧ u.cell? ⟨(w.heap.size + 1), 2, none⟩ = some (.slice b4 y4.length d4))) (by kernel_rfl) ?_ (fun hHeld => ?_)
    · (try dsimp only)
      go_keep
    have hdr : Below u8.heap.size u8 u8.drew := Below.drew1
    generalize u8.drew = ud100 at hdr hHeld ⊢
    replace hX := hX.below hdr
    replace B3 := B3.below hdr
    replace X1 := X1.below hdr
    replace B2 := B2.below hdr
    replace hbW : Below w.heap.size w ud100 := hbW.trans (hdr.mono hbW.size)
    clear hdr
    clear p00 p01 p02 p03 p10 p11 p12
    obtain ⟨p00, p01, p02, p03, _⟩ := X1.cells
    obtain ⟨p10, p11, p12, _⟩ := B2.cells
    refine hTake (i := 0) (v := ?v101) rfl (by kernel_rfl) (by kernel_rfl) (by kernel_rfl) (fun _ _ _ h => h) (Or.inl ⟨by rfl, ?y101⟩) hHeld ?r101
    case y101 =>
      intro w9 hSw
      (try dsimp only at hSw)
      go_simp
      try with_reducible rfl
    try simp only [Act.put, List.setIfInBounds_toArray, List.set_cons_zero, List.set_cons_succ]
    refine hTake (i := 1) (v := ?v102) rfl (by kernel_rfl) (by kernel_rfl) (by kernel_rfl) (fun _ _ _ h => h) (Or.inl ⟨by rfl, ?y102⟩) hHeld ?r102
    case y102 =>
      intro w9 hSw
      (try dsimp only at hSw)
      go_simp
      try with_reducible rfl
    try simp only [Act.put, List.setIfInBounds_toArray, List.set_cons_zero, List.set_cons_succ]
    refine hTake (i := 3) (v := ?v103) rfl (by kernel_rfl) (by kernel_rfl) (by kernel_rfl) (fun _ _ _ h => h) (Or.inl ⟨by rfl, ?y103⟩) hHeld ?r103
    case y103 =>
      intro w9 hSw
      (try dsimp only at hSw)
      go_simp
      try with_reducible rfl
    try simp only [Act.put, List.setIfInBounds_toArray, List.set_cons_zero, List.set_cons_succ]
    refine hTake (i := 4) (v := ?v104) rfl (by kernel_rfl) (by kernel_rfl) (by kernel_rfl) (fun _ _ _ h => h) (Or.inl ⟨by rfl, ?y104⟩) hHeld ?r104
    case y104 =>
      intro w9 hSw
      (try dsimp only at hSw)
      go_simp
      try with_reducible rfl
    try simp only [Act.put, List.setIfInBounds_toArray, List.set_cons_zero, List.set_cons_succ]
    refine hCall (i := 2) rfl (by kernel_rfl) (by rfl) (fun K hK => ?_)
    go_simp
    refine (swhole_any us _ (by omega) (by omega)).mono ?_
    rintro e u9 ⟨vu, rfl, hU1, hb9⟩
    replace hX := hX.below hb9
    replace B3 := B3.below hb9
    replace X1 := X1.below hb9
    replace B2 := B2.below hb9
    replace hbW : Below w.heap.size w u9 := hbW.trans (hb9.mono hbW.size)
    clear hb9
    clear p00 p01 p02 p03 p10 p11 p12
    obtain ⟨p00, p01, p02, p03, _⟩ := X1.cells
    obtain ⟨p10, p11, p12, _⟩ := B2.cells
    go_wp2_with fail
    refine hK.out _ _ ?_ (fun hHeld => ?_)
    · (try dsimp only)
      exact ⟨p00, p01, p02, p03, p10, p11, p12⟩
    clear hK K
    try simp only [Act.put, List.setIfInBounds_toArray, List.set_cons_zero, List.set_cons_succ]
    refine hCall (i := 5) rfl (by kernel_rfl) (by rfl) (fun K hK => ?_)
    go_simp
    refine (swhole_any (us - lo) _ (by omega) (by omega)).mono ?_
    rintro e u10 ⟨vw, rfl, hWd, hb10⟩
    replace hX := hX.below hb10
    replace B3 := B3.below hb10
    replace hU1 := hU1.below hb10
    replace X1 := X1.below hb10
    replace B2 := B2.below hb10
    replace hbW : Below w.heap.size w u10 := hbW.trans (hb10.mono hbW.size)
    clear hb10
    clear p00 p01 p02 p03 p10 p11 p12
    obtain ⟨p00, p01, p02, p03, _⟩ := X1.cells
    obtain ⟨p10, p11, p12, _⟩ := B2.cells
    go_wp2_with fail
    refine hK.out _ _ ?_ (fun hHeld => ?_)
    · (try dsimp only)
      exact ⟨p00, p01, p02, p03, p10, p11, p12⟩
    clear hK K
    try simp only [Act.put, List.setIfInBounds_toArray, List.set_cons_zero, List.set_cons_succ]
    refine hCall (i := 6) rfl (by kernel_rfl) (by rfl) (fun K hK => ?_)
    go_simp
    refine (smul_any 2 2 ((-1 : Int) : Rat) ((us - lo : Int) : Rat) _ _ _ hX hWd.ct (by decide) (by decide) (by decide) (by decide)).mono ?_
    rintro e u11 ⟨vm, rfl, hM1, hb11⟩
    replace hX := hX.below hb11
    replace B3 := B3.below hb11
    replace hU1 := hU1.below hb11
    replace hWd := hWd.below hb11
    replace X1 := X1.below hb11
    replace B2 := B2.below hb11
    replace hbW : Below w.heap.size w u11 := hbW.trans (hb11.mono hbW.size)
    clear hb11
    clear p00 p01 p02 p03 p10 p11 p12
    obtain ⟨p00, p01, p02, p03, _⟩ := X1.cells
    obtain ⟨p10, p11, p12, _⟩ := B2.cells
    go_wp2_with fail
    refine hK.out _ _ ?_ (fun hHeld => ?_)
    · (try dsimp only)
      exact ⟨p00, p01, p02, p03, p10, p11, p12⟩
    clear hK K
    try simp only [Act.put, List.setIfInBounds_toArray, List.set_cons_zero, List.set_cons_succ]
    refine hCall (i := 7) rfl (by kernel_rfl) (by rfl) (fun K hK => ?_)
    go_simp
    refine (sadd_any 2 (2 + 2) ((us : Int) : Rat) (((-1 : Int) : Rat) * ((us - lo : Int) : Rat)) _ _ _ hU1.ct hM1.ct (by decide) (by omega) (by decide) (by omega)).mono ?_
    rintro e u12 ⟨vr, rfl, hR, hb12⟩
    replace hX := hX.below hb12
    replace B3 := B3.below hb12
    replace hU1 := hU1.below hb12
    replace hWd := hWd.below hb12
    replace hM1 := hM1.below hb12
    replace X1 := X1.below hb12
    replace B2 := B2.below hb12
    replace hbW : Below w.heap.size w u12 := hbW.trans (hb12.mono hbW.size)
    clear hb12
    replace hR := (hR.eq HQ2.out.symm).le (show 2 + (2 + 2) + 1 ≤ k + 5 by omega)
    clear p00 p01 p02 p03 p10 p11 p12
    obtain ⟨p00, p01, p02, p03, _⟩ := X1.cells
    obtain ⟨p10, p11, p12, _⟩ := B2.cells
    go_wp2_with fail
    refine hK.out _ _ ?_ (fun hHeld => ?_)
    · (try dsimp only)
      exact ⟨p00, p01, p02, p03, p10, p11, p12⟩
    clear hK K
    try simp only [Act.put, List.setIfInBounds_toArray, List.set_cons_zero, List.set_cons_succ]
    refine hCall (i := 8) rfl (by kernel_rfl) (by rfl) (fun K hK => ?_)
    go_simp
    obtain ⟨q1, q2, q3, q4, q5, q6⟩ := B3.cells
    obtain ⟨nr, xr, yr, ⟨ar, cr, br, dr, rfl, hxr, hyr⟩, hFr⟩ := hR
    go_simp
    obtain ⟨u13, hU, A3, hbU, hK9, ho⟩ := set3_world B3 (.bool nr) (.slice ar xr.length cr) (.slice br yr.length dr)
    rw [← hU]
    clear hU q1 q2 q3 q4 q5 q6
    replace hbW := hbU _ _ hbW (by omega)
    replace hxr := hK9 _ _ _ hxr
    replace hyr := hK9 _ _ _ hyr
    replace X1 := X1.other ho n11
    replace B2 := B2.other ho n12
    clear hbU hK9 ho
    clear p00 p01 p02 p03 p10 p11 p12
    obtain ⟨p00, p01, p02, p03, _⟩ := X1.cells
    obtain ⟨p10, p11, p12, _⟩ := B2.cells
    refine hK.out _ _ ?_ (fun hHeld => ?_)
    · (try dsimp only)
      exact ⟨p00, p01, p02, p03, p10, p11, p12⟩
    clear hK K
    try simp only [Act.put, List.setIfInBounds_toArray, List.set_cons_zero, List.set_cons_succ]
    refine wpAnyH_done (by kernel_rfl) ?_ _
    go_wp2
    refine bodyPost_ret (by obtain ⟨r1, r2, r3, _⟩ := A3.cells; simp [results, Tryz.results11, go_sem, r1, r2, r3]) rfl ⟨_, rfl, ⟨_, _, _, ⟨_, _, _, _, rfl, hxr, hyr⟩, hFr⟩, hbW⟩
  · have HQ2 : Hid (usQ ⟨tx, lo, us, hi⟩ q = ((us : Int) : Rat) + q * ((us - lo : Int) : Rat)) := HQ.out.trans (usQ_neg h1 h2 h3)
    have hd1 : decide (0 < s1) = false := by rw [← HS.out.1]; exact decide_eq_false (fun hh => h1 (sgn_pos.1 hh))
    have hd2 : decide (s2 < 0) = false := by rw [← HS.out.2.1]; exact decide_eq_false (fun hh => h2 (sgn_neg.1 hh))
    have hd3 : decide (s3 < 0) = true := by rw [← HS.out.2.2]; exact decide_eq_true (sgn_lt0.2 h3)
    obtain ⟨W, hW, X1, B2, B3, hbW⟩ : ∃ W, W = ((w.alloc (.cells #[.string tx, .int .i64 lo, .int .i64 us, .int .i64 hi] 23)).alloc (.cells #[.bool n, .slice a xs.length c, .slice a' ys.length c'] 32)).alloc (.cells #[.bool false, .slice none 0 0, .slice none 0 0] 32) ∧ BxA W w.heap.size (.string tx) (.int .i64 lo) (.int .i64 us) (.int .i64 hi) ∧ Box 32 W (w.heap.size + 1) (.bool n) (.slice a xs.length c) (.slice a' ys.length c') ∧ Box 32 W (w.heap.size + 1 + 1) (.bool false) (.slice none 0 0) (.slice none 0 0) ∧ Below w.heap.size w W := ⟨_, rfl, ((BxA.new w _ _ _ _).below (bl1 _)).below (bl1 _), (Box.new1 _ w _ _ _ _).alloc _, Box.new2 _ w _ _ _ _ _, al3 _ _ _⟩
    go_enter Tryz.func11, Tryz.ntmps11
    go_wp2_with fail
    rw [← hW]
    clear hW
    replace hX := hX.below hbW
    obtain ⟨p00, p01, p02, p03, _⟩ := X1.cells
    obtain ⟨p10, p11, p12, _⟩ := B2.cells
    obtain ⟨p20, p21, p22, _⟩ := B3.cells
    refine (hal _).mono ?_
    rintro e u1 ⟨rfl, hb1⟩
    replace hX := hX.below hb1
    replace X1 := X1.below hb1
    replace B2 := B2.below hb1
    replace B3 := B3.below hb1
    replace hbW : Below w.heap.size w u1 := hbW.trans (hb1.mono hbW.size)
    clear hb1
    clear p00 p01 p02 p03 p10 p11 p12 p20 p21 p22
    obtain ⟨p00, p01, p02, p03, _⟩ := X1.cells
    obtain ⟨p10, p11, p12, _⟩ := B2.cells
    obtain ⟨p20, p21, p22, _⟩ := B3.cells
    clear hal
    go_wp2_with fail
    refine wp_region_held_drew (S := (fun u => u.cell? ⟨w.heap.size, 0, none⟩ = some (.string tx) ∧ u.cell? ⟨w.heap.size, 1, none⟩ = some (.int .i64 lo) ∧ u.cell? ⟨w.heap.size, 2, none⟩ = some (.int .i64 us) ∧ u.cell? ⟨w.heap.size, 3, none⟩ = some (.int .i64 hi) ∧ u.cell? ⟨(w.heap.size + 1), 0, none⟩ = some (.bool n) ∧ u.cell? ⟨(w.heap.size + 1), 1, none⟩ = some (.slice a xs.length c) ∧ u.cell? ⟨(w.heap.size + 1), 2, none⟩ = some (.slice a' ys.length c') ∧ u.cell? ⟨(w.heap.size + 1 + 1), 0, none⟩ = some (.bool false) ∧ u.cell? ⟨(w.heap.size + 1 + 1), 1, none⟩ = some (.slice none 0 0) ∧ u.cell? ⟨(w.heap.size + 1 + 1), 2, none⟩ = some (.slice none 0 0))) (by kernel_rfl) ?_ (fun hHeld => ?_)
    · (try dsimp only)
      go_keep
    have hdr : Below u1.heap.size u1 u1.drew := Below.drew1
    generalize u1.drew = ud105 at hdr hHeld ⊢
    replace hX := hX.below hdr
    replace X1 := X1.below hdr
    replace B2 := B2.below hdr
    replace B3 := B3.below hdr
    replace hbW : Below w.heap.size w ud105 := hbW.trans (hdr.mono hbW.size)
    clear hdr
    clear p00 p01 p02 p03 p10 p11 p12 p20 p21 p22
    obtain ⟨p00, p01, p02, p03, _⟩ := X1.cells
    obtain ⟨p10, p11, p12, _⟩ := B2.cells
    obtain ⟨p20, p21, p22, _⟩ := B3.cells
    refine hTake (i := 0) (v := ?v106) rfl (by kernel_rfl) (by kernel_rfl) (by kernel_rfl) (fun _ _ _ h => h) (Or.inl ⟨by rfl, ?y106⟩) hHeld ?r106
    case y106 =>
      intro w9 hSw
      (try dsimp only at hSw)
      go_simp
      try with_reducible rfl
    try simp only [Act.put, List.setIfInBounds_toArray, List.set_cons_zero, List.set_cons_succ]
    refine hCall (i := 1) rfl (by kernel_rfl) (by rfl) (fun K hK => ?_)
    go_simp
    refine (swhole_any (1) _ (by decide) (by decide)).mono ?_
    rintro e u2 ⟨vc, rfl, hFc, hb2⟩
    replace hX := hX.below hb2
    replace X1 := X1.below hb2
    replace B2 := B2.below hb2
    replace B3 := B3.below hb2
    replace hbW : Below w.heap.size w u2 := hbW.trans (hb2.mono hbW.size)
    clear hb2
    clear p00 p01 p02 p03 p10 p11 p12 p20 p21 p22
    obtain ⟨p00, p01, p02, p03, _⟩ := X1.cells
    obtain ⟨p10, p11, p12, _⟩ := B2.cells
    obtain ⟨p20, p21, p22, _⟩ := B3.cells
    go_wp2_with fail
    refine hK.out _ _ ?_ (fun hHeld => ?_)
    · (try dsimp only)
      exact ⟨p00, p01, p02, p03, p10, p11, p12, p20, p21, p22⟩
    clear hK K
    try simp only [Act.put, List.setIfInBounds_toArray, List.set_cons_zero, List.set_cons_succ]
    refine hCall (i := 2) rfl (by kernel_rfl) (by rfl) (fun K hK => ?_)
    go_simp
    refine (scmp_any k 2 q ((1 : Int) : Rat) _ _ _ hX hFc.ct hk3 (by decide) hk2 (by decide)).mono ?_
    rintro e u3 ⟨rfl, hb3⟩
    replace hX := hX.below hb3
    replace hFc := hFc.below hb3
    replace X1 := X1.below hb3
    replace B2 := B2.below hb3
    replace B3 := B3.below hb3
    replace hbW : Below w.heap.size w u3 := hbW.trans (hb3.mono hbW.size)
    clear hb3 hFc
    rw [HS.out.1]
    clear p00 p01 p02 p03 p10 p11 p12 p20 p21 p22
    obtain ⟨p00, p01, p02, p03, _⟩ := X1.cells
    obtain ⟨p10, p11, p12, _⟩ := B2.cells
    obtain ⟨p20, p21, p22, _⟩ := B3.cells
    go_wp2_with fail
    refine hK.out _ _ ?_ (fun hHeld => ?_)
    · (try dsimp only)
      exact ⟨p00, p01, p02, p03, p10, p11, p12, p20, p21, p22⟩
    clear hK K
    try simp only [Act.put, List.setIfInBounds_toArray, List.set_cons_zero, List.set_cons_succ]
    refine hTake (i := 3) (v := ?v107) rfl (by kernel_rfl) (by kernel_rfl) (by kernel_rfl) (fun _ _ _ h => h) (Or.inl ⟨by rfl, ?y107⟩) hHeld ?r107
    case y107 =>
      intro w9 hSw
      (try dsimp only at hSw)
      go_simp
      try with_reducible rfl
    try simp only [Act.put, List.setIfInBounds_toArray, List.set_cons_zero, List.set_cons_succ]
    refine wpAnyH_done (by kernel_rfl) ?_ _
    clear hHeld
    go_wp2_with fail
    refine wp_region_held_drew (S := (fun u => u.cell? ⟨w.heap.size, 0, none⟩ = some (.string tx) ∧ u.cell? ⟨w.heap.size, 1, none⟩ = some (.int .i64 lo) ∧ u.cell? ⟨w.heap.size, 2, none⟩ = some (.int .i64 us) ∧ u.cell? ⟨w.heap.size, 3, none⟩ = some (.int .i64 hi) ∧ u.cell? ⟨(w.heap.size + 1), 0, none⟩ = some (.bool n) ∧ u.cell? ⟨(w.heap.size + 1), 1, none⟩ = some (.slice a xs.length c) ∧ u.cell? ⟨(w.heap.size + 1), 2, none⟩ = some (.slice a' ys.length c') ∧ u.cell? ⟨(w.heap.size + 1 + 1), 0, none⟩ = some (.bool false) ∧ u.cell? ⟨(w.heap.size + 1 + 1), 1, none⟩ = some (.slice none 0 0) ∧ u.cell? ⟨(w.heap.size + 1 + 1), 2, none⟩ = some (.slice none 0 0))) (by kernel_rfl) ?_ (fun hHeld => ?_)
    · (try dsimp only)
      go_keep
    have hdr : Below u3.heap.size u3 u3.drew := Below.drew1
    generalize u3.drew = ud108 at hdr hHeld ⊢
    replace hX := hX.below hdr
    replace X1 := X1.below hdr
    replace B2 := B2.below hdr
    replace B3 := B3.below hdr
    replace hbW : Below w.heap.size w ud108 := hbW.trans (hdr.mono hbW.size)
    clear hdr
    clear p00 p01 p02 p03 p10 p11 p12 p20 p21 p22
    obtain ⟨p00, p01, p02, p03, _⟩ := X1.cells
    obtain ⟨p10, p11, p12, _⟩ := B2.cells
    obtain ⟨p20, p21, p22, _⟩ := B3.cells
    refine hTake (i := 0) (v := ?v109) rfl (by kernel_rfl) (by kernel_rfl) (by kernel_rfl) (fun _ _ _ h => h) (Or.inl ⟨by rfl, ?y109⟩) hHeld ?r109
    case y109 =>
      intro w9 hSw
      (try dsimp only at hSw)
      go_simp
      try with_reducible rfl
    try simp only [Act.put, List.setIfInBounds_toArray, List.set_cons_zero, List.set_cons_succ]
    refine hCall (i := 1) rfl (by kernel_rfl) (by rfl) (fun K hK => ?_)
    go_simp
    refine (swhole_any (-1) _ (by decide) (by decide)).mono ?_
    rintro e u4 ⟨vc, rfl, hFc, hb4⟩
    replace hX := hX.below hb4
    replace X1 := X1.below hb4
    replace B2 := B2.below hb4
    replace B3 := B3.below hb4
    replace hbW : Below w.heap.size w u4 := hbW.trans (hb4.mono hbW.size)
    clear hb4
    clear p00 p01 p02 p03 p10 p11 p12 p20 p21 p22
    obtain ⟨p00, p01, p02, p03, _⟩ := X1.cells
    obtain ⟨p10, p11, p12, _⟩ := B2.cells
    obtain ⟨p20, p21, p22, _⟩ := B3.cells
    go_wp2_with fail
    refine hK.out _ _ ?_ (fun hHeld => ?_)
    · (try dsimp only)
      exact ⟨p00, p01, p02, p03, p10, p11, p12, p20, p21, p22⟩
    clear hK K
    try simp only [Act.put, List.setIfInBounds_toArray, List.set_cons_zero, List.set_cons_succ]
    refine hCall (i := 2) rfl (by kernel_rfl) (by rfl) (fun K hK => ?_)
    go_simp
    refine (scmp_any k 2 q ((-1 : Int) : Rat) _ _ _ hX hFc.ct hk3 (by decide) hk2 (by decide)).mono ?_
    rintro e u5 ⟨rfl, hb5⟩
    replace hX := hX.below hb5
    replace hFc := hFc.below hb5
    replace X1 := X1.below hb5
    replace B2 := B2.below hb5
    replace B3 := B3.below hb5
    replace hbW : Below w.heap.size w u5 := hbW.trans (hb5.mono hbW.size)
    clear hb5 hFc
    rw [HS.out.2.1]
    clear p00 p01 p02 p03 p10 p11 p12 p20 p21 p22
    obtain ⟨p00, p01, p02, p03, _⟩ := X1.cells
    obtain ⟨p10, p11, p12, _⟩ := B2.cells
    obtain ⟨p20, p21, p22, _⟩ := B3.cells
    go_wp2_with fail
    refine hK.out _ _ ?_ (fun hHeld => ?_)
    · (try dsimp only)
      exact ⟨p00, p01, p02, p03, p10, p11, p12, p20, p21, p22⟩
    clear hK K
    try simp only [Act.put, List.setIfInBounds_toArray, List.set_cons_zero, List.set_cons_succ]
    refine hTake (i := 3) (v := ?v110) rfl (by kernel_rfl) (by kernel_rfl) (by kernel_rfl) (fun _ _ _ h => h) (Or.inl ⟨by rfl, ?y110⟩) hHeld ?r110
    case y110 =>
      intro w9 hSw
      (try dsimp only at hSw)
      go_simp
      try with_reducible rfl
    try simp only [Act.put, List.setIfInBounds_toArray, List.set_cons_zero, List.set_cons_succ]
    refine wpAnyH_done (by kernel_rfl) ?_ _
    clear hHeld
    go_wp2_with fail
    refine (ssign_any k q _ _ hX hk4 hk2).mono ?_
    rintro e u6 ⟨rfl, hb6⟩
    replace hX := hX.below hb6
    replace X1 := X1.below hb6
    replace B2 := B2.below hb6
    replace B3 := B3.below hb6
    replace hbW : Below w.heap.size w u6 := hbW.trans (hb6.mono hbW.size)
    clear hb6
    clear p00 p01 p02 p03 p10 p11 p12 p20 p21 p22
    obtain ⟨p00, p01, p02, p03, _⟩ := X1.cells
    obtain ⟨p10, p11, p12, _⟩ := B2.cells
    obtain ⟨p20, p21, p22, _⟩ := B3.cells
    rw [HS.out.2.2]
    go_wp2_with fail
    clear p00 p01 p02 p03 p10 p11 p12 p20 p21 p22
    obtain ⟨p00, p01, p02, p03, _⟩ := X1.cells
    obtain ⟨p10, p11, p12, _⟩ := B2.cells
    refine wp_region_held_drew (S := (fun u => u.cell? ⟨w.heap.size, 0, none⟩ = some (.string tx) ∧ u.cell? ⟨w.heap.size, 1, none⟩ = some (.int .i64 lo) ∧ u.cell? ⟨w.heap.size, 2, none⟩ = some (.int .i64 us) ∧ u.cell? ⟨w.heap.size, 3, none⟩ = some (.int .i64 hi) ∧ u.cell? ⟨(w.heap.size + 1), 0, none⟩ = some (.bool n) ∧ u.cell? ⟨(w.heap.size + 1), 1, none⟩ = some (.slice a xs.length c) ∧ u.cell? ⟨(w.heap.size + 1), 2, none⟩ = some (.slice a' ys.length c'))) (by kernel_rfl) ?_ (fun hHeld => ?_)
    · (try dsimp only)
      go_keep
    have hdr : Below u6.heap.size u6 u6.drew := Below.drew1
    generalize u6.drew = ud111 at hdr hHeld ⊢
    replace hX := hX.below hdr
    replace B3 := B3.below hdr
    replace X1 := X1.below hdr
    replace B2 := B2.below hdr
    replace hbW : Below w.heap.size w ud111 := hbW.trans (hdr.mono hbW.size)
    clear hdr
    clear p00 p01 p02 p03 p10 p11 p12
    obtain ⟨p00, p01, p02, p03, _⟩ := X1.cells
    obtain ⟨p10, p11, p12, _⟩ := B2.cells
    refine hTake (i := 0) (v := ?v112) rfl (by kernel_rfl) (by kernel_rfl) (by kernel_rfl) (fun _ _ _ h => h) (Or.inl ⟨by rfl, ?y112⟩) hHeld ?r112
    case y112 =>
      intro w9 hSw
      (try dsimp only at hSw)
      go_simp
      try with_reducible rfl
    try simp only [Act.put, List.setIfInBounds_toArray, List.set_cons_zero, List.set_cons_succ]
    refine hTake (i := 1) (v := ?v113) rfl (by kernel_rfl) (by kernel_rfl) (by kernel_rfl) (fun _ _ _ h => h) (Or.inl ⟨by rfl, ?y113⟩) hHeld ?r113
    case y113 =>
      intro w9 hSw
      (try dsimp only at hSw)
      go_simp
      try with_reducible rfl
    try simp only [Act.put, List.setIfInBounds_toArray, List.set_cons_zero, List.set_cons_succ]
    refine hTake (i := 3) (v := ?v114) rfl (by kernel_rfl) (by kernel_rfl) (by kernel_rfl) (fun _ _ _ h => h) (Or.inl ⟨by rfl, ?y114⟩) hHeld ?r114
    case y114 =>
      intro w9 hSw
      (try dsimp only at hSw)
      go_simp
      try with_reducible rfl
    try simp only [Act.put, List.setIfInBounds_toArray, List.set_cons_zero, List.set_cons_succ]
    refine hTake (i := 4) (v := ?v115) rfl (by kernel_rfl) (by kernel_rfl) (by kernel_rfl) (fun _ _ _ h => h) (Or.inl ⟨by rfl, ?y115⟩) hHeld ?r115
    case y115 =>
      intro w9 hSw
      (try dsimp only at hSw)
      go_simp
      try with_reducible rfl
    try simp only [Act.put, List.setIfInBounds_toArray, List.set_cons_zero, List.set_cons_succ]
    refine hCall (i := 2) rfl (by kernel_rfl) (by rfl) (fun K hK => ?_)
    go_simp
    refine (swhole_any us _ (by omega) (by omega)).mono ?_
    rintro e u7 ⟨vu, rfl, hU1, hb7⟩
    replace hX := hX.below hb7
    replace B3 := B3.below hb7
    replace X1 := X1.below hb7
    replace B2 := B2.below hb7
    replace hbW : Below w.heap.size w u7 := hbW.trans (hb7.mono hbW.size)
    clear hb7
    clear p00 p01 p02 p03 p10 p11 p12
    obtain ⟨p00, p01, p02, p03, _⟩ := X1.cells
    obtain ⟨p10, p11, p12, _⟩ := B2.cells
    go_wp2_with fail
    refine hK.out _ _ ?_ (fun hHeld => ?_)
    · (try dsimp only)
      exact ⟨p00, p01, p02, p03, p10, p11, p12⟩
    clear hK K
    try simp only [Act.put, List.setIfInBounds_toArray, List.set_cons_zero, List.set_cons_succ]
    refine hCall (i := 5) rfl (by kernel_rfl) (by rfl) (fun K hK => ?_)
    go_simp
    refine (swhole_any (us - lo) _ (by omega) (by omega)).mono ?_
    rintro e u8 ⟨vw, rfl, hWd, hb8⟩
    replace hX := hX.below hb8
    replace B3 := B3.below hb8
    replace hU1 := hU1.below hb8
    replace X1 := X1.below hb8
    replace B2 := B2.below hb8
    replace hbW : Below w.heap.size w u8 := hbW.trans (hb8.mono hbW.size)
    clear hb8
    clear p00 p01 p02 p03 p10 p11 p12
    obtain ⟨p00, p01, p02, p03, _⟩ := X1.cells
    obtain ⟨p10, p11, p12, _⟩ := B2.cells
    go_wp2_with fail
    refine hK.out _ _ ?_ (fun hHeld => ?_)
    · (try dsimp only)
      exact ⟨p00, p01, p02, p03, p10, p11, p12⟩
    clear hK K
    try simp only [Act.put, List.setIfInBounds_toArray, List.set_cons_zero, List.set_cons_succ]
    refine hCall (i := 6) rfl (by kernel_rfl) (by rfl) (fun K hK => ?_)
    go_simp
    refine (smul_any k 2 q ((us - lo : Int) : Rat) _ _ _ hX hWd.ct hk4 (by decide) hk2 (by decide)).mono ?_
    rintro e u9 ⟨vm, rfl, hM1, hb9⟩
    replace hX := hX.below hb9
    replace B3 := B3.below hb9
    replace hU1 := hU1.below hb9
    replace hWd := hWd.below hb9
    replace X1 := X1.below hb9
    replace B2 := B2.below hb9
    replace hbW : Below w.heap.size w u9 := hbW.trans (hb9.mono hbW.size)
    clear hb9
    clear p00 p01 p02 p03 p10 p11 p12
    obtain ⟨p00, p01, p02, p03, _⟩ := X1.cells
    obtain ⟨p10, p11, p12, _⟩ := B2.cells
    go_wp2_with fail
    refine hK.out _ _ ?_ (fun hHeld => ?_)
    · (try dsimp only)
      exact ⟨p00, p01, p02, p03, p10, p11, p12⟩
    clear hK K
    try simp only [Act.put, List.setIfInBounds_toArray, List.set_cons_zero, List.set_cons_succ]
    refine hCall (i := 7) rfl (by kernel_rfl) (by rfl) (fun K hK => ?_)
    go_simp
    refine (sadd_any 2 (k + 2) ((us : Int) : Rat) (q * ((us - lo : Int) : Rat)) _ _ _ hU1.ct hM1.ct (by decide) (by omega) (by decide) (by omega)).mono ?_
    rintro e u10 ⟨vr, rfl, hR, hb10⟩
    replace hX := hX.below hb10
    replace B3 := B3.below hb10
    replace hU1 := hU1.below hb10
    replace hWd := hWd.below hb10
    replace hM1 := hM1.below hb10
    replace X1 := X1.below hb10
    replace B2 := B2.below hb10
    replace hbW : Below w.heap.size w u10 := hbW.trans (hb10.mono hbW.size)
    clear hb10
    replace hR := (hR.eq HQ2.out.symm).le (show 2 + (k + 2) + 1 ≤ k + 5 by omega)
    clear p00 p01 p02 p03 p10 p11 p12
    obtain ⟨p00, p01, p02, p03, _⟩ := X1.cells
    obtain ⟨p10, p11, p12, _⟩ := B2.cells
    go_wp2_with fail
    refine hK.out _ _ ?_ (fun hHeld => ?_)
    · (try dsimp only)
      exact ⟨p00, p01, p02, p03, p10, p11, p12⟩
    clear hK K
    try simp only [Act.put, List.setIfInBounds_toArray, List.set_cons_zero, List.set_cons_succ]
    refine hCall (i := 8) rfl (by kernel_rfl) (by rfl) (fun K hK => ?_)
    go_simp
    obtain ⟨q1, q2, q3, q4, q5, q6⟩ := B3.cells
    obtain ⟨nr, xr, yr, ⟨ar, cr, br, dr, rfl, hxr, hyr⟩, hFr⟩ := hR
    go_simp
    obtain ⟨u11, hU, A3, hbU, hK9, ho⟩ := set3_world B3 (.bool nr) (.slice ar xr.length cr) (.slice br yr.length dr)
    rw [← hU]
    clear hU q1 q2 q3 q4 q5 q6
    replace hbW := hbU _ _ hbW (by omega)
    replace hxr := hK9 _ _ _ hxr
    replace hyr := hK9 _ _ _ hyr
    replace X1 := X1.other ho n11
    replace B2 := B2.other ho n12
    clear hbU hK9 ho
    clear p00 p01 p02 p03 p10 p11 p12
    obtain ⟨p00, p01, p02, p03, _⟩ := X1.cells
    obtain ⟨p10, p11, p12, _⟩ := B2.cells
    refine hK.out _ _ ?_ (fun hHeld => ?_)
    · (try dsimp only)
      exact ⟨p00, p01, p02, p03, p10, p11, p12⟩
    clear hK K
    try simp only [Act.put, List.setIfInBounds_toArray, List.set_cons_zero, List.set_cons_succ]
    refine wpAnyH_done (by kernel_rfl) ?_ _
    go_wp2
    refine bodyPost_ret (by obtain ⟨r1, r2, r3, _⟩ := A3.cells; simp [results, Tryz.results11, go_sem, r1, r2, r3]) rfl ⟨_, rfl, ⟨_, _, _, ⟨_, _, _, _, rfl, hxr, hyr⟩, hFr⟩, hbW⟩
  · have HQ2 : Hid (usQ ⟨tx, lo, us, hi⟩ q = ((us : Int) : Rat) + q * ((hi - us : Int) : Rat)) := HQ.out.trans (usQ_pos h1 h2 h3)
    have hd1 : decide (0 < s1) = false := by rw [← HS.out.1]; exact decide_eq_false (fun hh => h1 (sgn_pos.1 hh))
    have hd2 : decide (s2 < 0) = false := by rw [← HS.out.2.1]; exact decide_eq_false (fun hh => h2 (sgn_neg.1 hh))
    have hd3 : decide (s3 < 0) = false := by rw [← HS.out.2.2]; exact decide_eq_false (fun hh => h3 (sgn_lt0.1 hh))
    obtain ⟨W, hW, X1, B2, B3, hbW⟩ : ∃ W, W = ((w.alloc (.cells #[.string tx, .int .i64 lo, .int .i64 us, .int .i64 hi] 23)).alloc (.cells #[.bool n, .slice a xs.length c, .slice a' ys.length c'] 32)).alloc (.cells #[.bool false, .slice none 0 0, .slice none 0 0] 32) ∧ BxA W w.heap.size (.string tx) (.int .i64 lo) (.int .i64 us) (.int .i64 hi) ∧ Box 32 W (w.heap.size + 1) (.bool n) (.slice a xs.length c) (.slice a' ys.length c') ∧ Box 32 W (w.heap.size + 1 + 1) (.bool false) (.slice none 0 0) (.slice none 0 0) ∧ Below w.heap.size w W := ⟨_, rfl, ((BxA.new w _ _ _ _).below (bl1 _)).below (bl1 _), (Box.new1 _ w _ _ _ _).alloc _, Box.new2 _ w _ _ _ _ _, al3 _ _ _⟩
    go_enter Tryz.func11, Tryz.ntmps11
    go_wp2_with fail
    rw [← hW]
    clear hW
    replace hX := hX.below hbW
    obtain ⟨p00, p01, p02, p03, _⟩ := X1.cells
    obtain ⟨p10, p11, p12, _⟩ := B2.cells
    obtain ⟨p20, p21, p22, _⟩ := B3.cells
    refine (hal _).mono ?_
    rintro e u1 ⟨rfl, hb1⟩
    replace hX := hX.below hb1
    replace X1 := X1.below hb1
    replace B2 := B2.below hb1
    replace B3 := B3.below hb1
    replace hbW : Below w.heap.size w u1 := hbW.trans (hb1.mono hbW.size)
    clear hb1
    clear p00 p01 p02 p03 p10 p11 p12 p20 p21 p22
    obtain ⟨p00, p01, p02, p03, _⟩ := X1.cells
    obtain ⟨p10, p11, p12, _⟩ := B2.cells
    obtain ⟨p20, p21, p22, _⟩ := B3.cells
    clear hal
    go_wp2_with fail
    refine wp_region_held_drew (S := (fun u => u.cell? ⟨w.heap.size, 0, none⟩ = some (.string tx) ∧ u.cell? ⟨w.heap.size, 1, none⟩ = some (.int .i64 lo) ∧ u.cell? ⟨w.heap.size, 2, none⟩ = some (.int .i64 us) ∧ u.cell? ⟨w.heap.size, 3, none⟩ = some (.int .i64 hi) ∧ u.cell? ⟨(w.heap.size + 1), 0, none⟩ = some (.bool n) ∧ u.cell? ⟨(w.heap.size + 1), 1, none⟩ = some (.slice a xs.length c) ∧ u.cell? ⟨(w.heap.size + 1), 2, none⟩ = some (.slice a' ys.length c') ∧ u.cell? ⟨(w.heap.size + 1 + 1), 0, none⟩ = some (.bool false) ∧ u.cell? ⟨(w.heap.size + 1 + 1), 1, none⟩ = some (.slice none 0 0) ∧ u.cell? ⟨(w.heap.size + 1 + 1), 2, none⟩ = some (.slice none 0 0))) (by kernel_rfl) ?_ (fun hHeld => ?_)
    · (try dsimp only)
      go_keep
    have hdr : Below u1.heap.size u1 u1.drew := Below.drew1
    generalize u1.drew = ud116 at hdr hHeld ⊢
    replace hX := hX.below hdr
    replace X1 := X1.below hdr
    replace B2 := B2.below hdr
    replace B3 := B3.below hdr
    replace hbW : Below w.heap.size w ud116 := hbW.trans (hdr.mono hbW.size)
    clear hdr
    clear p00 p01 p02 p03 p10 p11 p12 p20 p21 p22
    obtain ⟨p00, p01, p02, p03, _⟩ := X1.cells
    obtain ⟨p10, p11, p12, _⟩ := B2.cells
    obtain ⟨p20, p21, p22, _⟩ := B3.cells
    refine hTake (i := 0) (v := ?v117) rfl (by kernel_rfl) (by kernel_rfl) (by kernel_rfl) (fun _ _ _ h => h) (Or.inl ⟨by rfl, ?y117⟩) hHeld ?r117
    case y117 =>
      intro w9 hSw
      (try dsimp only at hSw)
      go_simp
      try with_reducible rfl
    try simp only [Act.put, List.setIfInBounds_toArray, List.set_cons_zero, List.set_cons_succ]
    refine hCall (i := 1) rfl (by kernel_rfl) (by rfl) (fun K hK => ?_)
    go_simp
    refine (swhole_any (1) _ (by decide) (by decide)).mono ?_
    rintro e u2 ⟨vc, rfl, hFc, hb2⟩
    replace hX := hX.below hb2
    replace X1 := X1.below hb2
    replace B2 := B2.below hb2
    replace B3 := B3.below hb2
    replace hbW : Below w.heap.size w u2 := hbW.trans (hb2.mono hbW.size)
    clear hb2
    clear p00 p01 p02 p03 p10 p11 p12 p20 p21 p22
    obtain ⟨p00, p01, p02, p03, _⟩ := X1.cells
    obtain ⟨p10, p11, p12, _⟩ := B2.cells
    obtain ⟨p20, p21, p22, _⟩ := B3.cells
    go_wp2_with fail
    refine hK.out _ _ ?_ (fun hHeld => ?_)
    · (try dsimp only)
      exact ⟨p00, p01, p02, p03, p10, p11, p12, p20, p21, p22⟩
    clear hK K
    try simp only [Act.put, List.setIfInBounds_toArray, List.set_cons_zero, List.set_cons_succ]
    refine hCall (i := 2) rfl (by kernel_rfl) (by rfl) (fun K hK => ?_)
    go_simp
    refine (scmp_any k 2 q ((1 : Int) : Rat) _ _ _ hX hFc.ct hk3 (by decide) hk2 (by decide)).mono ?_
    rintro e u3 ⟨rfl, hb3⟩
    replace hX := hX.below hb3
    replace hFc := hFc.below hb3
    replace X1 := X1.below hb3
    replace B2 := B2.below hb3
    replace B3 := B3.below hb3
    replace hbW : Below w.heap.size w u3 := hbW.trans (hb3.mono hbW.size)
    clear hb3 hFc
    rw [HS.out.1]
    clear p00 p01 p02 p03 p10 p11 p12 p20 p21 p22
    obtain ⟨p00, p01, p02, p03, _⟩ := X1.cells
    obtain ⟨p10, p11, p12, _⟩ := B2.cells
    obtain ⟨p20, p21, p22, _⟩ := B3.cells
    go_wp2_with fail
    refine hK.out _ _ ?_ (fun hHeld => ?_)
    · (try dsimp only)
      exact ⟨p00, p01, p02, p03, p10, p11, p12, p20, p21, p22⟩
    clear hK K
    try simp only [Act.put, List.setIfInBounds_toArray, List.set_cons_zero, List.set_cons_succ]
    refine hTake (i := 3) (v := ?v118) rfl (by kernel_rfl) (by kernel_rfl) (by kernel_rfl) (fun _ _ _ h => h) (Or.inl ⟨by rfl, ?y118⟩) hHeld ?r118
    case y118 =>
      intro w9 hSw
      (try dsimp only at hSw)
      go_simp
      try with_reducible rfl
    try simp only [Act.put, List.setIfInBounds_toArray, List.set_cons_zero, List.set_cons_succ]
    refine wpAnyH_done (by kernel_rfl) ?_ _
    clear hHeld
    go_wp2_with fail
    refine wp_region_held_drew (S := (fun u => u.cell? ⟨w.heap.size, 0, none⟩ = some (.string tx) ∧ u.cell? ⟨w.heap.size, 1, none⟩ = some (.int .i64 lo) ∧ u.cell? ⟨w.heap.size, 2, none⟩ = some (.int .i64 us) ∧ u.cell? ⟨w.heap.size, 3, none⟩ = some (.int .i64 hi) ∧ u.cell? ⟨(w.heap.size + 1), 0, none⟩ = some (.bool n) ∧ u.cell? ⟨(w.heap.size + 1), 1, none⟩ = some (.slice a xs.length c) ∧ u.cell? ⟨(w.heap.size + 1), 2, none⟩ = some (.slice a' ys.length c') ∧ u.cell? ⟨(w.heap.size + 1 + 1), 0, none⟩ = some (.bool false) ∧ u.cell? ⟨(w.heap.size + 1 + 1), 1, none⟩ = some (.slice none 0 0) ∧ u.cell? ⟨(w.heap.size + 1 + 1), 2, none⟩ = some (.slice none 0 0))) (by kernel_rfl) ?_ (fun hHeld => ?_)
    · (try dsimp only)
      go_keep
    have hdr : Below u3.heap.size u3 u3.drew := Below.drew1
    generalize u3.drew = ud119 at hdr hHeld ⊢
    replace hX := hX.below hdr
    replace X1 := X1.below hdr
    replace B2 := B2.below hdr
    replace B3 := B3.below hdr
    replace hbW : Below w.heap.size w ud119 := hbW.trans (hdr.mono hbW.size)
    clear hdr
    clear p00 p01 p02 p03 p10 p11 p12 p20 p21 p22
    obtain ⟨p00, p01, p02, p03, _⟩ := X1.cells
    obtain ⟨p10, p11, p12, _⟩ := B2.cells
    obtain ⟨p20, p21, p22, _⟩ := B3.cells
    refine hTake (i := 0) (v := ?v120) rfl (by kernel_rfl) (by kernel_rfl) (by kernel_rfl) (fun _ _ _ h => h) (Or.inl ⟨by rfl, ?y120⟩) hHeld ?r120
    case y120 =>
      intro w9 hSw
      (try dsimp only at hSw)
      go_simp
      try with_reducible rfl
    try simp only [Act.put, List.setIfInBounds_toArray, List.set_cons_zero, List.set_cons_succ]
    refine hCall (i := 1) rfl (by kernel_rfl) (by rfl) (fun K hK => ?_)
    go_simp
    refine (swhole_any (-1) _ (by decide) (by decide)).mono ?_
    rintro e u4 ⟨vc, rfl, hFc, hb4⟩
    replace hX := hX.below hb4
    replace X1 := X1.below hb4
    replace B2 := B2.below hb4
    replace B3 := B3.below hb4
    replace hbW : Below w.heap.size w u4 := hbW.trans (hb4.mono hbW.size)
    clear hb4
    clear p00 p01 p02 p03 p10 p11 p12 p20 p21 p22
    obtain ⟨p00, p01, p02, p03, _⟩ := X1.cells
    obtain ⟨p10, p11, p12, _⟩ := B2.cells
    obtain ⟨p20, p21, p22, _⟩ := B3.cells
    go_wp2_with fail
    refine hK.out _ _ ?_ (fun hHeld => ?_)
    · (try dsimp only)
      exact ⟨p00, p01, p02, p03, p10, p11, p12, p20, p21, p22⟩
    clear hK K
    try simp only [Act.put, List.setIfInBounds_toArray, List.set_cons_zero, List.set_cons_succ]
    refine hCall (i := 2) rfl (by kernel_rfl) (by rfl) (fun K hK => ?_)
    go_simp
    refine (scmp_any k 2 q ((-1 : Int) : Rat) _ _ _ hX hFc.ct hk3 (by decide) hk2 (by decide)).mono ?_
    rintro e u5 ⟨rfl, hb5⟩
    replace hX := hX.below hb5
    replace hFc := hFc.below hb5
    replace X1 := X1.below hb5
    replace B2 := B2.below hb5
    replace B3 := B3.below hb5
    replace hbW : Below w.heap.size w u5 := hbW.trans (hb5.mono hbW.size)
    clear hb5 hFc
    rw [HS.out.2.1]
    clear p00 p01 p02 p03 p10 p11 p12 p20 p21 p22
    obtain ⟨p00, p01, p02, p03, _⟩ := X1.cells
    obtain ⟨p10, p11, p12, _⟩ := B2.cells
    obtain ⟨p20, p21, p22, _⟩ := B3.cells
    go_wp2_with fail
    refine hK.out _ _ ?_ (fun hHeld => ?_)
    · (try dsimp only)
      exact ⟨p00, p01, p02, p03, p10, p11, p12, p20, p21, p22⟩
    clear hK K
    try simp only [Act.put, List.setIfInBounds_toArray, List.set_cons_zero, List.set_cons_succ]
    refine hTake (i := 3) (v := ?v121) rfl (by kernel_rfl) (by kernel_rfl) (by kernel_rfl) (fun _ _ _ h => h) (Or.inl ⟨by rfl, ?y121⟩) hHeld ?r121
    case y121 =>
      intro w9 hSw
      (try dsimp only at hSw)
      go_simp
      try with_reducible rfl
    try simp only [Act.put, List.setIfInBounds_toArray, List.set_cons_zero, List.set_cons_succ]
    refine wpAnyH_done (by kernel_rfl) ?_ _
    clear hHeld
    go_wp2_with fail
    refine (ssign_any k q _ _ hX hk4 hk2).mono ?_
    rintro e u6 ⟨rfl, hb6⟩
    replace hX := hX.below hb6
    replace X1 := X1.below hb6
    replace B2 := B2.below hb6
    replace B3 := B3.below hb6
    replace hbW : Below w.heap.size w u6 := hbW.trans (hb6.mono hbW.size)
    clear hb6
    clear p00 p01 p02 p03 p10 p11 p12 p20 p21 p22
    obtain ⟨p00, p01, p02, p03, _⟩ := X1.cells
    obtain ⟨p10, p11, p12, _⟩ := B2.cells
    obtain ⟨p20, p21, p22, _⟩ := B3.cells
    rw [HS.out.2.2]
    go_wp2_with fail
    clear p00 p01 p02 p03 p10 p11 p12 p20 p21 p22
    obtain ⟨p00, p01, p02, p03, _⟩ := X1.cells
    obtain ⟨p10, p11, p12, _⟩ := B2.cells
    refine wp_region_held_drew (S := (fun u => u.cell? ⟨w.heap.size, 0, none⟩ = some (.string tx) ∧ u.cell? ⟨w.heap.size, 1, none⟩ = some (.int .i64 lo) ∧ u.cell? ⟨w.heap.size, 2, none⟩ = some (.int .i64 us) ∧ u.cell? ⟨w.heap.size, 3, none⟩ = some (.int .i64 hi) ∧ u.cell? ⟨(w.heap.size + 1), 0, none⟩ = some (.bool n) ∧ u.cell? ⟨(w.heap.size + 1), 1, none⟩ = some (.slice a xs.length c) ∧ u.cell? ⟨(w.heap.size + 1), 2, none⟩ = some (.slice a' ys.length c'))) (by kernel_rfl) ?_ (fun hHeld => ?_)
    · (try dsimp only)
      go_keep
    have hdr : Below u6.heap.size u6 u6.drew := Below.drew1
    generalize u6.drew = ud122 at hdr hHeld ⊢
    replace hX := hX.below hdr
    replace B3 := B3.below hdr
    replace X1 := X1.below hdr
    replace B2 := B2.below hdr
    replace hbW : Below w.heap.size w ud122 := hbW.trans (hdr.mono hbW.size)
    clear hdr
    clear p00 p01 p02 p03 p10 p11 p12
    obtain ⟨p00, p01, p02, p03, _⟩ := X1.cells
    obtain ⟨p10, p11, p12, _⟩ := B2.cells
    refine hTake (i := 0) (v := ?v123) rfl (by kernel_rfl) (by kernel_rfl) (by kernel_rfl) (fun _ _ _ h => h) (Or.inl ⟨by rfl, ?y123⟩) hHeld ?r123
    case y123 =>
      intro w9 hSw
      (try dsimp only at hSw)
      go_simp
      try with_reducible rfl
    try simp only [Act.put, List.setIfInBounds_toArray, List.set_cons_zero, List.set_cons_succ]
    refine hTake (i := 1) (v := ?v124) rfl (by kernel_rfl) (by kernel_rfl) (by kernel_rfl) (fun _ _ _ h => h) (Or.inl ⟨by rfl, ?y124⟩) hHeld ?r124
    case y124 =>
      intro w9 hSw
      (try dsimp only at hSw)
      go_simp
      try with_reducible rfl
    try simp only [Act.put, List.setIfInBounds_toArray, List.set_cons_zero, List.set_cons_succ]
    refine hTake (i := 3) (v := ?v125) rfl (by kernel_rfl) (by kernel_rfl) (by kernel_rfl) (fun _ _ _ h => h) (Or.inl ⟨by rfl, ?y125⟩) hHeld ?r125
    case y125 =>
      intro w9 hSw
      (try dsimp only at hSw)
      go_simp
      try with_reducible rfl
    try simp only [Act.put, List.setIfInBounds_toArray, List.set_cons_zero, List.set_cons_succ]
    refine hTake (i := 4) (v := ?v126) rfl (by kernel_rfl) (by kernel_rfl) (by kernel_rfl) (fun _ _ _ h => h) (Or.inl ⟨by rfl, ?y126⟩) hHeld ?r126
    case y126 =>
      intro w9 hSw
      (try dsimp only at hSw)
      go_simp
      try with_reducible rfl
    try simp only [Act.put, List.setIfInBounds_toArray, List.set_cons_zero, List.set_cons_succ]
    refine hCall (i := 2) rfl (by kernel_rfl) (by rfl) (fun K hK => ?_)
    go_simp
    refine (swhole_any us _ (by omega) (by omega)).mono ?_
    rintro e u7 ⟨vu, rfl, hU1, hb7⟩
    replace hX := hX.below hb7
    replace B3 := B3.below hb7
    replace X1 := X1.below hb7
    replace B2 := B2.below hb7
    replace hbW : Below w.heap.size w u7 := hbW.trans (hb7.mono hbW.size)
    clear hb7
    clear p00 p01 p02 p03 p10 p11 p12
    obtain ⟨p00, p01, p02, p03, _⟩ := X1.cells
    obtain ⟨p10, p11, p12, _⟩ := B2.cells
    go_wp2_with fail
    refine hK.out _ _ ?_ (fun hHeld => ?_)
    · (try dsimp only)
      exact ⟨p00, p01, p02, p03, p10, p11, p12⟩
    clear hK K
    try simp only [Act.put, List.setIfInBounds_toArray, List.set_cons_zero, List.set_cons_succ]
    refine hCall (i := 5) rfl (by kernel_rfl) (by rfl) (fun K hK => ?_)
    go_simp
    refine (swhole_any (hi - us) _ (by omega) (by omega)).mono ?_
    rintro e u8 ⟨vw, rfl, hWd, hb8⟩
    replace hX := hX.below hb8
    replace B3 := B3.below hb8
    replace hU1 := hU1.below hb8
    replace X1 := X1.below hb8
    replace B2 := B2.below hb8
    replace hbW : Below w.heap.size w u8 := hbW.trans (hb8.mono hbW.size)
    clear hb8
    clear p00 p01 p02 p03 p10 p11 p12
    obtain ⟨p00, p01, p02, p03, _⟩ := X1.cells
    obtain ⟨p10, p11, p12, _⟩ := B2.cells
    go_wp2_with fail
    refine hK.out _ _ ?_ (fun hHeld => ?_)
    · (try dsimp only)
      exact ⟨p00, p01, p02, p03, p10, p11, p12⟩
    clear hK K
    try simp only [Act.put, List.setIfInBounds_toArray, List.set_cons_zero, List.set_cons_succ]
    refine hCall (i := 6) rfl (by kernel_rfl) (by rfl) (fun K hK => ?_)
    go_simp
    refine (smul_any k 2 q ((hi - us : Int) : Rat) _ _ _ hX hWd.ct hk4 (by decide) hk2 (by decide)).mono ?_
    rintro e u9 ⟨vm, rfl, hM1, hb9⟩
    replace hX := hX.below hb9
    replace B3 := B3.below hb9
    replace hU1 := hU1.below hb9
    replace hWd := hWd.below hb9
    replace X1 := X1.below hb9
    replace B2 := B2.below hb9
    replace hbW : Below w.heap.size w u9 := hbW.trans (hb9.mono hbW.size)
    clear hb9
    clear p00 p01 p02 p03 p10 p11 p12
    obtain ⟨p00, p01, p02, p03, _⟩ := X1.cells
    obtain ⟨p10, p11, p12, _⟩ := B2.cells
    go_wp2_with fail
    refine hK.out _ _ ?_ (fun hHeld => ?_)
    · (try dsimp only)
      exact ⟨p00, p01, p02, p03, p10, p11, p12⟩
    clear hK K
    try simp only [Act.put, List.setIfInBounds_toArray, List.set_cons_zero, List.set_cons_succ]
    refine hCall (i := 7) rfl (by kernel_rfl) (by rfl) (fun K hK => ?_)
    go_simp
    refine (sadd_any 2 (k + 2) ((us : Int) : Rat) (q * ((hi - us : Int) : Rat)) _ _ _ hU1.ct hM1.ct (by decide) (by omega) (by decide) (by omega)).mono ?_
    rintro e u10 ⟨vr, rfl, hR, hb10⟩
    replace hX := hX.below hb10
    replace B3 := B3.below hb10
    replace hU1 := hU1.below hb10
    replace hWd := hWd.below hb10
    replace hM1 := hM1.below hb10
    replace X1 := X1.below hb10
    replace B2 := B2.below hb10
    replace hbW : Below w.heap.size w u10 := hbW.trans (hb10.mono hbW.size)
    clear hb10
    replace hR := (hR.eq HQ2.out.symm).le (show 2 + (k + 2) + 1 ≤ k + 5 by omega)
    clear p00 p01 p02 p03 p10 p11 p12
    obtain ⟨p00, p01, p02, p03, _⟩ := X1.cells
    obtain ⟨p10, p11, p12, _⟩ := B2.cells
    go_wp2_with fail
    refine hK.out _ _ ?_ (fun hHeld => ?_)
    · (try dsimp only)
      exact ⟨p00, p01, p02, p03, p10, p11, p12⟩
    clear hK K
    try simp only [Act.put, List.setIfInBounds_toArray, List.set_cons_zero, List.set_cons_succ]
    refine hCall (i := 8) rfl (by kernel_rfl) (by rfl) (fun K hK => ?_)
    go_simp
    obtain ⟨q1, q2, q3, q4, q5, q6⟩ := B3.cells
    obtain ⟨nr, xr, yr, ⟨ar, cr, br, dr, rfl, hxr, hyr⟩, hFr⟩ := hR
    go_simp
    obtain ⟨u11, hU, A3, hbU, hK9, ho⟩ := set3_world B3 (.bool nr) (.slice ar xr.length cr) (.slice br yr.length dr)
    rw [← hU]
    clear hU q1 q2 q3 q4 q5 q6
    replace hbW := hbU _ _ hbW (by omega)
    replace hxr := hK9 _ _ _ hxr
    replace hyr := hK9 _ _ _ hyr
    replace X1 := X1.other ho n11
    replace B2 := B2.other ho n12
    clear hbU hK9 ho
    clear p00 p01 p02 p03 p10 p11 p12
    obtain ⟨p00, p01, p02, p03, _⟩ := X1.cells
    obtain ⟨p10, p11, p12, _⟩ := B2.cells
    refine hK.out _ _ ?_ (fun hHeld => ?_)
    · (try dsimp only)
      exact ⟨p00, p01, p02, p03, p10, p11, p12⟩
    clear hK K
    try simp only [Act.put, List.setIfInBounds_toArray, List.set_cons_zero, List.set_cons_succ]
    refine wpAnyH_done (by kernel_rfl) ?_ _
    go_wp2
    refine bodyPost_ret (by obtain ⟨r1, r2, r3, _⟩ := A3.cells; simp [results, Tryz.results11, go_sem, r1, r2, r3]) rfl ⟨_, rfl, ⟨_, _, _, ⟨_, _, _, _, rfl, hxr, hyr⟩, hFr⟩, hbW⟩

end Go.Proofs.YtanppgmhlcifiaaGreatDoor
