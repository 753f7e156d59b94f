/-
  foundryref07.Held: the walk.
-/
import Derived.Test.YtdpafdeoepbhaaaGreatZ26
import Derived.Test.YtdpafdeoepbhaaaGreatZ17
import Derived.Test.YtdpafdeoepbhaaaGreatZ19
import Derived.Test.YtdpafdeoepbhaaaGreatZ22
namespace Go.Proofs.YtdpafdeoepbhaaaGreat
open Go.RowKit Go.Maps
set_option linter.unusedSimpArgs false
set_option linter.unusedVariables false

set_option maxHeartbeats 4000000 in
set_option maxRecDepth 100000 in
theorem sheld_any (k : Nat) (q : Rat) (v : Value) (w : World) (h : Ct w v k q) (hk : k ≤ 100000) (hk2 : 2 ≤ k) :
    Calls Tryz.prog 49 #[v] w fun e w' => ∃ v', e = .returned v' ∧ Fr w' v' (k + 3) (clQ q) ∧ Below w.heap.size w w' := by
  have hk3 : k ≤ 1000000 := by omega
  have hX := h
  obtain ⟨n, xs, ys, ⟨a1, c, a', c', rfl, _, _⟩, hz1⟩ := h
  clear hz1
  obtain ⟨s1, h1⟩ : ∃ s, sgnQ (q - ((1 : Int) : Rat)) = s := ⟨_, rfl⟩
  obtain ⟨s2, h2⟩ : ∃ s, sgnQ (q - ((-1 : Int) : Rat)) = s := ⟨_, rfl⟩
  have HS : Hid (sgnQ (q - ((1 : Int) : Rat)) = s1 ∧ sgnQ (q - ((-1 : Int) : Rat)) = s2) := ⟨h1, h2⟩
  clear h1 h2
  have H11 : Hid (((-1 : Int) : Rat) < ((1 : Int) : Rat)) := by show ((-1 : Int) : Rat) < ((1 : Int) : Rat); decide +kernel
  obtain ⟨W, hW, B1, B2, hbW⟩ := boxes2 45 45 w (.bool n) (.slice a1 xs.length c) (.slice a' ys.length c') (.bool false) (.slice none 0 0) (.slice none 0 0)
  replace hX := hX.below hbW
  go_enter Tryz.func49, Tryz.ntmps49
  go_wp2_with fail
  rw [← hW]
  clear hW
  obtain ⟨p00, p01, p02, _⟩ := B1.cells
  obtain ⟨p10, p11, p12, _⟩ := B2.cells
  by_cases hgt : 0 < s1
  · have gd : decide (0 < s1) = true := decide_eq_true hgt
    have HQ : Hid (clQ q = ((1 : Int) : Rat)) := by
      show _ = _
      have h1 : ((1 : Int) : Rat) < q := sgn_pos.1 (by rw [HS.out.1]; exact hgt)
      have := H11.out
      rw [clQ, if_neg (by grind), if_pos h1]
    refine wp_region_held_drew (S := (fun u => u.cell? ⟨w.heap.size, 0, none⟩ = some (.bool n) ∧ u.cell? ⟨w.heap.size, 1, none⟩ = some (.slice a1 xs.length c) ∧ u.cell? ⟨w.heap.size, 2, none⟩ = some (.slice a' ys.length c') ∧ u.cell? ⟨(w.heap.size + 1), 0, none⟩ = some (.bool false) ∧ u.cell? ⟨(w.heap.size + 1), 1, none⟩ = some (.slice none 0 0) ∧ u.cell? ⟨(w.heap.size + 1), 2, none⟩ = some (.slice none 0 0))) (by kernel_rfl) ?_ (fun hHeld => ?_)
    · (try dsimp only)
      go_keep
    have hdr : Below W.heap.size W W.drew := Below.drew1
    generalize W.drew = ud9 at hdr hHeld ⊢
    replace hX := hX.below hdr
    replace B1 := B1.below hdr
    replace B2 := B2.below hdr
    replace hbW : Below w.heap.size w ud9 := hbW.trans (hdr.mono hbW.size)
    clear hdr
    clear p00 p01 p02 p10 p11 p12
    obtain ⟨p00, p01, p02, _⟩ := B1.cells
    obtain ⟨p10, p11, p12, _⟩ := B2.cells
    refine hT 0 hHeld ?_
    refine hCall (i := 1) rfl (by kernel_rfl) (by rfl) (fun K hK => ?_)
    go_simp
    refine (swhole_any (1) _ (by decide) (by decide)).mono ?_
    rintro e u1 ⟨vo, rfl, hFo, hb1⟩
    replace hX := hX.below hb1
    replace B1 := B1.below hb1
    replace B2 := B2.below hb1
    replace hbW : Below w.heap.size w u1 := hbW.trans (hb1.mono hbW.size)
    clear hb1
    clear p00 p01 p02 p10 p11 p12
    obtain ⟨p00, p01, p02, _⟩ := B1.cells
    obtain ⟨p10, p11, p12, _⟩ := B2.cells
    go_wp2_with fail
    refine hK.out _ _ ?_ (fun hHeld => ?_)
    · (try dsimp only)
      exact ⟨p00, p01, p02, p10, p11, p12⟩
    clear hK K
    try simp only [Act.put, List.setIfInBounds_toArray, List.set_cons_zero, List.set_cons_succ]
    refine hCall (i := 2) rfl (by kernel_rfl) (by rfl) (fun K hK => ?_)
    go_simp
    refine (scmp_any k 2 _ _ _ _ _ hX hFo.ct hk (by decide) hk2 (by decide)).mono ?_
    rintro e u2 ⟨rfl, hb2⟩
    replace hX := hX.below hb2
    replace hFo := hFo.below hb2
    replace B1 := B1.below hb2
    replace B2 := B2.below hb2
    replace hbW : Below w.heap.size w u2 := hbW.trans (hb2.mono hbW.size)
    clear hb2 hFo
    rw [HS.out.1]
    clear p00 p01 p02 p10 p11 p12
    obtain ⟨p00, p01, p02, _⟩ := B1.cells
    obtain ⟨p10, p11, p12, _⟩ := B2.cells
    go_wp2_with fail
    refine hK.out _ _ ?_ (fun hHeld => ?_)
    · (try dsimp only)
      exact ⟨p00, p01, p02, p10, p11, p12⟩
    clear hK K
    try simp only [Act.put, List.setIfInBounds_toArray, List.set_cons_zero, List.set_cons_succ]
    refine hT 3 hHeld ?_
    refine wpAnyH_done (by kernel_rfl) ?_ _
    clear hHeld
    go_wp2_with fail
    refine (swhole_any 1 _ (by decide) (by decide)).mono ?_
    rintro e u3 ⟨v2, rfl, hF2, hb3⟩
    replace hX := hX.below hb3
    replace B1 := B1.below hb3
    replace B2 := B2.below hb3
    replace hbW : Below w.heap.size w u3 := hbW.trans (hb3.mono hbW.size)
    clear hb3
    clear p00 p01 p02 p10 p11 p12
    obtain ⟨p00, p01, p02, _⟩ := B1.cells
    obtain ⟨p10, p11, p12, _⟩ := B2.cells
    replace hF2 := (hF2.eq (r := clQ q) HQ.out.symm).le (show 2 ≤ k + 3 by omega)
    clear p00 p01 p02 p10 p11 p12
    obtain ⟨n', xs', ys', ⟨e1, f1, e2, f2, rfl, hx', hy'⟩, hF⟩ := hF2
    have hs := B2.lt
    obtain ⟨q1, q2, q3, q4, q5, q6⟩ := B2.cells
    go_wp2
    refine ret3 (v := .agg #[.bool n', .slice e1 xs'.length f1, .slice e2 ys'.length f2]) B2 rfl (fun U hU => by obtain ⟨r1, r2, r3, _⟩ := hU.cells; simp [results, Tryz.results49, go_sem, r1, r2, r3]) (fun U hU hK => ⟨_, rfl, ⟨_, _, _, ⟨_, _, _, _, rfl, hK _ _ _ hx', hK _ _ _ hy'⟩, hF⟩, hU _ _ hbW (by omega)⟩)
  have gd : decide (0 < s1) = false := decide_eq_false hgt
  refine wp_region_held_drew (S := (fun u => u.cell? ⟨w.heap.size, 0, none⟩ = some (.bool n) ∧ u.cell? ⟨w.heap.size, 1, none⟩ = some (.slice a1 xs.length c) ∧ u.cell? ⟨w.heap.size, 2, none⟩ = some (.slice a' ys.length c') ∧ u.cell? ⟨(w.heap.size + 1), 0, none⟩ = some (.bool false) ∧ u.cell? ⟨(w.heap.size + 1), 1, none⟩ = some (.slice none 0 0) ∧ u.cell? ⟨(w.heap.size + 1), 2, none⟩ = some (.slice none 0 0))) (by kernel_rfl) ?_ (fun hHeld => ?_)
  · (try dsimp only)
    go_keep
  have hdr : Below W.heap.size W W.drew := Below.drew1
  generalize W.drew = ud10 at hdr hHeld ⊢
  replace hX := hX.below hdr
  replace B1 := B1.below hdr
  replace B2 := B2.below hdr
  replace hbW : Below w.heap.size w ud10 := hbW.trans (hdr.mono hbW.size)
  clear hdr
  clear p00 p01 p02 p10 p11 p12
  obtain ⟨p00, p01, p02, _⟩ := B1.cells
  obtain ⟨p10, p11, p12, _⟩ := B2.cells
  refine hT 0 hHeld ?_
  refine hCall (i := 1) rfl (by kernel_rfl) (by rfl) (fun K hK => ?_)
  go_simp
  refine (swhole_any (1) _ (by decide) (by decide)).mono ?_
  rintro e u1 ⟨vo, rfl, hFo, hb1⟩
  replace hX := hX.below hb1
  replace B1 := B1.below hb1
  replace B2 := B2.below hb1
  replace hbW : Below w.heap.size w u1 := hbW.trans (hb1.mono hbW.size)
  clear hb1
  clear p00 p01 p02 p10 p11 p12
  obtain ⟨p00, p01, p02, _⟩ := B1.cells
  obtain ⟨p10, p11, p12, _⟩ := B2.cells
  go_wp2_with fail
  refine hK.out _ _ ?_ (fun hHeld => ?_)
  · (try dsimp only)
    exact ⟨p00, p01, p02, p10, p11, p12⟩
  clear hK K
  try simp only [Act.put, List.setIfInBounds_toArray, List.set_cons_zero, List.set_cons_succ]
  refine hCall (i := 2) rfl (by kernel_rfl) (by rfl) (fun K hK => ?_)
  go_simp
  refine (scmp_any k 2 _ _ _ _ _ hX hFo.ct hk (by decide) hk2 (by decide)).mono ?_
  rintro e u2 ⟨rfl, hb2⟩
  replace hX := hX.below hb2
  replace hFo := hFo.below hb2
  replace B1 := B1.below hb2
  replace B2 := B2.below hb2
  replace hbW : Below w.heap.size w u2 := hbW.trans (hb2.mono hbW.size)
  clear hb2 hFo
  rw [HS.out.1]
  clear p00 p01 p02 p10 p11 p12
  obtain ⟨p00, p01, p02, _⟩ := B1.cells
  obtain ⟨p10, p11, p12, _⟩ := B2.cells
  go_wp2_with fail
  refine hK.out _ _ ?_ (fun hHeld => ?_)
  · (try dsimp only)
    exact ⟨p00, p01, p02, p10, p11, p12⟩
  clear hK K
  try simp only [Act.put, List.setIfInBounds_toArray, List.set_cons_zero, List.set_cons_succ]
  refine hT 3 hHeld ?_
  refine wpAnyH_done (by kernel_rfl) ?_ _
  clear hHeld
  by_cases hlt : s2 < 0
  · have gd2 : decide (s2 < 0) = true := decide_eq_true hlt
    have HQ : Hid (clQ q = ((-1 : Int) : Rat)) := by
      show _ = _
      rw [clQ, if_pos (sgn_neg.1 (by rw [HS.out.2]; exact hlt))]
    go_wp2_with fail
    refine wp_region_held_drew (S := (fun u => u.cell? ⟨w.heap.size, 0, none⟩ = some (.bool n) ∧ u.cell? ⟨w.heap.size, 1, none⟩ = some (.slice a1 xs.length c) ∧ u.cell? ⟨w.heap.size, 2, none⟩ = some (.slice a' ys.length c') ∧ u.cell? ⟨(w.heap.size + 1), 0, none⟩ = some (.bool false) ∧ u.cell? ⟨(w.heap.size + 1), 1, none⟩ = some (.slice none 0 0) ∧ u.cell? ⟨(w.heap.size + 1), 2, none⟩ = some (.slice none 0 0))) (by kernel_rfl) ?_ (fun hHeld => ?_)
    · (try dsimp only)
      go_keep
    have hdr : Below u2.heap.size u2 u2.drew := Below.drew1
    generalize u2.drew = ud11 at hdr hHeld ⊢
    replace hX := hX.below hdr
    replace B1 := B1.below hdr
    replace B2 := B2.below hdr
    replace hbW : Below w.heap.size w ud11 := hbW.trans (hdr.mono hbW.size)
    clear hdr
    clear p00 p01 p02 p10 p11 p12
    obtain ⟨p00, p01, p02, _⟩ := B1.cells
    obtain ⟨p10, p11, p12, _⟩ := B2.cells
    refine hT 0 hHeld ?_
    refine hCall (i := 1) rfl (by kernel_rfl) (by rfl) (fun K hK => ?_)
    go_simp
    refine (swhole_any (-1) _ (by decide) (by decide)).mono ?_
    rintro e u3 ⟨vo, rfl, hFo, hb3⟩
    replace hX := hX.below hb3
    replace B1 := B1.below hb3
    replace B2 := B2.below hb3
    replace hbW : Below w.heap.size w u3 := hbW.trans (hb3.mono hbW.size)
    clear hb3
    clear p00 p01 p02 p10 p11 p12
    obtain ⟨p00, p01, p02, _⟩ := B1.cells
    obtain ⟨p10, p11, p12, _⟩ := B2.cells
    go_wp2_with fail
    refine hK.out _ _ ?_ (fun hHeld => ?_)
    · (try dsimp only)
      exact ⟨p00, p01, p02, p10, p11, p12⟩
    clear hK K
    try simp only [Act.put, List.setIfInBounds_toArray, List.set_cons_zero, List.set_cons_succ]
    refine hCall (i := 2) rfl (by kernel_rfl) (by rfl) (fun K hK => ?_)
    go_simp
    refine (scmp_any k 2 _ _ _ _ _ hX hFo.ct hk (by decide) hk2 (by decide)).mono ?_
    rintro e u4 ⟨rfl, hb4⟩
    replace hX := hX.below hb4
    replace hFo := hFo.below hb4
    replace B1 := B1.below hb4
    replace B2 := B2.below hb4
    replace hbW : Below w.heap.size w u4 := hbW.trans (hb4.mono hbW.size)
    clear hb4 hFo
    rw [HS.out.2]
    clear p00 p01 p02 p10 p11 p12
    obtain ⟨p00, p01, p02, _⟩ := B1.cells
    obtain ⟨p10, p11, p12, _⟩ := B2.cells
    go_wp2_with fail
    refine hK.out _ _ ?_ (fun hHeld => ?_)
    · (try dsimp only)
      exact ⟨p00, p01, p02, p10, p11, p12⟩
    clear hK K
    try simp only [Act.put, List.setIfInBounds_toArray, List.set_cons_zero, List.set_cons_succ]
    refine hT 3 hHeld ?_
    refine wpAnyH_done (by kernel_rfl) ?_ _
    clear hHeld
    go_wp2_with fail
    refine (swhole_any (-1) _ (by decide) (by decide)).mono ?_
    rintro e u5 ⟨v2, rfl, hF2, hb5⟩
    replace hX := hX.below hb5
    replace B1 := B1.below hb5
    replace B2 := B2.below hb5
    replace hbW : Below w.heap.size w u5 := hbW.trans (hb5.mono hbW.size)
    clear hb5
    clear p00 p01 p02 p10 p11 p12
    obtain ⟨p00, p01, p02, _⟩ := B1.cells
    obtain ⟨p10, p11, p12, _⟩ := B2.cells
    replace hF2 := (hF2.eq (r := clQ q) HQ.out.symm).le (show 2 ≤ k + 3 by omega)
    clear p00 p01 p02 p10 p11 p12
    obtain ⟨n', xs', ys', ⟨e1, f1, e2, f2, rfl, hx', hy'⟩, hF⟩ := hF2
    have hs := B2.lt
    obtain ⟨q1, q2, q3, q4, q5, q6⟩ := B2.cells
    go_wp2
    refine ret3 (v := .agg #[.bool n', .slice e1 xs'.length f1, .slice e2 ys'.length f2]) B2 rfl (fun U hU => by obtain ⟨r1, r2, r3, _⟩ := hU.cells; simp [results, Tryz.results49, go_sem, r1, r2, r3]) (fun U hU hK => ⟨_, rfl, ⟨_, _, _, ⟨_, _, _, _, rfl, hK _ _ _ hx', hK _ _ _ hy'⟩, hF⟩, hU _ _ hbW (by omega)⟩)
  have gd2 : decide (s2 < 0) = false := decide_eq_false hlt
  have HQ : Hid (q + 0 = clQ q) := by
    show _ = _
    rw [clQ, if_neg (fun hh => by have h3 := sgn_neg.2 hh; rw [HS.out.2] at h3; omega), if_neg (fun hh => by have h3 := sgn_pos.2 hh; rw [HS.out.1] at h3; omega), Rat.add_zero]
  go_wp2_with fail
  refine wp_region_held_drew (S := (fun u => u.cell? ⟨w.heap.size, 0, none⟩ = some (.bool n) ∧ u.cell? ⟨w.heap.size, 1, none⟩ = some (.slice a1 xs.length c) ∧ u.cell? ⟨w.heap.size, 2, none⟩ = some (.slice a' ys.length c') ∧ u.cell? ⟨(w.heap.size + 1), 0, none⟩ = some (.bool false) ∧ u.cell? ⟨(w.heap.size + 1), 1, none⟩ = some (.slice none 0 0) ∧ u.cell? ⟨(w.heap.size + 1), 2, none⟩ = some (.slice none 0 0))) (by kernel_rfl) ?_ (fun hHeld => ?_)
  · (try dsimp only)
    go_keep
  have hdr : Below u2.heap.size u2 u2.drew := Below.drew1
  generalize u2.drew = ud12 at hdr hHeld ⊢
  replace hX := hX.below hdr
  replace B1 := B1.below hdr
  replace B2 := B2.below hdr
  replace hbW : Below w.heap.size w ud12 := hbW.trans (hdr.mono hbW.size)
  clear hdr
  clear p00 p01 p02 p10 p11 p12
  obtain ⟨p00, p01, p02, _⟩ := B1.cells
  obtain ⟨p10, p11, p12, _⟩ := B2.cells
  refine hT 0 hHeld ?_
  refine hCall (i := 1) rfl (by kernel_rfl) (by rfl) (fun K hK => ?_)
  go_simp
  refine (swhole_any (-1) _ (by decide) (by decide)).mono ?_
  rintro e u3 ⟨vo, rfl, hFo, hb3⟩
  replace hX := hX.below hb3
  replace B1 := B1.below hb3
  replace B2 := B2.below hb3
  replace hbW : Below w.heap.size w u3 := hbW.trans (hb3.mono hbW.size)
  clear hb3
  clear p00 p01 p02 p10 p11 p12
  obtain ⟨p00, p01, p02, _⟩ := B1.cells
  obtain ⟨p10, p11, p12, _⟩ := B2.cells
  go_wp2_with fail
  refine hK.out _ _ ?_ (fun hHeld => ?_)
  · (try dsimp only)
    exact ⟨p00, p01, p02, p10, p11, p12⟩
  clear hK K
  try simp only [Act.put, List.setIfInBounds_toArray, List.set_cons_zero, List.set_cons_succ]
  refine hCall (i := 2) rfl (by kernel_rfl) (by rfl) (fun K hK => ?_)
  go_simp
  refine (scmp_any k 2 _ _ _ _ _ hX hFo.ct hk (by decide) hk2 (by decide)).mono ?_
  rintro e u4 ⟨rfl, hb4⟩
  replace hX := hX.below hb4
  replace hFo := hFo.below hb4
  replace B1 := B1.below hb4
  replace B2 := B2.below hb4
  replace hbW : Below w.heap.size w u4 := hbW.trans (hb4.mono hbW.size)
  clear hb4 hFo
  rw [HS.out.2]
  clear p00 p01 p02 p10 p11 p12
  obtain ⟨p00, p01, p02, _⟩ := B1.cells
  obtain ⟨p10, p11, p12, _⟩ := B2.cells
  go_wp2_with fail
  refine hK.out _ _ ?_ (fun hHeld => ?_)
  · (try dsimp only)
    exact ⟨p00, p01, p02, p10, p11, p12⟩
  clear hK K
  try simp only [Act.put, List.setIfInBounds_toArray, List.set_cons_zero, List.set_cons_succ]
  refine hT 3 hHeld ?_
  refine wpAnyH_done (by kernel_rfl) ?_ _
  clear hHeld
  go_wp2_with fail
  clear p00 p01 p02 p10 p11 p12
  obtain ⟨p00, p01, p02, _⟩ := B1.cells
  refine wp_region_held_drew (S := (fun u => u.cell? ⟨w.heap.size, 0, none⟩ = some (.bool n) ∧ u.cell? ⟨w.heap.size, 1, none⟩ = some (.slice a1 xs.length c) ∧ u.cell? ⟨w.heap.size, 2, none⟩ = some (.slice a' ys.length c'))) (by kernel_rfl) ?_ (fun hHeld => ?_)
  · (try dsimp only)
    go_keep
  have hdr : Below u4.heap.size u4 u4.drew := Below.drew1
  generalize u4.drew = ud13 at hdr hHeld ⊢
  replace hX := hX.below hdr
  replace B2 := B2.below hdr
  replace B1 := B1.below hdr
  replace hbW : Below w.heap.size w ud13 := hbW.trans (hdr.mono hbW.size)
  clear hdr
  clear p00 p01 p02
  obtain ⟨p00, p01, p02, _⟩ := B1.cells
  refine hT 0 hHeld ?_
  refine hCall (i := 1) rfl (by kernel_rfl) (by rfl) (fun K hK => ?_)
  go_simp
  refine (szero_any _).mono ?_
  rintro e u5 ⟨vo, rfl, hFo, hb5⟩
  replace hX := hX.below hb5
  replace B2 := B2.below hb5
  replace B1 := B1.below hb5
  replace hbW : Below w.heap.size w u5 := hbW.trans (hb5.mono hbW.size)
  clear hb5
  clear p00 p01 p02
  obtain ⟨p00, p01, p02, _⟩ := B1.cells
  go_wp2_with fail
  refine hK.out _ _ ?_ (fun hHeld => ?_)
  · (try dsimp only)
    exact ⟨p00, p01, p02⟩
  clear hK K
  try simp only [Act.put, List.setIfInBounds_toArray, List.set_cons_zero, List.set_cons_succ]
  refine hCall (i := 2) rfl (by kernel_rfl) (by rfl) (fun K hK => ?_)
  go_simp
  refine (sadd_any k 2 q 0 _ _ _ hX hFo.ct hk3 (by decide) hk2 (by decide)).mono ?_
  rintro e u6 ⟨vr, rfl, hR, hb6⟩
  replace hX := hX.below hb6
  replace B2 := B2.below hb6
  replace hFo := hFo.below hb6
  replace B1 := B1.below hb6
  replace hbW : Below w.heap.size w u6 := hbW.trans (hb6.mono hbW.size)
  clear hb6
  replace hR := (hR.eq HQ.out).le (show k + 2 + 1 ≤ k + 3 by omega)
  clear p00 p01 p02
  obtain ⟨p00, p01, p02, _⟩ := B1.cells
  go_wp2_with fail
  refine hK.out _ _ ?_ (fun hHeld => ?_)
  · (try dsimp only)
    exact ⟨p00, p01, p02⟩
  clear hK K
  try simp only [Act.put, List.setIfInBounds_toArray, List.set_cons_zero, List.set_cons_succ]
  refine hCall (i := 3) rfl (by kernel_rfl) (by rfl) (fun K hK => ?_)
  go_simp
  obtain ⟨q1, q2, q3, q4, q5, q6⟩ := B2.cells
  obtain ⟨nr, xr, yr, ⟨ar, cr, br, dr, rfl, hxr, hyr⟩, hFr⟩ := hR
  go_simp
  obtain ⟨u7, hU, A2, hbU, hK9, ho⟩ := set3_world B2 (.bool nr) (.slice ar xr.length cr) (.slice br yr.length dr)
  rw [← hU]
  clear hU q1 q2 q3 q4 q5 q6
  replace hbW := hbU _ _ hbW (by omega)
  replace hxr := hK9 _ _ _ hxr
  replace hyr := hK9 _ _ _ hyr
  replace B1 := B1.other ho (by omega)
  clear hbU hK9 ho
  clear p00 p01 p02
  obtain ⟨p00, p01, p02, _⟩ := B1.cells
  refine hK.out _ _ ?_ (fun hHeld => ?_)
  · (try dsimp only)
    exact ⟨p00, p01, p02⟩
  clear hK K
  try simp only [Act.put, List.setIfInBounds_toArray, List.set_cons_zero, List.set_cons_succ]
  refine wpAnyH_done (by kernel_rfl) ?_ _
  go_wp2
  refine bodyPost_ret (by obtain ⟨r1, r2, r3, _⟩ := A2.cells; simp [results, Tryz.results49, go_sem, r1, r2, r3]) rfl ⟨_, rfl, ⟨_, _, _, ⟨_, _, _, _, rfl, hxr, hyr⟩, hFr⟩, hbW⟩

end Go.Proofs.YtdpafdeoepbhaaaGreat
