/-
  bend.Plain, bend.Bend: the walks.
-/
import Derived.Test.YtdpafdeoepbhaaaZ18
import Derived.Test.YtdpafdeoepbhaaaZ19
namespace Go.Proofs.Ytdpafdeoepbhaaa
open Go.RowKit Go.Maps
set_option linter.unusedSimpArgs false
set_option linter.unusedVariables false
set_option maxHeartbeats 8000000 in
set_option maxRecDepth 100000 in
theorem cbend_any (k : Nat) (q : Rat) (v : Value) (a : Option Addr) (cap : Nat) (l : List Pr) (w : World) (hP : Pz w a cap l) (h : Ct w v k q) (hk9 : k ≤ 10000000) (hk2 : 2 ≤ k) :
    Calls Try.prog 22 #[.slice a l.length cap, v] w fun e w' => ∃ v', e = .returned v' ∧ Fr w' v' (k + 8) (beQ l q) ∧ Below w.heap.size w w' := by
  have hk : k ≤ 100000000 := by omega
  have hX := h
  obtain ⟨n, xs, ys, ⟨a1, c, a', c', rfl, _, _⟩, hz1⟩ := h
  clear hz1
  have hfo := fun W hW => cformP_any a cap l W hW
  cases hf : frP l with
  | false =>
    have HQ : Hid (beQ l q = 0) := by show beQ l q = 0; simp [beQ, hf]
    rw [hf] at hfo
    obtain ⟨W, hW, B1, B2, hbW⟩ : ∃ W, W = (w.alloc (.cells #[.bool n, .slice a1 xs.length c, .slice a' ys.length c'] 44)).alloc (.cells #[.bool false, .slice none 0 0, .slice none 0 0] 44) ∧ Box 44 W w.heap.size (.bool n) (.slice a1 xs.length c) (.slice a' ys.length c') ∧ Box 44 W (w.heap.size + 1) (.bool false) (.slice none 0 0) (.slice none 0 0) ∧ Below w.heap.size w W := ⟨_, rfl, (Box.new _ w _ _ _).alloc _, Box.new1 _ w _ _ _ _, al2 _ _⟩
    go_enter Try.func22, Try.ntmps22
    go_wp2_with fail
    rw [← hW]
    clear hW
    replace hX := hX.below hbW
    replace hP := hP.below hbW
    obtain ⟨p00, p01, p02, _⟩ := B1.cells
    obtain ⟨p10, p11, p12, _⟩ := B2.cells
    refine (hfo _ hP).mono ?_
    rintro e u1 ⟨rfl, hb1⟩
    replace hP := hP.below hb1
    replace B1 := B1.below hb1
    replace B2 := B2.below hb1
    replace hbW : Below w.heap.size w u1 := hbW.trans (hb1.mono hbW.size)
    clear hb1
    clear p00 p01 p02 p10 p11 p12
    obtain ⟨p00, p01, p02, _⟩ := B1.cells
    obtain ⟨p10, p11, p12, _⟩ := B2.cells
    go_wp2_with fail
    refine (whole_any 0 _ (by decide) (by decide)).mono ?_
    rintro e u2 ⟨v2, rfl, hF2, hb2⟩
    replace hP := hP.below hb2
    replace B1 := B1.below hb2
    replace B2 := B2.below hb2
    replace hbW : Below w.heap.size w u2 := hbW.trans (hb2.mono hbW.size)
    clear hb2
    clear p00 p01 p02 p10 p11 p12
    obtain ⟨p00, p01, p02, _⟩ := B1.cells
    obtain ⟨p10, p11, p12, _⟩ := B2.cells
    replace hF2 := (hF2.eq (r := beQ l q) (by rw [HQ.out]; rfl)).le (show 2 ≤ k + 8 by omega)
    clear p00 p01 p02 p10 p11 p12
    obtain ⟨n', xs', ys', ⟨e1, f1, e2, f2, rfl, hx', hy'⟩, hF⟩ := hF2
    have hs := B2.lt
    obtain ⟨q1, q2, q3, q4, q5, q6⟩ := B2.cells
    go_wp2
    refine ret3 (v := .agg #[.bool n', .slice e1 xs'.length f1, .slice e2 ys'.length f2]) B2 rfl (fun U hU => by obtain ⟨r1, r2, r3, _⟩ := hU.cells; simp [results, Try.results22, go_sem, r1, r2, r3]) (fun U hU hK => ⟨_, rfl, ⟨_, _, _, ⟨_, _, _, _, rfl, hK _ _ _ hx', hK _ _ _ hy'⟩, hF⟩, hU _ _ hbW (by omega)⟩)
  | true =>
    obtain ⟨z, hz⟩ : ∃ z, (q * ((16384 : Int) : Rat)).floor = z := ⟨_, rfl⟩
    have HZ : Hid ((q * ((16384 : Int) : Rat)).floor = z) := hz
    have HF : Hid (frP l = true) := hf
    rw [hf] at hfo
    have hsb := sgn_bd q
    obtain ⟨sg, hsg⟩ : ∃ s, sgnQ q = s := ⟨_, rfl⟩
    rw [hsg] at hsb
    have HSG : Hid (sgnQ q = sg) := hsg
    have hcs : flB z = false ∨ (flB z = true ∧ flN z = z ∧ z < -16384) ∨ (flB z = true ∧ flN z = z ∧ -16384 ≤ z ∧ 16384 ≤ z) ∨ (flB z = true ∧ flN z = z ∧ -16384 ≤ z ∧ z < 16384) := by
      cases hb : flB z with
      | false => exact .inl rfl
      | true =>
        have hn : flN z = z := by unfold flN; rw [if_pos hb]
        by_cases h1 : z < -16384
        · exact .inr (.inl ⟨rfl, hn, h1⟩)
        · by_cases h2 : 16384 ≤ z
          · exact .inr (.inr (.inl ⟨rfl, hn, by omega, h2⟩))
          · exact .inr (.inr (.inr ⟨rfl, hn, by omega, by omega⟩))
    clear hf hz hsg
    rcases hcs with hb | ⟨hb, hn, h1⟩ | ⟨hb, hn, h1, h2⟩ | ⟨hb, hn, h1, h2⟩
    · have HQ : Hid (beQ l q = ((sg : Int) : Rat)) := by show _ = _; rw [beQ_out HF.out HZ.out (by unfold flB at hb; have := of_decide_eq_false hb; omega), HSG.out]
      have hn : flN z = 0 := by unfold flN; rw [hb]; rfl
      have HFL : Hid (flN z = 0 ∧ flB z = false) := ⟨hn, hb⟩
      clear hn hb
      obtain ⟨W, hW, B1, B2, hbW⟩ : ∃ W, W = (w.alloc (.cells #[.bool n, .slice a1 xs.length c, .slice a' ys.length c'] 44)).alloc (.cells #[.bool false, .slice none 0 0, .slice none 0 0] 44) ∧ Box 44 W w.heap.size (.bool n) (.slice a1 xs.length c) (.slice a' ys.length c') ∧ Box 44 W (w.heap.size + 1) (.bool false) (.slice none 0 0) (.slice none 0 0) ∧ Below w.heap.size w W := ⟨_, rfl, (Box.new _ w _ _ _).alloc _, Box.new1 _ w _ _ _ _, al2 _ _⟩
      go_enter Try.func22, Try.ntmps22
      go_wp2_with fail
      rw [← hW]
      clear hW
      replace hX := hX.below hbW
      replace hP := hP.below hbW
      obtain ⟨p00, p01, p02, _⟩ := B1.cells
      obtain ⟨p10, p11, p12, _⟩ := B2.cells
      refine (hfo _ hP).mono ?_
      rintro e u1 ⟨rfl, hb1⟩
      replace hX := hX.below hb1
      replace hP := hP.below hb1
      replace B1 := B1.below hb1
      replace B2 := B2.below hb1
      replace hbW : Below w.heap.size w u1 := hbW.trans (hb1.mono hbW.size)
      clear hb1
      clear p00 p01 p02 p10 p11 p12
      obtain ⟨p00, p01, p02, _⟩ := B1.cells
      obtain ⟨p10, p11, p12, _⟩ := B2.cells
      clear hfo
      go_wp2_with fail
      refine wp_region_held_drew (S := (fun u => u.cell? ⟨w.heap.size, 0, none⟩ = some (.bool n) ∧ u.cell? ⟨w.heap.size, 1, none⟩ = some (.slice a1 xs.length c) ∧ u.cell? ⟨w.heap.size, 2, none⟩ = some (.slice a' ys.length c') ∧ u.cell? ⟨(w.heap.size + 1), 0, none⟩ = some (.bool false) ∧ u.cell? ⟨(w.heap.size + 1), 1, none⟩ = some (.slice none 0 0) ∧ u.cell? ⟨(w.heap.size + 1), 2, none⟩ = some (.slice none 0 0))) (by kernel_rfl) ?_ (fun hHeld => ?_)
      · (try dsimp only)
        go_keep
      have hdr : Below u1.heap.size u1 u1.drew := Below.drew1
      generalize u1.drew = ud9 at hdr hHeld ⊢
      replace hX := hX.below hdr
      replace hP := hP.below hdr
      replace B1 := B1.below hdr
      replace B2 := B2.below hdr
      replace hbW : Below w.heap.size w ud9 := hbW.trans (hdr.mono hbW.size)
      clear hdr
      clear p00 p01 p02 p10 p11 p12
      obtain ⟨p00, p01, p02, _⟩ := B1.cells
      obtain ⟨p10, p11, p12, _⟩ := B2.cells
      refine hT 0 hHeld ?_
      refine hCall (i := 1) rfl (by kernel_rfl) (by rfl) (fun K hK => ?_)
      go_simp
      refine (whole_any 16384 _ (by decide) (by decide)).mono ?_
      rintro e u2 ⟨vw, rfl, hw1, hb2⟩
      replace hX := hX.below hb2
      replace hP := hP.below hb2
      replace B1 := B1.below hb2
      replace B2 := B2.below hb2
      replace hbW : Below w.heap.size w u2 := hbW.trans (hb2.mono hbW.size)
      clear hb2
      clear p00 p01 p02 p10 p11 p12
      obtain ⟨p00, p01, p02, _⟩ := B1.cells
      obtain ⟨p10, p11, p12, _⟩ := B2.cells
      go_wp2_with fail
      refine hK.out _ _ ?_ (fun hHeld => ?_)
      · (try dsimp only)
        exact ⟨p00, p01, p02, p10, p11, p12⟩
      clear hK K
      try simp only [Act.put, List.setIfInBounds_toArray, List.set_cons_zero, List.set_cons_succ]
      refine hCall (i := 2) rfl (by kernel_rfl) (by rfl) (fun K hK => ?_)
      go_simp
      refine (qmul_any k 2 q ((16384 : Int) : Rat) _ _ _ hX hw1.ct hk (by decide) hk2 (by decide)).mono ?_
      rintro e u3 ⟨vm, rfl, hm1, hb3⟩
      replace hX := hX.below hb3
      replace hP := hP.below hb3
      replace hw1 := hw1.below hb3
      replace B1 := B1.below hb3
      replace B2 := B2.below hb3
      replace hbW : Below w.heap.size w u3 := hbW.trans (hb3.mono hbW.size)
      clear hb3
      clear p00 p01 p02 p10 p11 p12
      obtain ⟨p00, p01, p02, _⟩ := B1.cells
      obtain ⟨p10, p11, p12, _⟩ := B2.cells
      go_wp2_with fail
      refine hK.out _ _ ?_ (fun hHeld => ?_)
      · (try dsimp only)
        exact ⟨p00, p01, p02, p10, p11, p12⟩
      clear hK K
      try simp only [Act.put, List.setIfInBounds_toArray, List.set_cons_zero, List.set_cons_succ]
      refine hCall (i := 3) rfl (by kernel_rfl) (by rfl) (fun K hK => ?_)
      go_simp
      refine (qfloor_any (k + 2) (q * ((16384 : Int) : Rat)) _ _ hm1.ct (by omega) (by omega)).mono ?_
      rintro e u4 ⟨rfl, hb4⟩
      replace hX := hX.below hb4
      replace hP := hP.below hb4
      replace hw1 := hw1.below hb4
      replace hm1 := hm1.below hb4
      replace B1 := B1.below hb4
      replace B2 := B2.below hb4
      replace hbW : Below w.heap.size w u4 := hbW.trans (hb4.mono hbW.size)
      clear hb4
      rw [HZ.out, HFL.out.1, HFL.out.2]
      clear p00 p01 p02 p10 p11 p12
      obtain ⟨p00, p01, p02, _⟩ := B1.cells
      obtain ⟨p10, p11, p12, _⟩ := B2.cells
      go_wp2_with fail
      refine hK.out _ _ ?_ (fun hHeld => ?_)
      · (try dsimp only)
        exact ⟨p00, p01, p02, p10, p11, p12⟩
      clear hK K
      try simp only [Act.put, List.setIfInBounds_toArray, List.set_cons_zero, List.set_cons_succ]
      refine hT 4 hHeld ?_
      refine hT 5 hHeld ?_
      refine hT 6 hHeld ?_
      refine hT 7 hHeld ?_
      refine hT 8 hHeld ?_
      refine wpAnyH_done (by kernel_rfl) ?_ _
      clear hw1 hm1
      go_wp2_with fail
      refine (qsign_any k q _ _ hX hk hk2).mono ?_
      rintro e u5 ⟨rfl, hb5⟩
      replace hX := hX.below hb5
      replace hP := hP.below hb5
      replace B1 := B1.below hb5
      replace B2 := B2.below hb5
      replace hbW : Below w.heap.size w u5 := hbW.trans (hb5.mono hbW.size)
      clear hb5
      clear p00 p01 p02 p10 p11 p12
      obtain ⟨p00, p01, p02, _⟩ := B1.cells
      obtain ⟨p10, p11, p12, _⟩ := B2.cells
      rw [HSG.out]
      go_wp2_with fail
      refine (whole_any sg _ (by omega) (by omega)).mono ?_
      rintro e u6 ⟨v2, rfl, hF2, hb6⟩
      replace hX := hX.below hb6
      replace hP := hP.below hb6
      replace B1 := B1.below hb6
      replace B2 := B2.below hb6
      replace hbW : Below w.heap.size w u6 := hbW.trans (hb6.mono hbW.size)
      clear hb6
      clear p00 p01 p02 p10 p11 p12
      obtain ⟨p00, p01, p02, _⟩ := B1.cells
      obtain ⟨p10, p11, p12, _⟩ := B2.cells
      replace hF2 := (hF2.eq (r := beQ l q) HQ.out.symm).le (show 2 ≤ k + 8 by omega)
      clear p00 p01 p02 p10 p11 p12
      obtain ⟨n', xs', ys', ⟨e1, f1, e2, f2, rfl, hx', hy'⟩, hF⟩ := hF2
      have hs := B2.lt
      obtain ⟨q1, q2, q3, q4, q5, q6⟩ := B2.cells
      go_wp2
      refine ret3 (v := .agg #[.bool n', .slice e1 xs'.length f1, .slice e2 ys'.length f2]) B2 rfl (fun U hU => by obtain ⟨r1, r2, r3, _⟩ := hU.cells; simp [results, Try.results22, go_sem, r1, r2, r3]) (fun U hU hK => ⟨_, rfl, ⟨_, _, _, ⟨_, _, _, _, rfl, hK _ _ _ hx', hK _ _ _ hy'⟩, hF⟩, hU _ _ hbW (by omega)⟩)
    · have HQ : Hid (beQ l q = ((sg : Int) : Rat)) := by show _ = _; rw [beQ_out HF.out HZ.out (.inl h1), HSG.out]
      have HFL : Hid (flN z = z ∧ flB z = true) := ⟨hn, hb⟩
      clear hn hb
      have g1 : decide (z < -16384) = true := decide_eq_true h1
      obtain ⟨W, hW, B1, B2, hbW⟩ : ∃ W, W = (w.alloc (.cells #[.bool n, .slice a1 xs.length c, .slice a' ys.length c'] 44)).alloc (.cells #[.bool false, .slice none 0 0, .slice none 0 0] 44) ∧ Box 44 W w.heap.size (.bool n) (.slice a1 xs.length c) (.slice a' ys.length c') ∧ Box 44 W (w.heap.size + 1) (.bool false) (.slice none 0 0) (.slice none 0 0) ∧ Below w.heap.size w W := ⟨_, rfl, (Box.new _ w _ _ _).alloc _, Box.new1 _ w _ _ _ _, al2 _ _⟩
      go_enter Try.func22, Try.ntmps22
      go_wp2_with fail
      rw [← hW]
      clear hW
      replace hX := hX.below hbW
      replace hP := hP.below hbW
      obtain ⟨p00, p01, p02, _⟩ := B1.cells
      obtain ⟨p10, p11, p12, _⟩ := B2.cells
      refine (hfo _ hP).mono ?_
      rintro e u1 ⟨rfl, hb1⟩
      replace hX := hX.below hb1
      replace hP := hP.below hb1
      replace B1 := B1.below hb1
      replace B2 := B2.below hb1
      replace hbW : Below w.heap.size w u1 := hbW.trans (hb1.mono hbW.size)
      clear hb1
      clear p00 p01 p02 p10 p11 p12
      obtain ⟨p00, p01, p02, _⟩ := B1.cells
      obtain ⟨p10, p11, p12, _⟩ := B2.cells
      clear hfo
      go_wp2_with fail
      refine wp_region_held_drew (S := (fun u => u.cell? ⟨w.heap.size, 0, none⟩ = some (.bool n) ∧ u.cell? ⟨w.heap.size, 1, none⟩ = some (.slice a1 xs.length c) ∧ u.cell? ⟨w.heap.size, 2, none⟩ = some (.slice a' ys.length c') ∧ u.cell? ⟨(w.heap.size + 1), 0, none⟩ = some (.bool false) ∧ u.cell? ⟨(w.heap.size + 1), 1, none⟩ = some (.slice none 0 0) ∧ u.cell? ⟨(w.heap.size + 1), 2, none⟩ = some (.slice none 0 0))) (by kernel_rfl) ?_ (fun hHeld => ?_)
      · (try dsimp only)
        go_keep
      have hdr : Below u1.heap.size u1 u1.drew := Below.drew1
      generalize u1.drew = ud10 at hdr hHeld ⊢
      replace hX := hX.below hdr
      replace hP := hP.below hdr
      replace B1 := B1.below hdr
      replace B2 := B2.below hdr
      replace hbW : Below w.heap.size w ud10 := hbW.trans (hdr.mono hbW.size)
      clear hdr
      clear p00 p01 p02 p10 p11 p12
      obtain ⟨p00, p01, p02, _⟩ := B1.cells
      obtain ⟨p10, p11, p12, _⟩ := B2.cells
      refine hT 0 hHeld ?_
      refine hCall (i := 1) rfl (by kernel_rfl) (by rfl) (fun K hK => ?_)
      go_simp
      refine (whole_any 16384 _ (by decide) (by decide)).mono ?_
      rintro e u2 ⟨vw, rfl, hw1, hb2⟩
      replace hX := hX.below hb2
      replace hP := hP.below hb2
      replace B1 := B1.below hb2
      replace B2 := B2.below hb2
      replace hbW : Below w.heap.size w u2 := hbW.trans (hb2.mono hbW.size)
      clear hb2
      clear p00 p01 p02 p10 p11 p12
      obtain ⟨p00, p01, p02, _⟩ := B1.cells
      obtain ⟨p10, p11, p12, _⟩ := B2.cells
      go_wp2_with fail
      refine hK.out _ _ ?_ (fun hHeld => ?_)
      · (try dsimp only)
        exact ⟨p00, p01, p02, p10, p11, p12⟩
      clear hK K
      try simp only [Act.put, List.setIfInBounds_toArray, List.set_cons_zero, List.set_cons_succ]
      refine hCall (i := 2) rfl (by kernel_rfl) (by rfl) (fun K hK => ?_)
      go_simp
      refine (qmul_any k 2 q ((16384 : Int) : Rat) _ _ _ hX hw1.ct hk (by decide) hk2 (by decide)).mono ?_
      rintro e u3 ⟨vm, rfl, hm1, hb3⟩
      replace hX := hX.below hb3
      replace hP := hP.below hb3
      replace hw1 := hw1.below hb3
      replace B1 := B1.below hb3
      replace B2 := B2.below hb3
      replace hbW : Below w.heap.size w u3 := hbW.trans (hb3.mono hbW.size)
      clear hb3
      clear p00 p01 p02 p10 p11 p12
      obtain ⟨p00, p01, p02, _⟩ := B1.cells
      obtain ⟨p10, p11, p12, _⟩ := B2.cells
      go_wp2_with fail
      refine hK.out _ _ ?_ (fun hHeld => ?_)
      · (try dsimp only)
        exact ⟨p00, p01, p02, p10, p11, p12⟩
      clear hK K
      try simp only [Act.put, List.setIfInBounds_toArray, List.set_cons_zero, List.set_cons_succ]
      refine hCall (i := 3) rfl (by kernel_rfl) (by rfl) (fun K hK => ?_)
      go_simp
      refine (qfloor_any (k + 2) (q * ((16384 : Int) : Rat)) _ _ hm1.ct (by omega) (by omega)).mono ?_
      rintro e u4 ⟨rfl, hb4⟩
      replace hX := hX.below hb4
      replace hP := hP.below hb4
      replace hw1 := hw1.below hb4
      replace hm1 := hm1.below hb4
      replace B1 := B1.below hb4
      replace B2 := B2.below hb4
      replace hbW : Below w.heap.size w u4 := hbW.trans (hb4.mono hbW.size)
      clear hb4
      rw [HZ.out, HFL.out.1, HFL.out.2]
      clear p00 p01 p02 p10 p11 p12
      obtain ⟨p00, p01, p02, _⟩ := B1.cells
      obtain ⟨p10, p11, p12, _⟩ := B2.cells
      go_wp2_with fail
      refine hK.out _ _ ?_ (fun hHeld => ?_)
      · (try dsimp only)
        exact ⟨p00, p01, p02, p10, p11, p12⟩
      clear hK K
      try simp only [Act.put, List.setIfInBounds_toArray, List.set_cons_zero, List.set_cons_succ]
      refine hT 4 hHeld ?_
      refine hT 5 hHeld ?_
      refine hT 6 hHeld ?_
      refine hT 7 hHeld ?_
      refine hT 8 hHeld ?_
      refine wpAnyH_done (by kernel_rfl) ?_ _
      clear hw1 hm1
      go_wp2_with fail
      refine (qsign_any k q _ _ hX hk hk2).mono ?_
      rintro e u5 ⟨rfl, hb5⟩
      replace hX := hX.below hb5
      replace hP := hP.below hb5
      replace B1 := B1.below hb5
      replace B2 := B2.below hb5
      replace hbW : Below w.heap.size w u5 := hbW.trans (hb5.mono hbW.size)
      clear hb5
      clear p00 p01 p02 p10 p11 p12
      obtain ⟨p00, p01, p02, _⟩ := B1.cells
      obtain ⟨p10, p11, p12, _⟩ := B2.cells
      rw [HSG.out]
      go_wp2_with fail
      refine (whole_any sg _ (by omega) (by omega)).mono ?_
      rintro e u6 ⟨v2, rfl, hF2, hb6⟩
      replace hX := hX.below hb6
      replace hP := hP.below hb6
      replace B1 := B1.below hb6
      replace B2 := B2.below hb6
      replace hbW : Below w.heap.size w u6 := hbW.trans (hb6.mono hbW.size)
      clear hb6
      clear p00 p01 p02 p10 p11 p12
      obtain ⟨p00, p01, p02, _⟩ := B1.cells
      obtain ⟨p10, p11, p12, _⟩ := B2.cells
      replace hF2 := (hF2.eq (r := beQ l q) HQ.out.symm).le (show 2 ≤ k + 8 by omega)
      clear p00 p01 p02 p10 p11 p12
      obtain ⟨n', xs', ys', ⟨e1, f1, e2, f2, rfl, hx', hy'⟩, hF⟩ := hF2
      have hs := B2.lt
      obtain ⟨q1, q2, q3, q4, q5, q6⟩ := B2.cells
      go_wp2
      refine ret3 (v := .agg #[.bool n', .slice e1 xs'.length f1, .slice e2 ys'.length f2]) B2 rfl (fun U hU => by obtain ⟨r1, r2, r3, _⟩ := hU.cells; simp [results, Try.results22, go_sem, r1, r2, r3]) (fun U hU hK => ⟨_, rfl, ⟨_, _, _, ⟨_, _, _, _, rfl, hK _ _ _ hx', hK _ _ _ hy'⟩, hF⟩, hU _ _ hbW (by omega)⟩)
    · have HQ : Hid (beQ l q = ((sg : Int) : Rat)) := by show _ = _; rw [beQ_out HF.out HZ.out (.inr h2), HSG.out]
      have HFL : Hid (flN z = z ∧ flB z = true) := ⟨hn, hb⟩
      clear hn hb
      have g1 : decide (z < -16384) = false := decide_eq_false (by omega)
      have g2 : decide (16384 ≤ z) = true := decide_eq_true h2
      obtain ⟨W, hW, B1, B2, hbW⟩ : ∃ W, W = (w.alloc (.cells #[.bool n, .slice a1 xs.length c, .slice a' ys.length c'] 44)).alloc (.cells #[.bool false, .slice none 0 0, .slice none 0 0] 44) ∧ Box 44 W w.heap.size (.bool n) (.slice a1 xs.length c) (.slice a' ys.length c') ∧ Box 44 W (w.heap.size + 1) (.bool false) (.slice none 0 0) (.slice none 0 0) ∧ Below w.heap.size w W := ⟨_, rfl, (Box.new _ w _ _ _).alloc _, Box.new1 _ w _ _ _ _, al2 _ _⟩
      go_enter Try.func22, Try.ntmps22
      go_wp2_with fail
      rw [← hW]
      clear hW
      replace hX := hX.below hbW
      replace hP := hP.below hbW
      obtain ⟨p00, p01, p02, _⟩ := B1.cells
      obtain ⟨p10, p11, p12, _⟩ := B2.cells
      refine (hfo _ hP).mono ?_
      rintro e u1 ⟨rfl, hb1⟩
      replace hX := hX.below hb1
      replace hP := hP.below hb1
      replace B1 := B1.below hb1
      replace B2 := B2.below hb1
      replace hbW : Below w.heap.size w u1 := hbW.trans (hb1.mono hbW.size)
      clear hb1
      clear p00 p01 p02 p10 p11 p12
      obtain ⟨p00, p01, p02, _⟩ := B1.cells
      obtain ⟨p10, p11, p12, _⟩ := B2.cells
      clear hfo
      go_wp2_with fail
      refine wp_region_held_drew (S := (fun u => u.cell? ⟨w.heap.size, 0, none⟩ = some (.bool n) ∧ u.cell? ⟨w.heap.size, 1, none⟩ = some (.slice a1 xs.length c) ∧ u.cell? ⟨w.heap.size, 2, none⟩ = some (.slice a' ys.length c') ∧ u.cell? ⟨(w.heap.size + 1), 0, none⟩ = some (.bool false) ∧ u.cell? ⟨(w.heap.size + 1), 1, none⟩ = some (.slice none 0 0) ∧ u.cell? ⟨(w.heap.size + 1), 2, none⟩ = some (.slice none 0 0))) (by kernel_rfl) ?_ (fun hHeld => ?_)
      · (try dsimp only)
        go_keep
      have hdr : Below u1.heap.size u1 u1.drew := Below.drew1
      generalize u1.drew = ud11 at hdr hHeld ⊢
      replace hX := hX.below hdr
      replace hP := hP.below hdr
      replace B1 := B1.below hdr
      replace B2 := B2.below hdr
      replace hbW : Below w.heap.size w ud11 := hbW.trans (hdr.mono hbW.size)
      clear hdr
      clear p00 p01 p02 p10 p11 p12
      obtain ⟨p00, p01, p02, _⟩ := B1.cells
      obtain ⟨p10, p11, p12, _⟩ := B2.cells
      refine hT 0 hHeld ?_
      refine hCall (i := 1) rfl (by kernel_rfl) (by rfl) (fun K hK => ?_)
      go_simp
      refine (whole_any 16384 _ (by decide) (by decide)).mono ?_
      rintro e u2 ⟨vw, rfl, hw1, hb2⟩
      replace hX := hX.below hb2
      replace hP := hP.below hb2
      replace B1 := B1.below hb2
      replace B2 := B2.below hb2
      replace hbW : Below w.heap.size w u2 := hbW.trans (hb2.mono hbW.size)
      clear hb2
      clear p00 p01 p02 p10 p11 p12
      obtain ⟨p00, p01, p02, _⟩ := B1.cells
      obtain ⟨p10, p11, p12, _⟩ := B2.cells
      go_wp2_with fail
      refine hK.out _ _ ?_ (fun hHeld => ?_)
      · (try dsimp only)
        exact ⟨p00, p01, p02, p10, p11, p12⟩
      clear hK K
      try simp only [Act.put, List.setIfInBounds_toArray, List.set_cons_zero, List.set_cons_succ]
      refine hCall (i := 2) rfl (by kernel_rfl) (by rfl) (fun K hK => ?_)
      go_simp
      refine (qmul_any k 2 q ((16384 : Int) : Rat) _ _ _ hX hw1.ct hk (by decide) hk2 (by decide)).mono ?_
      rintro e u3 ⟨vm, rfl, hm1, hb3⟩
      replace hX := hX.below hb3
      replace hP := hP.below hb3
      replace hw1 := hw1.below hb3
      replace B1 := B1.below hb3
      replace B2 := B2.below hb3
      replace hbW : Below w.heap.size w u3 := hbW.trans (hb3.mono hbW.size)
      clear hb3
      clear p00 p01 p02 p10 p11 p12
      obtain ⟨p00, p01, p02, _⟩ := B1.cells
      obtain ⟨p10, p11, p12, _⟩ := B2.cells
      go_wp2_with fail
      refine hK.out _ _ ?_ (fun hHeld => ?_)
      · (try dsimp only)
        exact ⟨p00, p01, p02, p10, p11, p12⟩
      clear hK K
      try simp only [Act.put, List.setIfInBounds_toArray, List.set_cons_zero, List.set_cons_succ]
      refine hCall (i := 3) rfl (by kernel_rfl) (by rfl) (fun K hK => ?_)
      go_simp
      refine (qfloor_any (k + 2) (q * ((16384 : Int) : Rat)) _ _ hm1.ct (by omega) (by omega)).mono ?_
      rintro e u4 ⟨rfl, hb4⟩
      replace hX := hX.below hb4
      replace hP := hP.below hb4
      replace hw1 := hw1.below hb4
      replace hm1 := hm1.below hb4
      replace B1 := B1.below hb4
      replace B2 := B2.below hb4
      replace hbW : Below w.heap.size w u4 := hbW.trans (hb4.mono hbW.size)
      clear hb4
      rw [HZ.out, HFL.out.1, HFL.out.2]
      clear p00 p01 p02 p10 p11 p12
      obtain ⟨p00, p01, p02, _⟩ := B1.cells
      obtain ⟨p10, p11, p12, _⟩ := B2.cells
      go_wp2_with fail
      refine hK.out _ _ ?_ (fun hHeld => ?_)
      · (try dsimp only)
        exact ⟨p00, p01, p02, p10, p11, p12⟩
      clear hK K
      try simp only [Act.put, List.setIfInBounds_toArray, List.set_cons_zero, List.set_cons_succ]
      refine hT 4 hHeld ?_
      refine hT 5 hHeld ?_
      refine hT 6 hHeld ?_
      refine hT 7 hHeld ?_
      refine hT 8 hHeld ?_
      refine wpAnyH_done (by kernel_rfl) ?_ _
      clear hw1 hm1
      go_wp2_with fail
      refine (qsign_any k q _ _ hX hk hk2).mono ?_
      rintro e u5 ⟨rfl, hb5⟩
      replace hX := hX.below hb5
      replace hP := hP.below hb5
      replace B1 := B1.below hb5
      replace B2 := B2.below hb5
      replace hbW : Below w.heap.size w u5 := hbW.trans (hb5.mono hbW.size)
      clear hb5
      clear p00 p01 p02 p10 p11 p12
      obtain ⟨p00, p01, p02, _⟩ := B1.cells
      obtain ⟨p10, p11, p12, _⟩ := B2.cells
      rw [HSG.out]
      go_wp2_with fail
      refine (whole_any sg _ (by omega) (by omega)).mono ?_
      rintro e u6 ⟨v2, rfl, hF2, hb6⟩
      replace hX := hX.below hb6
      replace hP := hP.below hb6
      replace B1 := B1.below hb6
      replace B2 := B2.below hb6
      replace hbW : Below w.heap.size w u6 := hbW.trans (hb6.mono hbW.size)
      clear hb6
      clear p00 p01 p02 p10 p11 p12
      obtain ⟨p00, p01, p02, _⟩ := B1.cells
      obtain ⟨p10, p11, p12, _⟩ := B2.cells
      replace hF2 := (hF2.eq (r := beQ l q) HQ.out.symm).le (show 2 ≤ k + 8 by omega)
      clear p00 p01 p02 p10 p11 p12
      obtain ⟨n', xs', ys', ⟨e1, f1, e2, f2, rfl, hx', hy'⟩, hF⟩ := hF2
      have hs := B2.lt
      obtain ⟨q1, q2, q3, q4, q5, q6⟩ := B2.cells
      go_wp2
      refine ret3 (v := .agg #[.bool n', .slice e1 xs'.length f1, .slice e2 ys'.length f2]) B2 rfl (fun U hU => by obtain ⟨r1, r2, r3, _⟩ := hU.cells; simp [results, Try.results22, go_sem, r1, r2, r3]) (fun U hU hK => ⟨_, rfl, ⟨_, _, _, ⟨_, _, _, _, rfl, hK _ _ _ hx', hK _ _ _ hy'⟩, hF⟩, hU _ _ hbW (by omega)⟩)
    · have HFL : Hid (flN z = z ∧ flB z = true) := ⟨hn, hb⟩
      clear hn hb
      have g1 : decide (z < -16384) = false := decide_eq_false (by omega)
      have g2 : decide (16384 ≤ z) = false := decide_eq_false (by omega)
      obtain ⟨W, hW, B1, B2, hbW⟩ : ∃ W, W = (w.alloc (.cells #[.bool n, .slice a1 xs.length c, .slice a' ys.length c'] 44)).alloc (.cells #[.bool false, .slice none 0 0, .slice none 0 0] 44) ∧ Box 44 W w.heap.size (.bool n) (.slice a1 xs.length c) (.slice a' ys.length c') ∧ Box 44 W (w.heap.size + 1) (.bool false) (.slice none 0 0) (.slice none 0 0) ∧ Below w.heap.size w W := ⟨_, rfl, (Box.new _ w _ _ _).alloc _, Box.new1 _ w _ _ _ _, al2 _ _⟩
      go_enter Try.func22, Try.ntmps22
      go_wp2_with fail
      rw [← hW]
      clear hW
      replace hX := hX.below hbW
      replace hP := hP.below hbW
      obtain ⟨p00, p01, p02, _⟩ := B1.cells
      obtain ⟨p10, p11, p12, _⟩ := B2.cells
      refine (hfo _ hP).mono ?_
      rintro e u1 ⟨rfl, hb1⟩
      replace hX := hX.below hb1
      replace hP := hP.below hb1
      replace B1 := B1.below hb1
      replace B2 := B2.below hb1
      replace hbW : Below w.heap.size w u1 := hbW.trans (hb1.mono hbW.size)
      clear hb1
      clear p00 p01 p02 p10 p11 p12
      obtain ⟨p00, p01, p02, _⟩ := B1.cells
      obtain ⟨p10, p11, p12, _⟩ := B2.cells
      clear hfo
      go_wp2_with fail
      refine wp_region_held_drew (S := (fun u => u.cell? ⟨w.heap.size, 0, none⟩ = some (.bool n) ∧ u.cell? ⟨w.heap.size, 1, none⟩ = some (.slice a1 xs.length c) ∧ u.cell? ⟨w.heap.size, 2, none⟩ = some (.slice a' ys.length c') ∧ u.cell? ⟨(w.heap.size + 1), 0, none⟩ = some (.bool false) ∧ u.cell? ⟨(w.heap.size + 1), 1, none⟩ = some (.slice none 0 0) ∧ u.cell? ⟨(w.heap.size + 1), 2, none⟩ = some (.slice none 0 0))) (by kernel_rfl) ?_ (fun hHeld => ?_)
      · (try dsimp only)
        go_keep
      have hdr : Below u1.heap.size u1 u1.drew := Below.drew1
      generalize u1.drew = ud12 at hdr hHeld ⊢
      replace hX := hX.below hdr
      replace hP := hP.below hdr
      replace B1 := B1.below hdr
      replace B2 := B2.below hdr
      replace hbW : Below w.heap.size w ud12 := hbW.trans (hdr.mono hbW.size)
      clear hdr
      clear p00 p01 p02 p10 p11 p12
      obtain ⟨p00, p01, p02, _⟩ := B1.cells
      obtain ⟨p10, p11, p12, _⟩ := B2.cells
      refine hT 0 hHeld ?_
      refine hCall (i := 1) rfl (by kernel_rfl) (by rfl) (fun K hK => ?_)
      go_simp
      refine (whole_any 16384 _ (by decide) (by decide)).mono ?_
      rintro e u2 ⟨vw, rfl, hw1, hb2⟩
      replace hX := hX.below hb2
      replace hP := hP.below hb2
      replace B1 := B1.below hb2
      replace B2 := B2.below hb2
      replace hbW : Below w.heap.size w u2 := hbW.trans (hb2.mono hbW.size)
      clear hb2
      clear p00 p01 p02 p10 p11 p12
      obtain ⟨p00, p01, p02, _⟩ := B1.cells
      obtain ⟨p10, p11, p12, _⟩ := B2.cells
      go_wp2_with fail
      refine hK.out _ _ ?_ (fun hHeld => ?_)
      · (try dsimp only)
        exact ⟨p00, p01, p02, p10, p11, p12⟩
      clear hK K
      try simp only [Act.put, List.setIfInBounds_toArray, List.set_cons_zero, List.set_cons_succ]
      refine hCall (i := 2) rfl (by kernel_rfl) (by rfl) (fun K hK => ?_)
      go_simp
      refine (qmul_any k 2 q ((16384 : Int) : Rat) _ _ _ hX hw1.ct hk (by decide) hk2 (by decide)).mono ?_
      rintro e u3 ⟨vm, rfl, hm1, hb3⟩
      replace hX := hX.below hb3
      replace hP := hP.below hb3
      replace hw1 := hw1.below hb3
      replace B1 := B1.below hb3
      replace B2 := B2.below hb3
      replace hbW : Below w.heap.size w u3 := hbW.trans (hb3.mono hbW.size)
      clear hb3
      clear p00 p01 p02 p10 p11 p12
      obtain ⟨p00, p01, p02, _⟩ := B1.cells
      obtain ⟨p10, p11, p12, _⟩ := B2.cells
      go_wp2_with fail
      refine hK.out _ _ ?_ (fun hHeld => ?_)
      · (try dsimp only)
        exact ⟨p00, p01, p02, p10, p11, p12⟩
      clear hK K
      try simp only [Act.put, List.setIfInBounds_toArray, List.set_cons_zero, List.set_cons_succ]
      refine hCall (i := 3) rfl (by kernel_rfl) (by rfl) (fun K hK => ?_)
      go_simp
      refine (qfloor_any (k + 2) (q * ((16384 : Int) : Rat)) _ _ hm1.ct (by omega) (by omega)).mono ?_
      rintro e u4 ⟨rfl, hb4⟩
      replace hX := hX.below hb4
      replace hP := hP.below hb4
      replace hw1 := hw1.below hb4
      replace hm1 := hm1.below hb4
      replace B1 := B1.below hb4
      replace B2 := B2.below hb4
      replace hbW : Below w.heap.size w u4 := hbW.trans (hb4.mono hbW.size)
      clear hb4
      rw [HZ.out, HFL.out.1, HFL.out.2]
      clear p00 p01 p02 p10 p11 p12
      obtain ⟨p00, p01, p02, _⟩ := B1.cells
      obtain ⟨p10, p11, p12, _⟩ := B2.cells
      go_wp2_with fail
      refine hK.out _ _ ?_ (fun hHeld => ?_)
      · (try dsimp only)
        exact ⟨p00, p01, p02, p10, p11, p12⟩
      clear hK K
      try simp only [Act.put, List.setIfInBounds_toArray, List.set_cons_zero, List.set_cons_succ]
      refine hT 4 hHeld ?_
      refine hT 5 hHeld ?_
      refine hT 6 hHeld ?_
      refine hT 7 hHeld ?_
      refine hT 8 hHeld ?_
      refine wpAnyH_done (by kernel_rfl) ?_ _
      clear hw1 hm1
      go_wp2_with fail
      refine (around_any a cap l z _ hP).mono ?_
      rintro e u5 ⟨p, r, rfl, ha, hb5⟩
      replace hX := hX.below hb5
      replace hP := hP.below hb5
      replace B1 := B1.below hb5
      replace B2 := B2.below hb5
      replace hbW : Below w.heap.size w u5 := hbW.trans (hb5.mono hbW.size)
      clear hb5 hP
      clear p00 p01 p02 p10 p11 p12
      obtain ⟨p00, p01, p02, _⟩ := B1.cells
      obtain ⟨p10, p11, p12, _⟩ := B2.cells
      obtain ⟨hq, b1, b2, b3, b4, b5, b6, b7⟩ := beQ_arnd HF.out HZ.out h1 h2 ha
      have HQ : Hid (beQ l q = ((p.2 : Int) : Rat) / ((16384 : Int) : Rat) + (q - ((p.1 : Int) : Rat) / ((16384 : Int) : Rat)) * (((r.2 - p.2 : Int) : Rat) / ((r.1 - p.1 : Int) : Rat))) := hq
      clear hq ha
      obtain ⟨x0, y0⟩ := p
      obtain ⟨x1, y1⟩ := r
      unfold prC
      dsimp only at b1 b2 b3 b4 b5 b6 b7 HQ ⊢
      go_wp2_with fail
      obtain ⟨W2, hW, L1, L2, hb9⟩ : ∃ W, W = (u5.alloc (.cells #[.int .i64 x0, .int .i64 y0] 68)).alloc (.cells #[.int .i64 x1, .int .i64 y1] 68) ∧ BxP W u5.heap.size (.int .i64 x0) (.int .i64 y0) ∧ BxP W (u5.heap.size + 1) (.int .i64 x1) (.int .i64 y1) ∧ Below u5.heap.size u5 W := ⟨_, rfl, (BxP.new _ _ _).below (bl1 _), BxP.new1 _ _ _ _, bl2 _ _⟩
      rw [← hW]
      clear hW
      have hg := hbW.size
      have hg1 := B2.lt
      replace hX := hX.below hb9
      replace B1 := B1.below hb9
      replace B2 := B2.below hb9
      replace hbW : Below w.heap.size w W2 := hbW.trans (hb9.mono hbW.size)
      clear hb9
      generalize u5.heap.size = g at *
      clear p00 p01 p02 p10 p11 p12
      obtain ⟨p00, p01, p02, _⟩ := B1.cells
      obtain ⟨p10, p11, p12, _⟩ := B2.cells
      obtain ⟨p20, p21, _⟩ := L1.cells
      obtain ⟨p30, p31, _⟩ := L2.cells
      refine (make_any (y1 - y0) (x1 - x0) _ (by omega) (by omega) (by omega) (by omega)).mono ?_
      rintro e u6 ⟨vs, rfl, hs1, hb6⟩
      replace hX := hX.below hb6
      replace B1 := B1.below hb6
      replace B2 := B2.below hb6
      replace L1 := L1.below hb6
      replace L2 := L2.below hb6
      replace hbW : Below w.heap.size w u6 := hbW.trans (hb6.mono hbW.size)
      clear hb6
      clear p00 p01 p02 p10 p11 p12 p20 p21 p30 p31
      obtain ⟨p00, p01, p02, _⟩ := B1.cells
      obtain ⟨p10, p11, p12, _⟩ := B2.cells
      obtain ⟨p20, p21, _⟩ := L1.cells
      obtain ⟨p30, p31, _⟩ := L2.cells
      have hSl := hs1.ct
      obtain ⟨ns, xs1, ys1, ⟨as1, cs1, bs1, ds1, rfl, _, _⟩, _⟩ := hs1
      go_wp2_with fail
      obtain ⟨W3, hW, B5, hb9⟩ : ∃ W, W = u6.alloc (.cells #[.bool ns, .slice as1 xs1.length cs1, .slice bs1 ys1.length ds1] 44) ∧ Box 44 W u6.heap.size (.bool ns) (.slice as1 xs1.length cs1) (.slice bs1 ys1.length ds1) ∧ Below u6.heap.size u6 W := ⟨_, rfl, Box.new _ _ _ _ _, al1 _⟩
      rw [← hW]
      clear hW
      have hg5 := L2.lt
      replace hX := hX.below hb9
      replace hSl := hSl.below hb9
      replace B1 := B1.below hb9
      replace B2 := B2.below hb9
      replace L1 := L1.below hb9
      replace L2 := L2.below hb9
      replace hbW : Below w.heap.size w W3 := hbW.trans (hb9.mono hbW.size)
      clear hb9
      generalize u6.heap.size = g5 at *
      clear p00 p01 p02 p10 p11 p12 p20 p21 p30 p31
      obtain ⟨p00, p01, p02, _⟩ := B1.cells
      obtain ⟨p10, p11, p12, _⟩ := B2.cells
      obtain ⟨p20, p21, _⟩ := L1.cells
      obtain ⟨p30, p31, _⟩ := L2.cells
      obtain ⟨p40, p41, p42, _⟩ := B5.cells
      refine wp_region_held_drew (S := (fun u => u.cell? ⟨w.heap.size, 0, none⟩ = some (.bool n) ∧ u.cell? ⟨w.heap.size, 1, none⟩ = some (.slice a1 xs.length c) ∧ u.cell? ⟨w.heap.size, 2, none⟩ = some (.slice a' ys.length c') ∧ u.cell? ⟨(w.heap.size + 1), 0, none⟩ = some (.bool false) ∧ u.cell? ⟨(w.heap.size + 1), 1, none⟩ = some (.slice none 0 0) ∧ u.cell? ⟨(w.heap.size + 1), 2, none⟩ = some (.slice none 0 0) ∧ u.cell? ⟨g, 0, none⟩ = some (.int .i64 x0) ∧ u.cell? ⟨g, 1, none⟩ = some (.int .i64 y0) ∧ u.cell? ⟨(g + 1), 0, none⟩ = some (.int .i64 x1) ∧ u.cell? ⟨(g + 1), 1, none⟩ = some (.int .i64 y1) ∧ u.cell? ⟨g5, 0, none⟩ = some (.bool ns) ∧ u.cell? ⟨g5, 1, none⟩ = some (.slice as1 xs1.length cs1) ∧ u.cell? ⟨g5, 2, none⟩ = some (.slice bs1 ys1.length ds1))) (by kernel_rfl) ?_ (fun hHeld => ?_)
      · (try dsimp only)
        go_keep
      have hdr : Below W3.heap.size W3 W3.drew := Below.drew1
      generalize W3.drew = ud13 at hdr hHeld ⊢
      replace hX := hX.below hdr
      replace hSl := hSl.below hdr
      replace B1 := B1.below hdr
      replace B2 := B2.below hdr
      replace L1 := L1.below hdr
      replace L2 := L2.below hdr
      replace B5 := B5.below hdr
      replace hbW : Below w.heap.size w ud13 := hbW.trans (hdr.mono hbW.size)
      clear hdr
      clear p00 p01 p02 p10 p11 p12 p20 p21 p30 p31 p40 p41 p42
      obtain ⟨p00, p01, p02, _⟩ := B1.cells
      obtain ⟨p10, p11, p12, _⟩ := B2.cells
      obtain ⟨p20, p21, _⟩ := L1.cells
      obtain ⟨p30, p31, _⟩ := L2.cells
      obtain ⟨p40, p41, p42, _⟩ := B5.cells
      refine hT 0 hHeld ?_
      refine hT 1 hHeld ?_
      refine hT 2 hHeld ?_
      refine hT 5 hHeld ?_
      refine wpAnyH_ready (rs := [3, 7]) (by kernel_rfl) (by simp) (hCons (i := 3) rfl (by rfl) (fun K hK => ?_) (hCons (i := 7) rfl (by rfl) (fun K hK => ?_) AllReadyH.nil))
      · go_simp
        refine (of14_any x0 _ (by omega) (by omega)).mono ?_
        rintro e u7 ⟨vf, rfl, hf1, hb7⟩
        replace hX := hX.below hb7
        replace hSl := hSl.below hb7
        replace B1 := B1.below hb7
        replace B2 := B2.below hb7
        replace L1 := L1.below hb7
        replace L2 := L2.below hb7
        replace B5 := B5.below hb7
        replace hbW : Below w.heap.size w u7 := hbW.trans (hb7.mono hbW.size)
        clear hb7
        clear p00 p01 p02 p10 p11 p12 p20 p21 p30 p31 p40 p41 p42
        obtain ⟨p00, p01, p02, _⟩ := B1.cells
        obtain ⟨p10, p11, p12, _⟩ := B2.cells
        obtain ⟨p20, p21, _⟩ := L1.cells
        obtain ⟨p30, p31, _⟩ := L2.cells
        obtain ⟨p40, p41, p42, _⟩ := B5.cells
        go_wp2_with fail
        refine hK.out _ _ ?_ (fun hHeld => ?_)
        · (try dsimp only)
          exact ⟨p00, p01, p02, p10, p11, p12, p20, p21, p30, p31, p40, p41, p42⟩
        clear hK K
        try simp only [Act.put, List.setIfInBounds_toArray, List.set_cons_zero, List.set_cons_succ]
        refine wpAnyH_ready (rs := [4, 7]) (by kernel_rfl) (by simp) (hCons (i := 4) rfl (by rfl) (fun K hK => ?_) (hCons (i := 7) rfl (by rfl) (fun K hK => ?_) AllReadyH.nil))
        · go_simp
          refine (qsub_any k 2 q (((x0 : Int) : Rat) / ((16384 : Int) : Rat)) _ _ _ hX hf1.ct hk (by decide) hk2 (by decide)).mono ?_
          rintro e u8 ⟨vd, rfl, hd1, hb8⟩
          replace hX := hX.below hb8
          replace hSl := hSl.below hb8
          replace hf1 := hf1.below hb8
          replace B1 := B1.below hb8
          replace B2 := B2.below hb8
          replace L1 := L1.below hb8
          replace L2 := L2.below hb8
          replace B5 := B5.below hb8
          replace hbW : Below w.heap.size w u8 := hbW.trans (hb8.mono hbW.size)
          clear hb8
          clear p00 p01 p02 p10 p11 p12 p20 p21 p30 p31 p40 p41 p42
          obtain ⟨p00, p01, p02, _⟩ := B1.cells
          obtain ⟨p10, p11, p12, _⟩ := B2.cells
          obtain ⟨p20, p21, _⟩ := L1.cells
          obtain ⟨p30, p31, _⟩ := L2.cells
          obtain ⟨p40, p41, p42, _⟩ := B5.cells
          go_wp2_with fail
          refine hK.out _ _ ?_ (fun hHeld => ?_)
          · (try dsimp only)
            exact ⟨p00, p01, p02, p10, p11, p12, p20, p21, p30, p31, p40, p41, p42⟩
          clear hK K
          try simp only [Act.put, List.setIfInBounds_toArray, List.set_cons_zero, List.set_cons_succ]
          refine wpAnyH_ready (rs := [6, 7]) (by kernel_rfl) (by simp) (hCons (i := 6) rfl (by rfl) (fun K hK => ?_) (hCons (i := 7) rfl (by rfl) (fun K hK => ?_) AllReadyH.nil))
          · go_simp
            refine (qmul_any (k + 2 + 1) 2 (q - ((x0 : Int) : Rat) / ((16384 : Int) : Rat)) (((y1 - y0 : Int) : Rat) / ((x1 - x0 : Int) : Rat)) _ _ _ hd1.ct hSl (by omega) (by decide) (by omega) (by decide)).mono ?_
            rintro e u9 ⟨vy, rfl, hy1, hb9⟩
            replace hX := hX.below hb9
            replace hSl := hSl.below hb9
            replace hf1 := hf1.below hb9
            replace hd1 := hd1.below hb9
            replace B1 := B1.below hb9
            replace B2 := B2.below hb9
            replace L1 := L1.below hb9
            replace L2 := L2.below hb9
            replace B5 := B5.below hb9
            replace hbW : Below w.heap.size w u9 := hbW.trans (hb9.mono hbW.size)
            clear hb9
            have hWd := hy1.ct.le (show k + 2 + 1 + 2 ≤ k + 5 by omega)
            obtain ⟨nw, xw, yw, ⟨aw, cw, bw, dw, rfl, _, _⟩, _⟩ := hy1
            clear p00 p01 p02 p10 p11 p12 p20 p21 p30 p31 p40 p41 p42
            obtain ⟨p00, p01, p02, _⟩ := B1.cells
            obtain ⟨p10, p11, p12, _⟩ := B2.cells
            obtain ⟨p20, p21, _⟩ := L1.cells
            obtain ⟨p30, p31, _⟩ := L2.cells
            obtain ⟨p40, p41, p42, _⟩ := B5.cells
            go_wp2_with fail
            refine hK.out _ _ ?_ (fun hHeld => ?_)
            · (try dsimp only)
              exact ⟨p00, p01, p02, p10, p11, p12, p20, p21, p30, p31, p40, p41, p42⟩
            clear hK K
            try simp only [Act.put, List.setIfInBounds_toArray, List.set_cons_zero, List.set_cons_succ]
            refine hCall (i := 7) rfl (by kernel_rfl) (by rfl) (fun K hK => ?_)
            go_simp
            obtain ⟨u10, hU, B6, hb9⟩ : ∃ U, U = u9.alloc (.cells #[.bool false, .slice none 0 0, .slice none 0 0] 44) ∧ Box 44 U u9.heap.size (.bool false) (.slice none 0 0) (.slice none 0 0) ∧ Below u9.heap.size u9 U := ⟨_, rfl, Box.new _ _ _ _ _, al1 _⟩
            rw [← hU]
            clear hU
            have n61 := B1.lt
            have n62 := B2.lt
            have n63 := L1.lt
            have n64 := L2.lt
            have n65 := B5.lt
            replace hX := hX.below hb9
            replace hSl := hSl.below hb9
            replace hf1 := hf1.below hb9
            replace hd1 := hd1.below hb9
            replace hWd := hWd.below hb9
            replace B1 := B1.below hb9
            replace B2 := B2.below hb9
            replace L1 := L1.below hb9
            replace L2 := L2.below hb9
            replace B5 := B5.below hb9
            replace hbW : Below w.heap.size w u10 := hbW.trans (hb9.mono hbW.size)
            clear hb9
            generalize u9.heap.size = g6 at B6 n61 n62 n63 n64 n65 ⊢
            clear p00 p01 p02 p10 p11 p12 p20 p21 p30 p31 p40 p41 p42
            obtain ⟨p00, p01, p02, _⟩ := B1.cells
            obtain ⟨p10, p11, p12, _⟩ := B2.cells
            obtain ⟨p20, p21, _⟩ := L1.cells
            obtain ⟨p30, p31, _⟩ := L2.cells
            obtain ⟨p40, p41, p42, _⟩ := B5.cells
            obtain ⟨p50, p51, p52, _⟩ := B6.cells
            refine hK.out _ _ ?_ (fun hHeld => ?_)
            · (try dsimp only)
              exact ⟨p00, p01, p02, p10, p11, p12, p20, p21, p30, p31, p40, p41, p42⟩
            clear hK K
            try simp only [Act.put, List.setIfInBounds_toArray, List.set_cons_zero, List.set_cons_succ]
            refine hCall (i := 8) rfl (by kernel_rfl) (by rfl) (fun K hK => ?_)
            go_simp
            obtain ⟨u11, hU, A6, hbU, hK9, ho⟩ := set3_world B6 (.bool nw) (.slice aw xw.length cw) (.slice bw yw.length dw)
            rw [← hU]
            clear hU
            replace hbW := hbU _ _ hbW (by omega)
            replace hX := hX.keep hK9
            replace hSl := hSl.keep hK9
            replace hWd := hWd.keep hK9
            replace B1 := B1.other ho (by omega)
            replace B2 := B2.other ho (by omega)
            replace L1 := L1.other ho (by omega)
            replace L2 := L2.other ho (by omega)
            replace B5 := B5.other ho (by omega)
            clear hbU hK9 ho
            clear p00 p01 p02 p10 p11 p12 p20 p21 p30 p31 p40 p41 p42 p50 p51 p52
            obtain ⟨p00, p01, p02, _⟩ := B1.cells
            obtain ⟨p10, p11, p12, _⟩ := B2.cells
            obtain ⟨p20, p21, _⟩ := L1.cells
            obtain ⟨p30, p31, _⟩ := L2.cells
            obtain ⟨p40, p41, p42, _⟩ := B5.cells
            obtain ⟨p50, p51, p52, _⟩ := A6.cells
            refine hK.out _ _ ?_ (fun hHeld => ?_)
            · (try dsimp only)
              exact ⟨p00, p01, p02, p10, p11, p12, p20, p21, p30, p31, p40, p41, p42⟩
            clear hK K
            try simp only [Act.put, List.setIfInBounds_toArray, List.set_cons_zero, List.set_cons_succ]
            refine wpAnyH_done (by kernel_rfl) ?_ _
            clear hHeld
            go_wp2_with fail
            clear p00 p01 p02 p10 p11 p12 p20 p21 p30 p31 p40 p41 p42 p50 p51 p52
            obtain ⟨p00, p01, p02, _⟩ := B1.cells
            obtain ⟨p10, p11, _⟩ := L1.cells
            obtain ⟨p20, p21, _⟩ := L2.cells
            obtain ⟨p30, p31, p32, _⟩ := B5.cells
            obtain ⟨p40, p41, p42, _⟩ := A6.cells
            refine wp_region_held_drew (S := (fun u => u.cell? ⟨w.heap.size, 0, none⟩ = some (.bool n) ∧ u.cell? ⟨w.heap.size, 1, none⟩ = some (.slice a1 xs.length c) ∧ u.cell? ⟨w.heap.size, 2, none⟩ = some (.slice a' ys.length c') ∧ u.cell? ⟨g, 0, none⟩ = some (.int .i64 x0) ∧ u.cell? ⟨g, 1, none⟩ = some (.int .i64 y0) ∧ u.cell? ⟨(g + 1), 0, none⟩ = some (.int .i64 x1) ∧ u.cell? ⟨(g + 1), 1, none⟩ = some (.int .i64 y1) ∧ u.cell? ⟨g5, 0, none⟩ = some (.bool ns) ∧ u.cell? ⟨g5, 1, none⟩ = some (.slice as1 xs1.length cs1) ∧ u.cell? ⟨g5, 2, none⟩ = some (.slice bs1 ys1.length ds1) ∧ u.cell? ⟨g6, 0, none⟩ = some (.bool nw) ∧ u.cell? ⟨g6, 1, none⟩ = some (.slice aw xw.length cw) ∧ u.cell? ⟨g6, 2, none⟩ = some (.slice bw yw.length dw))) (by kernel_rfl) ?_ (fun hHeld => ?_)
            · (try dsimp only)
              go_keep
            have hdr : Below u11.heap.size u11 u11.drew := Below.drew1
            generalize u11.drew = ud14 at hdr hHeld ⊢
            replace hX := hX.below hdr
            replace hSl := hSl.below hdr
            replace hWd := hWd.below hdr
            replace B2 := B2.below hdr
            replace B1 := B1.below hdr
            replace L1 := L1.below hdr
            replace L2 := L2.below hdr
            replace B5 := B5.below hdr
            replace A6 := A6.below hdr
            replace hbW : Below w.heap.size w ud14 := hbW.trans (hdr.mono hbW.size)
            clear hdr
            clear p00 p01 p02 p10 p11 p20 p21 p30 p31 p32 p40 p41 p42
            obtain ⟨p00, p01, p02, _⟩ := B1.cells
            obtain ⟨p10, p11, _⟩ := L1.cells
            obtain ⟨p20, p21, _⟩ := L2.cells
            obtain ⟨p30, p31, p32, _⟩ := B5.cells
            obtain ⟨p40, p41, p42, _⟩ := A6.cells
            refine hT 0 hHeld ?_
            refine hT 1 hHeld ?_
            refine hT 3 hHeld ?_
            refine hCall (i := 2) rfl (by kernel_rfl) (by rfl) (fun K hK => ?_)
            go_simp
            refine (of14_any y0 _ (by omega) (by omega)).mono ?_
            rintro e u12 ⟨vt, rfl, hT1, hb12⟩
            replace hX := hX.below hb12
            replace hSl := hSl.below hb12
            replace hWd := hWd.below hb12
            replace B2 := B2.below hb12
            replace B1 := B1.below hb12
            replace L1 := L1.below hb12
            replace L2 := L2.below hb12
            replace B5 := B5.below hb12
            replace A6 := A6.below hb12
            replace hbW : Below w.heap.size w u12 := hbW.trans (hb12.mono hbW.size)
            clear hb12
            clear p00 p01 p02 p10 p11 p20 p21 p30 p31 p32 p40 p41 p42
            obtain ⟨p00, p01, p02, _⟩ := B1.cells
            obtain ⟨p10, p11, _⟩ := L1.cells
            obtain ⟨p20, p21, _⟩ := L2.cells
            obtain ⟨p30, p31, p32, _⟩ := B5.cells
            obtain ⟨p40, p41, p42, _⟩ := A6.cells
            go_wp2_with fail
            refine hK.out _ _ ?_ (fun hHeld => ?_)
            · (try dsimp only)
              exact ⟨p00, p01, p02, p10, p11, p20, p21, p30, p31, p32, p40, p41, p42⟩
            clear hK K
            try simp only [Act.put, List.setIfInBounds_toArray, List.set_cons_zero, List.set_cons_succ]
            refine hCall (i := 4) rfl (by kernel_rfl) (by rfl) (fun K hK => ?_)
            go_simp
            refine (qadd_any 2 (k + 5) (((y0 : Int) : Rat) / ((16384 : Int) : Rat)) ((q - ((x0 : Int) : Rat) / ((16384 : Int) : Rat)) * (((y1 - y0 : Int) : Rat) / ((x1 - x0 : Int) : Rat))) _ _ _ hT1.ct hWd (by decide) (by omega) (by decide) (by omega)).mono ?_
            rintro e u13 ⟨vr, rfl, hR, hb13⟩
            replace hX := hX.below hb13
            replace hSl := hSl.below hb13
            replace hWd := hWd.below hb13
            replace B2 := B2.below hb13
            replace hT1 := hT1.below hb13
            replace B1 := B1.below hb13
            replace L1 := L1.below hb13
            replace L2 := L2.below hb13
            replace B5 := B5.below hb13
            replace A6 := A6.below hb13
            replace hbW : Below w.heap.size w u13 := hbW.trans (hb13.mono hbW.size)
            clear hb13
            replace hR := (hR.eq HQ.out.symm).le (show 2 + (k + 5) + 1 ≤ k + 8 by omega)
            clear p00 p01 p02 p10 p11 p20 p21 p30 p31 p32 p40 p41 p42
            obtain ⟨p00, p01, p02, _⟩ := B1.cells
            obtain ⟨p10, p11, _⟩ := L1.cells
            obtain ⟨p20, p21, _⟩ := L2.cells
            obtain ⟨p30, p31, p32, _⟩ := B5.cells
            obtain ⟨p40, p41, p42, _⟩ := A6.cells
            go_wp2_with fail
            refine hK.out _ _ ?_ (fun hHeld => ?_)
            · (try dsimp only)
              exact ⟨p00, p01, p02, p10, p11, p20, p21, p30, p31, p32, p40, p41, p42⟩
            clear hK K
            try simp only [Act.put, List.setIfInBounds_toArray, List.set_cons_zero, List.set_cons_succ]
            refine hCall (i := 5) rfl (by kernel_rfl) (by rfl) (fun K hK => ?_)
            go_simp
            obtain ⟨q1, q2, q3, q4, q5, q6⟩ := B2.cells
            obtain ⟨nr, xr, yr, ⟨ar, cr, br, dr, rfl, hxr, hyr⟩, hFr⟩ := hR
            go_simp
            obtain ⟨u14, hU, A2, hbU, hK9, ho⟩ := set3_world B2 (.bool nr) (.slice ar xr.length cr) (.slice br yr.length dr)
            rw [← hU]
            clear hU q1 q2 q3 q4 q5 q6
            replace hbW := hbU _ _ hbW (by omega)
            replace hxr := hK9 _ _ _ hxr
            replace hyr := hK9 _ _ _ hyr
            replace B1 := B1.other ho (by omega)
            replace L1 := L1.other ho (by omega)
            replace L2 := L2.other ho (by omega)
            replace B5 := B5.other ho (by omega)
            replace A6 := A6.other ho (by omega)
            clear hbU hK9 ho
            clear p00 p01 p02 p10 p11 p20 p21 p30 p31 p32 p40 p41 p42
            obtain ⟨p00, p01, p02, _⟩ := B1.cells
            obtain ⟨p10, p11, _⟩ := L1.cells
            obtain ⟨p20, p21, _⟩ := L2.cells
            obtain ⟨p30, p31, p32, _⟩ := B5.cells
            obtain ⟨p40, p41, p42, _⟩ := A6.cells
            refine hK.out _ _ ?_ (fun hHeld => ?_)
            · (try dsimp only)
              exact ⟨p00, p01, p02, p10, p11, p20, p21, p30, p31, p32, p40, p41, p42⟩
            clear hK K
            try simp only [Act.put, List.setIfInBounds_toArray, List.set_cons_zero, List.set_cons_succ]
            refine wpAnyH_done (by kernel_rfl) ?_ _
            go_wp2
            refine bodyPost_ret (by obtain ⟨r1, r2, r3, _⟩ := A2.cells; simp [results, Try.results22, go_sem, r1, r2, r3]) rfl ⟨_, rfl, ⟨_, _, _, ⟨_, _, _, _, rfl, hxr, hyr⟩, hFr⟩, hbW⟩
          · go_simp
            obtain ⟨u9, hU, B6, hb9⟩ : ∃ U, U = u8.alloc (.cells #[.bool false, .slice none 0 0, .slice none 0 0] 44) ∧ Box 44 U u8.heap.size (.bool false) (.slice none 0 0) (.slice none 0 0) ∧ Below u8.heap.size u8 U := ⟨_, rfl, Box.new _ _ _ _ _, al1 _⟩
            rw [← hU]
            clear hU
            have n61 := B1.lt
            have n62 := B2.lt
            have n63 := L1.lt
            have n64 := L2.lt
            have n65 := B5.lt
            replace hX := hX.below hb9
            replace hSl := hSl.below hb9
            replace hf1 := hf1.below hb9
            replace hd1 := hd1.below hb9
            replace B1 := B1.below hb9
            replace B2 := B2.below hb9
            replace L1 := L1.below hb9
            replace L2 := L2.below hb9
            replace B5 := B5.below hb9
            replace hbW : Below w.heap.size w u9 := hbW.trans (hb9.mono hbW.size)
            clear hb9
            generalize u8.heap.size = g6 at B6 n61 n62 n63 n64 n65 ⊢
            clear p00 p01 p02 p10 p11 p12 p20 p21 p30 p31 p40 p41 p42
            obtain ⟨p00, p01, p02, _⟩ := B1.cells
            obtain ⟨p10, p11, p12, _⟩ := B2.cells
            obtain ⟨p20, p21, _⟩ := L1.cells
            obtain ⟨p30, p31, _⟩ := L2.cells
            obtain ⟨p40, p41, p42, _⟩ := B5.cells
            obtain ⟨p50, p51, p52, _⟩ := B6.cells
            refine hK.out _ _ ?_ (fun hHeld => ?_)
            · (try dsimp only)
              exact ⟨p00, p01, p02, p10, p11, p12, p20, p21, p30, p31, p40, p41, p42⟩
            clear hK K
            try simp only [Act.put, List.setIfInBounds_toArray, List.set_cons_zero, List.set_cons_succ]
            refine hCall (i := 6) rfl (by kernel_rfl) (by rfl) (fun K hK => ?_)
            go_simp
            refine (qmul_any (k + 2 + 1) 2 (q - ((x0 : Int) : Rat) / ((16384 : Int) : Rat)) (((y1 - y0 : Int) : Rat) / ((x1 - x0 : Int) : Rat)) _ _ _ hd1.ct hSl (by omega) (by decide) (by omega) (by decide)).mono ?_
            rintro e u10 ⟨vy, rfl, hy1, hb10⟩
            replace hX := hX.below hb10
            replace hSl := hSl.below hb10
            replace hf1 := hf1.below hb10
            replace hd1 := hd1.below hb10
            replace B1 := B1.below hb10
            replace B2 := B2.below hb10
            replace L1 := L1.below hb10
            replace L2 := L2.below hb10
            replace B5 := B5.below hb10
            replace B6 := B6.below hb10
            replace hbW : Below w.heap.size w u10 := hbW.trans (hb10.mono hbW.size)
            clear hb10
            have hWd := hy1.ct.le (show k + 2 + 1 + 2 ≤ k + 5 by omega)
            obtain ⟨nw, xw, yw, ⟨aw, cw, bw, dw, rfl, _, _⟩, _⟩ := hy1
            clear p00 p01 p02 p10 p11 p12 p20 p21 p30 p31 p40 p41 p42 p50 p51 p52
            obtain ⟨p00, p01, p02, _⟩ := B1.cells
            obtain ⟨p10, p11, p12, _⟩ := B2.cells
            obtain ⟨p20, p21, _⟩ := L1.cells
            obtain ⟨p30, p31, _⟩ := L2.cells
            obtain ⟨p40, p41, p42, _⟩ := B5.cells
            obtain ⟨p50, p51, p52, _⟩ := B6.cells
            go_wp2_with fail
            refine hK.out _ _ ?_ (fun hHeld => ?_)
            · (try dsimp only)
              exact ⟨p00, p01, p02, p10, p11, p12, p20, p21, p30, p31, p40, p41, p42⟩
            clear hK K
            try simp only [Act.put, List.setIfInBounds_toArray, List.set_cons_zero, List.set_cons_succ]
            refine hCall (i := 8) rfl (by kernel_rfl) (by rfl) (fun K hK => ?_)
            go_simp
            obtain ⟨u11, hU, A6, hbU, hK9, ho⟩ := set3_world B6 (.bool nw) (.slice aw xw.length cw) (.slice bw yw.length dw)
            rw [← hU]
            clear hU
            replace hbW := hbU _ _ hbW (by omega)
            replace hX := hX.keep hK9
            replace hSl := hSl.keep hK9
            replace hWd := hWd.keep hK9
            replace B1 := B1.other ho (by omega)
            replace B2 := B2.other ho (by omega)
            replace L1 := L1.other ho (by omega)
            replace L2 := L2.other ho (by omega)
            replace B5 := B5.other ho (by omega)
            clear hbU hK9 ho
            clear p00 p01 p02 p10 p11 p12 p20 p21 p30 p31 p40 p41 p42 p50 p51 p52
            obtain ⟨p00, p01, p02, _⟩ := B1.cells
            obtain ⟨p10, p11, p12, _⟩ := B2.cells
            obtain ⟨p20, p21, _⟩ := L1.cells
            obtain ⟨p30, p31, _⟩ := L2.cells
            obtain ⟨p40, p41, p42, _⟩ := B5.cells
            obtain ⟨p50, p51, p52, _⟩ := A6.cells
            refine hK.out _ _ ?_ (fun hHeld => ?_)
            · (try dsimp only)
              exact ⟨p00, p01, p02, p10, p11, p12, p20, p21, p30, p31, p40, p41, p42⟩
            clear hK K
            try simp only [Act.put, List.setIfInBounds_toArray, List.set_cons_zero, List.set_cons_succ]
            refine wpAnyH_done (by kernel_rfl) ?_ _
            clear hHeld
            go_wp2_with fail
            clear p00 p01 p02 p10 p11 p12 p20 p21 p30 p31 p40 p41 p42 p50 p51 p52
            obtain ⟨p00, p01, p02, _⟩ := B1.cells
            obtain ⟨p10, p11, _⟩ := L1.cells
            obtain ⟨p20, p21, _⟩ := L2.cells
            obtain ⟨p30, p31, p32, _⟩ := B5.cells
            obtain ⟨p40, p41, p42, _⟩ := A6.cells
            refine wp_region_held_drew (S := (fun u => u.cell? ⟨w.heap.size, 0, none⟩ = some (.bool n) ∧ u.cell? ⟨w.heap.size, 1, none⟩ = some (.slice a1 xs.length c) ∧ u.cell? ⟨w.heap.size, 2, none⟩ = some (.slice a' ys.length c') ∧ u.cell? ⟨g, 0, none⟩ = some (.int .i64 x0) ∧ u.cell? ⟨g, 1, none⟩ = some (.int .i64 y0) ∧ u.cell? ⟨(g + 1), 0, none⟩ = some (.int .i64 x1) ∧ u.cell? ⟨(g + 1), 1, none⟩ = some (.int .i64 y1) ∧ u.cell? ⟨g5, 0, none⟩ = some (.bool ns) ∧ u.cell? ⟨g5, 1, none⟩ = some (.slice as1 xs1.length cs1) ∧ u.cell? ⟨g5, 2, none⟩ = some (.slice bs1 ys1.length ds1) ∧ u.cell? ⟨g6, 0, none⟩ = some (.bool nw) ∧ u.cell? ⟨g6, 1, none⟩ = some (.slice aw xw.length cw) ∧ u.cell? ⟨g6, 2, none⟩ = some (.slice bw yw.length dw))) (by kernel_rfl) ?_ (fun hHeld => ?_)
            · (try dsimp only)
              go_keep
            have hdr : Below u11.heap.size u11 u11.drew := Below.drew1
            generalize u11.drew = ud15 at hdr hHeld ⊢
            replace hX := hX.below hdr
            replace hSl := hSl.below hdr
            replace hWd := hWd.below hdr
            replace B2 := B2.below hdr
            replace B1 := B1.below hdr
            replace L1 := L1.below hdr
            replace L2 := L2.below hdr
            replace B5 := B5.below hdr
            replace A6 := A6.below hdr
            replace hbW : Below w.heap.size w ud15 := hbW.trans (hdr.mono hbW.size)
            clear hdr
            clear p00 p01 p02 p10 p11 p20 p21 p30 p31 p32 p40 p41 p42
            obtain ⟨p00, p01, p02, _⟩ := B1.cells
            obtain ⟨p10, p11, _⟩ := L1.cells
            obtain ⟨p20, p21, _⟩ := L2.cells
            obtain ⟨p30, p31, p32, _⟩ := B5.cells
            obtain ⟨p40, p41, p42, _⟩ := A6.cells
            refine hT 0 hHeld ?_
            refine hT 1 hHeld ?_
            refine hT 3 hHeld ?_
            refine hCall (i := 2) rfl (by kernel_rfl) (by rfl) (fun K hK => ?_)
            go_simp
            refine (of14_any y0 _ (by omega) (by omega)).mono ?_
            rintro e u12 ⟨vt, rfl, hT1, hb12⟩
            replace hX := hX.below hb12
            replace hSl := hSl.below hb12
            replace hWd := hWd.below hb12
            replace B2 := B2.below hb12
            replace B1 := B1.below hb12
            replace L1 := L1.below hb12
            replace L2 := L2.below hb12
            replace B5 := B5.below hb12
            replace A6 := A6.below hb12
            replace hbW : Below w.heap.size w u12 := hbW.trans (hb12.mono hbW.size)
            clear hb12
            clear p00 p01 p02 p10 p11 p20 p21 p30 p31 p32 p40 p41 p42
            obtain ⟨p00, p01, p02, _⟩ := B1.cells
            obtain ⟨p10, p11, _⟩ := L1.cells
            obtain ⟨p20, p21, _⟩ := L2.cells
            obtain ⟨p30, p31, p32, _⟩ := B5.cells
            obtain ⟨p40, p41, p42, _⟩ := A6.cells
            go_wp2_with fail
            refine hK.out _ _ ?_ (fun hHeld => ?_)
            · (try dsimp only)
              exact ⟨p00, p01, p02, p10, p11, p20, p21, p30, p31, p32, p40, p41, p42⟩
            clear hK K
            try simp only [Act.put, List.setIfInBounds_toArray, List.set_cons_zero, List.set_cons_succ]
            refine hCall (i := 4) rfl (by kernel_rfl) (by rfl) (fun K hK => ?_)
            go_simp
            refine (qadd_any 2 (k + 5) (((y0 : Int) : Rat) / ((16384 : Int) : Rat)) ((q - ((x0 : Int) : Rat) / ((16384 : Int) : Rat)) * (((y1 - y0 : Int) : Rat) / ((x1 - x0 : Int) : Rat))) _ _ _ hT1.ct hWd (by decide) (by omega) (by decide) (by omega)).mono ?_
            rintro e u13 ⟨vr, rfl, hR, hb13⟩
            replace hX := hX.below hb13
            replace hSl := hSl.below hb13
            replace hWd := hWd.below hb13
            replace B2 := B2.below hb13
            replace hT1 := hT1.below hb13
            replace B1 := B1.below hb13
            replace L1 := L1.below hb13
            replace L2 := L2.below hb13
            replace B5 := B5.below hb13
            replace A6 := A6.below hb13
            replace hbW : Below w.heap.size w u13 := hbW.trans (hb13.mono hbW.size)
            clear hb13
            replace hR := (hR.eq HQ.out.symm).le (show 2 + (k + 5) + 1 ≤ k + 8 by omega)
            clear p00 p01 p02 p10 p11 p20 p21 p30 p31 p32 p40 p41 p42
            obtain ⟨p00, p01, p02, _⟩ := B1.cells
            obtain ⟨p10, p11, _⟩ := L1.cells
            obtain ⟨p20, p21, _⟩ := L2.cells
            obtain ⟨p30, p31, p32, _⟩ := B5.cells
            obtain ⟨p40, p41, p42, _⟩ := A6.cells
            go_wp2_with fail
            refine hK.out _ _ ?_ (fun hHeld => ?_)
            · (try dsimp only)
              exact ⟨p00, p01, p02, p10, p11, p20, p21, p30, p31, p32, p40, p41, p42⟩
            clear hK K
            try simp only [Act.put, List.setIfInBounds_toArray, List.set_cons_zero, List.set_cons_succ]
            refine hCall (i := 5) rfl (by kernel_rfl) (by rfl) (fun K hK => ?_)
            go_simp
            obtain ⟨q1, q2, q3, q4, q5, q6⟩ := B2.cells
            obtain ⟨nr, xr, yr, ⟨ar, cr, br, dr, rfl, hxr, hyr⟩, hFr⟩ := hR
            go_simp
            obtain ⟨u14, hU, A2, hbU, hK9, ho⟩ := set3_world B2 (.bool nr) (.slice ar xr.length cr) (.slice br yr.length dr)
            rw [← hU]
            clear hU q1 q2 q3 q4 q5 q6
            replace hbW := hbU _ _ hbW (by omega)
            replace hxr := hK9 _ _ _ hxr
            replace hyr := hK9 _ _ _ hyr
            replace B1 := B1.other ho (by omega)
            replace L1 := L1.other ho (by omega)
            replace L2 := L2.other ho (by omega)
            replace B5 := B5.other ho (by omega)
            replace A6 := A6.other ho (by omega)
            clear hbU hK9 ho
            clear p00 p01 p02 p10 p11 p20 p21 p30 p31 p32 p40 p41 p42
            obtain ⟨p00, p01, p02, _⟩ := B1.cells
            obtain ⟨p10, p11, _⟩ := L1.cells
            obtain ⟨p20, p21, _⟩ := L2.cells
            obtain ⟨p30, p31, p32, _⟩ := B5.cells
            obtain ⟨p40, p41, p42, _⟩ := A6.cells
            refine hK.out _ _ ?_ (fun hHeld => ?_)
            · (try dsimp only)
              exact ⟨p00, p01, p02, p10, p11, p20, p21, p30, p31, p32, p40, p41, p42⟩
            clear hK K
            try simp only [Act.put, List.setIfInBounds_toArray, List.set_cons_zero, List.set_cons_succ]
            refine wpAnyH_done (by kernel_rfl) ?_ _
            go_wp2
            refine bodyPost_ret (by obtain ⟨r1, r2, r3, _⟩ := A2.cells; simp [results, Try.results22, go_sem, r1, r2, r3]) rfl ⟨_, rfl, ⟨_, _, _, ⟨_, _, _, _, rfl, hxr, hyr⟩, hFr⟩, hbW⟩
        · go_simp
          obtain ⟨u8, hU, B6, hb9⟩ : ∃ U, U = u7.alloc (.cells #[.bool false, .slice none 0 0, .slice none 0 0] 44) ∧ Box 44 U u7.heap.size (.bool false) (.slice none 0 0) (.slice none 0 0) ∧ Below u7.heap.size u7 U := ⟨_, rfl, Box.new _ _ _ _ _, al1 _⟩
          rw [← hU]
          clear hU
          have n61 := B1.lt
          have n62 := B2.lt
          have n63 := L1.lt
          have n64 := L2.lt
          have n65 := B5.lt
          replace hX := hX.below hb9
          replace hSl := hSl.below hb9
          replace hf1 := hf1.below hb9
          replace B1 := B1.below hb9
          replace B2 := B2.below hb9
          replace L1 := L1.below hb9
          replace L2 := L2.below hb9
          replace B5 := B5.below hb9
          replace hbW : Below w.heap.size w u8 := hbW.trans (hb9.mono hbW.size)
          clear hb9
          generalize u7.heap.size = g6 at B6 n61 n62 n63 n64 n65 ⊢
          clear p00 p01 p02 p10 p11 p12 p20 p21 p30 p31 p40 p41 p42
          obtain ⟨p00, p01, p02, _⟩ := B1.cells
          obtain ⟨p10, p11, p12, _⟩ := B2.cells
          obtain ⟨p20, p21, _⟩ := L1.cells
          obtain ⟨p30, p31, _⟩ := L2.cells
          obtain ⟨p40, p41, p42, _⟩ := B5.cells
          obtain ⟨p50, p51, p52, _⟩ := B6.cells
          refine hK.out _ _ ?_ (fun hHeld => ?_)
          · (try dsimp only)
            exact ⟨p00, p01, p02, p10, p11, p12, p20, p21, p30, p31, p40, p41, p42⟩
          clear hK K
          try simp only [Act.put, List.setIfInBounds_toArray, List.set_cons_zero, List.set_cons_succ]
          refine hCall (i := 4) rfl (by kernel_rfl) (by rfl) (fun K hK => ?_)
          go_simp
          refine (qsub_any k 2 q (((x0 : Int) : Rat) / ((16384 : Int) : Rat)) _ _ _ hX hf1.ct hk (by decide) hk2 (by decide)).mono ?_
          rintro e u9 ⟨vd, rfl, hd1, hb9⟩
          replace hX := hX.below hb9
          replace hSl := hSl.below hb9
          replace hf1 := hf1.below hb9
          replace B1 := B1.below hb9
          replace B2 := B2.below hb9
          replace L1 := L1.below hb9
          replace L2 := L2.below hb9
          replace B5 := B5.below hb9
          replace B6 := B6.below hb9
          replace hbW : Below w.heap.size w u9 := hbW.trans (hb9.mono hbW.size)
          clear hb9
          clear p00 p01 p02 p10 p11 p12 p20 p21 p30 p31 p40 p41 p42 p50 p51 p52
          obtain ⟨p00, p01, p02, _⟩ := B1.cells
          obtain ⟨p10, p11, p12, _⟩ := B2.cells
          obtain ⟨p20, p21, _⟩ := L1.cells
          obtain ⟨p30, p31, _⟩ := L2.cells
          obtain ⟨p40, p41, p42, _⟩ := B5.cells
          obtain ⟨p50, p51, p52, _⟩ := B6.cells
          go_wp2_with fail
          refine hK.out _ _ ?_ (fun hHeld => ?_)
          · (try dsimp only)
            exact ⟨p00, p01, p02, p10, p11, p12, p20, p21, p30, p31, p40, p41, p42⟩
          clear hK K
          try simp only [Act.put, List.setIfInBounds_toArray, List.set_cons_zero, List.set_cons_succ]
          refine hCall (i := 6) rfl (by kernel_rfl) (by rfl) (fun K hK => ?_)
          go_simp
          refine (qmul_any (k + 2 + 1) 2 (q - ((x0 : Int) : Rat) / ((16384 : Int) : Rat)) (((y1 - y0 : Int) : Rat) / ((x1 - x0 : Int) : Rat)) _ _ _ hd1.ct hSl (by omega) (by decide) (by omega) (by decide)).mono ?_
          rintro e u10 ⟨vy, rfl, hy1, hb10⟩
          replace hX := hX.below hb10
          replace hSl := hSl.below hb10
          replace hf1 := hf1.below hb10
          replace hd1 := hd1.below hb10
          replace B1 := B1.below hb10
          replace B2 := B2.below hb10
          replace L1 := L1.below hb10
          replace L2 := L2.below hb10
          replace B5 := B5.below hb10
          replace B6 := B6.below hb10
          replace hbW : Below w.heap.size w u10 := hbW.trans (hb10.mono hbW.size)
          clear hb10
          have hWd := hy1.ct.le (show k + 2 + 1 + 2 ≤ k + 5 by omega)
          obtain ⟨nw, xw, yw, ⟨aw, cw, bw, dw, rfl, _, _⟩, _⟩ := hy1
          clear p00 p01 p02 p10 p11 p12 p20 p21 p30 p31 p40 p41 p42 p50 p51 p52
          obtain ⟨p00, p01, p02, _⟩ := B1.cells
          obtain ⟨p10, p11, p12, _⟩ := B2.cells
          obtain ⟨p20, p21, _⟩ := L1.cells
          obtain ⟨p30, p31, _⟩ := L2.cells
          obtain ⟨p40, p41, p42, _⟩ := B5.cells
          obtain ⟨p50, p51, p52, _⟩ := B6.cells
          go_wp2_with fail
          refine hK.out _ _ ?_ (fun hHeld => ?_)
          · (try dsimp only)
            exact ⟨p00, p01, p02, p10, p11, p12, p20, p21, p30, p31, p40, p41, p42⟩
          clear hK K
          try simp only [Act.put, List.setIfInBounds_toArray, List.set_cons_zero, List.set_cons_succ]
          refine hCall (i := 8) rfl (by kernel_rfl) (by rfl) (fun K hK => ?_)
          go_simp
          obtain ⟨u11, hU, A6, hbU, hK9, ho⟩ := set3_world B6 (.bool nw) (.slice aw xw.length cw) (.slice bw yw.length dw)
          rw [← hU]
          clear hU
          replace hbW := hbU _ _ hbW (by omega)
          replace hX := hX.keep hK9
          replace hSl := hSl.keep hK9
          replace hWd := hWd.keep hK9
          replace B1 := B1.other ho (by omega)
          replace B2 := B2.other ho (by omega)
          replace L1 := L1.other ho (by omega)
          replace L2 := L2.other ho (by omega)
          replace B5 := B5.other ho (by omega)
          clear hbU hK9 ho
          clear p00 p01 p02 p10 p11 p12 p20 p21 p30 p31 p40 p41 p42 p50 p51 p52
          obtain ⟨p00, p01, p02, _⟩ := B1.cells
          obtain ⟨p10, p11, p12, _⟩ := B2.cells
          obtain ⟨p20, p21, _⟩ := L1.cells
          obtain ⟨p30, p31, _⟩ := L2.cells
          obtain ⟨p40, p41, p42, _⟩ := B5.cells
          obtain ⟨p50, p51, p52, _⟩ := A6.cells
          refine hK.out _ _ ?_ (fun hHeld => ?_)
          · (try dsimp only)
            exact ⟨p00, p01, p02, p10, p11, p12, p20, p21, p30, p31, p40, p41, p42⟩
          clear hK K
          try simp only [Act.put, List.setIfInBounds_toArray, List.set_cons_zero, List.set_cons_succ]
          refine wpAnyH_done (by kernel_rfl) ?_ _
          clear hHeld
          go_wp2_with fail
          clear p00 p01 p02 p10 p11 p12 p20 p21 p30 p31 p40 p41 p42 p50 p51 p52
          obtain ⟨p00, p01, p02, _⟩ := B1.cells
          obtain ⟨p10, p11, _⟩ := L1.cells
          obtain ⟨p20, p21, _⟩ := L2.cells
          obtain ⟨p30, p31, p32, _⟩ := B5.cells
          obtain ⟨p40, p41, p42, _⟩ := A6.cells
          refine wp_region_held_drew (S := (fun u => u.cell? ⟨w.heap.size, 0, none⟩ = some (.bool n) ∧ u.cell? ⟨w.heap.size, 1, none⟩ = some (.slice a1 xs.length c) ∧ u.cell? ⟨w.heap.size, 2, none⟩ = some (.slice a' ys.length c') ∧ u.cell? ⟨g, 0, none⟩ = some (.int .i64 x0) ∧ u.cell? ⟨g, 1, none⟩ = some (.int .i64 y0) ∧ u.cell? ⟨(g + 1), 0, none⟩ = some (.int .i64 x1) ∧ u.cell? ⟨(g + 1), 1, none⟩ = some (.int .i64 y1) ∧ u.cell? ⟨g5, 0, none⟩ = some (.bool ns) ∧ u.cell? ⟨g5, 1, none⟩ = some (.slice as1 xs1.length cs1) ∧ u.cell? ⟨g5, 2, none⟩ = some (.slice bs1 ys1.length ds1) ∧ u.cell? ⟨g6, 0, none⟩ = some (.bool nw) ∧ u.cell? ⟨g6, 1, none⟩ = some (.slice aw xw.length cw) ∧ u.cell? ⟨g6, 2, none⟩ = some (.slice bw yw.length dw))) (by kernel_rfl) ?_ (fun hHeld => ?_)
          · (try dsimp only)
            go_keep
          have hdr : Below u11.heap.size u11 u11.drew := Below.drew1
          generalize u11.drew = ud16 at hdr hHeld ⊢
          replace hX := hX.below hdr
          replace hSl := hSl.below hdr
          replace hWd := hWd.below hdr
          replace B2 := B2.below hdr
          replace B1 := B1.below hdr
          replace L1 := L1.below hdr
          replace L2 := L2.below hdr
          replace B5 := B5.below hdr
          replace A6 := A6.below hdr
          replace hbW : Below w.heap.size w ud16 := hbW.trans (hdr.mono hbW.size)
          clear hdr
          clear p00 p01 p02 p10 p11 p20 p21 p30 p31 p32 p40 p41 p42
          obtain ⟨p00, p01, p02, _⟩ := B1.cells
          obtain ⟨p10, p11, _⟩ := L1.cells
          obtain ⟨p20, p21, _⟩ := L2.cells
          obtain ⟨p30, p31, p32, _⟩ := B5.cells
          obtain ⟨p40, p41, p42, _⟩ := A6.cells
          refine hT 0 hHeld ?_
          refine hT 1 hHeld ?_
          refine hT 3 hHeld ?_
          refine hCall (i := 2) rfl (by kernel_rfl) (by rfl) (fun K hK => ?_)
          go_simp
          refine (of14_any y0 _ (by omega) (by omega)).mono ?_
          rintro e u12 ⟨vt, rfl, hT1, hb12⟩
          replace hX := hX.below hb12
          replace hSl := hSl.below hb12
          replace hWd := hWd.below hb12
          replace B2 := B2.below hb12
          replace B1 := B1.below hb12
          replace L1 := L1.below hb12
          replace L2 := L2.below hb12
          replace B5 := B5.below hb12
          replace A6 := A6.below hb12
          replace hbW : Below w.heap.size w u12 := hbW.trans (hb12.mono hbW.size)
          clear hb12
          clear p00 p01 p02 p10 p11 p20 p21 p30 p31 p32 p40 p41 p42
          obtain ⟨p00, p01, p02, _⟩ := B1.cells
          obtain ⟨p10, p11, _⟩ := L1.cells
          obtain ⟨p20, p21, _⟩ := L2.cells
          obtain ⟨p30, p31, p32, _⟩ := B5.cells
          obtain ⟨p40, p41, p42, _⟩ := A6.cells
          go_wp2_with fail
          refine hK.out _ _ ?_ (fun hHeld => ?_)
          · (try dsimp only)
            exact ⟨p00, p01, p02, p10, p11, p20, p21, p30, p31, p32, p40, p41, p42⟩
          clear hK K
          try simp only [Act.put, List.setIfInBounds_toArray, List.set_cons_zero, List.set_cons_succ]
          refine hCall (i := 4) rfl (by kernel_rfl) (by rfl) (fun K hK => ?_)
          go_simp
          refine (qadd_any 2 (k + 5) (((y0 : Int) : Rat) / ((16384 : Int) : Rat)) ((q - ((x0 : Int) : Rat) / ((16384 : Int) : Rat)) * (((y1 - y0 : Int) : Rat) / ((x1 - x0 : Int) : Rat))) _ _ _ hT1.ct hWd (by decide) (by omega) (by decide) (by omega)).mono ?_
          rintro e u13 ⟨vr, rfl, hR, hb13⟩
          replace hX := hX.below hb13
          replace hSl := hSl.below hb13
          replace hWd := hWd.below hb13
          replace B2 := B2.below hb13
          replace hT1 := hT1.below hb13
          replace B1 := B1.below hb13
          replace L1 := L1.below hb13
          replace L2 := L2.below hb13
          replace B5 := B5.below hb13
          replace A6 := A6.below hb13
          replace hbW : Below w.heap.size w u13 := hbW.trans (hb13.mono hbW.size)
          clear hb13
          replace hR := (hR.eq HQ.out.symm).le (show 2 + (k + 5) + 1 ≤ k + 8 by omega)
          clear p00 p01 p02 p10 p11 p20 p21 p30 p31 p32 p40 p41 p42
          obtain ⟨p00, p01, p02, _⟩ := B1.cells
          obtain ⟨p10, p11, _⟩ := L1.cells
          obtain ⟨p20, p21, _⟩ := L2.cells
          obtain ⟨p30, p31, p32, _⟩ := B5.cells
          obtain ⟨p40, p41, p42, _⟩ := A6.cells
          go_wp2_with fail
          refine hK.out _ _ ?_ (fun hHeld => ?_)
          · (try dsimp only)
            exact ⟨p00, p01, p02, p10, p11, p20, p21, p30, p31, p32, p40, p41, p42⟩
          clear hK K
          try simp only [Act.put, List.setIfInBounds_toArray, List.set_cons_zero, List.set_cons_succ]
          refine hCall (i := 5) rfl (by kernel_rfl) (by rfl) (fun K hK => ?_)
          go_simp
          obtain ⟨q1, q2, q3, q4, q5, q6⟩ := B2.cells
          obtain ⟨nr, xr, yr, ⟨ar, cr, br, dr, rfl, hxr, hyr⟩, hFr⟩ := hR
          go_simp
          obtain ⟨u14, hU, A2, hbU, hK9, ho⟩ := set3_world B2 (.bool nr) (.slice ar xr.length cr) (.slice br yr.length dr)
          rw [← hU]
          clear hU q1 q2 q3 q4 q5 q6
          replace hbW := hbU _ _ hbW (by omega)
          replace hxr := hK9 _ _ _ hxr
          replace hyr := hK9 _ _ _ hyr
          replace B1 := B1.other ho (by omega)
          replace L1 := L1.other ho (by omega)
          replace L2 := L2.other ho (by omega)
          replace B5 := B5.other ho (by omega)
          replace A6 := A6.other ho (by omega)
          clear hbU hK9 ho
          clear p00 p01 p02 p10 p11 p20 p21 p30 p31 p32 p40 p41 p42
          obtain ⟨p00, p01, p02, _⟩ := B1.cells
          obtain ⟨p10, p11, _⟩ := L1.cells
          obtain ⟨p20, p21, _⟩ := L2.cells
          obtain ⟨p30, p31, p32, _⟩ := B5.cells
          obtain ⟨p40, p41, p42, _⟩ := A6.cells
          refine hK.out _ _ ?_ (fun hHeld => ?_)
          · (try dsimp only)
            exact ⟨p00, p01, p02, p10, p11, p20, p21, p30, p31, p32, p40, p41, p42⟩
          clear hK K
          try simp only [Act.put, List.setIfInBounds_toArray, List.set_cons_zero, List.set_cons_succ]
          refine wpAnyH_done (by kernel_rfl) ?_ _
          go_wp2
          refine bodyPost_ret (by obtain ⟨r1, r2, r3, _⟩ := A2.cells; simp [results, Try.results22, go_sem, r1, r2, r3]) rfl ⟨_, rfl, ⟨_, _, _, ⟨_, _, _, _, rfl, hxr, hyr⟩, hFr⟩, hbW⟩
      · go_simp
        obtain ⟨u7, hU, B6, hb9⟩ : ∃ U, U = ud13.alloc (.cells #[.bool false, .slice none 0 0, .slice none 0 0] 44) ∧ Box 44 U ud13.heap.size (.bool false) (.slice none 0 0) (.slice none 0 0) ∧ Below ud13.heap.size ud13 U := ⟨_, rfl, Box.new _ _ _ _ _, al1 _⟩
        rw [← hU]
        clear hU
        have n61 := B1.lt
        have n62 := B2.lt
        have n63 := L1.lt
        have n64 := L2.lt
        have n65 := B5.lt
        replace hX := hX.below hb9
        replace hSl := hSl.below hb9
        replace B1 := B1.below hb9
        replace B2 := B2.below hb9
        replace L1 := L1.below hb9
        replace L2 := L2.below hb9
        replace B5 := B5.below hb9
        replace hbW : Below w.heap.size w u7 := hbW.trans (hb9.mono hbW.size)
        clear hb9
        generalize ud13.heap.size = g6 at B6 n61 n62 n63 n64 n65 ⊢
        clear p00 p01 p02 p10 p11 p12 p20 p21 p30 p31 p40 p41 p42
        obtain ⟨p00, p01, p02, _⟩ := B1.cells
        obtain ⟨p10, p11, p12, _⟩ := B2.cells
        obtain ⟨p20, p21, _⟩ := L1.cells
        obtain ⟨p30, p31, _⟩ := L2.cells
        obtain ⟨p40, p41, p42, _⟩ := B5.cells
        obtain ⟨p50, p51, p52, _⟩ := B6.cells
        refine hK.out _ _ ?_ (fun hHeld => ?_)
        · (try dsimp only)
          exact ⟨p00, p01, p02, p10, p11, p12, p20, p21, p30, p31, p40, p41, p42⟩
        clear hK K
        try simp only [Act.put, List.setIfInBounds_toArray, List.set_cons_zero, List.set_cons_succ]
        refine hCall (i := 3) rfl (by kernel_rfl) (by rfl) (fun K hK => ?_)
        go_simp
        refine (of14_any x0 _ (by omega) (by omega)).mono ?_
        rintro e u8 ⟨vf, rfl, hf1, hb8⟩
        replace hX := hX.below hb8
        replace hSl := hSl.below hb8
        replace B1 := B1.below hb8
        replace B2 := B2.below hb8
        replace L1 := L1.below hb8
        replace L2 := L2.below hb8
        replace B5 := B5.below hb8
        replace B6 := B6.below hb8
        replace hbW : Below w.heap.size w u8 := hbW.trans (hb8.mono hbW.size)
        clear hb8
        clear p00 p01 p02 p10 p11 p12 p20 p21 p30 p31 p40 p41 p42 p50 p51 p52
        obtain ⟨p00, p01, p02, _⟩ := B1.cells
        obtain ⟨p10, p11, p12, _⟩ := B2.cells
        obtain ⟨p20, p21, _⟩ := L1.cells
        obtain ⟨p30, p31, _⟩ := L2.cells
        obtain ⟨p40, p41, p42, _⟩ := B5.cells
        obtain ⟨p50, p51, p52, _⟩ := B6.cells
        go_wp2_with fail
        refine hK.out _ _ ?_ (fun hHeld => ?_)
        · (try dsimp only)
          exact ⟨p00, p01, p02, p10, p11, p12, p20, p21, p30, p31, p40, p41, p42⟩
        clear hK K
        try simp only [Act.put, List.setIfInBounds_toArray, List.set_cons_zero, List.set_cons_succ]
        refine hCall (i := 4) rfl (by kernel_rfl) (by rfl) (fun K hK => ?_)
        go_simp
        refine (qsub_any k 2 q (((x0 : Int) : Rat) / ((16384 : Int) : Rat)) _ _ _ hX hf1.ct hk (by decide) hk2 (by decide)).mono ?_
        rintro e u9 ⟨vd, rfl, hd1, hb9⟩
        replace hX := hX.below hb9
        replace hSl := hSl.below hb9
        replace hf1 := hf1.below hb9
        replace B1 := B1.below hb9
        replace B2 := B2.below hb9
        replace L1 := L1.below hb9
        replace L2 := L2.below hb9
        replace B5 := B5.below hb9
        replace B6 := B6.below hb9
        replace hbW : Below w.heap.size w u9 := hbW.trans (hb9.mono hbW.size)
        clear hb9
        clear p00 p01 p02 p10 p11 p12 p20 p21 p30 p31 p40 p41 p42 p50 p51 p52
        obtain ⟨p00, p01, p02, _⟩ := B1.cells
        obtain ⟨p10, p11, p12, _⟩ := B2.cells
        obtain ⟨p20, p21, _⟩ := L1.cells
        obtain ⟨p30, p31, _⟩ := L2.cells
        obtain ⟨p40, p41, p42, _⟩ := B5.cells
        obtain ⟨p50, p51, p52, _⟩ := B6.cells
        go_wp2_with fail
        refine hK.out _ _ ?_ (fun hHeld => ?_)
        · (try dsimp only)
          exact ⟨p00, p01, p02, p10, p11, p12, p20, p21, p30, p31, p40, p41, p42⟩
        clear hK K
        try simp only [Act.put, List.setIfInBounds_toArray, List.set_cons_zero, List.set_cons_succ]
        refine hCall (i := 6) rfl (by kernel_rfl) (by rfl) (fun K hK => ?_)
        go_simp
        refine (qmul_any (k + 2 + 1) 2 (q - ((x0 : Int) : Rat) / ((16384 : Int) : Rat)) (((y1 - y0 : Int) : Rat) / ((x1 - x0 : Int) : Rat)) _ _ _ hd1.ct hSl (by omega) (by decide) (by omega) (by decide)).mono ?_
        rintro e u10 ⟨vy, rfl, hy1, hb10⟩
        replace hX := hX.below hb10
        replace hSl := hSl.below hb10
        replace hf1 := hf1.below hb10
        replace hd1 := hd1.below hb10
        replace B1 := B1.below hb10
        replace B2 := B2.below hb10
        replace L1 := L1.below hb10
        replace L2 := L2.below hb10
        replace B5 := B5.below hb10
        replace B6 := B6.below hb10
        replace hbW : Below w.heap.size w u10 := hbW.trans (hb10.mono hbW.size)
        clear hb10
        have hWd := hy1.ct.le (show k + 2 + 1 + 2 ≤ k + 5 by omega)
        obtain ⟨nw, xw, yw, ⟨aw, cw, bw, dw, rfl, _, _⟩, _⟩ := hy1
        clear p00 p01 p02 p10 p11 p12 p20 p21 p30 p31 p40 p41 p42 p50 p51 p52
        obtain ⟨p00, p01, p02, _⟩ := B1.cells
        obtain ⟨p10, p11, p12, _⟩ := B2.cells
        obtain ⟨p20, p21, _⟩ := L1.cells
        obtain ⟨p30, p31, _⟩ := L2.cells
        obtain ⟨p40, p41, p42, _⟩ := B5.cells
        obtain ⟨p50, p51, p52, _⟩ := B6.cells
        go_wp2_with fail
        refine hK.out _ _ ?_ (fun hHeld => ?_)
        · (try dsimp only)
          exact ⟨p00, p01, p02, p10, p11, p12, p20, p21, p30, p31, p40, p41, p42⟩
        clear hK K
        try simp only [Act.put, List.setIfInBounds_toArray, List.set_cons_zero, List.set_cons_succ]
        refine hCall (i := 8) rfl (by kernel_rfl) (by rfl) (fun K hK => ?_)
        go_simp
        obtain ⟨u11, hU, A6, hbU, hK9, ho⟩ := set3_world B6 (.bool nw) (.slice aw xw.length cw) (.slice bw yw.length dw)
        rw [← hU]
        clear hU
        replace hbW := hbU _ _ hbW (by omega)
        replace hX := hX.keep hK9
        replace hSl := hSl.keep hK9
        replace hWd := hWd.keep hK9
        replace B1 := B1.other ho (by omega)
        replace B2 := B2.other ho (by omega)
        replace L1 := L1.other ho (by omega)
        replace L2 := L2.other ho (by omega)
        replace B5 := B5.other ho (by omega)
        clear hbU hK9 ho
        clear p00 p01 p02 p10 p11 p12 p20 p21 p30 p31 p40 p41 p42 p50 p51 p52
        obtain ⟨p00, p01, p02, _⟩ := B1.cells
        obtain ⟨p10, p11, p12, _⟩ := B2.cells
        obtain ⟨p20, p21, _⟩ := L1.cells
        obtain ⟨p30, p31, _⟩ := L2.cells
        obtain ⟨p40, p41, p42, _⟩ := B5.cells
        obtain ⟨p50, p51, p52, _⟩ := A6.cells
        refine hK.out _ _ ?_ (fun hHeld => ?_)
        · (try dsimp only)
          exact ⟨p00, p01, p02, p10, p11, p12, p20, p21, p30, p31, p40, p41, p42⟩
        clear hK K
        try simp only [Act.put, List.setIfInBounds_toArray, List.set_cons_zero, List.set_cons_succ]
        refine wpAnyH_done (by kernel_rfl) ?_ _
        clear hHeld
        go_wp2_with fail
        clear p00 p01 p02 p10 p11 p12 p20 p21 p30 p31 p40 p41 p42 p50 p51 p52
        obtain ⟨p00, p01, p02, _⟩ := B1.cells
        obtain ⟨p10, p11, _⟩ := L1.cells
        obtain ⟨p20, p21, _⟩ := L2.cells
        obtain ⟨p30, p31, p32, _⟩ := B5.cells
        obtain ⟨p40, p41, p42, _⟩ := A6.cells
        refine wp_region_held_drew (S := (fun u => u.cell? ⟨w.heap.size, 0, none⟩ = some (.bool n) ∧ u.cell? ⟨w.heap.size, 1, none⟩ = some (.slice a1 xs.length c) ∧ u.cell? ⟨w.heap.size, 2, none⟩ = some (.slice a' ys.length c') ∧ u.cell? ⟨g, 0, none⟩ = some (.int .i64 x0) ∧ u.cell? ⟨g, 1, none⟩ = some (.int .i64 y0) ∧ u.cell? ⟨(g + 1), 0, none⟩ = some (.int .i64 x1) ∧ u.cell? ⟨(g + 1), 1, none⟩ = some (.int .i64 y1) ∧ u.cell? ⟨g5, 0, none⟩ = some (.bool ns) ∧ u.cell? ⟨g5, 1, none⟩ = some (.slice as1 xs1.length cs1) ∧ u.cell? ⟨g5, 2, none⟩ = some (.slice bs1 ys1.length ds1) ∧ u.cell? ⟨g6, 0, none⟩ = some (.bool nw) ∧ u.cell? ⟨g6, 1, none⟩ = some (.slice aw xw.length cw) ∧ u.cell? ⟨g6, 2, none⟩ = some (.slice bw yw.length dw))) (by kernel_rfl) ?_ (fun hHeld => ?_)
        · (try dsimp only)
          go_keep
        have hdr : Below u11.heap.size u11 u11.drew := Below.drew1
        generalize u11.drew = ud17 at hdr hHeld ⊢
        replace hX := hX.below hdr
        replace hSl := hSl.below hdr
        replace hWd := hWd.below hdr
        replace B2 := B2.below hdr
        replace B1 := B1.below hdr
        replace L1 := L1.below hdr
        replace L2 := L2.below hdr
        replace B5 := B5.below hdr
        replace A6 := A6.below hdr
        replace hbW : Below w.heap.size w ud17 := hbW.trans (hdr.mono hbW.size)
        clear hdr
        clear p00 p01 p02 p10 p11 p20 p21 p30 p31 p32 p40 p41 p42
        obtain ⟨p00, p01, p02, _⟩ := B1.cells
        obtain ⟨p10, p11, _⟩ := L1.cells
        obtain ⟨p20, p21, _⟩ := L2.cells
        obtain ⟨p30, p31, p32, _⟩ := B5.cells
        obtain ⟨p40, p41, p42, _⟩ := A6.cells
        refine hT 0 hHeld ?_
        refine hT 1 hHeld ?_
        refine hT 3 hHeld ?_
        refine hCall (i := 2) rfl (by kernel_rfl) (by rfl) (fun K hK => ?_)
        go_simp
        refine (of14_any y0 _ (by omega) (by omega)).mono ?_
        rintro e u12 ⟨vt, rfl, hT1, hb12⟩
        replace hX := hX.below hb12
        replace hSl := hSl.below hb12
        replace hWd := hWd.below hb12
        replace B2 := B2.below hb12
        replace B1 := B1.below hb12
        replace L1 := L1.below hb12
        replace L2 := L2.below hb12
        replace B5 := B5.below hb12
        replace A6 := A6.below hb12
        replace hbW : Below w.heap.size w u12 := hbW.trans (hb12.mono hbW.size)
        clear hb12
        clear p00 p01 p02 p10 p11 p20 p21 p30 p31 p32 p40 p41 p42
        obtain ⟨p00, p01, p02, _⟩ := B1.cells
        obtain ⟨p10, p11, _⟩ := L1.cells
        obtain ⟨p20, p21, _⟩ := L2.cells
        obtain ⟨p30, p31, p32, _⟩ := B5.cells
        obtain ⟨p40, p41, p42, _⟩ := A6.cells
        go_wp2_with fail
        refine hK.out _ _ ?_ (fun hHeld => ?_)
        · (try dsimp only)
          exact ⟨p00, p01, p02, p10, p11, p20, p21, p30, p31, p32, p40, p41, p42⟩
        clear hK K
        try simp only [Act.put, List.setIfInBounds_toArray, List.set_cons_zero, List.set_cons_succ]
        refine hCall (i := 4) rfl (by kernel_rfl) (by rfl) (fun K hK => ?_)
        go_simp
        refine (qadd_any 2 (k + 5) (((y0 : Int) : Rat) / ((16384 : Int) : Rat)) ((q - ((x0 : Int) : Rat) / ((16384 : Int) : Rat)) * (((y1 - y0 : Int) : Rat) / ((x1 - x0 : Int) : Rat))) _ _ _ hT1.ct hWd (by decide) (by omega) (by decide) (by omega)).mono ?_
        rintro e u13 ⟨vr, rfl, hR, hb13⟩
        replace hX := hX.below hb13
        replace hSl := hSl.below hb13
        replace hWd := hWd.below hb13
        replace B2 := B2.below hb13
        replace hT1 := hT1.below hb13
        replace B1 := B1.below hb13
        replace L1 := L1.below hb13
        replace L2 := L2.below hb13
        replace B5 := B5.below hb13
        replace A6 := A6.below hb13
        replace hbW : Below w.heap.size w u13 := hbW.trans (hb13.mono hbW.size)
        clear hb13
        replace hR := (hR.eq HQ.out.symm).le (show 2 + (k + 5) + 1 ≤ k + 8 by omega)
        clear p00 p01 p02 p10 p11 p20 p21 p30 p31 p32 p40 p41 p42
        obtain ⟨p00, p01, p02, _⟩ := B1.cells
        obtain ⟨p10, p11, _⟩ := L1.cells
        obtain ⟨p20, p21, _⟩ := L2.cells
        obtain ⟨p30, p31, p32, _⟩ := B5.cells
        obtain ⟨p40, p41, p42, _⟩ := A6.cells
        go_wp2_with fail
        refine hK.out _ _ ?_ (fun hHeld => ?_)
        · (try dsimp only)
          exact ⟨p00, p01, p02, p10, p11, p20, p21, p30, p31, p32, p40, p41, p42⟩
        clear hK K
        try simp only [Act.put, List.setIfInBounds_toArray, List.set_cons_zero, List.set_cons_succ]
        refine hCall (i := 5) rfl (by kernel_rfl) (by rfl) (fun K hK => ?_)
        go_simp
        obtain ⟨q1, q2, q3, q4, q5, q6⟩ := B2.cells
        obtain ⟨nr, xr, yr, ⟨ar, cr, br, dr, rfl, hxr, hyr⟩, hFr⟩ := hR
        go_simp
        obtain ⟨u14, hU, A2, hbU, hK9, ho⟩ := set3_world B2 (.bool nr) (.slice ar xr.length cr) (.slice br yr.length dr)
        rw [← hU]
        clear hU q1 q2 q3 q4 q5 q6
        replace hbW := hbU _ _ hbW (by omega)
        replace hxr := hK9 _ _ _ hxr
        replace hyr := hK9 _ _ _ hyr
        replace B1 := B1.other ho (by omega)
        replace L1 := L1.other ho (by omega)
        replace L2 := L2.other ho (by omega)
        replace B5 := B5.other ho (by omega)
        replace A6 := A6.other ho (by omega)
        clear hbU hK9 ho
        clear p00 p01 p02 p10 p11 p20 p21 p30 p31 p32 p40 p41 p42
        obtain ⟨p00, p01, p02, _⟩ := B1.cells
        obtain ⟨p10, p11, _⟩ := L1.cells
        obtain ⟨p20, p21, _⟩ := L2.cells
        obtain ⟨p30, p31, p32, _⟩ := B5.cells
        obtain ⟨p40, p41, p42, _⟩ := A6.cells
        refine hK.out _ _ ?_ (fun hHeld => ?_)
        · (try dsimp only)
          exact ⟨p00, p01, p02, p10, p11, p20, p21, p30, p31, p32, p40, p41, p42⟩
        clear hK K
        try simp only [Act.put, List.setIfInBounds_toArray, List.set_cons_zero, List.set_cons_succ]
        refine wpAnyH_done (by kernel_rfl) ?_ _
        go_wp2
        refine bodyPost_ret (by obtain ⟨r1, r2, r3, _⟩ := A2.cells; simp [results, Try.results22, go_sem, r1, r2, r3]) rfl ⟨_, rfl, ⟨_, _, _, ⟨_, _, _, _, rfl, hxr, hyr⟩, hFr⟩, hbW⟩

end Go.Proofs.Ytdpafdeoepbhaaa
