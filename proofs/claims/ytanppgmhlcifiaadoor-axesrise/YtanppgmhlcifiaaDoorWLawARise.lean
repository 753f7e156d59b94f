/-
  foundrylaw06.AxesRise: the walk.
-/
import Derived.Test.YtanppgmhlcifiaaDoorZ16
import Derived.Test.YtanppgmhlcifiaaDoorZ23
import Derived.Test.YtanppgmhlcifiaaDoorZ4
namespace Go.Proofs.YtanppgmhlcifiaaDoor
open Go.RowKit Go.Maps
set_option linter.unusedSimpArgs false
set_option linter.unusedVariables false

theorem rise_all {t : Ax} {p q : Int} (h : onA t = true) (hpq : p ≤ q) :
    plQ t p ≤ plQ t q ∧ ((-1 : Int) : Rat) ≤ plQ t p ∧ plQ t q ≤ ((1 : Int) : Rat) ∧ plQ t t.us = 0 ∧ (t.lo < t.us → plQ t t.lo = ((-1 : Int) : Rat)) ∧ (t.us < t.hi → plQ t t.hi = ((1 : Int) : Rat)) := by
  obtain ⟨_, k1, k2, k3, k4⟩ := onA_iff.1 h
  have c1 := clp_in (u := p) (Int.le_trans k2 k3)
  have c2 := clp_in (u := q) (Int.le_trans k2 k3)
  have c3 := clp_mono (a := t.lo) (b := t.hi) hpq
  have e : ∀ z, plQ t z = sdQ t.lo t.us t.hi (clp z t.lo t.hi) := fun z => by rw [plQ, if_pos h]
  refine ⟨?_, ?_, ?_, ?_, ?_, ?_⟩
  · rw [e, e]; exact sdQ_mono c1.1 c2.2 c3
  · rw [e]; exact (sdQ_in c1.1 c1.2).1
  · rw [e]; exact (sdQ_in c2.1 c2.2).2
  · rw [e, clp_self k2 k3]; exact sdQ_us
  · intro hl; rw [e, clp_self (Int.le_refl _) (Int.le_trans k2 k3)]; exact sdQ_lo hl
  · intro hl; rw [e, clp_self (Int.le_trans k2 k3) (Int.le_refl _)]; exact sdQ_hi hl

set_option maxHeartbeats 8000000 in
set_option maxRecDepth 100000 in
theorem axesRise_any (t : Ax) (u v : Int) (w : World) (ht : Axw t) (hu : I64 u) (hv : I64 v) (htab : Pow w) :
    Calls Tryd.prog 5 #[.agg (axC t), .int .i64 u, .int .i64 v] w fun e w' => e = .returned (.bool true) ∧ Below w.heap.size w w' := by
  obtain ⟨tx, lo, us, hi⟩ := t
  have HW : Hid (Axw ⟨tx, lo, us, hi⟩) := ht
  obtain ⟨W, hW, X1, hbW⟩ : ∃ W, W = w.alloc (.cells #[.string tx, .int .i64 lo, .int .i64 us, .int .i64 hi] 40) ∧ BxA W w.heap.size (.string tx) (.int .i64 lo) (.int .i64 us) (.int .i64 hi) ∧ Below w.heap.size w W := ⟨_, rfl, BxA.new w _ _ _ _, bl1 _⟩
  unfold axC
  dsimp only
  have hwl : I64 lo ∧ I64 us ∧ I64 hi := ⟨ht.2.1, ht.2.2.1, ht.2.2.2⟩
  have HWL : Hid (I64 lo ∧ I64 us ∧ I64 hi) := hwl
  clear ht hwl
  have HTAB : Hid (Pow w) := htab
  clear htab
  go_enter Tryd.func5, Tryd.ntmps5
  go_wp2_with fail
  rw [← hW]
  clear hW
  refine (awake6_any _ (HTAB.out.below hbW)).mono ?_
  rintro e u1 ⟨rfl, hb1⟩
  replace X1 := X1.below hb1
  replace hbW : Below w.heap.size w u1 := hbW.trans (hb1.mono hbW.size)
  clear hb1
  obtain ⟨p00, p01, p02, p03, _⟩ := X1.cells
  go_wp2_with fail
  have hF := cformed_any _ _ _ _ (as_one u1 ⟨tx, lo, us, hi⟩ HW.out)
  rw [frA_one] at hF
  unfold axC at hF
  dsimp only at hF
  simp only [List.length_cons, List.length_nil, Nat.zero_add] at hF
  have hba := bl1 (w := u1) (.cells #[.string tx, .int .i64 lo, .int .i64 us, .int .i64 hi] 40)
  cases hon : onA ⟨tx, lo, us, hi⟩ with
  | false =>
    rw [hon] at hF
    refine hF.mono ?_
    rintro e uf ⟨rfl, hbf⟩
    have hbX := hbW.trans ((hba.trans (hbf.mono hba.size)).mono hbW.size)
    clear hF
    go_wp2_with fail
    refine (awake6_any _ (HTAB.out.below hbX)).mono ?_
    rintro e ug ⟨rfl, hbg⟩
    go_wp2
    go_ret
    exact ⟨rfl, hbX.trans (hbg.mono hbX.size)⟩
  | true =>
  rw [hon] at hF
  refine hF.mono ?_
  rintro e uf ⟨rfl, hbf⟩
  replace hbf := hba.trans (hbf.mono hba.size)
  clear hF hba
  replace X1 := X1.below hbf
  replace hbW : Below w.heap.size w uf := hbW.trans (hbf.mono hbW.size)
  clear hbf
  clear p00 p01 p02 p03
  obtain ⟨p00, p01, p02, p03, _⟩ := X1.cells
  obtain ⟨_, k1, k2, k3, k4⟩ := onA_iff.1 hon
  have HON : Hid (onA ⟨tx, lo, us, hi⟩ = true) := hon
  clear hon
  have hpl := fun z V hz => cplain_any ⟨tx, lo, us, hi⟩ z V HW.out hz
  unfold axC at hpl
  dsimp only at hpl
  go_upto_if 21 with fail
  go_cut [1, 2] from 7 (fun s1 s2 wx => ∃ p q : Int, p ≤ q ∧ I64 p ∧ I64 q ∧ s1 = .int .i64 p ∧ s2 = .int .i64 q ∧ wx = uf)
  case first =>
    by_cases huv : v < u
    · go_wp2_with fail
      go_meet
      exact ⟨v, u, by omega, hv, hu, rfl, rfl, rfl⟩
    · go_wp2_with fail
      go_meet
      exact ⟨u, v, by omega, hu, hv, rfl, rfl, rfl⟩
  case rest =>
  obtain ⟨p, q, hpq, hp, hq, rfl, rfl, rfl⟩ := hcut
  clear hu hv
  obtain ⟨m1, m2, m3, m4, m5, m6⟩ := rise_all HON.out hpq
  obtain ⟨qx, hqx⟩ : ∃ r, plQ ⟨tx, lo, us, hi⟩ p = r := ⟨_, rfl⟩
  obtain ⟨qy, hqy⟩ : ∃ r, plQ ⟨tx, lo, us, hi⟩ q = r := ⟨_, rfl⟩
  rw [hqx] at m1 m2
  rw [hqy] at m1 m3
  dsimp only at m4 m5 m6
  have HM : Hid (qx ≤ qy ∧ ((-1 : Int) : Rat) ≤ qx ∧ qy ≤ ((1 : Int) : Rat) ∧ plQ ⟨tx, lo, us, hi⟩ us = 0 ∧ (lo < us → plQ ⟨tx, lo, us, hi⟩ lo = ((-1 : Int) : Rat)) ∧ (us < hi → plQ ⟨tx, lo, us, hi⟩ hi = ((1 : Int) : Rat))) := ⟨m1, m2, m3, m4, m5, m6⟩
  have HQX : Hid (plQ ⟨tx, lo, us, hi⟩ p = qx ∧ plQ ⟨tx, lo, us, hi⟩ q = qy) := ⟨hqx, hqy⟩
  clear m1 m2 m3 m4 m5 m6 hqx hqy hpq
  clear p00 p01 p02 p03
  go_upto_region 5 with fail
  go_cut [7, 8] from 9 (fun s7 s8 wx => ∃ e7 e8 n7 a7 x7 c7 b7 y7 d7 n8 a8 x8 c8 b8 y8 d8, s7 = .pointer (some ⟨e7, 0, none⟩) ∧ s8 = .pointer (some ⟨e8, 0, none⟩) ∧ Box 44 wx e7 (.bool n7) (.slice a7 x7 c7) (.slice b7 y7 d7) ∧ Box 44 wx e8 (.bool n8) (.slice a8 x8 c8) (.slice b8 y8 d8) ∧ Ct wx (.agg #[.bool n7, .slice a7 x7 c7, .slice b7 y7 d7]) 2 qx ∧ Ct wx (.agg #[.bool n8, .slice a8 x8 c8, .slice b8 y8 d8]) 2 qy ∧ BxA wx w.heap.size (.string tx) (.int .i64 lo) (.int .i64 us) (.int .i64 hi) ∧ Below w.heap.size w wx)
  case first =>
    obtain ⟨p00, p01, p02, p03, _⟩ := X1.cells
    refine wp_region_held_drew (S := (fun u => u.cell? ⟨w.heap.size, 0, none⟩ = some (.string tx) ∧ u.cell? ⟨w.heap.size, 1, none⟩ = some (.int .i64 lo) ∧ u.cell? ⟨w.heap.size, 2, none⟩ = some (.int .i64 us) ∧ u.cell? ⟨w.heap.size, 3, none⟩ = some (.int .i64 hi))) (by kernel_rfl) ?_ (fun hHeld => ?_)
    · (try dsimp only)
      go_keep
    have hdr : Below wc.heap.size wc wc.drew := Below.drew1
    generalize wc.drew = ud30 at hdr hHeld ⊢
    replace X1 := X1.below hdr
    replace hbW : Below w.heap.size w ud30 := hbW.trans (hdr.mono hbW.size)
    clear hdr
    clear p00 p01 p02 p03
    obtain ⟨p00, p01, p02, p03, _⟩ := X1.cells
    refine hTake (i := 0) (v := ?v31) rfl (by kernel_rfl) (by kernel_rfl) (by kernel_rfl) (fun _ _ _ h => h) (Or.inl ⟨by rfl, ?y31⟩) hHeld ?r31
    case y31 =>
      intro w9 hSw
      (try dsimp only at hSw)
      go_simp
      try with_reducible rfl
    try simp only [Act.put, List.setIfInBounds_toArray, List.set_cons_zero, List.set_cons_succ]
    refine hTake (i := 1) (v := ?v32) rfl (by kernel_rfl) (by kernel_rfl) (by kernel_rfl) (fun _ _ _ h => h) (Or.inl ⟨by rfl, ?y32⟩) hHeld ?r32
    case y32 =>
      intro w9 hSw
      (try dsimp only at hSw)
      go_simp
      try with_reducible rfl
    try simp only [Act.put, List.setIfInBounds_toArray, List.set_cons_zero, List.set_cons_succ]
    refine hTake (i := 3) (v := ?v33) rfl (by kernel_rfl) (by kernel_rfl) (by kernel_rfl) (fun _ _ _ h => h) (Or.inl ⟨by rfl, ?y33⟩) hHeld ?r33
    case y33 =>
      intro w9 hSw
      (try dsimp only at hSw)
      go_simp
      try with_reducible rfl
    try simp only [Act.put, List.setIfInBounds_toArray, List.set_cons_zero, List.set_cons_succ]
    refine hTake (i := 4) (v := ?v34) rfl (by kernel_rfl) (by kernel_rfl) (by kernel_rfl) (fun _ _ _ h => h) (Or.inl ⟨by rfl, ?y34⟩) hHeld ?r34
    case y34 =>
      intro w9 hSw
      (try dsimp only at hSw)
      go_simp
      try with_reducible rfl
    try simp only [Act.put, List.setIfInBounds_toArray, List.set_cons_zero, List.set_cons_succ]
    refine wpAnyH_ready (rs := [2, 6, 7]) (by kernel_rfl) (by simp) (hCons (i := 2) rfl (by rfl) (fun K hK => ?_) (hCons (i := 6) rfl (by rfl) (fun K hK => ?_) (hCons (i := 7) rfl (by rfl) (fun K hK => ?_) AllReadyH.nil)))
    · go_simp
      refine (hpl p _ hp).mono ?_
      rintro e u2 ⟨v7, rfl, hF7, hb2⟩
      replace X1 := X1.below hb2
      replace hbW : Below w.heap.size w u2 := hbW.trans (hb2.mono hbW.size)
      clear hb2
      rw [HQX.out.1] at hF7
      have hP7 := hF7.ct
      obtain ⟨n7, x7, y7, ⟨a7, c7, b7, d7, rfl, _, _⟩, _⟩ := hF7
      clear p00 p01 p02 p03
      obtain ⟨p00, p01, p02, p03, _⟩ := X1.cells
      go_wp2_with fail
      refine hK.out _ _ ?_ (fun hHeld => ?_)
      · (try dsimp only)
        exact ⟨p00, p01, p02, p03⟩
      clear hK K
      try simp only [Act.put, List.setIfInBounds_toArray, List.set_cons_zero, List.set_cons_succ]
      refine wpAnyH_ready (rs := [5, 6, 7]) (by kernel_rfl) (by simp) (hCons (i := 5) rfl (by rfl) (fun K hK => ?_) (hCons (i := 6) rfl (by rfl) (fun K hK => ?_) (hCons (i := 7) rfl (by rfl) (fun K hK => ?_) AllReadyH.nil)))
      · go_simp
        refine (hpl q _ hq).mono ?_
        rintro e u3 ⟨v8, rfl, hF8, hb3⟩
        replace hP7 := hP7.below hb3
        replace X1 := X1.below hb3
        replace hbW : Below w.heap.size w u3 := hbW.trans (hb3.mono hbW.size)
        clear hb3
        rw [HQX.out.2] at hF8
        have hP8 := hF8.ct
        obtain ⟨n8, x8, y8, ⟨a8, c8, b8, d8, rfl, _, _⟩, _⟩ := hF8
        clear p00 p01 p02 p03
        obtain ⟨p00, p01, p02, p03, _⟩ := X1.cells
        go_wp2_with fail
        refine hK.out _ _ ?_ (fun hHeld => ?_)
        · (try dsimp only)
          exact ⟨p00, p01, p02, p03⟩
        clear hK K
        try simp only [Act.put, List.setIfInBounds_toArray, List.set_cons_zero, List.set_cons_succ]
        refine wpAnyH_ready (rs := [6, 7]) (by kernel_rfl) (by simp) (hCons (i := 6) rfl (by rfl) (fun K hK => ?_) (hCons (i := 7) rfl (by rfl) (fun K hK => ?_) AllReadyH.nil))
        · go_simp
          obtain ⟨u4, hU, B7, hb9⟩ : ∃ U, U = u3.alloc (.cells #[.bool false, .slice none 0 0, .slice none 0 0] 44) ∧ Box 44 U u3.heap.size (.bool false) (.slice none 0 0) (.slice none 0 0) ∧ Below u3.heap.size u3 U := ⟨_, rfl, Box.new _ _ _ _ _, al1 _⟩
          rw [← hU]
          clear hU
          have hl7 : w.heap.size ≤ u3.heap.size := hbW.size
          have n71 : w.heap.size ≠ u3.heap.size := Nat.ne_of_lt X1.lt
          replace hP7 := hP7.below hb9
          replace hP8 := hP8.below hb9
          replace X1 := X1.below hb9
          replace hbW : Below w.heap.size w u4 := hbW.trans (hb9.mono hbW.size)
          clear hb9
          generalize u3.heap.size = e7 at B7 hl7 n71 ⊢
          clear p00 p01 p02 p03
          obtain ⟨p00, p01, p02, p03, _⟩ := X1.cells
          obtain ⟨p10, p11, p12, _⟩ := B7.cells
          refine hK.out _ _ ?_ (fun hHeld => ?_)
          · (try dsimp only)
            exact ⟨p00, p01, p02, p03⟩
          clear hK K
          try simp only [Act.put, List.setIfInBounds_toArray, List.set_cons_zero, List.set_cons_succ]
          refine hCall (i := 7) rfl (by kernel_rfl) (by rfl) (fun K hK => ?_)
          go_simp
          obtain ⟨u5, hU, B8, hb9⟩ : ∃ U, U = u4.alloc (.cells #[.bool false, .slice none 0 0, .slice none 0 0] 44) ∧ Box 44 U u4.heap.size (.bool false) (.slice none 0 0) (.slice none 0 0) ∧ Below u4.heap.size u4 U := ⟨_, rfl, Box.new _ _ _ _ _, al1 _⟩
          rw [← hU]
          clear hU
          have hl8 : w.heap.size ≤ u4.heap.size := hbW.size
          have n81 : w.heap.size ≠ u4.heap.size := Nat.ne_of_lt X1.lt
          have nn : e7 ≠ u4.heap.size := Nat.ne_of_lt B7.lt
          replace hP7 := hP7.below hb9
          replace hP8 := hP8.below hb9
          replace X1 := X1.below hb9
          replace B7 := B7.below hb9
          replace hbW : Below w.heap.size w u5 := hbW.trans (hb9.mono hbW.size)
          clear hb9
          generalize u4.heap.size = e8 at B8 hl8 n81 nn ⊢
          have n78 : e7 ≠ e8 := nn
          clear p00 p01 p02 p03 p10 p11 p12
          obtain ⟨p00, p01, p02, p03, _⟩ := X1.cells
          obtain ⟨p10, p11, p12, _⟩ := B7.cells
          obtain ⟨p20, p21, p22, _⟩ := B8.cells
          refine hK.out _ _ ?_ (fun hHeld => ?_)
          · (try dsimp only)
            exact ⟨p00, p01, p02, p03⟩
          clear hK K
          try simp only [Act.put, List.setIfInBounds_toArray, List.set_cons_zero, List.set_cons_succ]
          refine hCall (i := 8) rfl (by kernel_rfl) (by rfl) (fun K hK => ?_)
          go_simp
          obtain ⟨u6, hU, A7, hbU, hK9, ho⟩ := set3_world B7 (.bool n7) (.slice a7 x7.length c7) (.slice b7 y7.length d7)
          rw [← hU]
          clear hU
          replace hbW := hbU _ _ hbW hl7
          replace hP7 := hP7.keep hK9
          replace hP8 := hP8.keep hK9
          replace X1 := X1.other ho n71
          replace B8 := B8.other ho (Ne.symm n78)
          clear hbU hK9 ho
          clear p00 p01 p02 p03 p10 p11 p12 p20 p21 p22
          obtain ⟨p00, p01, p02, p03, _⟩ := X1.cells
          obtain ⟨p10, p11, p12, _⟩ := B8.cells
          obtain ⟨p20, p21, p22, _⟩ := A7.cells
          refine hK.out _ _ ?_ (fun hHeld => ?_)
          · (try dsimp only)
            exact ⟨p00, p01, p02, p03⟩
          clear hK K
          try simp only [Act.put, List.setIfInBounds_toArray, List.set_cons_zero, List.set_cons_succ]
          refine hCall (i := 9) rfl (by kernel_rfl) (by rfl) (fun K hK => ?_)
          go_simp
          obtain ⟨u7, hU, A8, hbU, hK9, ho⟩ := set3_world B8 (.bool n8) (.slice a8 x8.length c8) (.slice b8 y8.length d8)
          rw [← hU]
          clear hU
          replace hbW := hbU _ _ hbW hl8
          replace hP7 := hP7.keep hK9
          replace hP8 := hP8.keep hK9
          replace X1 := X1.other ho n81
          replace A7 := A7.other ho n78
          clear hbU hK9 ho
          clear p00 p01 p02 p03 p10 p11 p12 p20 p21 p22
          obtain ⟨p00, p01, p02, p03, _⟩ := X1.cells
          obtain ⟨p10, p11, p12, _⟩ := A7.cells
          obtain ⟨p20, p21, p22, _⟩ := A8.cells
          refine hK.out _ _ ?_ (fun hHeld => ?_)
          · (try dsimp only)
            exact ⟨p00, p01, p02, p03⟩
          clear hK K
          try simp only [Act.put, List.setIfInBounds_toArray, List.set_cons_zero, List.set_cons_succ]
          refine wpAnyH_done (by kernel_rfl) ?_ _
          clear hHeld
          go_wp2_with fail
          go_meet
          exact ⟨e7, e8, _, _, _, _, _, _, _, _, _, _, _, _, _, _, rfl, rfl, A7, A8, hP7, hP8, X1, hbW⟩
        · go_simp
          obtain ⟨u4, hU, B8, hb9⟩ : ∃ U, U = u3.alloc (.cells #[.bool false, .slice none 0 0, .slice none 0 0] 44) ∧ Box 44 U u3.heap.size (.bool false) (.slice none 0 0) (.slice none 0 0) ∧ Below u3.heap.size u3 U := ⟨_, rfl, Box.new _ _ _ _ _, al1 _⟩
          rw [← hU]
          clear hU
          have hl8 : w.heap.size ≤ u3.heap.size := hbW.size
          have n81 : w.heap.size ≠ u3.heap.size := Nat.ne_of_lt X1.lt
          replace hP7 := hP7.below hb9
          replace hP8 := hP8.below hb9
          replace X1 := X1.below hb9
          replace hbW : Below w.heap.size w u4 := hbW.trans (hb9.mono hbW.size)
          clear hb9
          generalize u3.heap.size = e8 at B8 hl8 n81 ⊢
          clear p00 p01 p02 p03
          obtain ⟨p00, p01, p02, p03, _⟩ := X1.cells
          obtain ⟨p10, p11, p12, _⟩ := B8.cells
          refine hK.out _ _ ?_ (fun hHeld => ?_)
          · (try dsimp only)
            exact ⟨p00, p01, p02, p03⟩
          clear hK K
          try simp only [Act.put, List.setIfInBounds_toArray, List.set_cons_zero, List.set_cons_succ]
          refine hCall (i := 6) rfl (by kernel_rfl) (by rfl) (fun K hK => ?_)
          go_simp
          obtain ⟨u5, hU, B7, hb9⟩ : ∃ U, U = u4.alloc (.cells #[.bool false, .slice none 0 0, .slice none 0 0] 44) ∧ Box 44 U u4.heap.size (.bool false) (.slice none 0 0) (.slice none 0 0) ∧ Below u4.heap.size u4 U := ⟨_, rfl, Box.new _ _ _ _ _, al1 _⟩
          rw [← hU]
          clear hU
          have hl7 : w.heap.size ≤ u4.heap.size := hbW.size
          have n71 : w.heap.size ≠ u4.heap.size := Nat.ne_of_lt X1.lt
          have nn : e8 ≠ u4.heap.size := Nat.ne_of_lt B8.lt
          replace hP7 := hP7.below hb9
          replace hP8 := hP8.below hb9
          replace X1 := X1.below hb9
          replace B8 := B8.below hb9
          replace hbW : Below w.heap.size w u5 := hbW.trans (hb9.mono hbW.size)
          clear hb9
          generalize u4.heap.size = e7 at B7 hl7 n71 nn ⊢
          have n78 : e7 ≠ e8 := Ne.symm nn
          clear p00 p01 p02 p03 p10 p11 p12
          obtain ⟨p00, p01, p02, p03, _⟩ := X1.cells
          obtain ⟨p10, p11, p12, _⟩ := B8.cells
          obtain ⟨p20, p21, p22, _⟩ := B7.cells
          refine hK.out _ _ ?_ (fun hHeld => ?_)
          · (try dsimp only)
            exact ⟨p00, p01, p02, p03⟩
          clear hK K
          try simp only [Act.put, List.setIfInBounds_toArray, List.set_cons_zero, List.set_cons_succ]
          refine hCall (i := 8) rfl (by kernel_rfl) (by rfl) (fun K hK => ?_)
          go_simp
          obtain ⟨u6, hU, A7, hbU, hK9, ho⟩ := set3_world B7 (.bool n7) (.slice a7 x7.length c7) (.slice b7 y7.length d7)
          rw [← hU]
          clear hU
          replace hbW := hbU _ _ hbW hl7
          replace hP7 := hP7.keep hK9
          replace hP8 := hP8.keep hK9
          replace X1 := X1.other ho n71
          replace B8 := B8.other ho (Ne.symm n78)
          clear hbU hK9 ho
          clear p00 p01 p02 p03 p10 p11 p12 p20 p21 p22
          obtain ⟨p00, p01, p02, p03, _⟩ := X1.cells
          obtain ⟨p10, p11, p12, _⟩ := B8.cells
          obtain ⟨p20, p21, p22, _⟩ := A7.cells
          refine hK.out _ _ ?_ (fun hHeld => ?_)
          · (try dsimp only)
            exact ⟨p00, p01, p02, p03⟩
          clear hK K
          try simp only [Act.put, List.setIfInBounds_toArray, List.set_cons_zero, List.set_cons_succ]
          refine hCall (i := 9) rfl (by kernel_rfl) (by rfl) (fun K hK => ?_)
          go_simp
          obtain ⟨u7, hU, A8, hbU, hK9, ho⟩ := set3_world B8 (.bool n8) (.slice a8 x8.length c8) (.slice b8 y8.length d8)
          rw [← hU]
          clear hU
          replace hbW := hbU _ _ hbW hl8
          replace hP7 := hP7.keep hK9
          replace hP8 := hP8.keep hK9
          replace X1 := X1.other ho n81
          replace A7 := A7.other ho n78
          clear hbU hK9 ho
          clear p00 p01 p02 p03 p10 p11 p12 p20 p21 p22
          obtain ⟨p00, p01, p02, p03, _⟩ := X1.cells
          obtain ⟨p10, p11, p12, _⟩ := A7.cells
          obtain ⟨p20, p21, p22, _⟩ := A8.cells
          refine hK.out _ _ ?_ (fun hHeld => ?_)
          · (try dsimp only)
            exact ⟨p00, p01, p02, p03⟩
          clear hK K
          try simp only [Act.put, List.setIfInBounds_toArray, List.set_cons_zero, List.set_cons_succ]
          refine wpAnyH_done (by kernel_rfl) ?_ _
          clear hHeld
          go_wp2_with fail
          go_meet
          exact ⟨e7, e8, _, _, _, _, _, _, _, _, _, _, _, _, _, _, rfl, rfl, A7, A8, hP7, hP8, X1, hbW⟩
      · go_simp
        obtain ⟨u3, hU, B7, hb9⟩ : ∃ U, U = u2.alloc (.cells #[.bool false, .slice none 0 0, .slice none 0 0] 44) ∧ Box 44 U u2.heap.size (.bool false) (.slice none 0 0) (.slice none 0 0) ∧ Below u2.heap.size u2 U := ⟨_, rfl, Box.new _ _ _ _ _, al1 _⟩
        rw [← hU]
        clear hU
        have hl7 : w.heap.size ≤ u2.heap.size := hbW.size
        have n71 : w.heap.size ≠ u2.heap.size := Nat.ne_of_lt X1.lt
        replace hP7 := hP7.below hb9
        replace X1 := X1.below hb9
        replace hbW : Below w.heap.size w u3 := hbW.trans (hb9.mono hbW.size)
        clear hb9
        generalize u2.heap.size = e7 at B7 hl7 n71 ⊢
        clear p00 p01 p02 p03
        obtain ⟨p00, p01, p02, p03, _⟩ := X1.cells
        obtain ⟨p10, p11, p12, _⟩ := B7.cells
        refine hK.out _ _ ?_ (fun hHeld => ?_)
        · (try dsimp only)
          exact ⟨p00, p01, p02, p03⟩
        clear hK K
        try simp only [Act.put, List.setIfInBounds_toArray, List.set_cons_zero, List.set_cons_succ]
        refine wpAnyH_ready (rs := [5, 7]) (by kernel_rfl) (by simp) (hCons (i := 5) rfl (by rfl) (fun K hK => ?_) (hCons (i := 7) rfl (by rfl) (fun K hK => ?_) AllReadyH.nil))
        · go_simp
          refine (hpl q _ hq).mono ?_
          rintro e u4 ⟨v8, rfl, hF8, hb4⟩
          replace hP7 := hP7.below hb4
          replace X1 := X1.below hb4
          replace B7 := B7.below hb4
          replace hbW : Below w.heap.size w u4 := hbW.trans (hb4.mono hbW.size)
          clear hb4
          rw [HQX.out.2] at hF8
          have hP8 := hF8.ct
          obtain ⟨n8, x8, y8, ⟨a8, c8, b8, d8, rfl, _, _⟩, _⟩ := hF8
          clear p00 p01 p02 p03 p10 p11 p12
          obtain ⟨p00, p01, p02, p03, _⟩ := X1.cells
          obtain ⟨p10, p11, p12, _⟩ := B7.cells
          go_wp2_with fail
          refine hK.out _ _ ?_ (fun hHeld => ?_)
          · (try dsimp only)
            exact ⟨p00, p01, p02, p03⟩
          clear hK K
          try simp only [Act.put, List.setIfInBounds_toArray, List.set_cons_zero, List.set_cons_succ]
          refine hCall (i := 7) rfl (by kernel_rfl) (by rfl) (fun K hK => ?_)
          go_simp
          obtain ⟨u5, hU, B8, hb9⟩ : ∃ U, U = u4.alloc (.cells #[.bool false, .slice none 0 0, .slice none 0 0] 44) ∧ Box 44 U u4.heap.size (.bool false) (.slice none 0 0) (.slice none 0 0) ∧ Below u4.heap.size u4 U := ⟨_, rfl, Box.new _ _ _ _ _, al1 _⟩
          rw [← hU]
          clear hU
          have hl8 : w.heap.size ≤ u4.heap.size := hbW.size
          have n81 : w.heap.size ≠ u4.heap.size := Nat.ne_of_lt X1.lt
          have nn : e7 ≠ u4.heap.size := Nat.ne_of_lt B7.lt
          replace hP7 := hP7.below hb9
          replace hP8 := hP8.below hb9
          replace X1 := X1.below hb9
          replace B7 := B7.below hb9
          replace hbW : Below w.heap.size w u5 := hbW.trans (hb9.mono hbW.size)
          clear hb9
          generalize u4.heap.size = e8 at B8 hl8 n81 nn ⊢
          have n78 : e7 ≠ e8 := nn
          clear p00 p01 p02 p03 p10 p11 p12
          obtain ⟨p00, p01, p02, p03, _⟩ := X1.cells
          obtain ⟨p10, p11, p12, _⟩ := B7.cells
          obtain ⟨p20, p21, p22, _⟩ := B8.cells
          refine hK.out _ _ ?_ (fun hHeld => ?_)
          · (try dsimp only)
            exact ⟨p00, p01, p02, p03⟩
          clear hK K
          try simp only [Act.put, List.setIfInBounds_toArray, List.set_cons_zero, List.set_cons_succ]
          refine hCall (i := 8) rfl (by kernel_rfl) (by rfl) (fun K hK => ?_)
          go_simp
          obtain ⟨u6, hU, A7, hbU, hK9, ho⟩ := set3_world B7 (.bool n7) (.slice a7 x7.length c7) (.slice b7 y7.length d7)
          rw [← hU]
          clear hU
          replace hbW := hbU _ _ hbW hl7
          replace hP7 := hP7.keep hK9
          replace hP8 := hP8.keep hK9
          replace X1 := X1.other ho n71
          replace B8 := B8.other ho (Ne.symm n78)
          clear hbU hK9 ho
          clear p00 p01 p02 p03 p10 p11 p12 p20 p21 p22
          obtain ⟨p00, p01, p02, p03, _⟩ := X1.cells
          obtain ⟨p10, p11, p12, _⟩ := B8.cells
          obtain ⟨p20, p21, p22, _⟩ := A7.cells
          refine hK.out _ _ ?_ (fun hHeld => ?_)
          · (try dsimp only)
            exact ⟨p00, p01, p02, p03⟩
          clear hK K
          try simp only [Act.put, List.setIfInBounds_toArray, List.set_cons_zero, List.set_cons_succ]
          refine hCall (i := 9) rfl (by kernel_rfl) (by rfl) (fun K hK => ?_)
          go_simp
          obtain ⟨u7, hU, A8, hbU, hK9, ho⟩ := set3_world B8 (.bool n8) (.slice a8 x8.length c8) (.slice b8 y8.length d8)
          rw [← hU]
          clear hU
          replace hbW := hbU _ _ hbW hl8
          replace hP7 := hP7.keep hK9
          replace hP8 := hP8.keep hK9
          replace X1 := X1.other ho n81
          replace A7 := A7.other ho n78
          clear hbU hK9 ho
          clear p00 p01 p02 p03 p10 p11 p12 p20 p21 p22
          obtain ⟨p00, p01, p02, p03, _⟩ := X1.cells
          obtain ⟨p10, p11, p12, _⟩ := A7.cells
          obtain ⟨p20, p21, p22, _⟩ := A8.cells
          refine hK.out _ _ ?_ (fun hHeld => ?_)
          · (try dsimp only)
            exact ⟨p00, p01, p02, p03⟩
          clear hK K
          try simp only [Act.put, List.setIfInBounds_toArray, List.set_cons_zero, List.set_cons_succ]
          refine wpAnyH_done (by kernel_rfl) ?_ _
          clear hHeld
          go_wp2_with fail
          go_meet
          exact ⟨e7, e8, _, _, _, _, _, _, _, _, _, _, _, _, _, _, rfl, rfl, A7, A8, hP7, hP8, X1, hbW⟩
        · go_simp
          obtain ⟨u4, hU, B8, hb9⟩ : ∃ U, U = u3.alloc (.cells #[.bool false, .slice none 0 0, .slice none 0 0] 44) ∧ Box 44 U u3.heap.size (.bool false) (.slice none 0 0) (.slice none 0 0) ∧ Below u3.heap.size u3 U := ⟨_, rfl, Box.new _ _ _ _ _, al1 _⟩
          rw [← hU]
          clear hU
          have hl8 : w.heap.size ≤ u3.heap.size := hbW.size
          have n81 : w.heap.size ≠ u3.heap.size := Nat.ne_of_lt X1.lt
          have nn : e7 ≠ u3.heap.size := Nat.ne_of_lt B7.lt
          replace hP7 := hP7.below hb9
          replace X1 := X1.below hb9
          replace B7 := B7.below hb9
          replace hbW : Below w.heap.size w u4 := hbW.trans (hb9.mono hbW.size)
          clear hb9
          generalize u3.heap.size = e8 at B8 hl8 n81 nn ⊢
          have n78 : e7 ≠ e8 := nn
          clear p00 p01 p02 p03 p10 p11 p12
          obtain ⟨p00, p01, p02, p03, _⟩ := X1.cells
          obtain ⟨p10, p11, p12, _⟩ := B7.cells
          obtain ⟨p20, p21, p22, _⟩ := B8.cells
          refine hK.out _ _ ?_ (fun hHeld => ?_)
          · (try dsimp only)
            exact ⟨p00, p01, p02, p03⟩
          clear hK K
          try simp only [Act.put, List.setIfInBounds_toArray, List.set_cons_zero, List.set_cons_succ]
          refine hCall (i := 5) rfl (by kernel_rfl) (by rfl) (fun K hK => ?_)
          go_simp
          refine (hpl q _ hq).mono ?_
          rintro e u5 ⟨v8, rfl, hF8, hb5⟩
          replace hP7 := hP7.below hb5
          replace X1 := X1.below hb5
          replace B7 := B7.below hb5
          replace B8 := B8.below hb5
          replace hbW : Below w.heap.size w u5 := hbW.trans (hb5.mono hbW.size)
          clear hb5
          rw [HQX.out.2] at hF8
          have hP8 := hF8.ct
          obtain ⟨n8, x8, y8, ⟨a8, c8, b8, d8, rfl, _, _⟩, _⟩ := hF8
          clear p00 p01 p02 p03 p10 p11 p12 p20 p21 p22
          obtain ⟨p00, p01, p02, p03, _⟩ := X1.cells
          obtain ⟨p10, p11, p12, _⟩ := B7.cells
          obtain ⟨p20, p21, p22, _⟩ := B8.cells
          go_wp2_with fail
          refine hK.out _ _ ?_ (fun hHeld => ?_)
          · (try dsimp only)
            exact ⟨p00, p01, p02, p03⟩
          clear hK K
          try simp only [Act.put, List.setIfInBounds_toArray, List.set_cons_zero, List.set_cons_succ]
          refine hCall (i := 8) rfl (by kernel_rfl) (by rfl) (fun K hK => ?_)
          go_simp
          obtain ⟨u6, hU, A7, hbU, hK9, ho⟩ := set3_world B7 (.bool n7) (.slice a7 x7.length c7) (.slice b7 y7.length d7)
          rw [← hU]
          clear hU
          replace hbW := hbU _ _ hbW hl7
          replace hP7 := hP7.keep hK9
          replace hP8 := hP8.keep hK9
          replace X1 := X1.other ho n71
          replace B8 := B8.other ho (Ne.symm n78)
          clear hbU hK9 ho
          clear p00 p01 p02 p03 p10 p11 p12 p20 p21 p22
          obtain ⟨p00, p01, p02, p03, _⟩ := X1.cells
          obtain ⟨p10, p11, p12, _⟩ := B8.cells
          obtain ⟨p20, p21, p22, _⟩ := A7.cells
          refine hK.out _ _ ?_ (fun hHeld => ?_)
          · (try dsimp only)
            exact ⟨p00, p01, p02, p03⟩
          clear hK K
          try simp only [Act.put, List.setIfInBounds_toArray, List.set_cons_zero, List.set_cons_succ]
          refine hCall (i := 9) rfl (by kernel_rfl) (by rfl) (fun K hK => ?_)
          go_simp
          obtain ⟨u7, hU, A8, hbU, hK9, ho⟩ := set3_world B8 (.bool n8) (.slice a8 x8.length c8) (.slice b8 y8.length d8)
          rw [← hU]
          clear hU
          replace hbW := hbU _ _ hbW hl8
          replace hP7 := hP7.keep hK9
          replace hP8 := hP8.keep hK9
          replace X1 := X1.other ho n81
          replace A7 := A7.other ho n78
          clear hbU hK9 ho
          clear p00 p01 p02 p03 p10 p11 p12 p20 p21 p22
          obtain ⟨p00, p01, p02, p03, _⟩ := X1.cells
          obtain ⟨p10, p11, p12, _⟩ := A7.cells
          obtain ⟨p20, p21, p22, _⟩ := A8.cells
          refine hK.out _ _ ?_ (fun hHeld => ?_)
          · (try dsimp only)
            exact ⟨p00, p01, p02, p03⟩
          clear hK K
          try simp only [Act.put, List.setIfInBounds_toArray, List.set_cons_zero, List.set_cons_succ]
          refine wpAnyH_done (by kernel_rfl) ?_ _
          clear hHeld
          go_wp2_with fail
          go_meet
          exact ⟨e7, e8, _, _, _, _, _, _, _, _, _, _, _, _, _, _, rfl, rfl, A7, A8, hP7, hP8, X1, hbW⟩
      · go_simp
        obtain ⟨u3, hU, B8, hb9⟩ : ∃ U, U = u2.alloc (.cells #[.bool false, .slice none 0 0, .slice none 0 0] 44) ∧ Box 44 U u2.heap.size (.bool false) (.slice none 0 0) (.slice none 0 0) ∧ Below u2.heap.size u2 U := ⟨_, rfl, Box.new _ _ _ _ _, al1 _⟩
        rw [← hU]
        clear hU
        have hl8 : w.heap.size ≤ u2.heap.size := hbW.size
        have n81 : w.heap.size ≠ u2.heap.size := Nat.ne_of_lt X1.lt
        replace hP7 := hP7.below hb9
        replace X1 := X1.below hb9
        replace hbW : Below w.heap.size w u3 := hbW.trans (hb9.mono hbW.size)
        clear hb9
        generalize u2.heap.size = e8 at B8 hl8 n81 ⊢
        clear p00 p01 p02 p03
        obtain ⟨p00, p01, p02, p03, _⟩ := X1.cells
        obtain ⟨p10, p11, p12, _⟩ := B8.cells
        refine hK.out _ _ ?_ (fun hHeld => ?_)
        · (try dsimp only)
          exact ⟨p00, p01, p02, p03⟩
        clear hK K
        try simp only [Act.put, List.setIfInBounds_toArray, List.set_cons_zero, List.set_cons_succ]
        refine wpAnyH_ready (rs := [5, 6]) (by kernel_rfl) (by simp) (hCons (i := 5) rfl (by rfl) (fun K hK => ?_) (hCons (i := 6) rfl (by rfl) (fun K hK => ?_) AllReadyH.nil))
        · go_simp
          refine (hpl q _ hq).mono ?_
          rintro e u4 ⟨v8, rfl, hF8, hb4⟩
          replace hP7 := hP7.below hb4
          replace X1 := X1.below hb4
          replace B8 := B8.below hb4
          replace hbW : Below w.heap.size w u4 := hbW.trans (hb4.mono hbW.size)
          clear hb4
          rw [HQX.out.2] at hF8
          have hP8 := hF8.ct
          obtain ⟨n8, x8, y8, ⟨a8, c8, b8, d8, rfl, _, _⟩, _⟩ := hF8
          clear p00 p01 p02 p03 p10 p11 p12
          obtain ⟨p00, p01, p02, p03, _⟩ := X1.cells
          obtain ⟨p10, p11, p12, _⟩ := B8.cells
          go_wp2_with fail
          refine hK.out _ _ ?_ (fun hHeld => ?_)
          · (try dsimp only)
            exact ⟨p00, p01, p02, p03⟩
          clear hK K
          try simp only [Act.put, List.setIfInBounds_toArray, List.set_cons_zero, List.set_cons_succ]
          refine hCall (i := 6) rfl (by kernel_rfl) (by rfl) (fun K hK => ?_)
          go_simp
          obtain ⟨u5, hU, B7, hb9⟩ : ∃ U, U = u4.alloc (.cells #[.bool false, .slice none 0 0, .slice none 0 0] 44) ∧ Box 44 U u4.heap.size (.bool false) (.slice none 0 0) (.slice none 0 0) ∧ Below u4.heap.size u4 U := ⟨_, rfl, Box.new _ _ _ _ _, al1 _⟩
          rw [← hU]
          clear hU
          have hl7 : w.heap.size ≤ u4.heap.size := hbW.size
          have n71 : w.heap.size ≠ u4.heap.size := Nat.ne_of_lt X1.lt
          have nn : e8 ≠ u4.heap.size := Nat.ne_of_lt B8.lt
          replace hP7 := hP7.below hb9
          replace hP8 := hP8.below hb9
          replace X1 := X1.below hb9
          replace B8 := B8.below hb9
          replace hbW : Below w.heap.size w u5 := hbW.trans (hb9.mono hbW.size)
          clear hb9
          generalize u4.heap.size = e7 at B7 hl7 n71 nn ⊢
          have n78 : e7 ≠ e8 := Ne.symm nn
          clear p00 p01 p02 p03 p10 p11 p12
          obtain ⟨p00, p01, p02, p03, _⟩ := X1.cells
          obtain ⟨p10, p11, p12, _⟩ := B8.cells
          obtain ⟨p20, p21, p22, _⟩ := B7.cells
          refine hK.out _ _ ?_ (fun hHeld => ?_)
          · (try dsimp only)
            exact ⟨p00, p01, p02, p03⟩
          clear hK K
          try simp only [Act.put, List.setIfInBounds_toArray, List.set_cons_zero, List.set_cons_succ]
          refine hCall (i := 8) rfl (by kernel_rfl) (by rfl) (fun K hK => ?_)
          go_simp
          obtain ⟨u6, hU, A7, hbU, hK9, ho⟩ := set3_world B7 (.bool n7) (.slice a7 x7.length c7) (.slice b7 y7.length d7)
          rw [← hU]
          clear hU
          replace hbW := hbU _ _ hbW hl7
          replace hP7 := hP7.keep hK9
          replace hP8 := hP8.keep hK9
          replace X1 := X1.other ho n71
          replace B8 := B8.other ho (Ne.symm n78)
          clear hbU hK9 ho
          clear p00 p01 p02 p03 p10 p11 p12 p20 p21 p22
          obtain ⟨p00, p01, p02, p03, _⟩ := X1.cells
          obtain ⟨p10, p11, p12, _⟩ := B8.cells
          obtain ⟨p20, p21, p22, _⟩ := A7.cells
          refine hK.out _ _ ?_ (fun hHeld => ?_)
          · (try dsimp only)
            exact ⟨p00, p01, p02, p03⟩
          clear hK K
          try simp only [Act.put, List.setIfInBounds_toArray, List.set_cons_zero, List.set_cons_succ]
          refine hCall (i := 9) rfl (by kernel_rfl) (by rfl) (fun K hK => ?_)
          go_simp
          obtain ⟨u7, hU, A8, hbU, hK9, ho⟩ := set3_world B8 (.bool n8) (.slice a8 x8.length c8) (.slice b8 y8.length d8)
          rw [← hU]
          clear hU
          replace hbW := hbU _ _ hbW hl8
          replace hP7 := hP7.keep hK9
          replace hP8 := hP8.keep hK9
          replace X1 := X1.other ho n81
          replace A7 := A7.other ho n78
          clear hbU hK9 ho
          clear p00 p01 p02 p03 p10 p11 p12 p20 p21 p22
          obtain ⟨p00, p01, p02, p03, _⟩ := X1.cells
          obtain ⟨p10, p11, p12, _⟩ := A7.cells
          obtain ⟨p20, p21, p22, _⟩ := A8.cells
          refine hK.out _ _ ?_ (fun hHeld => ?_)
          · (try dsimp only)
            exact ⟨p00, p01, p02, p03⟩
          clear hK K
          try simp only [Act.put, List.setIfInBounds_toArray, List.set_cons_zero, List.set_cons_succ]
          refine wpAnyH_done (by kernel_rfl) ?_ _
          clear hHeld
          go_wp2_with fail
          go_meet
          exact ⟨e7, e8, _, _, _, _, _, _, _, _, _, _, _, _, _, _, rfl, rfl, A7, A8, hP7, hP8, X1, hbW⟩
        · go_simp
          obtain ⟨u4, hU, B7, hb9⟩ : ∃ U, U = u3.alloc (.cells #[.bool false, .slice none 0 0, .slice none 0 0] 44) ∧ Box 44 U u3.heap.size (.bool false) (.slice none 0 0) (.slice none 0 0) ∧ Below u3.heap.size u3 U := ⟨_, rfl, Box.new _ _ _ _ _, al1 _⟩
          rw [← hU]
          clear hU
          have hl7 : w.heap.size ≤ u3.heap.size := hbW.size
          have n71 : w.heap.size ≠ u3.heap.size := Nat.ne_of_lt X1.lt
          have nn : e8 ≠ u3.heap.size := Nat.ne_of_lt B8.lt
          replace hP7 := hP7.below hb9
          replace X1 := X1.below hb9
          replace B8 := B8.below hb9
          replace hbW : Below w.heap.size w u4 := hbW.trans (hb9.mono hbW.size)
          clear hb9
          generalize u3.heap.size = e7 at B7 hl7 n71 nn ⊢
          have n78 : e7 ≠ e8 := Ne.symm nn
          clear p00 p01 p02 p03 p10 p11 p12
          obtain ⟨p00, p01, p02, p03, _⟩ := X1.cells
          obtain ⟨p10, p11, p12, _⟩ := B8.cells
          obtain ⟨p20, p21, p22, _⟩ := B7.cells
          refine hK.out _ _ ?_ (fun hHeld => ?_)
          · (try dsimp only)
            exact ⟨p00, p01, p02, p03⟩
          clear hK K
          try simp only [Act.put, List.setIfInBounds_toArray, List.set_cons_zero, List.set_cons_succ]
          refine hCall (i := 5) rfl (by kernel_rfl) (by rfl) (fun K hK => ?_)
          go_simp
          refine (hpl q _ hq).mono ?_
          rintro e u5 ⟨v8, rfl, hF8, hb5⟩
          replace hP7 := hP7.below hb5
          replace X1 := X1.below hb5
          replace B8 := B8.below hb5
          replace B7 := B7.below hb5
          replace hbW : Below w.heap.size w u5 := hbW.trans (hb5.mono hbW.size)
          clear hb5
          rw [HQX.out.2] at hF8
          have hP8 := hF8.ct
          obtain ⟨n8, x8, y8, ⟨a8, c8, b8, d8, rfl, _, _⟩, _⟩ := hF8
          clear p00 p01 p02 p03 p10 p11 p12 p20 p21 p22
          obtain ⟨p00, p01, p02, p03, _⟩ := X1.cells
          obtain ⟨p10, p11, p12, _⟩ := B8.cells
          obtain ⟨p20, p21, p22, _⟩ := B7.cells
          go_wp2_with fail
          refine hK.out _ _ ?_ (fun hHeld => ?_)
          · (try dsimp only)
            exact ⟨p00, p01, p02, p03⟩
          clear hK K
          try simp only [Act.put, List.setIfInBounds_toArray, List.set_cons_zero, List.set_cons_succ]
          refine hCall (i := 8) rfl (by kernel_rfl) (by rfl) (fun K hK => ?_)
          go_simp
          obtain ⟨u6, hU, A7, hbU, hK9, ho⟩ := set3_world B7 (.bool n7) (.slice a7 x7.length c7) (.slice b7 y7.length d7)
          rw [← hU]
          clear hU
          replace hbW := hbU _ _ hbW hl7
          replace hP7 := hP7.keep hK9
          replace hP8 := hP8.keep hK9
          replace X1 := X1.other ho n71
          replace B8 := B8.other ho (Ne.symm n78)
          clear hbU hK9 ho
          clear p00 p01 p02 p03 p10 p11 p12 p20 p21 p22
          obtain ⟨p00, p01, p02, p03, _⟩ := X1.cells
          obtain ⟨p10, p11, p12, _⟩ := B8.cells
          obtain ⟨p20, p21, p22, _⟩ := A7.cells
          refine hK.out _ _ ?_ (fun hHeld => ?_)
          · (try dsimp only)
            exact ⟨p00, p01, p02, p03⟩
          clear hK K
          try simp only [Act.put, List.setIfInBounds_toArray, List.set_cons_zero, List.set_cons_succ]
          refine hCall (i := 9) rfl (by kernel_rfl) (by rfl) (fun K hK => ?_)
          go_simp
          obtain ⟨u7, hU, A8, hbU, hK9, ho⟩ := set3_world B8 (.bool n8) (.slice a8 x8.length c8) (.slice b8 y8.length d8)
          rw [← hU]
          clear hU
          replace hbW := hbU _ _ hbW hl8
          replace hP7 := hP7.keep hK9
          replace hP8 := hP8.keep hK9
          replace X1 := X1.other ho n81
          replace A7 := A7.other ho n78
          clear hbU hK9 ho
          clear p00 p01 p02 p03 p10 p11 p12 p20 p21 p22
          obtain ⟨p00, p01, p02, p03, _⟩ := X1.cells
          obtain ⟨p10, p11, p12, _⟩ := A7.cells
          obtain ⟨p20, p21, p22, _⟩ := A8.cells
          refine hK.out _ _ ?_ (fun hHeld => ?_)
          · (try dsimp only)
            exact ⟨p00, p01, p02, p03⟩
          clear hK K
          try simp only [Act.put, List.setIfInBounds_toArray, List.set_cons_zero, List.set_cons_succ]
          refine wpAnyH_done (by kernel_rfl) ?_ _
          clear hHeld
          go_wp2_with fail
          go_meet
          exact ⟨e7, e8, _, _, _, _, _, _, _, _, _, _, _, _, _, _, rfl, rfl, A7, A8, hP7, hP8, X1, hbW⟩
    · go_simp
      obtain ⟨u2, hU, B7, hb9⟩ : ∃ U, U = ud30.alloc (.cells #[.bool false, .slice none 0 0, .slice none 0 0] 44) ∧ Box 44 U ud30.heap.size (.bool false) (.slice none 0 0) (.slice none 0 0) ∧ Below ud30.heap.size ud30 U := ⟨_, rfl, Box.new _ _ _ _ _, al1 _⟩
      rw [← hU]
      clear hU
      have hl7 : w.heap.size ≤ ud30.heap.size := hbW.size
      have n71 : w.heap.size ≠ ud30.heap.size := Nat.ne_of_lt X1.lt
      replace X1 := X1.below hb9
      replace hbW : Below w.heap.size w u2 := hbW.trans (hb9.mono hbW.size)
      clear hb9
      generalize ud30.heap.size = e7 at B7 hl7 n71 ⊢
      clear p00 p01 p02 p03
      obtain ⟨p00, p01, p02, p03, _⟩ := X1.cells
      obtain ⟨p10, p11, p12, _⟩ := B7.cells
      refine hK.out _ _ ?_ (fun hHeld => ?_)
      · (try dsimp only)
        exact ⟨p00, p01, p02, p03⟩
      clear hK K
      try simp only [Act.put, List.setIfInBounds_toArray, List.set_cons_zero, List.set_cons_succ]
      refine wpAnyH_ready (rs := [2, 7]) (by kernel_rfl) (by simp) (hCons (i := 2) rfl (by rfl) (fun K hK => ?_) (hCons (i := 7) rfl (by rfl) (fun K hK => ?_) AllReadyH.nil))
      · go_simp
        refine (hpl p _ hp).mono ?_
        rintro e u3 ⟨v7, rfl, hF7, hb3⟩
        replace X1 := X1.below hb3
        replace B7 := B7.below hb3
        replace hbW : Below w.heap.size w u3 := hbW.trans (hb3.mono hbW.size)
        clear hb3
        rw [HQX.out.1] at hF7
        have hP7 := hF7.ct
        obtain ⟨n7, x7, y7, ⟨a7, c7, b7, d7, rfl, _, _⟩, _⟩ := hF7
        clear p00 p01 p02 p03 p10 p11 p12
        obtain ⟨p00, p01, p02, p03, _⟩ := X1.cells
        obtain ⟨p10, p11, p12, _⟩ := B7.cells
        go_wp2_with fail
        refine hK.out _ _ ?_ (fun hHeld => ?_)
        · (try dsimp only)
          exact ⟨p00, p01, p02, p03⟩
        clear hK K
        try simp only [Act.put, List.setIfInBounds_toArray, List.set_cons_zero, List.set_cons_succ]
        refine wpAnyH_ready (rs := [5, 7]) (by kernel_rfl) (by simp) (hCons (i := 5) rfl (by rfl) (fun K hK => ?_) (hCons (i := 7) rfl (by rfl) (fun K hK => ?_) AllReadyH.nil))
        · go_simp
          refine (hpl q _ hq).mono ?_
          rintro e u4 ⟨v8, rfl, hF8, hb4⟩
          replace hP7 := hP7.below hb4
          replace X1 := X1.below hb4
          replace B7 := B7.below hb4
          replace hbW : Below w.heap.size w u4 := hbW.trans (hb4.mono hbW.size)
          clear hb4
          rw [HQX.out.2] at hF8
          have hP8 := hF8.ct
          obtain ⟨n8, x8, y8, ⟨a8, c8, b8, d8, rfl, _, _⟩, _⟩ := hF8
          clear p00 p01 p02 p03 p10 p11 p12
          obtain ⟨p00, p01, p02, p03, _⟩ := X1.cells
          obtain ⟨p10, p11, p12, _⟩ := B7.cells
          go_wp2_with fail
          refine hK.out _ _ ?_ (fun hHeld => ?_)
          · (try dsimp only)
            exact ⟨p00, p01, p02, p03⟩
          clear hK K
          try simp only [Act.put, List.setIfInBounds_toArray, List.set_cons_zero, List.set_cons_succ]
          refine hCall (i := 7) rfl (by kernel_rfl) (by rfl) (fun K hK => ?_)
          go_simp
          obtain ⟨u5, hU, B8, hb9⟩ : ∃ U, U = u4.alloc (.cells #[.bool false, .slice none 0 0, .slice none 0 0] 44) ∧ Box 44 U u4.heap.size (.bool false) (.slice none 0 0) (.slice none 0 0) ∧ Below u4.heap.size u4 U := ⟨_, rfl, Box.new _ _ _ _ _, al1 _⟩
          rw [← hU]
          clear hU
          have hl8 : w.heap.size ≤ u4.heap.size := hbW.size
          have n81 : w.heap.size ≠ u4.heap.size := Nat.ne_of_lt X1.lt
          have nn : e7 ≠ u4.heap.size := Nat.ne_of_lt B7.lt
          replace hP7 := hP7.below hb9
          replace hP8 := hP8.below hb9
          replace X1 := X1.below hb9
          replace B7 := B7.below hb9
          replace hbW : Below w.heap.size w u5 := hbW.trans (hb9.mono hbW.size)
          clear hb9
          generalize u4.heap.size = e8 at B8 hl8 n81 nn ⊢
          have n78 : e7 ≠ e8 := nn
          clear p00 p01 p02 p03 p10 p11 p12
          obtain ⟨p00, p01, p02, p03, _⟩ := X1.cells
          obtain ⟨p10, p11, p12, _⟩ := B7.cells
          obtain ⟨p20, p21, p22, _⟩ := B8.cells
          refine hK.out _ _ ?_ (fun hHeld => ?_)
          · (try dsimp only)
            exact ⟨p00, p01, p02, p03⟩
          clear hK K
          try simp only [Act.put, List.setIfInBounds_toArray, List.set_cons_zero, List.set_cons_succ]
          refine hCall (i := 8) rfl (by kernel_rfl) (by rfl) (fun K hK => ?_)
          go_simp
          obtain ⟨u6, hU, A7, hbU, hK9, ho⟩ := set3_world B7 (.bool n7) (.slice a7 x7.length c7) (.slice b7 y7.length d7)
          rw [← hU]
          clear hU
          replace hbW := hbU _ _ hbW hl7
          replace hP7 := hP7.keep hK9
          replace hP8 := hP8.keep hK9
          replace X1 := X1.other ho n71
          replace B8 := B8.other ho (Ne.symm n78)
          clear hbU hK9 ho
          clear p00 p01 p02 p03 p10 p11 p12 p20 p21 p22
          obtain ⟨p00, p01, p02, p03, _⟩ := X1.cells
          obtain ⟨p10, p11, p12, _⟩ := B8.cells
          obtain ⟨p20, p21, p22, _⟩ := A7.cells
          refine hK.out _ _ ?_ (fun hHeld => ?_)
          · (try dsimp only)
            exact ⟨p00, p01, p02, p03⟩
          clear hK K
          try simp only [Act.put, List.setIfInBounds_toArray, List.set_cons_zero, List.set_cons_succ]
          refine hCall (i := 9) rfl (by kernel_rfl) (by rfl) (fun K hK => ?_)
          go_simp
          obtain ⟨u7, hU, A8, hbU, hK9, ho⟩ := set3_world B8 (.bool n8) (.slice a8 x8.length c8) (.slice b8 y8.length d8)
          rw [← hU]
          clear hU
          replace hbW := hbU _ _ hbW hl8
          replace hP7 := hP7.keep hK9
          replace hP8 := hP8.keep hK9
          replace X1 := X1.other ho n81
          replace A7 := A7.other ho n78
          clear hbU hK9 ho
          clear p00 p01 p02 p03 p10 p11 p12 p20 p21 p22
          obtain ⟨p00, p01, p02, p03, _⟩ := X1.cells
          obtain ⟨p10, p11, p12, _⟩ := A7.cells
          obtain ⟨p20, p21, p22, _⟩ := A8.cells
          refine hK.out _ _ ?_ (fun hHeld => ?_)
          · (try dsimp only)
            exact ⟨p00, p01, p02, p03⟩
          clear hK K
          try simp only [Act.put, List.setIfInBounds_toArray, List.set_cons_zero, List.set_cons_succ]
          refine wpAnyH_done (by kernel_rfl) ?_ _
          clear hHeld
          go_wp2_with fail
          go_meet
          exact ⟨e7, e8, _, _, _, _, _, _, _, _, _, _, _, _, _, _, rfl, rfl, A7, A8, hP7, hP8, X1, hbW⟩
        · go_simp
          obtain ⟨u4, hU, B8, hb9⟩ : ∃ U, U = u3.alloc (.cells #[.bool false, .slice none 0 0, .slice none 0 0] 44) ∧ Box 44 U u3.heap.size (.bool false) (.slice none 0 0) (.slice none 0 0) ∧ Below u3.heap.size u3 U := ⟨_, rfl, Box.new _ _ _ _ _, al1 _⟩
          rw [← hU]
          clear hU
          have hl8 : w.heap.size ≤ u3.heap.size := hbW.size
          have n81 : w.heap.size ≠ u3.heap.size := Nat.ne_of_lt X1.lt
          have nn : e7 ≠ u3.heap.size := Nat.ne_of_lt B7.lt
          replace hP7 := hP7.below hb9
          replace X1 := X1.below hb9
          replace B7 := B7.below hb9
          replace hbW : Below w.heap.size w u4 := hbW.trans (hb9.mono hbW.size)
          clear hb9
          generalize u3.heap.size = e8 at B8 hl8 n81 nn ⊢
          have n78 : e7 ≠ e8 := nn
          clear p00 p01 p02 p03 p10 p11 p12
          obtain ⟨p00, p01, p02, p03, _⟩ := X1.cells
          obtain ⟨p10, p11, p12, _⟩ := B7.cells
          obtain ⟨p20, p21, p22, _⟩ := B8.cells
          refine hK.out _ _ ?_ (fun hHeld => ?_)
          · (try dsimp only)
            exact ⟨p00, p01, p02, p03⟩
          clear hK K
          try simp only [Act.put, List.setIfInBounds_toArray, List.set_cons_zero, List.set_cons_succ]
          refine hCall (i := 5) rfl (by kernel_rfl) (by rfl) (fun K hK => ?_)
          go_simp
          refine (hpl q _ hq).mono ?_
          rintro e u5 ⟨v8, rfl, hF8, hb5⟩
          replace hP7 := hP7.below hb5
          replace X1 := X1.below hb5
          replace B7 := B7.below hb5
          replace B8 := B8.below hb5
          replace hbW : Below w.heap.size w u5 := hbW.trans (hb5.mono hbW.size)
          clear hb5
          rw [HQX.out.2] at hF8
          have hP8 := hF8.ct
          obtain ⟨n8, x8, y8, ⟨a8, c8, b8, d8, rfl, _, _⟩, _⟩ := hF8
          clear p00 p01 p02 p03 p10 p11 p12 p20 p21 p22
          obtain ⟨p00, p01, p02, p03, _⟩ := X1.cells
          obtain ⟨p10, p11, p12, _⟩ := B7.cells
          obtain ⟨p20, p21, p22, _⟩ := B8.cells
          go_wp2_with fail
          refine hK.out _ _ ?_ (fun hHeld => ?_)
          · (try dsimp only)
            exact ⟨p00, p01, p02, p03⟩
          clear hK K
          try simp only [Act.put, List.setIfInBounds_toArray, List.set_cons_zero, List.set_cons_succ]
          refine hCall (i := 8) rfl (by kernel_rfl) (by rfl) (fun K hK => ?_)
          go_simp
          obtain ⟨u6, hU, A7, hbU, hK9, ho⟩ := set3_world B7 (.bool n7) (.slice a7 x7.length c7) (.slice b7 y7.length d7)
          rw [← hU]
          clear hU
          replace hbW := hbU _ _ hbW hl7
          replace hP7 := hP7.keep hK9
          replace hP8 := hP8.keep hK9
          replace X1 := X1.other ho n71
          replace B8 := B8.other ho (Ne.symm n78)
          clear hbU hK9 ho
          clear p00 p01 p02 p03 p10 p11 p12 p20 p21 p22
          obtain ⟨p00, p01, p02, p03, _⟩ := X1.cells
          obtain ⟨p10, p11, p12, _⟩ := B8.cells
          obtain ⟨p20, p21, p22, _⟩ := A7.cells
          refine hK.out _ _ ?_ (fun hHeld => ?_)
          · (try dsimp only)
            exact ⟨p00, p01, p02, p03⟩
          clear hK K
          try simp only [Act.put, List.setIfInBounds_toArray, List.set_cons_zero, List.set_cons_succ]
          refine hCall (i := 9) rfl (by kernel_rfl) (by rfl) (fun K hK => ?_)
          go_simp
          obtain ⟨u7, hU, A8, hbU, hK9, ho⟩ := set3_world B8 (.bool n8) (.slice a8 x8.length c8) (.slice b8 y8.length d8)
          rw [← hU]
          clear hU
          replace hbW := hbU _ _ hbW hl8
          replace hP7 := hP7.keep hK9
          replace hP8 := hP8.keep hK9
          replace X1 := X1.other ho n81
          replace A7 := A7.other ho n78
          clear hbU hK9 ho
          clear p00 p01 p02 p03 p10 p11 p12 p20 p21 p22
          obtain ⟨p00, p01, p02, p03, _⟩ := X1.cells
          obtain ⟨p10, p11, p12, _⟩ := A7.cells
          obtain ⟨p20, p21, p22, _⟩ := A8.cells
          refine hK.out _ _ ?_ (fun hHeld => ?_)
          · (try dsimp only)
            exact ⟨p00, p01, p02, p03⟩
          clear hK K
          try simp only [Act.put, List.setIfInBounds_toArray, List.set_cons_zero, List.set_cons_succ]
          refine wpAnyH_done (by kernel_rfl) ?_ _
          clear hHeld
          go_wp2_with fail
          go_meet
          exact ⟨e7, e8, _, _, _, _, _, _, _, _, _, _, _, _, _, _, rfl, rfl, A7, A8, hP7, hP8, X1, hbW⟩
      · go_simp
        obtain ⟨u3, hU, B8, hb9⟩ : ∃ U, U = u2.alloc (.cells #[.bool false, .slice none 0 0, .slice none 0 0] 44) ∧ Box 44 U u2.heap.size (.bool false) (.slice none 0 0) (.slice none 0 0) ∧ Below u2.heap.size u2 U := ⟨_, rfl, Box.new _ _ _ _ _, al1 _⟩
        rw [← hU]
        clear hU
        have hl8 : w.heap.size ≤ u2.heap.size := hbW.size
        have n81 : w.heap.size ≠ u2.heap.size := Nat.ne_of_lt X1.lt
        have nn : e7 ≠ u2.heap.size := Nat.ne_of_lt B7.lt
        replace X1 := X1.below hb9
        replace B7 := B7.below hb9
        replace hbW : Below w.heap.size w u3 := hbW.trans (hb9.mono hbW.size)
        clear hb9
        generalize u2.heap.size = e8 at B8 hl8 n81 nn ⊢
        have n78 : e7 ≠ e8 := nn
        clear p00 p01 p02 p03 p10 p11 p12
        obtain ⟨p00, p01, p02, p03, _⟩ := X1.cells
        obtain ⟨p10, p11, p12, _⟩ := B7.cells
        obtain ⟨p20, p21, p22, _⟩ := B8.cells
        refine hK.out _ _ ?_ (fun hHeld => ?_)
        · (try dsimp only)
          exact ⟨p00, p01, p02, p03⟩
        clear hK K
        try simp only [Act.put, List.setIfInBounds_toArray, List.set_cons_zero, List.set_cons_succ]
        refine hCall (i := 2) rfl (by kernel_rfl) (by rfl) (fun K hK => ?_)
        go_simp
        refine (hpl p _ hp).mono ?_
        rintro e u4 ⟨v7, rfl, hF7, hb4⟩
        replace X1 := X1.below hb4
        replace B7 := B7.below hb4
        replace B8 := B8.below hb4
        replace hbW : Below w.heap.size w u4 := hbW.trans (hb4.mono hbW.size)
        clear hb4
        rw [HQX.out.1] at hF7
        have hP7 := hF7.ct
        obtain ⟨n7, x7, y7, ⟨a7, c7, b7, d7, rfl, _, _⟩, _⟩ := hF7
        clear p00 p01 p02 p03 p10 p11 p12 p20 p21 p22
        obtain ⟨p00, p01, p02, p03, _⟩ := X1.cells
        obtain ⟨p10, p11, p12, _⟩ := B7.cells
        obtain ⟨p20, p21, p22, _⟩ := B8.cells
        go_wp2_with fail
        refine hK.out _ _ ?_ (fun hHeld => ?_)
        · (try dsimp only)
          exact ⟨p00, p01, p02, p03⟩
        clear hK K
        try simp only [Act.put, List.setIfInBounds_toArray, List.set_cons_zero, List.set_cons_succ]
        refine hCall (i := 5) rfl (by kernel_rfl) (by rfl) (fun K hK => ?_)
        go_simp
        refine (hpl q _ hq).mono ?_
        rintro e u5 ⟨v8, rfl, hF8, hb5⟩
        replace hP7 := hP7.below hb5
        replace X1 := X1.below hb5
        replace B7 := B7.below hb5
        replace B8 := B8.below hb5
        replace hbW : Below w.heap.size w u5 := hbW.trans (hb5.mono hbW.size)
        clear hb5
        rw [HQX.out.2] at hF8
        have hP8 := hF8.ct
        obtain ⟨n8, x8, y8, ⟨a8, c8, b8, d8, rfl, _, _⟩, _⟩ := hF8
        clear p00 p01 p02 p03 p10 p11 p12 p20 p21 p22
        obtain ⟨p00, p01, p02, p03, _⟩ := X1.cells
        obtain ⟨p10, p11, p12, _⟩ := B7.cells
        obtain ⟨p20, p21, p22, _⟩ := B8.cells
        go_wp2_with fail
        refine hK.out _ _ ?_ (fun hHeld => ?_)
        · (try dsimp only)
          exact ⟨p00, p01, p02, p03⟩
        clear hK K
        try simp only [Act.put, List.setIfInBounds_toArray, List.set_cons_zero, List.set_cons_succ]
        refine hCall (i := 8) rfl (by kernel_rfl) (by rfl) (fun K hK => ?_)
        go_simp
        obtain ⟨u6, hU, A7, hbU, hK9, ho⟩ := set3_world B7 (.bool n7) (.slice a7 x7.length c7) (.slice b7 y7.length d7)
        rw [← hU]
        clear hU
        replace hbW := hbU _ _ hbW hl7
        replace hP7 := hP7.keep hK9
        replace hP8 := hP8.keep hK9
        replace X1 := X1.other ho n71
        replace B8 := B8.other ho (Ne.symm n78)
        clear hbU hK9 ho
        clear p00 p01 p02 p03 p10 p11 p12 p20 p21 p22
        obtain ⟨p00, p01, p02, p03, _⟩ := X1.cells
        obtain ⟨p10, p11, p12, _⟩ := B8.cells
        obtain ⟨p20, p21, p22, _⟩ := A7.cells
        refine hK.out _ _ ?_ (fun hHeld => ?_)
        · (try dsimp only)
          exact ⟨p00, p01, p02, p03⟩
        clear hK K
        try simp only [Act.put, List.setIfInBounds_toArray, List.set_cons_zero, List.set_cons_succ]
        refine hCall (i := 9) rfl (by kernel_rfl) (by rfl) (fun K hK => ?_)
        go_simp
        obtain ⟨u7, hU, A8, hbU, hK9, ho⟩ := set3_world B8 (.bool n8) (.slice a8 x8.length c8) (.slice b8 y8.length d8)
        rw [← hU]
        clear hU
        replace hbW := hbU _ _ hbW hl8
        replace hP7 := hP7.keep hK9
        replace hP8 := hP8.keep hK9
        replace X1 := X1.other ho n81
        replace A7 := A7.other ho n78
        clear hbU hK9 ho
        clear p00 p01 p02 p03 p10 p11 p12 p20 p21 p22
        obtain ⟨p00, p01, p02, p03, _⟩ := X1.cells
        obtain ⟨p10, p11, p12, _⟩ := A7.cells
        obtain ⟨p20, p21, p22, _⟩ := A8.cells
        refine hK.out _ _ ?_ (fun hHeld => ?_)
        · (try dsimp only)
          exact ⟨p00, p01, p02, p03⟩
        clear hK K
        try simp only [Act.put, List.setIfInBounds_toArray, List.set_cons_zero, List.set_cons_succ]
        refine wpAnyH_done (by kernel_rfl) ?_ _
        clear hHeld
        go_wp2_with fail
        go_meet
        exact ⟨e7, e8, _, _, _, _, _, _, _, _, _, _, _, _, _, _, rfl, rfl, A7, A8, hP7, hP8, X1, hbW⟩
    · go_simp
      obtain ⟨u2, hU, B8, hb9⟩ : ∃ U, U = ud30.alloc (.cells #[.bool false, .slice none 0 0, .slice none 0 0] 44) ∧ Box 44 U ud30.heap.size (.bool false) (.slice none 0 0) (.slice none 0 0) ∧ Below ud30.heap.size ud30 U := ⟨_, rfl, Box.new _ _ _ _ _, al1 _⟩
      rw [← hU]
      clear hU
      have hl8 : w.heap.size ≤ ud30.heap.size := hbW.size
      have n81 : w.heap.size ≠ ud30.heap.size := Nat.ne_of_lt X1.lt
      replace X1 := X1.below hb9
      replace hbW : Below w.heap.size w u2 := hbW.trans (hb9.mono hbW.size)
      clear hb9
      generalize ud30.heap.size = e8 at B8 hl8 n81 ⊢
      clear p00 p01 p02 p03
      obtain ⟨p00, p01, p02, p03, _⟩ := X1.cells
      obtain ⟨p10, p11, p12, _⟩ := B8.cells
      refine hK.out _ _ ?_ (fun hHeld => ?_)
      · (try dsimp only)
        exact ⟨p00, p01, p02, p03⟩
      clear hK K
      try simp only [Act.put, List.setIfInBounds_toArray, List.set_cons_zero, List.set_cons_succ]
      refine wpAnyH_ready (rs := [2, 6]) (by kernel_rfl) (by simp) (hCons (i := 2) rfl (by rfl) (fun K hK => ?_) (hCons (i := 6) rfl (by rfl) (fun K hK => ?_) AllReadyH.nil))
      · go_simp
        refine (hpl p _ hp).mono ?_
        rintro e u3 ⟨v7, rfl, hF7, hb3⟩
        replace X1 := X1.below hb3
        replace B8 := B8.below hb3
        replace hbW : Below w.heap.size w u3 := hbW.trans (hb3.mono hbW.size)
        clear hb3
        rw [HQX.out.1] at hF7
        have hP7 := hF7.ct
        obtain ⟨n7, x7, y7, ⟨a7, c7, b7, d7, rfl, _, _⟩, _⟩ := hF7
        clear p00 p01 p02 p03 p10 p11 p12
        obtain ⟨p00, p01, p02, p03, _⟩ := X1.cells
        obtain ⟨p10, p11, p12, _⟩ := B8.cells
        go_wp2_with fail
        refine hK.out _ _ ?_ (fun hHeld => ?_)
        · (try dsimp only)
          exact ⟨p00, p01, p02, p03⟩
        clear hK K
        try simp only [Act.put, List.setIfInBounds_toArray, List.set_cons_zero, List.set_cons_succ]
        refine wpAnyH_ready (rs := [5, 6]) (by kernel_rfl) (by simp) (hCons (i := 5) rfl (by rfl) (fun K hK => ?_) (hCons (i := 6) rfl (by rfl) (fun K hK => ?_) AllReadyH.nil))
        · go_simp
          refine (hpl q _ hq).mono ?_
          rintro e u4 ⟨v8, rfl, hF8, hb4⟩
          replace hP7 := hP7.below hb4
          replace X1 := X1.below hb4
          replace B8 := B8.below hb4
          replace hbW : Below w.heap.size w u4 := hbW.trans (hb4.mono hbW.size)
          clear hb4
          rw [HQX.out.2] at hF8
          have hP8 := hF8.ct
          obtain ⟨n8, x8, y8, ⟨a8, c8, b8, d8, rfl, _, _⟩, _⟩ := hF8
          clear p00 p01 p02 p03 p10 p11 p12
          obtain ⟨p00, p01, p02, p03, _⟩ := X1.cells
          obtain ⟨p10, p11, p12, _⟩ := B8.cells
          go_wp2_with fail
          refine hK.out _ _ ?_ (fun hHeld => ?_)
          · (try dsimp only)
            exact ⟨p00, p01, p02, p03⟩
          clear hK K
          try simp only [Act.put, List.setIfInBounds_toArray, List.set_cons_zero, List.set_cons_succ]
          refine hCall (i := 6) rfl (by kernel_rfl) (by rfl) (fun K hK => ?_)
          go_simp
          obtain ⟨u5, hU, B7, hb9⟩ : ∃ U, U = u4.alloc (.cells #[.bool false, .slice none 0 0, .slice none 0 0] 44) ∧ Box 44 U u4.heap.size (.bool false) (.slice none 0 0) (.slice none 0 0) ∧ Below u4.heap.size u4 U := ⟨_, rfl, Box.new _ _ _ _ _, al1 _⟩
          rw [← hU]
          clear hU
          have hl7 : w.heap.size ≤ u4.heap.size := hbW.size
          have n71 : w.heap.size ≠ u4.heap.size := Nat.ne_of_lt X1.lt
          have nn : e8 ≠ u4.heap.size := Nat.ne_of_lt B8.lt
          replace hP7 := hP7.below hb9
          replace hP8 := hP8.below hb9
          replace X1 := X1.below hb9
          replace B8 := B8.below hb9
          replace hbW : Below w.heap.size w u5 := hbW.trans (hb9.mono hbW.size)
          clear hb9
          generalize u4.heap.size = e7 at B7 hl7 n71 nn ⊢
          have n78 : e7 ≠ e8 := Ne.symm nn
          clear p00 p01 p02 p03 p10 p11 p12
          obtain ⟨p00, p01, p02, p03, _⟩ := X1.cells
          obtain ⟨p10, p11, p12, _⟩ := B8.cells
          obtain ⟨p20, p21, p22, _⟩ := B7.cells
          refine hK.out _ _ ?_ (fun hHeld => ?_)
          · (try dsimp only)
            exact ⟨p00, p01, p02, p03⟩
          clear hK K
          try simp only [Act.put, List.setIfInBounds_toArray, List.set_cons_zero, List.set_cons_succ]
          refine hCall (i := 8) rfl (by kernel_rfl) (by rfl) (fun K hK => ?_)
          go_simp
          obtain ⟨u6, hU, A7, hbU, hK9, ho⟩ := set3_world B7 (.bool n7) (.slice a7 x7.length c7) (.slice b7 y7.length d7)
          rw [← hU]
          clear hU
          replace hbW := hbU _ _ hbW hl7
          replace hP7 := hP7.keep hK9
          replace hP8 := hP8.keep hK9
          replace X1 := X1.other ho n71
          replace B8 := B8.other ho (Ne.symm n78)
          clear hbU hK9 ho
          clear p00 p01 p02 p03 p10 p11 p12 p20 p21 p22
          obtain ⟨p00, p01, p02, p03, _⟩ := X1.cells
          obtain ⟨p10, p11, p12, _⟩ := B8.cells
          obtain ⟨p20, p21, p22, _⟩ := A7.cells
          refine hK.out _ _ ?_ (fun hHeld => ?_)
          · (try dsimp only)
            exact ⟨p00, p01, p02, p03⟩
          clear hK K
          try simp only [Act.put, List.setIfInBounds_toArray, List.set_cons_zero, List.set_cons_succ]
          refine hCall (i := 9) rfl (by kernel_rfl) (by rfl) (fun K hK => ?_)
          go_simp
          obtain ⟨u7, hU, A8, hbU, hK9, ho⟩ := set3_world B8 (.bool n8) (.slice a8 x8.length c8) (.slice b8 y8.length d8)
          rw [← hU]
          clear hU
          replace hbW := hbU _ _ hbW hl8
          replace hP7 := hP7.keep hK9
          replace hP8 := hP8.keep hK9
          replace X1 := X1.other ho n81
          replace A7 := A7.other ho n78
          clear hbU hK9 ho
          clear p00 p01 p02 p03 p10 p11 p12 p20 p21 p22
          obtain ⟨p00, p01, p02, p03, _⟩ := X1.cells
          obtain ⟨p10, p11, p12, _⟩ := A7.cells
          obtain ⟨p20, p21, p22, _⟩ := A8.cells
          refine hK.out _ _ ?_ (fun hHeld => ?_)
          · (try dsimp only)
            exact ⟨p00, p01, p02, p03⟩
          clear hK K
          try simp only [Act.put, List.setIfInBounds_toArray, List.set_cons_zero, List.set_cons_succ]
          refine wpAnyH_done (by kernel_rfl) ?_ _
          clear hHeld
          go_wp2_with fail
          go_meet
          exact ⟨e7, e8, _, _, _, _, _, _, _, _, _, _, _, _, _, _, rfl, rfl, A7, A8, hP7, hP8, X1, hbW⟩
        · go_simp
          obtain ⟨u4, hU, B7, hb9⟩ : ∃ U, U = u3.alloc (.cells #[.bool false, .slice none 0 0, .slice none 0 0] 44) ∧ Box 44 U u3.heap.size (.bool false) (.slice none 0 0) (.slice none 0 0) ∧ Below u3.heap.size u3 U := ⟨_, rfl, Box.new _ _ _ _ _, al1 _⟩
          rw [← hU]
          clear hU
          have hl7 : w.heap.size ≤ u3.heap.size := hbW.size
          have n71 : w.heap.size ≠ u3.heap.size := Nat.ne_of_lt X1.lt
          have nn : e8 ≠ u3.heap.size := Nat.ne_of_lt B8.lt
          replace hP7 := hP7.below hb9
          replace X1 := X1.below hb9
          replace B8 := B8.below hb9
          replace hbW : Below w.heap.size w u4 := hbW.trans (hb9.mono hbW.size)
          clear hb9
          generalize u3.heap.size = e7 at B7 hl7 n71 nn ⊢
          have n78 : e7 ≠ e8 := Ne.symm nn
          clear p00 p01 p02 p03 p10 p11 p12
          obtain ⟨p00, p01, p02, p03, _⟩ := X1.cells
          obtain ⟨p10, p11, p12, _⟩ := B8.cells
          obtain ⟨p20, p21, p22, _⟩ := B7.cells
          refine hK.out _ _ ?_ (fun hHeld => ?_)
          · (try dsimp only)
            exact ⟨p00, p01, p02, p03⟩
          clear hK K
          try simp only [Act.put, List.setIfInBounds_toArray, List.set_cons_zero, List.set_cons_succ]
          refine hCall (i := 5) rfl (by kernel_rfl) (by rfl) (fun K hK => ?_)
          go_simp
          refine (hpl q _ hq).mono ?_
          rintro e u5 ⟨v8, rfl, hF8, hb5⟩
          replace hP7 := hP7.below hb5
          replace X1 := X1.below hb5
          replace B8 := B8.below hb5
          replace B7 := B7.below hb5
          replace hbW : Below w.heap.size w u5 := hbW.trans (hb5.mono hbW.size)
          clear hb5
          rw [HQX.out.2] at hF8
          have hP8 := hF8.ct
          obtain ⟨n8, x8, y8, ⟨a8, c8, b8, d8, rfl, _, _⟩, _⟩ := hF8
          clear p00 p01 p02 p03 p10 p11 p12 p20 p21 p22
          obtain ⟨p00, p01, p02, p03, _⟩ := X1.cells
          obtain ⟨p10, p11, p12, _⟩ := B8.cells
          obtain ⟨p20, p21, p22, _⟩ := B7.cells
          go_wp2_with fail
          refine hK.out _ _ ?_ (fun hHeld => ?_)
          · (try dsimp only)
            exact ⟨p00, p01, p02, p03⟩
          clear hK K
          try simp only [Act.put, List.setIfInBounds_toArray, List.set_cons_zero, List.set_cons_succ]
          refine hCall (i := 8) rfl (by kernel_rfl) (by rfl) (fun K hK => ?_)
          go_simp
          obtain ⟨u6, hU, A7, hbU, hK9, ho⟩ := set3_world B7 (.bool n7) (.slice a7 x7.length c7) (.slice b7 y7.length d7)
          rw [← hU]
          clear hU
          replace hbW := hbU _ _ hbW hl7
          replace hP7 := hP7.keep hK9
          replace hP8 := hP8.keep hK9
          replace X1 := X1.other ho n71
          replace B8 := B8.other ho (Ne.symm n78)
          clear hbU hK9 ho
          clear p00 p01 p02 p03 p10 p11 p12 p20 p21 p22
          obtain ⟨p00, p01, p02, p03, _⟩ := X1.cells
          obtain ⟨p10, p11, p12, _⟩ := B8.cells
          obtain ⟨p20, p21, p22, _⟩ := A7.cells
          refine hK.out _ _ ?_ (fun hHeld => ?_)
          · (try dsimp only)
            exact ⟨p00, p01, p02, p03⟩
          clear hK K
          try simp only [Act.put, List.setIfInBounds_toArray, List.set_cons_zero, List.set_cons_succ]
          refine hCall (i := 9) rfl (by kernel_rfl) (by rfl) (fun K hK => ?_)
          go_simp
          obtain ⟨u7, hU, A8, hbU, hK9, ho⟩ := set3_world B8 (.bool n8) (.slice a8 x8.length c8) (.slice b8 y8.length d8)
          rw [← hU]
          clear hU
          replace hbW := hbU _ _ hbW hl8
          replace hP7 := hP7.keep hK9
          replace hP8 := hP8.keep hK9
          replace X1 := X1.other ho n81
          replace A7 := A7.other ho n78
          clear hbU hK9 ho
          clear p00 p01 p02 p03 p10 p11 p12 p20 p21 p22
          obtain ⟨p00, p01, p02, p03, _⟩ := X1.cells
          obtain ⟨p10, p11, p12, _⟩ := A7.cells
          obtain ⟨p20, p21, p22, _⟩ := A8.cells
          refine hK.out _ _ ?_ (fun hHeld => ?_)
          · (try dsimp only)
            exact ⟨p00, p01, p02, p03⟩
          clear hK K
          try simp only [Act.put, List.setIfInBounds_toArray, List.set_cons_zero, List.set_cons_succ]
          refine wpAnyH_done (by kernel_rfl) ?_ _
          clear hHeld
          go_wp2_with fail
          go_meet
          exact ⟨e7, e8, _, _, _, _, _, _, _, _, _, _, _, _, _, _, rfl, rfl, A7, A8, hP7, hP8, X1, hbW⟩
      · go_simp
        obtain ⟨u3, hU, B7, hb9⟩ : ∃ U, U = u2.alloc (.cells #[.bool false, .slice none 0 0, .slice none 0 0] 44) ∧ Box 44 U u2.heap.size (.bool false) (.slice none 0 0) (.slice none 0 0) ∧ Below u2.heap.size u2 U := ⟨_, rfl, Box.new _ _ _ _ _, al1 _⟩
        rw [← hU]
        clear hU
        have hl7 : w.heap.size ≤ u2.heap.size := hbW.size
        have n71 : w.heap.size ≠ u2.heap.size := Nat.ne_of_lt X1.lt
        have nn : e8 ≠ u2.heap.size := Nat.ne_of_lt B8.lt
        replace X1 := X1.below hb9
        replace B8 := B8.below hb9
        replace hbW : Below w.heap.size w u3 := hbW.trans (hb9.mono hbW.size)
        clear hb9
        generalize u2.heap.size = e7 at B7 hl7 n71 nn ⊢
        have n78 : e7 ≠ e8 := Ne.symm nn
        clear p00 p01 p02 p03 p10 p11 p12
        obtain ⟨p00, p01, p02, p03, _⟩ := X1.cells
        obtain ⟨p10, p11, p12, _⟩ := B8.cells
        obtain ⟨p20, p21, p22, _⟩ := B7.cells
        refine hK.out _ _ ?_ (fun hHeld => ?_)
        · (try dsimp only)
          exact ⟨p00, p01, p02, p03⟩
        clear hK K
        try simp only [Act.put, List.setIfInBounds_toArray, List.set_cons_zero, List.set_cons_succ]
        refine hCall (i := 2) rfl (by kernel_rfl) (by rfl) (fun K hK => ?_)
        go_simp
        refine (hpl p _ hp).mono ?_
        rintro e u4 ⟨v7, rfl, hF7, hb4⟩
        replace X1 := X1.below hb4
        replace B8 := B8.below hb4
        replace B7 := B7.below hb4
        replace hbW : Below w.heap.size w u4 := hbW.trans (hb4.mono hbW.size)
        clear hb4
        rw [HQX.out.1] at hF7
        have hP7 := hF7.ct
        obtain ⟨n7, x7, y7, ⟨a7, c7, b7, d7, rfl, _, _⟩, _⟩ := hF7
        clear p00 p01 p02 p03 p10 p11 p12 p20 p21 p22
        obtain ⟨p00, p01, p02, p03, _⟩ := X1.cells
        obtain ⟨p10, p11, p12, _⟩ := B8.cells
        obtain ⟨p20, p21, p22, _⟩ := B7.cells
        go_wp2_with fail
        refine hK.out _ _ ?_ (fun hHeld => ?_)
        · (try dsimp only)
          exact ⟨p00, p01, p02, p03⟩
        clear hK K
        try simp only [Act.put, List.setIfInBounds_toArray, List.set_cons_zero, List.set_cons_succ]
        refine hCall (i := 5) rfl (by kernel_rfl) (by rfl) (fun K hK => ?_)
        go_simp
        refine (hpl q _ hq).mono ?_
        rintro e u5 ⟨v8, rfl, hF8, hb5⟩
        replace hP7 := hP7.below hb5
        replace X1 := X1.below hb5
        replace B8 := B8.below hb5
        replace B7 := B7.below hb5
        replace hbW : Below w.heap.size w u5 := hbW.trans (hb5.mono hbW.size)
        clear hb5
        rw [HQX.out.2] at hF8
        have hP8 := hF8.ct
        obtain ⟨n8, x8, y8, ⟨a8, c8, b8, d8, rfl, _, _⟩, _⟩ := hF8
        clear p00 p01 p02 p03 p10 p11 p12 p20 p21 p22
        obtain ⟨p00, p01, p02, p03, _⟩ := X1.cells
        obtain ⟨p10, p11, p12, _⟩ := B8.cells
        obtain ⟨p20, p21, p22, _⟩ := B7.cells
        go_wp2_with fail
        refine hK.out _ _ ?_ (fun hHeld => ?_)
        · (try dsimp only)
          exact ⟨p00, p01, p02, p03⟩
        clear hK K
        try simp only [Act.put, List.setIfInBounds_toArray, List.set_cons_zero, List.set_cons_succ]
        refine hCall (i := 8) rfl (by kernel_rfl) (by rfl) (fun K hK => ?_)
        go_simp
        obtain ⟨u6, hU, A7, hbU, hK9, ho⟩ := set3_world B7 (.bool n7) (.slice a7 x7.length c7) (.slice b7 y7.length d7)
        rw [← hU]
        clear hU
        replace hbW := hbU _ _ hbW hl7
        replace hP7 := hP7.keep hK9
        replace hP8 := hP8.keep hK9
        replace X1 := X1.other ho n71
        replace B8 := B8.other ho (Ne.symm n78)
        clear hbU hK9 ho
        clear p00 p01 p02 p03 p10 p11 p12 p20 p21 p22
        obtain ⟨p00, p01, p02, p03, _⟩ := X1.cells
        obtain ⟨p10, p11, p12, _⟩ := B8.cells
        obtain ⟨p20, p21, p22, _⟩ := A7.cells
        refine hK.out _ _ ?_ (fun hHeld => ?_)
        · (try dsimp only)
          exact ⟨p00, p01, p02, p03⟩
        clear hK K
        try simp only [Act.put, List.setIfInBounds_toArray, List.set_cons_zero, List.set_cons_succ]
        refine hCall (i := 9) rfl (by kernel_rfl) (by rfl) (fun K hK => ?_)
        go_simp
        obtain ⟨u7, hU, A8, hbU, hK9, ho⟩ := set3_world B8 (.bool n8) (.slice a8 x8.length c8) (.slice b8 y8.length d8)
        rw [← hU]
        clear hU
        replace hbW := hbU _ _ hbW hl8
        replace hP7 := hP7.keep hK9
        replace hP8 := hP8.keep hK9
        replace X1 := X1.other ho n81
        replace A7 := A7.other ho n78
        clear hbU hK9 ho
        clear p00 p01 p02 p03 p10 p11 p12 p20 p21 p22
        obtain ⟨p00, p01, p02, p03, _⟩ := X1.cells
        obtain ⟨p10, p11, p12, _⟩ := A7.cells
        obtain ⟨p20, p21, p22, _⟩ := A8.cells
        refine hK.out _ _ ?_ (fun hHeld => ?_)
        · (try dsimp only)
          exact ⟨p00, p01, p02, p03⟩
        clear hK K
        try simp only [Act.put, List.setIfInBounds_toArray, List.set_cons_zero, List.set_cons_succ]
        refine wpAnyH_done (by kernel_rfl) ?_ _
        clear hHeld
        go_wp2_with fail
        go_meet
        exact ⟨e7, e8, _, _, _, _, _, _, _, _, _, _, _, _, _, _, rfl, rfl, A7, A8, hP7, hP8, X1, hbW⟩
  case rest =>
  clear X1 hbW
  obtain ⟨e7, e8, n7, a7, x7, c7, b7, y7, d7, n8, a8, x8, c8, b8, y8, d8, rfl, rfl, B7, B8, hX, hY, X1, hbW⟩ := hcut
  obtain ⟨p00, p01, p02, p03, _⟩ := X1.cells
  obtain ⟨p10, p11, p12, _⟩ := B7.cells
  obtain ⟨p20, p21, p22, _⟩ := B8.cells
  go_wp2_with fail
  refine (whole_any 1 _ (by decide) (by decide)).mono ?_
  rintro e u61 ⟨v9, rfl, hF9, hb61⟩
  replace hX := hX.below hb61
  replace hY := hY.below hb61
  replace X1 := X1.below hb61
  replace B7 := B7.below hb61
  replace B8 := B8.below hb61
  replace hbW : Below w.heap.size w u61 := hbW.trans (hb61.mono hbW.size)
  clear hb61
  clear p00 p01 p02 p03 p10 p11 p12 p20 p21 p22
  obtain ⟨p00, p01, p02, p03, _⟩ := X1.cells
  obtain ⟨p10, p11, p12, _⟩ := B7.cells
  obtain ⟨p20, p21, p22, _⟩ := B8.cells
  have hO := hF9.ct
  obtain ⟨n9, l9, m9, ⟨a9, c9, b9, d9, rfl, _, _⟩, _⟩ := hF9
  generalize l9.length = x9 at hO ⊢
  generalize m9.length = y9 at hO ⊢
  have s1 := X1.lt
  have s7 := B7.lt
  have s8 := B8.lt
  go_wp2_with fail
  obtain ⟨V, hV, B9, hb9⟩ : ∃ V, V = u61.alloc (.cells #[.bool n9, .slice a9 x9 c9, .slice b9 y9 d9] 44) ∧ Box 44 V u61.heap.size (.bool n9) (.slice a9 x9 c9) (.slice b9 y9 d9) ∧ Below u61.heap.size u61 V := ⟨_, rfl, Box.new _ _ _ _ _, al1 _⟩
  rw [← hV]
  clear hV s1 s7 s8
  replace hX := hX.below hb9
  replace hY := hY.below hb9
  replace hO := hO.below hb9
  replace X1 := X1.below hb9
  replace B7 := B7.below hb9
  replace B8 := B8.below hb9
  replace hbW : Below w.heap.size w V := hbW.trans (hb9.mono hbW.size)
  clear hb9
  generalize u61.heap.size = e9 at B9 ⊢
  clear p00 p01 p02 p03 p10 p11 p12 p20 p21 p22
  obtain ⟨p00, p01, p02, p03, _⟩ := X1.cells
  obtain ⟨p10, p11, p12, _⟩ := B7.cells
  obtain ⟨p20, p21, p22, _⟩ := B8.cells
  obtain ⟨p30, p31, p32, _⟩ := B9.cells
  obtain ⟨z1, h1⟩ : ∃ s, sgnQ (qx - qy) = s := ⟨_, rfl⟩
  obtain ⟨z2, h2⟩ : ∃ s, sgnQ (qx - ((-1 : Int) : Rat)) = s := ⟨_, rfl⟩
  obtain ⟨z3, h3⟩ : ∃ s, sgnQ (qy - ((1 : Int) : Rat)) = s := ⟨_, rfl⟩
  have hd1 : decide (0 < z1) = false := by rw [← h1]; exact decide_eq_false (fun hh => Rat.not_lt.2 HM.out.1 (sgn_pos.1 hh))
  have hd2 : decide (z2 < 0) = false := by rw [← h2]; exact decide_eq_false (fun hh => Rat.not_lt.2 HM.out.2.1 (sgn_neg.1 hh))
  have hd3 : decide (0 < z3) = false := by rw [← h3]; exact decide_eq_false (fun hh => Rat.not_lt.2 HM.out.2.2.1 (sgn_pos.1 hh))
  have HZ : Hid (sgnQ (qx - qy) = z1 ∧ sgnQ (qx - ((-1 : Int) : Rat)) = z2 ∧ sgnQ (qy - ((1 : Int) : Rat)) = z3) := ⟨h1, h2, h3⟩
  have HS0 : Hid (sgnQ (plQ ⟨tx, lo, us, hi⟩ us) = 0) := by show _ = _; rw [HM.out.2.2.2.1]; rfl
  clear h1 h2 h3
  refine wp_region_held_drew (S := (fun u => u.cell? ⟨w.heap.size, 0, none⟩ = some (.string tx) ∧ u.cell? ⟨w.heap.size, 1, none⟩ = some (.int .i64 lo) ∧ u.cell? ⟨w.heap.size, 2, none⟩ = some (.int .i64 us) ∧ u.cell? ⟨w.heap.size, 3, none⟩ = some (.int .i64 hi) ∧ u.cell? ⟨e7, 0, none⟩ = some (.bool n7) ∧ u.cell? ⟨e7, 1, none⟩ = some (.slice a7 x7 c7) ∧ u.cell? ⟨e7, 2, none⟩ = some (.slice b7 y7 d7) ∧ u.cell? ⟨e8, 0, none⟩ = some (.bool n8) ∧ u.cell? ⟨e8, 1, none⟩ = some (.slice a8 x8 c8) ∧ u.cell? ⟨e8, 2, none⟩ = some (.slice b8 y8 d8) ∧ u.cell? ⟨e9, 0, none⟩ = some (.bool n9) ∧ u.cell? ⟨e9, 1, none⟩ = some (.slice a9 x9 c9) ∧ u.cell? ⟨e9, 2, none⟩ = some (.slice b9 y9 d9))) (by kernel_rfl) ?_ (fun hHeld => ?_)
  · (try dsimp only)
    go_keep
  have hdr : Below V.heap.size V V.drew := Below.drew1
  generalize V.drew = ud35 at hdr hHeld ⊢
  replace hX := hX.below hdr
  replace hY := hY.below hdr
  replace hO := hO.below hdr
  replace X1 := X1.below hdr
  replace B7 := B7.below hdr
  replace B8 := B8.below hdr
  replace B9 := B9.below hdr
  replace hbW : Below w.heap.size w ud35 := hbW.trans (hdr.mono hbW.size)
  clear hdr
  clear p00 p01 p02 p03 p10 p11 p12 p20 p21 p22 p30 p31 p32
  obtain ⟨p00, p01, p02, p03, _⟩ := X1.cells
  obtain ⟨p10, p11, p12, _⟩ := B7.cells
  obtain ⟨p20, p21, p22, _⟩ := B8.cells
  obtain ⟨p30, p31, p32, _⟩ := B9.cells
  refine hTake (i := 0) (v := ?v36) rfl (by kernel_rfl) (by kernel_rfl) (by kernel_rfl) (fun _ _ _ h => h) (Or.inl ⟨by rfl, ?y36⟩) hHeld ?r36
  case y36 =>
    intro w9 hSw
    (try dsimp only at hSw)
    go_simp
    try with_reducible rfl
  try simp only [Act.put, List.setIfInBounds_toArray, List.set_cons_zero, List.set_cons_succ]
  refine hTake (i := 1) (v := ?v37) rfl (by kernel_rfl) (by kernel_rfl) (by kernel_rfl) (fun _ _ _ h => h) (Or.inl ⟨by rfl, ?y37⟩) hHeld ?r37
  case y37 =>
    intro w9 hSw
    (try dsimp only at hSw)
    go_simp
    try with_reducible rfl
  try simp only [Act.put, List.setIfInBounds_toArray, List.set_cons_zero, List.set_cons_succ]
  refine hCall (i := 2) rfl (by kernel_rfl) (by rfl) (fun K hK => ?_)
  go_simp
  refine (qcmp_any 2 2 _ _ _ _ _ hX hY (by decide) (by decide) (by decide) (by decide)).mono ?_
  rintro e u62 ⟨rfl, hb62⟩
  replace hX := hX.below hb62
  replace hY := hY.below hb62
  replace hO := hO.below hb62
  replace X1 := X1.below hb62
  replace B7 := B7.below hb62
  replace B8 := B8.below hb62
  replace B9 := B9.below hb62
  replace hbW : Below w.heap.size w u62 := hbW.trans (hb62.mono hbW.size)
  clear hb62
  rw [HZ.out.1]
  clear p00 p01 p02 p03 p10 p11 p12 p20 p21 p22 p30 p31 p32
  obtain ⟨p00, p01, p02, p03, _⟩ := X1.cells
  obtain ⟨p10, p11, p12, _⟩ := B7.cells
  obtain ⟨p20, p21, p22, _⟩ := B8.cells
  obtain ⟨p30, p31, p32, _⟩ := B9.cells
  go_wp2_with fail
  refine hK.out _ _ ?_ (fun hHeld => ?_)
  · (try dsimp only)
    exact ⟨p00, p01, p02, p03, p10, p11, p12, p20, p21, p22, p30, p31, p32⟩
  clear hK K
  try simp only [Act.put, List.setIfInBounds_toArray, List.set_cons_zero, List.set_cons_succ]
  refine hTake (i := 3) (v := ?v38) rfl (by kernel_rfl) (by kernel_rfl) (by kernel_rfl) (fun _ _ _ h => h) (Or.inl ⟨by rfl, ?y38⟩) hHeld ?r38
  case y38 =>
    intro w9 hSw
    (try dsimp only at hSw)
    go_simp
    try with_reducible rfl
  try simp only [Act.put, List.setIfInBounds_toArray, List.set_cons_zero, List.set_cons_succ]
  refine hTake (i := 4) (v := ?v39) rfl (by kernel_rfl) (by kernel_rfl) (by kernel_rfl) (fun _ _ _ h => h) (Or.inl ⟨by rfl, ?y39⟩) hHeld ?r39
  case y39 =>
    intro w9 hSw
    (try dsimp only at hSw)
    go_simp
    try with_reducible rfl
  try simp only [Act.put, List.setIfInBounds_toArray, List.set_cons_zero, List.set_cons_succ]
  refine hTake (i := 5) (v := ?v40) rfl (by kernel_rfl) (by kernel_rfl) (by kernel_rfl) (fun _ _ _ h => h) (Or.inl ⟨by rfl, ?y40⟩) hHeld ?r40
  case y40 =>
    intro w9 hSw
    (try dsimp only at hSw)
    go_simp
    try with_reducible rfl
  try simp only [Act.put, List.setIfInBounds_toArray, List.set_cons_zero, List.set_cons_succ]
  refine hCall (i := 6) rfl (by kernel_rfl) (by rfl) (fun K hK => ?_)
  go_simp
  refine (whole_any (-1) _ (by decide) (by decide)).mono ?_
  rintro e u63 ⟨vm, rfl, hFm, hb63⟩
  replace hX := hX.below hb63
  replace hY := hY.below hb63
  replace hO := hO.below hb63
  replace X1 := X1.below hb63
  replace B7 := B7.below hb63
  replace B8 := B8.below hb63
  replace B9 := B9.below hb63
  replace hbW : Below w.heap.size w u63 := hbW.trans (hb63.mono hbW.size)
  clear hb63
  clear p00 p01 p02 p03 p10 p11 p12 p20 p21 p22 p30 p31 p32
  obtain ⟨p00, p01, p02, p03, _⟩ := X1.cells
  obtain ⟨p10, p11, p12, _⟩ := B7.cells
  obtain ⟨p20, p21, p22, _⟩ := B8.cells
  obtain ⟨p30, p31, p32, _⟩ := B9.cells
  go_wp2_with fail
  refine hK.out _ _ ?_ (fun hHeld => ?_)
  · (try dsimp only)
    exact ⟨p00, p01, p02, p03, p10, p11, p12, p20, p21, p22, p30, p31, p32⟩
  clear hK K
  try simp only [Act.put, List.setIfInBounds_toArray, List.set_cons_zero, List.set_cons_succ]
  refine hCall (i := 7) rfl (by kernel_rfl) (by rfl) (fun K hK => ?_)
  go_simp
  refine (qcmp_any 2 2 _ _ _ _ _ hX hFm.ct (by decide) (by decide) (by decide) (by decide)).mono ?_
  rintro e u64 ⟨rfl, hb64⟩
  replace hX := hX.below hb64
  replace hY := hY.below hb64
  replace hO := hO.below hb64
  replace hFm := hFm.below hb64
  replace X1 := X1.below hb64
  replace B7 := B7.below hb64
  replace B8 := B8.below hb64
  replace B9 := B9.below hb64
  replace hbW : Below w.heap.size w u64 := hbW.trans (hb64.mono hbW.size)
  clear hb64 hFm
  rw [HZ.out.2.1]
  clear p00 p01 p02 p03 p10 p11 p12 p20 p21 p22 p30 p31 p32
  obtain ⟨p00, p01, p02, p03, _⟩ := X1.cells
  obtain ⟨p10, p11, p12, _⟩ := B7.cells
  obtain ⟨p20, p21, p22, _⟩ := B8.cells
  obtain ⟨p30, p31, p32, _⟩ := B9.cells
  go_wp2_with fail
  refine hK.out _ _ ?_ (fun hHeld => ?_)
  · (try dsimp only)
    exact ⟨p00, p01, p02, p03, p10, p11, p12, p20, p21, p22, p30, p31, p32⟩
  clear hK K
  try simp only [Act.put, List.setIfInBounds_toArray, List.set_cons_zero, List.set_cons_succ]
  refine hTake (i := 8) (v := ?v41) rfl (by kernel_rfl) (by kernel_rfl) (by kernel_rfl) (fun _ _ _ h => h) (Or.inl ⟨by rfl, ?y41⟩) hHeld ?r41
  case y41 =>
    intro w9 hSw
    (try dsimp only at hSw)
    go_simp
    try with_reducible rfl
  try simp only [Act.put, List.setIfInBounds_toArray, List.set_cons_zero, List.set_cons_succ]
  refine hTake (i := 9) (v := ?v42) rfl (by kernel_rfl) (by kernel_rfl) (by kernel_rfl) (fun _ _ _ h => h) (Or.inl ⟨by rfl, ?y42⟩) hHeld ?r42
  case y42 =>
    intro w9 hSw
    (try dsimp only at hSw)
    go_simp
    try with_reducible rfl
  try simp only [Act.put, List.setIfInBounds_toArray, List.set_cons_zero, List.set_cons_succ]
  refine hTake (i := 10) (v := ?v43) rfl (by kernel_rfl) (by kernel_rfl) (by kernel_rfl) (fun _ _ _ h => h) (Or.inl ⟨by rfl, ?y43⟩) hHeld ?r43
  case y43 =>
    intro w9 hSw
    (try dsimp only at hSw)
    go_simp
    try with_reducible rfl
  try simp only [Act.put, List.setIfInBounds_toArray, List.set_cons_zero, List.set_cons_succ]
  refine hTake (i := 11) (v := ?v44) rfl (by kernel_rfl) (by kernel_rfl) (by kernel_rfl) (fun _ _ _ h => h) (Or.inl ⟨by rfl, ?y44⟩) hHeld ?r44
  case y44 =>
    intro w9 hSw
    (try dsimp only at hSw)
    go_simp
    try with_reducible rfl
  try simp only [Act.put, List.setIfInBounds_toArray, List.set_cons_zero, List.set_cons_succ]
  refine hTake (i := 12) (v := ?v45) rfl (by kernel_rfl) (by kernel_rfl) (by kernel_rfl) (fun _ _ _ h => h) (Or.inl ⟨by rfl, ?y45⟩) hHeld ?r45
  case y45 =>
    intro w9 hSw
    (try dsimp only at hSw)
    go_simp
    try with_reducible rfl
  try simp only [Act.put, List.setIfInBounds_toArray, List.set_cons_zero, List.set_cons_succ]
  refine hCall (i := 13) rfl (by kernel_rfl) (by rfl) (fun K hK => ?_)
  go_simp
  refine (qcmp_any 2 2 _ _ _ _ _ hY hO (by decide) (by decide) (by decide) (by decide)).mono ?_
  rintro e u65 ⟨rfl, hb65⟩
  replace hX := hX.below hb65
  replace hY := hY.below hb65
  replace hO := hO.below hb65
  replace X1 := X1.below hb65
  replace B7 := B7.below hb65
  replace B8 := B8.below hb65
  replace B9 := B9.below hb65
  replace hbW : Below w.heap.size w u65 := hbW.trans (hb65.mono hbW.size)
  clear hb65
  rw [HZ.out.2.2]
  clear p00 p01 p02 p03 p10 p11 p12 p20 p21 p22 p30 p31 p32
  obtain ⟨p00, p01, p02, p03, _⟩ := X1.cells
  obtain ⟨p10, p11, p12, _⟩ := B7.cells
  obtain ⟨p20, p21, p22, _⟩ := B8.cells
  obtain ⟨p30, p31, p32, _⟩ := B9.cells
  go_wp2_with fail
  refine hK.out _ _ ?_ (fun hHeld => ?_)
  · (try dsimp only)
    exact ⟨p00, p01, p02, p03, p10, p11, p12, p20, p21, p22, p30, p31, p32⟩
  clear hK K
  try simp only [Act.put, List.setIfInBounds_toArray, List.set_cons_zero, List.set_cons_succ]
  refine hTake (i := 14) (v := ?v46) rfl (by kernel_rfl) (by kernel_rfl) (by kernel_rfl) (fun _ _ _ h => h) (Or.inl ⟨by rfl, ?y46⟩) hHeld ?r46
  case y46 =>
    intro w9 hSw
    (try dsimp only at hSw)
    go_simp
    try with_reducible rfl
  try simp only [Act.put, List.setIfInBounds_toArray, List.set_cons_zero, List.set_cons_succ]
  refine hTake (i := 15) (v := ?v47) rfl (by kernel_rfl) (by kernel_rfl) (by kernel_rfl) (fun _ _ _ h => h) (Or.inl ⟨by rfl, ?y47⟩) hHeld ?r47
  case y47 =>
    intro w9 hSw
    (try dsimp only at hSw)
    go_simp
    try with_reducible rfl
  try simp only [Act.put, List.setIfInBounds_toArray, List.set_cons_zero, List.set_cons_succ]
  refine hTake (i := 16) (v := ?v48) rfl (by kernel_rfl) (by kernel_rfl) (by kernel_rfl) (fun _ _ _ h => h) (Or.inl ⟨by rfl, ?y48⟩) hHeld ?r48
  case y48 =>
    intro w9 hSw
    (try dsimp only at hSw)
    go_simp
    try with_reducible rfl
  try simp only [Act.put, List.setIfInBounds_toArray, List.set_cons_zero, List.set_cons_succ]
  refine hTake (i := 17) (v := ?v49) rfl (by kernel_rfl) (by kernel_rfl) (by kernel_rfl) (fun _ _ _ h => h) (Or.inl ⟨by rfl, ?y49⟩) hHeld ?r49
  case y49 =>
    intro w9 hSw
    (try dsimp only at hSw)
    go_simp
    try with_reducible rfl
  try simp only [Act.put, List.setIfInBounds_toArray, List.set_cons_zero, List.set_cons_succ]
  refine hTake (i := 18) (v := ?v50) rfl (by kernel_rfl) (by kernel_rfl) (by kernel_rfl) (fun _ _ _ h => h) (Or.inl ⟨by rfl, ?y50⟩) hHeld ?r50
  case y50 =>
    intro w9 hSw
    (try dsimp only at hSw)
    go_simp
    try with_reducible rfl
  try simp only [Act.put, List.setIfInBounds_toArray, List.set_cons_zero, List.set_cons_succ]
  refine hTake (i := 19) (v := ?v51) rfl (by kernel_rfl) (by kernel_rfl) (by kernel_rfl) (fun _ _ _ h => h) (Or.inl ⟨by rfl, ?y51⟩) hHeld ?r51
  case y51 =>
    intro w9 hSw
    (try dsimp only at hSw)
    go_simp
    try with_reducible rfl
  try simp only [Act.put, List.setIfInBounds_toArray, List.set_cons_zero, List.set_cons_succ]
  refine hCall (i := 20) rfl (by kernel_rfl) (by rfl) (fun K hK => ?_)
  go_simp
  refine (hpl us _ HWL.out.2.1).mono ?_
  rintro e u66 ⟨vu, rfl, hFu, hb66⟩
  replace hX := hX.below hb66
  replace hY := hY.below hb66
  replace hO := hO.below hb66
  replace X1 := X1.below hb66
  replace B7 := B7.below hb66
  replace B8 := B8.below hb66
  replace B9 := B9.below hb66
  replace hbW : Below w.heap.size w u66 := hbW.trans (hb66.mono hbW.size)
  clear hb66
  clear p00 p01 p02 p03 p10 p11 p12 p20 p21 p22 p30 p31 p32
  obtain ⟨p00, p01, p02, p03, _⟩ := X1.cells
  obtain ⟨p10, p11, p12, _⟩ := B7.cells
  obtain ⟨p20, p21, p22, _⟩ := B8.cells
  obtain ⟨p30, p31, p32, _⟩ := B9.cells
  go_wp2_with fail
  refine hK.out _ _ ?_ (fun hHeld => ?_)
  · (try dsimp only)
    exact ⟨p00, p01, p02, p03, p10, p11, p12, p20, p21, p22, p30, p31, p32⟩
  clear hK K
  try simp only [Act.put, List.setIfInBounds_toArray, List.set_cons_zero, List.set_cons_succ]
  refine hCall (i := 21) rfl (by kernel_rfl) (by rfl) (fun K hK => ?_)
  go_simp
  refine (qsign_any 2 _ _ _ hFu.ct (by decide) (by decide)).mono ?_
  rintro e u67 ⟨rfl, hb67⟩
  replace hX := hX.below hb67
  replace hY := hY.below hb67
  replace hO := hO.below hb67
  replace hFu := hFu.below hb67
  replace X1 := X1.below hb67
  replace B7 := B7.below hb67
  replace B8 := B8.below hb67
  replace B9 := B9.below hb67
  replace hbW : Below w.heap.size w u67 := hbW.trans (hb67.mono hbW.size)
  clear hb67 hFu
  rw [HS0.out]
  clear p00 p01 p02 p03 p10 p11 p12 p20 p21 p22 p30 p31 p32
  obtain ⟨p00, p01, p02, p03, _⟩ := X1.cells
  obtain ⟨p10, p11, p12, _⟩ := B7.cells
  obtain ⟨p20, p21, p22, _⟩ := B8.cells
  obtain ⟨p30, p31, p32, _⟩ := B9.cells
  go_wp2_with fail
  refine hK.out _ _ ?_ (fun hHeld => ?_)
  · (try dsimp only)
    exact ⟨p00, p01, p02, p03, p10, p11, p12, p20, p21, p22, p30, p31, p32⟩
  clear hK K
  try simp only [Act.put, List.setIfInBounds_toArray, List.set_cons_zero, List.set_cons_succ]
  refine hTake (i := 22) (v := ?v52) rfl (by kernel_rfl) (by kernel_rfl) (by kernel_rfl) (fun _ _ _ h => h) (Or.inl ⟨by rfl, ?y52⟩) hHeld ?r52
  case y52 =>
    intro w9 hSw
    (try dsimp only at hSw)
    go_simp
    try with_reducible rfl
  try simp only [Act.put, List.setIfInBounds_toArray, List.set_cons_zero, List.set_cons_succ]
  refine hTake (i := 23) (v := ?v53) rfl (by kernel_rfl) (by kernel_rfl) (by kernel_rfl) (fun _ _ _ h => h) (Or.inl ⟨by rfl, ?y53⟩) hHeld ?r53
  case y53 =>
    intro w9 hSw
    (try dsimp only at hSw)
    go_simp
    try with_reducible rfl
  try simp only [Act.put, List.setIfInBounds_toArray, List.set_cons_zero, List.set_cons_succ]
  refine wpAnyH_done (by kernel_rfl) ?_ _
  clear hHeld hd1 hd2 hd3 HZ
  by_cases hlu : lo < us
  · have hlt : decide (lo < us) = true := decide_eq_true hlu
    go_wp2_with fail
    refine (hpl lo _ HWL.out.1).mono ?_
    rintro e u68 ⟨vl, rfl, hFl, hb68⟩
    replace hX := hX.below hb68
    replace hY := hY.below hb68
    replace hO := hO.below hb68
    replace X1 := X1.below hb68
    replace B7 := B7.below hb68
    replace B8 := B8.below hb68
    replace B9 := B9.below hb68
    replace hbW : Below w.heap.size w u68 := hbW.trans (hb68.mono hbW.size)
    clear hb68
    clear p00 p01 p02 p03 p10 p11 p12 p20 p21 p22 p30 p31 p32
    obtain ⟨p00, p01, p02, p03, _⟩ := X1.cells
    obtain ⟨p10, p11, p12, _⟩ := B7.cells
    obtain ⟨p20, p21, p22, _⟩ := B8.cells
    obtain ⟨p30, p31, p32, _⟩ := B9.cells
    go_wp2_with fail
    refine (whole_any (-1) _ (by decide) (by decide)).mono ?_
    rintro e u69 ⟨vm, rfl, hFm, hb69⟩
    replace hX := hX.below hb69
    replace hY := hY.below hb69
    replace hO := hO.below hb69
    replace hFl := hFl.below hb69
    replace X1 := X1.below hb69
    replace B7 := B7.below hb69
    replace B8 := B8.below hb69
    replace B9 := B9.below hb69
    replace hbW : Below w.heap.size w u69 := hbW.trans (hb69.mono hbW.size)
    clear hb69
    clear p00 p01 p02 p03 p10 p11 p12 p20 p21 p22 p30 p31 p32
    obtain ⟨p00, p01, p02, p03, _⟩ := X1.cells
    obtain ⟨p10, p11, p12, _⟩ := B7.cells
    obtain ⟨p20, p21, p22, _⟩ := B8.cells
    obtain ⟨p30, p31, p32, _⟩ := B9.cells
    go_wp2_with fail
    refine (qcmp_any 2 2 _ _ _ _ _ hFl.ct hFm.ct (by decide) (by decide) (by decide) (by decide)).mono ?_
    rintro e u70 ⟨rfl, hb70⟩
    replace hX := hX.below hb70
    replace hY := hY.below hb70
    replace hO := hO.below hb70
    replace hFl := hFl.below hb70
    replace hFm := hFm.below hb70
    replace X1 := X1.below hb70
    replace B7 := B7.below hb70
    replace B8 := B8.below hb70
    replace B9 := B9.below hb70
    replace hbW : Below w.heap.size w u70 := hbW.trans (hb70.mono hbW.size)
    clear hb70 hFl hFm
    clear p00 p01 p02 p03 p10 p11 p12 p20 p21 p22 p30 p31 p32
    obtain ⟨p00, p01, p02, p03, _⟩ := X1.cells
    obtain ⟨p10, p11, p12, _⟩ := B7.cells
    obtain ⟨p20, p21, p22, _⟩ := B8.cells
    obtain ⟨p30, p31, p32, _⟩ := B9.cells
    rw [sgn_eq0.2 (HM.out.2.2.2.2.1 hlu)]
    by_cases hmu : hi = us
    · have hme : (hi == us) = true := by simpa using hmu
      clear hmu
      go_wp2_with fail
      refine wp_region_held_drew (S := (fun u => u.cell? ⟨w.heap.size, 0, none⟩ = some (.string tx) ∧ u.cell? ⟨w.heap.size, 1, none⟩ = some (.int .i64 lo) ∧ u.cell? ⟨w.heap.size, 2, none⟩ = some (.int .i64 us) ∧ u.cell? ⟨w.heap.size, 3, none⟩ = some (.int .i64 hi) ∧ u.cell? ⟨e7, 0, none⟩ = some (.bool n7) ∧ u.cell? ⟨e7, 1, none⟩ = some (.slice a7 x7 c7) ∧ u.cell? ⟨e7, 2, none⟩ = some (.slice b7 y7 d7) ∧ u.cell? ⟨e8, 0, none⟩ = some (.bool n8) ∧ u.cell? ⟨e8, 1, none⟩ = some (.slice a8 x8 c8) ∧ u.cell? ⟨e8, 2, none⟩ = some (.slice b8 y8 d8) ∧ u.cell? ⟨e9, 0, none⟩ = some (.bool n9) ∧ u.cell? ⟨e9, 1, none⟩ = some (.slice a9 x9 c9) ∧ u.cell? ⟨e9, 2, none⟩ = some (.slice b9 y9 d9))) (by kernel_rfl) ?_ (fun hHeld => ?_)
      · (try dsimp only)
        go_keep
      have hdr : Below u70.heap.size u70 u70.drew := Below.drew1
      generalize u70.drew = ud54 at hdr hHeld ⊢
      replace hX := hX.below hdr
      replace hY := hY.below hdr
      replace hO := hO.below hdr
      replace X1 := X1.below hdr
      replace B7 := B7.below hdr
      replace B8 := B8.below hdr
      replace B9 := B9.below hdr
      replace hbW : Below w.heap.size w ud54 := hbW.trans (hdr.mono hbW.size)
      clear hdr
      clear p00 p01 p02 p03 p10 p11 p12 p20 p21 p22 p30 p31 p32
      obtain ⟨p00, p01, p02, p03, _⟩ := X1.cells
      obtain ⟨p10, p11, p12, _⟩ := B7.cells
      obtain ⟨p20, p21, p22, _⟩ := B8.cells
      obtain ⟨p30, p31, p32, _⟩ := B9.cells
      refine hTake (i := 0) (v := ?v55) rfl (by kernel_rfl) (by kernel_rfl) (by kernel_rfl) (fun _ _ _ h => h) (Or.inl ⟨by rfl, ?y55⟩) hHeld ?r55
      case y55 =>
        intro w9 hSw
        (try dsimp only at hSw)
        go_simp
        try with_reducible rfl
      try simp only [Act.put, List.setIfInBounds_toArray, List.set_cons_zero, List.set_cons_succ]
      refine hTake (i := 1) (v := ?v56) rfl (by kernel_rfl) (by kernel_rfl) (by kernel_rfl) (fun _ _ _ h => h) (Or.inl ⟨by rfl, ?y56⟩) hHeld ?r56
      case y56 =>
        intro w9 hSw
        (try dsimp only at hSw)
        go_simp
        try with_reducible rfl
      try simp only [Act.put, List.setIfInBounds_toArray, List.set_cons_zero, List.set_cons_succ]
      refine hTake (i := 2) (v := ?v57) rfl (by kernel_rfl) (by kernel_rfl) (by kernel_rfl) (fun _ _ _ h => h) (Or.inl ⟨by rfl, ?y57⟩) hHeld ?r57
      case y57 =>
        intro w9 hSw
        (try dsimp only at hSw)
        go_simp
        try with_reducible rfl
      try simp only [Act.put, List.setIfInBounds_toArray, List.set_cons_zero, List.set_cons_succ]
      refine hTake (i := 3) (v := ?v58) rfl (by kernel_rfl) (by kernel_rfl) (by kernel_rfl) (fun _ _ _ h => h) (Or.inl ⟨by rfl, ?y58⟩) hHeld ?r58
      case y58 =>
        intro w9 hSw
        (try dsimp only at hSw)
        go_simp
        try with_reducible rfl
      try simp only [Act.put, List.setIfInBounds_toArray, List.set_cons_zero, List.set_cons_succ]
      refine hTake (i := 4) (v := ?v59) rfl (by kernel_rfl) (by kernel_rfl) (by kernel_rfl) (fun _ _ _ h => h) (Or.inl ⟨by rfl, ?y59⟩) hHeld ?r59
      case y59 =>
        intro w9 hSw
        (try dsimp only at hSw)
        go_simp
        try with_reducible rfl
      try simp only [Act.put, List.setIfInBounds_toArray, List.set_cons_zero, List.set_cons_succ]
      refine hTake (i := 5) (v := ?v60) rfl (by kernel_rfl) (by kernel_rfl) (by kernel_rfl) (fun _ _ _ h => h) (Or.inl ⟨by rfl, ?y60⟩) hHeld ?r60
      case y60 =>
        intro w9 hSw
        (try dsimp only at hSw)
        go_simp
        try with_reducible rfl
      try simp only [Act.put, List.setIfInBounds_toArray, List.set_cons_zero, List.set_cons_succ]
      refine hTake (i := 6) (v := undef) rfl (by kernel_rfl) (by kernel_rfl) (by kernel_rfl) (fun _ _ _ h => h) (Or.inr ⟨by rfl, rfl⟩) hHeld ?_
      try simp only [Act.put, List.setIfInBounds_toArray, List.set_cons_zero, List.set_cons_succ]
      refine hTake (i := 7) (v := undef) rfl (by kernel_rfl) (by kernel_rfl) (by kernel_rfl) (fun _ _ _ h => h) (Or.inr ⟨by rfl, rfl⟩) hHeld ?_
      try simp only [Act.put, List.setIfInBounds_toArray, List.set_cons_zero, List.set_cons_succ]
      refine hTake (i := 8) (v := undef) rfl (by kernel_rfl) (by kernel_rfl) (by kernel_rfl) (fun _ _ _ h => h) (Or.inr ⟨by rfl, rfl⟩) hHeld ?_
      try simp only [Act.put, List.setIfInBounds_toArray, List.set_cons_zero, List.set_cons_succ]
      refine hTake (i := 9) (v := undef) rfl (by kernel_rfl) (by kernel_rfl) (by kernel_rfl) (fun _ _ _ h => h) (Or.inr ⟨by rfl, rfl⟩) hHeld ?_
      try simp only [Act.put, List.setIfInBounds_toArray, List.set_cons_zero, List.set_cons_succ]
      refine hTake (i := 10) (v := undef) rfl (by kernel_rfl) (by kernel_rfl) (by kernel_rfl) (fun _ _ _ h => h) (Or.inr ⟨by rfl, rfl⟩) hHeld ?_
      try simp only [Act.put, List.setIfInBounds_toArray, List.set_cons_zero, List.set_cons_succ]
      refine hTake (i := 11) (v := undef) rfl (by kernel_rfl) (by kernel_rfl) (by kernel_rfl) (fun _ _ _ h => h) (Or.inr ⟨by rfl, rfl⟩) hHeld ?_
      try simp only [Act.put, List.setIfInBounds_toArray, List.set_cons_zero, List.set_cons_succ]
      refine hTake (i := 12) (v := undef) rfl (by kernel_rfl) (by kernel_rfl) (by kernel_rfl) (fun _ _ _ h => h) (Or.inr ⟨by rfl, rfl⟩) hHeld ?_
      try simp only [Act.put, List.setIfInBounds_toArray, List.set_cons_zero, List.set_cons_succ]
      refine hTake (i := 13) (v := ?v61) rfl (by kernel_rfl) (by kernel_rfl) (by kernel_rfl) (fun _ _ _ h => h) (Or.inl ⟨by rfl, ?y61⟩) hHeld ?r61
      case y61 =>
        intro w9 hSw
        (try dsimp only at hSw)
        go_simp
        try with_reducible rfl
      try simp only [Act.put, List.setIfInBounds_toArray, List.set_cons_zero, List.set_cons_succ]
      refine hTake (i := 14) (v := ?v62) rfl (by kernel_rfl) (by kernel_rfl) (by kernel_rfl) (fun _ _ _ h => h) (Or.inl ⟨by rfl, ?y62⟩) hHeld ?r62
      case y62 =>
        intro w9 hSw
        (try dsimp only at hSw)
        go_simp
        try with_reducible rfl
      try simp only [Act.put, List.setIfInBounds_toArray, List.set_cons_zero, List.set_cons_succ]
      refine wpAnyH_done (by kernel_rfl) ?_ _
      go_wp2
      go_ret
      exact ⟨rfl, hbW⟩
    · have hme : (hi == us) = false := by simpa using hmu
      go_wp2_with fail
      refine wp_region_held_drew (S := (fun u => u.cell? ⟨w.heap.size, 0, none⟩ = some (.string tx) ∧ u.cell? ⟨w.heap.size, 1, none⟩ = some (.int .i64 lo) ∧ u.cell? ⟨w.heap.size, 2, none⟩ = some (.int .i64 us) ∧ u.cell? ⟨w.heap.size, 3, none⟩ = some (.int .i64 hi) ∧ u.cell? ⟨e7, 0, none⟩ = some (.bool n7) ∧ u.cell? ⟨e7, 1, none⟩ = some (.slice a7 x7 c7) ∧ u.cell? ⟨e7, 2, none⟩ = some (.slice b7 y7 d7) ∧ u.cell? ⟨e8, 0, none⟩ = some (.bool n8) ∧ u.cell? ⟨e8, 1, none⟩ = some (.slice a8 x8 c8) ∧ u.cell? ⟨e8, 2, none⟩ = some (.slice b8 y8 d8) ∧ u.cell? ⟨e9, 0, none⟩ = some (.bool n9) ∧ u.cell? ⟨e9, 1, none⟩ = some (.slice a9 x9 c9) ∧ u.cell? ⟨e9, 2, none⟩ = some (.slice b9 y9 d9))) (by kernel_rfl) ?_ (fun hHeld => ?_)
      · (try dsimp only)
        go_keep
      have hdr : Below u70.heap.size u70 u70.drew := Below.drew1
      generalize u70.drew = ud63 at hdr hHeld ⊢
      replace hX := hX.below hdr
      replace hY := hY.below hdr
      replace hO := hO.below hdr
      replace X1 := X1.below hdr
      replace B7 := B7.below hdr
      replace B8 := B8.below hdr
      replace B9 := B9.below hdr
      replace hbW : Below w.heap.size w ud63 := hbW.trans (hdr.mono hbW.size)
      clear hdr
      clear p00 p01 p02 p03 p10 p11 p12 p20 p21 p22 p30 p31 p32
      obtain ⟨p00, p01, p02, p03, _⟩ := X1.cells
      obtain ⟨p10, p11, p12, _⟩ := B7.cells
      obtain ⟨p20, p21, p22, _⟩ := B8.cells
      obtain ⟨p30, p31, p32, _⟩ := B9.cells
      refine hTake (i := 0) (v := ?v64) rfl (by kernel_rfl) (by kernel_rfl) (by kernel_rfl) (fun _ _ _ h => h) (Or.inl ⟨by rfl, ?y64⟩) hHeld ?r64
      case y64 =>
        intro w9 hSw
        (try dsimp only at hSw)
        go_simp
        try with_reducible rfl
      try simp only [Act.put, List.setIfInBounds_toArray, List.set_cons_zero, List.set_cons_succ]
      refine hTake (i := 1) (v := ?v65) rfl (by kernel_rfl) (by kernel_rfl) (by kernel_rfl) (fun _ _ _ h => h) (Or.inl ⟨by rfl, ?y65⟩) hHeld ?r65
      case y65 =>
        intro w9 hSw
        (try dsimp only at hSw)
        go_simp
        try with_reducible rfl
      try simp only [Act.put, List.setIfInBounds_toArray, List.set_cons_zero, List.set_cons_succ]
      refine hTake (i := 2) (v := ?v66) rfl (by kernel_rfl) (by kernel_rfl) (by kernel_rfl) (fun _ _ _ h => h) (Or.inl ⟨by rfl, ?y66⟩) hHeld ?r66
      case y66 =>
        intro w9 hSw
        (try dsimp only at hSw)
        go_simp
        try with_reducible rfl
      try simp only [Act.put, List.setIfInBounds_toArray, List.set_cons_zero, List.set_cons_succ]
      refine hTake (i := 3) (v := ?v67) rfl (by kernel_rfl) (by kernel_rfl) (by kernel_rfl) (fun _ _ _ h => h) (Or.inl ⟨by rfl, ?y67⟩) hHeld ?r67
      case y67 =>
        intro w9 hSw
        (try dsimp only at hSw)
        go_simp
        try with_reducible rfl
      try simp only [Act.put, List.setIfInBounds_toArray, List.set_cons_zero, List.set_cons_succ]
      refine hTake (i := 4) (v := ?v68) rfl (by kernel_rfl) (by kernel_rfl) (by kernel_rfl) (fun _ _ _ h => h) (Or.inl ⟨by rfl, ?y68⟩) hHeld ?r68
      case y68 =>
        intro w9 hSw
        (try dsimp only at hSw)
        go_simp
        try with_reducible rfl
      try simp only [Act.put, List.setIfInBounds_toArray, List.set_cons_zero, List.set_cons_succ]
      refine hTake (i := 5) (v := ?v69) rfl (by kernel_rfl) (by kernel_rfl) (by kernel_rfl) (fun _ _ _ h => h) (Or.inl ⟨by rfl, ?y69⟩) hHeld ?r69
      case y69 =>
        intro w9 hSw
        (try dsimp only at hSw)
        go_simp
        try with_reducible rfl
      try simp only [Act.put, List.setIfInBounds_toArray, List.set_cons_zero, List.set_cons_succ]
      refine hTake (i := 6) (v := ?v70) rfl (by kernel_rfl) (by kernel_rfl) (by kernel_rfl) (fun _ _ _ h => h) (Or.inl ⟨by rfl, ?y70⟩) hHeld ?r70
      case y70 =>
        intro w9 hSw
        (try dsimp only at hSw)
        go_simp
        try with_reducible rfl
      try simp only [Act.put, List.setIfInBounds_toArray, List.set_cons_zero, List.set_cons_succ]
      refine hTake (i := 7) (v := ?v71) rfl (by kernel_rfl) (by kernel_rfl) (by kernel_rfl) (fun _ _ _ h => h) (Or.inl ⟨by rfl, ?y71⟩) hHeld ?r71
      case y71 =>
        intro w9 hSw
        (try dsimp only at hSw)
        go_simp
        try with_reducible rfl
      try simp only [Act.put, List.setIfInBounds_toArray, List.set_cons_zero, List.set_cons_succ]
      refine hTake (i := 8) (v := ?v72) rfl (by kernel_rfl) (by kernel_rfl) (by kernel_rfl) (fun _ _ _ h => h) (Or.inl ⟨by rfl, ?y72⟩) hHeld ?r72
      case y72 =>
        intro w9 hSw
        (try dsimp only at hSw)
        go_simp
        try with_reducible rfl
      try simp only [Act.put, List.setIfInBounds_toArray, List.set_cons_zero, List.set_cons_succ]
      refine hTake (i := 10) (v := ?v73) rfl (by kernel_rfl) (by kernel_rfl) (by kernel_rfl) (fun _ _ _ h => h) (Or.inl ⟨by rfl, ?y73⟩) hHeld ?r73
      case y73 =>
        intro w9 hSw
        (try dsimp only at hSw)
        go_simp
        try with_reducible rfl
      try simp only [Act.put, List.setIfInBounds_toArray, List.set_cons_zero, List.set_cons_succ]
      refine hCall (i := 9) rfl (by kernel_rfl) (by rfl) (fun K hK => ?_)
      go_simp
      refine (hpl hi _ HWL.out.2.2).mono ?_
      rintro e u71 ⟨vh, rfl, hFh, hb71⟩
      replace hX := hX.below hb71
      replace hY := hY.below hb71
      replace hO := hO.below hb71
      replace X1 := X1.below hb71
      replace B7 := B7.below hb71
      replace B8 := B8.below hb71
      replace B9 := B9.below hb71
      replace hbW : Below w.heap.size w u71 := hbW.trans (hb71.mono hbW.size)
      clear hb71
      clear p00 p01 p02 p03 p10 p11 p12 p20 p21 p22 p30 p31 p32
      obtain ⟨p00, p01, p02, p03, _⟩ := X1.cells
      obtain ⟨p10, p11, p12, _⟩ := B7.cells
      obtain ⟨p20, p21, p22, _⟩ := B8.cells
      obtain ⟨p30, p31, p32, _⟩ := B9.cells
      go_wp2_with fail
      refine hK.out _ _ ?_ (fun hHeld => ?_)
      · (try dsimp only)
        exact ⟨p00, p01, p02, p03, p10, p11, p12, p20, p21, p22, p30, p31, p32⟩
      clear hK K
      try simp only [Act.put, List.setIfInBounds_toArray, List.set_cons_zero, List.set_cons_succ]
      refine hCall (i := 11) rfl (by kernel_rfl) (by rfl) (fun K hK => ?_)
      go_simp
      refine (qcmp_any 2 2 _ _ _ _ _ hFh.ct hO (by decide) (by decide) (by decide) (by decide)).mono ?_
      rintro e u72 ⟨rfl, hb72⟩
      replace hX := hX.below hb72
      replace hY := hY.below hb72
      replace hO := hO.below hb72
      replace hFh := hFh.below hb72
      replace X1 := X1.below hb72
      replace B7 := B7.below hb72
      replace B8 := B8.below hb72
      replace B9 := B9.below hb72
      replace hbW : Below w.heap.size w u72 := hbW.trans (hb72.mono hbW.size)
      clear hb72
      rw [sgn_eq0.2 (HM.out.2.2.2.2.2 (by omega))]
      clear p00 p01 p02 p03 p10 p11 p12 p20 p21 p22 p30 p31 p32
      obtain ⟨p00, p01, p02, p03, _⟩ := X1.cells
      obtain ⟨p10, p11, p12, _⟩ := B7.cells
      obtain ⟨p20, p21, p22, _⟩ := B8.cells
      obtain ⟨p30, p31, p32, _⟩ := B9.cells
      go_wp2_with fail
      refine hK.out _ _ ?_ (fun hHeld => ?_)
      · (try dsimp only)
        exact ⟨p00, p01, p02, p03, p10, p11, p12, p20, p21, p22, p30, p31, p32⟩
      clear hK K
      try simp only [Act.put, List.setIfInBounds_toArray, List.set_cons_zero, List.set_cons_succ]
      refine hTake (i := 12) (v := ?v74) rfl (by kernel_rfl) (by kernel_rfl) (by kernel_rfl) (fun _ _ _ h => h) (Or.inl ⟨by rfl, ?y74⟩) hHeld ?r74
      case y74 =>
        intro w9 hSw
        (try dsimp only at hSw)
        go_simp
        try with_reducible rfl
      try simp only [Act.put, List.setIfInBounds_toArray, List.set_cons_zero, List.set_cons_succ]
      refine hTake (i := 13) (v := ?v75) rfl (by kernel_rfl) (by kernel_rfl) (by kernel_rfl) (fun _ _ _ h => h) (Or.inl ⟨by rfl, ?y75⟩) hHeld ?r75
      case y75 =>
        intro w9 hSw
        (try dsimp only at hSw)
        go_simp
        try with_reducible rfl
      try simp only [Act.put, List.setIfInBounds_toArray, List.set_cons_zero, List.set_cons_succ]
      refine hTake (i := 14) (v := ?v76) rfl (by kernel_rfl) (by kernel_rfl) (by kernel_rfl) (fun _ _ _ h => h) (Or.inl ⟨by rfl, ?y76⟩) hHeld ?r76
      case y76 =>
        intro w9 hSw
        (try dsimp only at hSw)
        go_simp
        try with_reducible rfl
      try simp only [Act.put, List.setIfInBounds_toArray, List.set_cons_zero, List.set_cons_succ]
      refine wpAnyH_done (by kernel_rfl) ?_ _
      go_wp2
      go_ret
      exact ⟨rfl, hbW⟩
  · have hlt : decide (lo < us) = false := decide_eq_false hlu
    by_cases hmu : hi = us
    · have hme : (hi == us) = true := by simpa using hmu
      clear hmu
      go_wp2_with fail
      refine wp_region_held_drew (S := (fun u => u.cell? ⟨w.heap.size, 0, none⟩ = some (.string tx) ∧ u.cell? ⟨w.heap.size, 1, none⟩ = some (.int .i64 lo) ∧ u.cell? ⟨w.heap.size, 2, none⟩ = some (.int .i64 us) ∧ u.cell? ⟨w.heap.size, 3, none⟩ = some (.int .i64 hi) ∧ u.cell? ⟨e7, 0, none⟩ = some (.bool n7) ∧ u.cell? ⟨e7, 1, none⟩ = some (.slice a7 x7 c7) ∧ u.cell? ⟨e7, 2, none⟩ = some (.slice b7 y7 d7) ∧ u.cell? ⟨e8, 0, none⟩ = some (.bool n8) ∧ u.cell? ⟨e8, 1, none⟩ = some (.slice a8 x8 c8) ∧ u.cell? ⟨e8, 2, none⟩ = some (.slice b8 y8 d8) ∧ u.cell? ⟨e9, 0, none⟩ = some (.bool n9) ∧ u.cell? ⟨e9, 1, none⟩ = some (.slice a9 x9 c9) ∧ u.cell? ⟨e9, 2, none⟩ = some (.slice b9 y9 d9))) (by kernel_rfl) ?_ (fun hHeld => ?_)
      · (try dsimp only)
        go_keep
      have hdr : Below u67.heap.size u67 u67.drew := Below.drew1
      generalize u67.drew = ud77 at hdr hHeld ⊢
      replace hX := hX.below hdr
      replace hY := hY.below hdr
      replace hO := hO.below hdr
      replace X1 := X1.below hdr
      replace B7 := B7.below hdr
      replace B8 := B8.below hdr
      replace B9 := B9.below hdr
      replace hbW : Below w.heap.size w ud77 := hbW.trans (hdr.mono hbW.size)
      clear hdr
      clear p00 p01 p02 p03 p10 p11 p12 p20 p21 p22 p30 p31 p32
      obtain ⟨p00, p01, p02, p03, _⟩ := X1.cells
      obtain ⟨p10, p11, p12, _⟩ := B7.cells
      obtain ⟨p20, p21, p22, _⟩ := B8.cells
      obtain ⟨p30, p31, p32, _⟩ := B9.cells
      refine hTake (i := 0) (v := ?v78) rfl (by kernel_rfl) (by kernel_rfl) (by kernel_rfl) (fun _ _ _ h => h) (Or.inl ⟨by rfl, ?y78⟩) hHeld ?r78
      case y78 =>
        intro w9 hSw
        (try dsimp only at hSw)
        go_simp
        try with_reducible rfl
      try simp only [Act.put, List.setIfInBounds_toArray, List.set_cons_zero, List.set_cons_succ]
      refine hTake (i := 1) (v := ?v79) rfl (by kernel_rfl) (by kernel_rfl) (by kernel_rfl) (fun _ _ _ h => h) (Or.inl ⟨by rfl, ?y79⟩) hHeld ?r79
      case y79 =>
        intro w9 hSw
        (try dsimp only at hSw)
        go_simp
        try with_reducible rfl
      try simp only [Act.put, List.setIfInBounds_toArray, List.set_cons_zero, List.set_cons_succ]
      refine hTake (i := 2) (v := ?v80) rfl (by kernel_rfl) (by kernel_rfl) (by kernel_rfl) (fun _ _ _ h => h) (Or.inl ⟨by rfl, ?y80⟩) hHeld ?r80
      case y80 =>
        intro w9 hSw
        (try dsimp only at hSw)
        go_simp
        try with_reducible rfl
      try simp only [Act.put, List.setIfInBounds_toArray, List.set_cons_zero, List.set_cons_succ]
      refine hTake (i := 3) (v := ?v81) rfl (by kernel_rfl) (by kernel_rfl) (by kernel_rfl) (fun _ _ _ h => h) (Or.inl ⟨by rfl, ?y81⟩) hHeld ?r81
      case y81 =>
        intro w9 hSw
        (try dsimp only at hSw)
        go_simp
        try with_reducible rfl
      try simp only [Act.put, List.setIfInBounds_toArray, List.set_cons_zero, List.set_cons_succ]
      refine hTake (i := 4) (v := ?v82) rfl (by kernel_rfl) (by kernel_rfl) (by kernel_rfl) (fun _ _ _ h => h) (Or.inl ⟨by rfl, ?y82⟩) hHeld ?r82
      case y82 =>
        intro w9 hSw
        (try dsimp only at hSw)
        go_simp
        try with_reducible rfl
      try simp only [Act.put, List.setIfInBounds_toArray, List.set_cons_zero, List.set_cons_succ]
      refine hTake (i := 5) (v := ?v83) rfl (by kernel_rfl) (by kernel_rfl) (by kernel_rfl) (fun _ _ _ h => h) (Or.inl ⟨by rfl, ?y83⟩) hHeld ?r83
      case y83 =>
        intro w9 hSw
        (try dsimp only at hSw)
        go_simp
        try with_reducible rfl
      try simp only [Act.put, List.setIfInBounds_toArray, List.set_cons_zero, List.set_cons_succ]
      refine hTake (i := 6) (v := undef) rfl (by kernel_rfl) (by kernel_rfl) (by kernel_rfl) (fun _ _ _ h => h) (Or.inr ⟨by rfl, rfl⟩) hHeld ?_
      try simp only [Act.put, List.setIfInBounds_toArray, List.set_cons_zero, List.set_cons_succ]
      refine hTake (i := 7) (v := undef) rfl (by kernel_rfl) (by kernel_rfl) (by kernel_rfl) (fun _ _ _ h => h) (Or.inr ⟨by rfl, rfl⟩) hHeld ?_
      try simp only [Act.put, List.setIfInBounds_toArray, List.set_cons_zero, List.set_cons_succ]
      refine hTake (i := 8) (v := undef) rfl (by kernel_rfl) (by kernel_rfl) (by kernel_rfl) (fun _ _ _ h => h) (Or.inr ⟨by rfl, rfl⟩) hHeld ?_
      try simp only [Act.put, List.setIfInBounds_toArray, List.set_cons_zero, List.set_cons_succ]
      refine hTake (i := 9) (v := undef) rfl (by kernel_rfl) (by kernel_rfl) (by kernel_rfl) (fun _ _ _ h => h) (Or.inr ⟨by rfl, rfl⟩) hHeld ?_
      try simp only [Act.put, List.setIfInBounds_toArray, List.set_cons_zero, List.set_cons_succ]
      refine hTake (i := 10) (v := undef) rfl (by kernel_rfl) (by kernel_rfl) (by kernel_rfl) (fun _ _ _ h => h) (Or.inr ⟨by rfl, rfl⟩) hHeld ?_
      try simp only [Act.put, List.setIfInBounds_toArray, List.set_cons_zero, List.set_cons_succ]
      refine hTake (i := 11) (v := undef) rfl (by kernel_rfl) (by kernel_rfl) (by kernel_rfl) (fun _ _ _ h => h) (Or.inr ⟨by rfl, rfl⟩) hHeld ?_
      try simp only [Act.put, List.setIfInBounds_toArray, List.set_cons_zero, List.set_cons_succ]
      refine hTake (i := 12) (v := undef) rfl (by kernel_rfl) (by kernel_rfl) (by kernel_rfl) (fun _ _ _ h => h) (Or.inr ⟨by rfl, rfl⟩) hHeld ?_
      try simp only [Act.put, List.setIfInBounds_toArray, List.set_cons_zero, List.set_cons_succ]
      refine hTake (i := 13) (v := ?v84) rfl (by kernel_rfl) (by kernel_rfl) (by kernel_rfl) (fun _ _ _ h => h) (Or.inl ⟨by rfl, ?y84⟩) hHeld ?r84
      case y84 =>
        intro w9 hSw
        (try dsimp only at hSw)
        go_simp
        try with_reducible rfl
      try simp only [Act.put, List.setIfInBounds_toArray, List.set_cons_zero, List.set_cons_succ]
      refine hTake (i := 14) (v := ?v85) rfl (by kernel_rfl) (by kernel_rfl) (by kernel_rfl) (fun _ _ _ h => h) (Or.inl ⟨by rfl, ?y85⟩) hHeld ?r85
      case y85 =>
        intro w9 hSw
        (try dsimp only at hSw)
        go_simp
        try with_reducible rfl
      try simp only [Act.put, List.setIfInBounds_toArray, List.set_cons_zero, List.set_cons_succ]
      refine wpAnyH_done (by kernel_rfl) ?_ _
      go_wp2
      go_ret
      exact ⟨rfl, hbW⟩
    · have hme : (hi == us) = false := by simpa using hmu
      go_wp2_with fail
      refine wp_region_held_drew (S := (fun u => u.cell? ⟨w.heap.size, 0, none⟩ = some (.string tx) ∧ u.cell? ⟨w.heap.size, 1, none⟩ = some (.int .i64 lo) ∧ u.cell? ⟨w.heap.size, 2, none⟩ = some (.int .i64 us) ∧ u.cell? ⟨w.heap.size, 3, none⟩ = some (.int .i64 hi) ∧ u.cell? ⟨e7, 0, none⟩ = some (.bool n7) ∧ u.cell? ⟨e7, 1, none⟩ = some (.slice a7 x7 c7) ∧ u.cell? ⟨e7, 2, none⟩ = some (.slice b7 y7 d7) ∧ u.cell? ⟨e8, 0, none⟩ = some (.bool n8) ∧ u.cell? ⟨e8, 1, none⟩ = some (.slice a8 x8 c8) ∧ u.cell? ⟨e8, 2, none⟩ = some (.slice b8 y8 d8) ∧ u.cell? ⟨e9, 0, none⟩ = some (.bool n9) ∧ u.cell? ⟨e9, 1, none⟩ = some (.slice a9 x9 c9) ∧ u.cell? ⟨e9, 2, none⟩ = some (.slice b9 y9 d9))) (by kernel_rfl) ?_ (fun hHeld => ?_)
      · (try dsimp only)
        go_keep
      have hdr : Below u67.heap.size u67 u67.drew := Below.drew1
      generalize u67.drew = ud86 at hdr hHeld ⊢
      replace hX := hX.below hdr
      replace hY := hY.below hdr
      replace hO := hO.below hdr
      replace X1 := X1.below hdr
      replace B7 := B7.below hdr
      replace B8 := B8.below hdr
      replace B9 := B9.below hdr
      replace hbW : Below w.heap.size w ud86 := hbW.trans (hdr.mono hbW.size)
      clear hdr
      clear p00 p01 p02 p03 p10 p11 p12 p20 p21 p22 p30 p31 p32
      obtain ⟨p00, p01, p02, p03, _⟩ := X1.cells
      obtain ⟨p10, p11, p12, _⟩ := B7.cells
      obtain ⟨p20, p21, p22, _⟩ := B8.cells
      obtain ⟨p30, p31, p32, _⟩ := B9.cells
      refine hTake (i := 0) (v := ?v87) rfl (by kernel_rfl) (by kernel_rfl) (by kernel_rfl) (fun _ _ _ h => h) (Or.inl ⟨by rfl, ?y87⟩) hHeld ?r87
      case y87 =>
        intro w9 hSw
        (try dsimp only at hSw)
        go_simp
        try with_reducible rfl
      try simp only [Act.put, List.setIfInBounds_toArray, List.set_cons_zero, List.set_cons_succ]
      refine hTake (i := 1) (v := ?v88) rfl (by kernel_rfl) (by kernel_rfl) (by kernel_rfl) (fun _ _ _ h => h) (Or.inl ⟨by rfl, ?y88⟩) hHeld ?r88
      case y88 =>
        intro w9 hSw
        (try dsimp only at hSw)
        go_simp
        try with_reducible rfl
      try simp only [Act.put, List.setIfInBounds_toArray, List.set_cons_zero, List.set_cons_succ]
      refine hTake (i := 2) (v := ?v89) rfl (by kernel_rfl) (by kernel_rfl) (by kernel_rfl) (fun _ _ _ h => h) (Or.inl ⟨by rfl, ?y89⟩) hHeld ?r89
      case y89 =>
        intro w9 hSw
        (try dsimp only at hSw)
        go_simp
        try with_reducible rfl
      try simp only [Act.put, List.setIfInBounds_toArray, List.set_cons_zero, List.set_cons_succ]
      refine hTake (i := 3) (v := ?v90) rfl (by kernel_rfl) (by kernel_rfl) (by kernel_rfl) (fun _ _ _ h => h) (Or.inl ⟨by rfl, ?y90⟩) hHeld ?r90
      case y90 =>
        intro w9 hSw
        (try dsimp only at hSw)
        go_simp
        try with_reducible rfl
      try simp only [Act.put, List.setIfInBounds_toArray, List.set_cons_zero, List.set_cons_succ]
      refine hTake (i := 4) (v := ?v91) rfl (by kernel_rfl) (by kernel_rfl) (by kernel_rfl) (fun _ _ _ h => h) (Or.inl ⟨by rfl, ?y91⟩) hHeld ?r91
      case y91 =>
        intro w9 hSw
        (try dsimp only at hSw)
        go_simp
        try with_reducible rfl
      try simp only [Act.put, List.setIfInBounds_toArray, List.set_cons_zero, List.set_cons_succ]
      refine hTake (i := 5) (v := ?v92) rfl (by kernel_rfl) (by kernel_rfl) (by kernel_rfl) (fun _ _ _ h => h) (Or.inl ⟨by rfl, ?y92⟩) hHeld ?r92
      case y92 =>
        intro w9 hSw
        (try dsimp only at hSw)
        go_simp
        try with_reducible rfl
      try simp only [Act.put, List.setIfInBounds_toArray, List.set_cons_zero, List.set_cons_succ]
      refine hTake (i := 6) (v := ?v93) rfl (by kernel_rfl) (by kernel_rfl) (by kernel_rfl) (fun _ _ _ h => h) (Or.inl ⟨by rfl, ?y93⟩) hHeld ?r93
      case y93 =>
        intro w9 hSw
        (try dsimp only at hSw)
        go_simp
        try with_reducible rfl
      try simp only [Act.put, List.setIfInBounds_toArray, List.set_cons_zero, List.set_cons_succ]
      refine hTake (i := 7) (v := ?v94) rfl (by kernel_rfl) (by kernel_rfl) (by kernel_rfl) (fun _ _ _ h => h) (Or.inl ⟨by rfl, ?y94⟩) hHeld ?r94
      case y94 =>
        intro w9 hSw
        (try dsimp only at hSw)
        go_simp
        try with_reducible rfl
      try simp only [Act.put, List.setIfInBounds_toArray, List.set_cons_zero, List.set_cons_succ]
      refine hTake (i := 8) (v := ?v95) rfl (by kernel_rfl) (by kernel_rfl) (by kernel_rfl) (fun _ _ _ h => h) (Or.inl ⟨by rfl, ?y95⟩) hHeld ?r95
      case y95 =>
        intro w9 hSw
        (try dsimp only at hSw)
        go_simp
        try with_reducible rfl
      try simp only [Act.put, List.setIfInBounds_toArray, List.set_cons_zero, List.set_cons_succ]
      refine hTake (i := 10) (v := ?v96) rfl (by kernel_rfl) (by kernel_rfl) (by kernel_rfl) (fun _ _ _ h => h) (Or.inl ⟨by rfl, ?y96⟩) hHeld ?r96
      case y96 =>
        intro w9 hSw
        (try dsimp only at hSw)
        go_simp
        try with_reducible rfl
      try simp only [Act.put, List.setIfInBounds_toArray, List.set_cons_zero, List.set_cons_succ]
      refine hCall (i := 9) rfl (by kernel_rfl) (by rfl) (fun K hK => ?_)
      go_simp
      refine (hpl hi _ HWL.out.2.2).mono ?_
      rintro e u68 ⟨vh, rfl, hFh, hb68⟩
      replace hX := hX.below hb68
      replace hY := hY.below hb68
      replace hO := hO.below hb68
      replace X1 := X1.below hb68
      replace B7 := B7.below hb68
      replace B8 := B8.below hb68
      replace B9 := B9.below hb68
      replace hbW : Below w.heap.size w u68 := hbW.trans (hb68.mono hbW.size)
      clear hb68
      clear p00 p01 p02 p03 p10 p11 p12 p20 p21 p22 p30 p31 p32
      obtain ⟨p00, p01, p02, p03, _⟩ := X1.cells
      obtain ⟨p10, p11, p12, _⟩ := B7.cells
      obtain ⟨p20, p21, p22, _⟩ := B8.cells
      obtain ⟨p30, p31, p32, _⟩ := B9.cells
      go_wp2_with fail
      refine hK.out _ _ ?_ (fun hHeld => ?_)
      · (try dsimp only)
        exact ⟨p00, p01, p02, p03, p10, p11, p12, p20, p21, p22, p30, p31, p32⟩
      clear hK K
      try simp only [Act.put, List.setIfInBounds_toArray, List.set_cons_zero, List.set_cons_succ]
      refine hCall (i := 11) rfl (by kernel_rfl) (by rfl) (fun K hK => ?_)
      go_simp
      refine (qcmp_any 2 2 _ _ _ _ _ hFh.ct hO (by decide) (by decide) (by decide) (by decide)).mono ?_
      rintro e u69 ⟨rfl, hb69⟩
      replace hX := hX.below hb69
      replace hY := hY.below hb69
      replace hO := hO.below hb69
      replace hFh := hFh.below hb69
      replace X1 := X1.below hb69
      replace B7 := B7.below hb69
      replace B8 := B8.below hb69
      replace B9 := B9.below hb69
      replace hbW : Below w.heap.size w u69 := hbW.trans (hb69.mono hbW.size)
      clear hb69
      rw [sgn_eq0.2 (HM.out.2.2.2.2.2 (by omega))]
      clear p00 p01 p02 p03 p10 p11 p12 p20 p21 p22 p30 p31 p32
      obtain ⟨p00, p01, p02, p03, _⟩ := X1.cells
      obtain ⟨p10, p11, p12, _⟩ := B7.cells
      obtain ⟨p20, p21, p22, _⟩ := B8.cells
      obtain ⟨p30, p31, p32, _⟩ := B9.cells
      go_wp2_with fail
      refine hK.out _ _ ?_ (fun hHeld => ?_)
      · (try dsimp only)
        exact ⟨p00, p01, p02, p03, p10, p11, p12, p20, p21, p22, p30, p31, p32⟩
      clear hK K
      try simp only [Act.put, List.setIfInBounds_toArray, List.set_cons_zero, List.set_cons_succ]
      refine hTake (i := 12) (v := ?v97) rfl (by kernel_rfl) (by kernel_rfl) (by kernel_rfl) (fun _ _ _ h => h) (Or.inl ⟨by rfl, ?y97⟩) hHeld ?r97
      case y97 =>
        intro w9 hSw
        (try dsimp only at hSw)
        go_simp
        try with_reducible rfl
      try simp only [Act.put, List.setIfInBounds_toArray, List.set_cons_zero, List.set_cons_succ]
      refine hTake (i := 13) (v := ?v98) rfl (by kernel_rfl) (by kernel_rfl) (by kernel_rfl) (fun _ _ _ h => h) (Or.inl ⟨by rfl, ?y98⟩) hHeld ?r98
      case y98 =>
        intro w9 hSw
        (try dsimp only at hSw)
        go_simp
        try with_reducible rfl
      try simp only [Act.put, List.setIfInBounds_toArray, List.set_cons_zero, List.set_cons_succ]
      refine hTake (i := 14) (v := ?v99) rfl (by kernel_rfl) (by kernel_rfl) (by kernel_rfl) (fun _ _ _ h => h) (Or.inl ⟨by rfl, ?y99⟩) hHeld ?r99
      case y99 =>
        intro w9 hSw
        (try dsimp only at hSw)
        go_simp
        try with_reducible rfl
      try simp only [Act.put, List.setIfInBounds_toArray, List.set_cons_zero, List.set_cons_succ]
      refine wpAnyH_done (by kernel_rfl) ?_ _
      go_wp2
      go_ret
      exact ⟨rfl, hbW⟩

end Go.Proofs.YtanppgmhlcifiaaDoor
