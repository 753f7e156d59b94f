/-
  foundryref18.Args, step, Formed: the walks (written by mk_dr0.py).
  (*foundryref18.pen).all, foundryref18.At: the walks (written by mk_dr4.py).
-/
import Derived.Test.YtkbbdkecillnpaaGreatZD18
import Derived.Test.YtkbbdkecillnpaaGreatZD26
import Derived.Test.YtkbbdkecillnpaaGreatZD8
import Derived.Test.YtkbbdkecillnpaaGreatZD35
namespace Go.Proofs.YtkbbdkecillnpaaGreat
open Go.RowKit Go.Maps
set_option linter.unusedSimpArgs false
set_option linter.unusedVariables false

set_option maxHeartbeats 1000000 in
set_option maxRecDepth 100000 in
theorem sArgs_any (d : Int) (w : World) (hd : I64 d) :
    Calls Tryz.prog 41 #[.int .i64 d] w fun e w' => e = .returned (.int .i64 (arD d)) ∧ w = w' := by
  by_cases h1 : d = 1
  · subst h1
    go_enter Tryz.func41, Tryz.ntmps41
    go_wp2
    go_ret
    exact ⟨rfl, rfl⟩
  by_cases h2 : d = 2
  · subst h2
    go_enter Tryz.func41, Tryz.ntmps41
    go_wp2
    go_ret
    exact ⟨rfl, rfl⟩
  by_cases h3 : d = 3
  · subst h3
    go_enter Tryz.func41, Tryz.ntmps41
    go_wp2
    go_ret
    exact ⟨rfl, rfl⟩
  by_cases h4 : d = 4
  · subst h4
    go_enter Tryz.func41, Tryz.ntmps41
    go_wp2
    go_ret
    exact ⟨rfl, rfl⟩
  have HA : Hid (arD d = -1) := by show _ = _; unfold arD; rw [if_neg h1, if_neg h2, if_neg h3, if_neg h4]
  have g1 : (d == 1) = false := beq_eq_false_iff_ne.2 h1
  have g2 : (d == 2) = false := beq_eq_false_iff_ne.2 h2
  have g3 : (d == 3) = false := beq_eq_false_iff_ne.2 h3
  have g4 : (d == 4) = false := beq_eq_false_iff_ne.2 h4
  go_enter Tryz.func41, Tryz.ntmps41
  go_wp2
  go_ret
  exact ⟨by rw [HA.out]; rfl, rfl⟩

set_option maxHeartbeats 8000000 in
set_option maxRecDepth 100000 in
theorem sstepD_any (S : Nat → Prop) (n : Nat) (ga : Option Addr) (gc : Nat) (ma : Option Addr) (mc : Nat) (s : Sr) (xa : Option Addr) (xc : Nat) (x : Sp) (w : World) (hn : n ≤ 9223372036854775807) (k2 : s.rw.length ≤ 9223372036854775807) (k3 : s.rg.length ≤ 9223372036854775807) (hd : I64 x.d) (hx : Gr SlE S w xa xc x.ar) :
    Calls Tryz.prog 29 #[.agg #[.int .i64 x.d, .slice xa x.ar.length xc], .agg #[.slice ga s.rg.length gc, .slice ma s.rw.length mc], .int .i64 (n : Int)] w fun e w' => e = .returned (.bool (spF (fiS s) n x)) ∧ Below w.heap.size w w' := by
  have kx := hx.lenB
  obtain ⟨W, hW, X2, X1, hbW⟩ : ∃ W, W = (w.alloc (.cells #[.int .i64 x.d, .slice xa x.ar.length xc] 50)).alloc (.cells #[.slice ga s.rg.length gc, .slice ma s.rw.length mc] 26) ∧ Bk 50 W w.heap.size [.int .i64 x.d, .slice xa x.ar.length xc] ∧ Bk 26 W (w.heap.size + 1) [.slice ga s.rg.length gc, .slice ma s.rw.length mc] ∧ Below w.heap.size w W := ⟨_, rfl, (Bk.new _ _ _).below (bl1 _), Bk.new1 _ _ _ _, bl2 _ _⟩
  obtain ⟨q0, q1, -⟩ := X2.two
  go_enter Tryz.func29, Tryz.ntmps29
  go_upto_region 1 with fail
  rw [← hW]
  clear hW
  refine wp_region_held_drew (S := fun w9 => w9.cell? ⟨w.heap.size, 0, none⟩ = some (.int .i64 x.d) ∧ w9.cell? ⟨w.heap.size, 1, none⟩ = some (.slice xa x.ar.length xc)) (by kernel_rfl) ?_ (fun hHeld => ?_)
  · (try dsimp only)
    go_keep
  have hdr : Below W.heap.size W W.drew := Below.drew1
  generalize W.drew = Z at hdr hHeld ⊢
  replace X1 := X1.below hdr
  replace X2 := X2.below hdr
  replace hx := (hx.below hbW).below hdr
  replace hbW := hbW.trans (hdr.mono hbW.size)
  have hag := sArgs_any x.d Z hd
  clear hdr q0 q1
  refine hT 0 hHeld ?_
  refine hT 1 hHeld ?_
  refine hT 2 hHeld ?_
  refine hT 3 hHeld ?_
  refine hT 4 hHeld ?_
  refine hCall (i := 5) rfl (by kernel_rfl) (by rfl) (fun K hK => ?_)
  go_simp
  refine (hag).mono ?_
  rintro e u ⟨rfl, rfl⟩
  go_wp2_with fail
  refine hK.out _ _ ?_ (fun hHeld => ?_)
  · (try dsimp only)
    exact hHeld
  clear hK K
  try simp only [Act.put, List.setIfInBounds_toArray, List.set_cons_zero, List.set_cons_succ]
  clear hag
  by_cases hlen : (x.ar.length : Int) = arD x.d
  rotate_left
  · have HF : Hid (spF (fiS s) n x = false) := spF_no1 hlen
    generalize arD x.d = z at *
    have g2 : ((x.ar.length : Int) != z) = true := bne_iff_ne.2 hlen
    clear hlen
    refine hT 6 hHeld ?_
    refine wpAnyH_done (by kernel_rfl) ?_ _
    clear hHeld
    go_wp2
    go_ret
    exact ⟨rt_bool HF.out.symm, hbW⟩
  have HLEN : Hid ((x.ar.length : Int) = arD x.d) := hlen
  have had := arD_in x.d
  have hpos : 0 < x.ar.length := by omega
  have hx6 : x.ar.length ≤ 6 := by omega
  rw [← hlen]
  have g2 : ((x.ar.length : Int) != (x.ar.length : Int)) = false := by simp
  have HX : Hid (Gr SlE S Z xa xc x.ar) := hx
  have HX1 : Hid (Bk 26 Z (w.heap.size + 1) [.slice ga s.rg.length gc, .slice ma s.rw.length mc]) := X1
  have HX2 : Hid (Bk 50 Z w.heap.size [.int .i64 x.d, .slice xa x.ar.length xc]) := X2
  have HBW : Hid (Below w.heap.size w Z) := hbW
  clear hlen had hx X1 X2 hbW
  refine hT 6 hHeld ?_
  refine wpAnyH_done (by kernel_rfl) ?_ _
  clear hHeld
  go_wp2
  clear g2
  go_loopw [7] (fun i wr => ∃ k : Nat, k ≤ x.ar.length ∧ i = .int .i64 k ∧ Hid (∀ j, j < k → fiS s (x.ar.getD j (0, 0)).1 (x.ar.getD j (0, 0)).2 = true) ∧ Below Z.heap.size Z wr) (fun i _ => x.ar.length - (intOf i).toNat)
  case atStart => exact ⟨0, Nat.zero_le _, rfl, (fun j hj => by omega), Below.refl _ _⟩
  case round =>
    obtain ⟨k, hk, rfl, HOK, hB⟩ := hrel
    have hBw : Below w.heap.size w wr := HBW.out.trans (hB.mono HBW.out.size)
    have hX1 := HX1.out.below hB
    have hX2 := HX2.out.below hB
    obtain ⟨x0, x1, -⟩ := hX1.two
    obtain ⟨q0, q1, -⟩ := hX2.two
    by_cases hkn : k < x.ar.length
    · obtain ⟨b1, off, ea, hb1, ⟨m1, m2⟩, c0, c1⟩ := HX.out.sl hB k hkn
      subst ea
      have HBad : Hid (fiS s (x.ar.getD k (0, 0)).1 (x.ar.getD k (0, 0)).2 = false → spF (fiS s) n x = false) := fun h => spF_no2 hkn h
      obtain ⟨y, hy⟩ : ∃ y, x.ar.getD k (0, 0) = y := ⟨_, rfl⟩
      have HY : Hid (x.ar.getD k (0, 0) = y) := hy
      rw [hy] at m1 m2 c0 c1 HBad
      clear hy
      have i1 : (0 : Int) ≤ (k : Int) := by omega
      have i2 : (k : Int) < (x.ar.length : Int) := by omega
      go_upto_region 6 with fail
      refine wp_region_held_drew (S := fun w9 => (w9.cell? ⟨w.heap.size + 1, 0, none⟩ = some (.slice ga s.rg.length gc) ∧ w9.cell? ⟨w.heap.size + 1, 1, none⟩ = some (.slice ma s.rw.length mc)) ∧ w9.cell? ⟨w.heap.size, 1, none⟩ = some (.slice (some ⟨b1, off, none⟩) x.ar.length xc) ∧ w9.cell? ⟨b1, off + k * 2, none⟩ = some (.int .i64 y.1) ∧ w9.cell? ⟨b1, off + k * 2 + 1, none⟩ = some (.int .i64 y.2)) (by kernel_rfl) ?_ (fun hHeld => ?_)
      · (try dsimp only)
        go_keep
      have hdr : Below wr.heap.size wr wr.drew := Below.drew1
      generalize wr.drew = Z6 at hdr hHeld ⊢
      replace hB := hB.trans (hdr.mono hB.size)
      replace hBw := hBw.trans (hdr.mono hBw.size)
      have hfi := sfitsS_any ga gc ma mc s y.1 y.2 Z6 k2 m1 m2
      clear hdr c0 c1 x0 x1 q0 q1 hX1 hX2
      refine hT 0 hHeld ?_
      refine hT 1 hHeld ?_
      refine hT 2 hHeld ?_
      refine hT 3 hHeld ?_
      refine hT 4 hHeld ?_
      refine hT 5 hHeld ?_
      have HCL : Hid (∀ U, Below Z6.heap.size Z6 U → (U.cell? ⟨w.heap.size + 1, 0, none⟩ = some (.slice ga s.rg.length gc) ∧ U.cell? ⟨w.heap.size + 1, 1, none⟩ = some (.slice ma s.rw.length mc)) ∧ U.cell? ⟨w.heap.size, 1, none⟩ = some (.slice (some ⟨b1, off, none⟩) x.ar.length xc) ∧ U.cell? ⟨b1, off + k * 2, none⟩ = some (.int .i64 y.1) ∧ U.cell? ⟨b1, off + k * 2 + 1, none⟩ = some (.int .i64 y.2)) := fun U hU => by
        have l1 : w.heap.size + 1 < Z6.heap.size := Nat.lt_of_lt_of_le HX1.out.lt hB.size
        have l2 : b1 < Z6.heap.size := Nat.lt_of_lt_of_le hb1 hB.size
        exact ⟨⟨(hU.cell (p := ⟨w.heap.size + 1, 0, none⟩) l1).trans hHeld.1.1, (hU.cell (p := ⟨w.heap.size + 1, 1, none⟩) l1).trans hHeld.1.2⟩, (hU.cell (p := ⟨w.heap.size, 1, none⟩) (by show w.heap.size < _; omega)).trans hHeld.2.1, (hU.cell (p := ⟨b1, off + k * 2, none⟩) l2).trans hHeld.2.2.1, (hU.cell (p := ⟨b1, off + k * 2 + 1, none⟩) l2).trans hHeld.2.2.2⟩
      cases hf3 : fiS s y.1 y.2 with
      | false =>
        rw [hf3] at hfi
        have HF : Hid (spF (fiS s) n x = false) := HBad.out hf3
        clear hf3 HBad HOK
        refine hCall (i := 6) rfl (by kernel_rfl) (by rfl) (fun K hK => ?_)
        go_simp
        refine (hfi).mono ?_
        rintro e u4 ⟨rfl, hb⟩
        go_wp2_with fail
        refine hK.out _ _ ?_ (fun hHeld => ?_)
        · (try dsimp only)
          exact HCL.out _ hb
        clear hK K
        try simp only [Act.put, List.setIfInBounds_toArray, List.set_cons_zero, List.set_cons_succ]
        replace hBw := hBw.trans (hb.mono hBw.size)
        refine hT 7 hHeld ?_
        refine wpAnyH_done (by kernel_rfl) ?_ _
        clear hHeld hfi hb
        go_wp2
        go_ret
        exact ⟨rt_bool HF.out.symm, hBw⟩
      | true =>
      rw [hf3] at hfi
      have HOK2 : Hid (∀ j, j < k + 1 → fiS s (x.ar.getD j (0, 0)).1 (x.ar.getD j (0, 0)).2 = true) := fun j hj => by
        rcases Nat.lt_or_ge j k with h1 | h1
        · exact HOK.out j h1
        · rw [show j = k by omega, HY.out, hf3]
      clear hf3 HBad HOK HY
      refine hCall (i := 6) rfl (by kernel_rfl) (by rfl) (fun K hK => ?_)
      go_simp
      refine (hfi).mono ?_
      rintro e u4 ⟨rfl, hb⟩
      go_wp2_with fail
      refine hK.out _ _ ?_ (fun hHeld => ?_)
      · (try dsimp only)
        exact HCL.out _ hb
      clear hK K
      try simp only [Act.put, List.setIfInBounds_toArray, List.set_cons_zero, List.set_cons_succ]
      replace hB := hB.trans (hb.mono hB.size)
      refine hT 7 hHeld ?_
      refine wpAnyH_done (by kernel_rfl) ?_ _
      clear hHeld hfi hb hBw HCL
      go_wp2
      go_roundw
      case rel => exact ⟨k + 1, by omega, by go_num, HOK2, hB⟩
      case measure => simp [intOf]; omega
    · have g4 : ¬ (k : Int) < (x.ar.length : Int) := by omega
      have HF : Hid (spF (fiS s) n x = (!decide (x.d = 4) || (isD n (x.ar.getD 0 (0, 0)).1 && decide ((x.ar.getD 0 (0, 0)).2 = -1)))) := spF_yes HLEN.out (fun j hj => HOK.out j (by omega))
      obtain ⟨b1, off, ea, hb1, ⟨m1, m2⟩, c0, c1⟩ := HX.out.sl hB 0 hpos
      subst ea
      rw [Nat.zero_mul, Nat.add_zero] at c0 c1
      have hi0 : (0 : Int) < (x.ar.length : Int) := by omega
      generalize x.ar.getD 0 (0, 0) = y at *
      have HID : Hid (isD n y.1 = (decide (0 ≤ y.1) && decide (y.1 < (n : Int)))) := rfl
      clear HOK hX1 hX2 x0 x1
      by_cases h4 : x.d = 4
      rotate_left
      · have g5 : (x.d != 4) = true := bne_iff_ne.2 h4
        rw [decide_eq_false h4] at HF
        clear h4
        go_wp2
        go_ret
        exact ⟨rt_bool HF.out.symm, hBw⟩
      rw [h4] at q0
      rw [decide_eq_true h4] at HF
      clear h4
      by_cases h5 : y.2 = -1
      rotate_left
      · have g6 : (y.2 == -1) = false := beq_eq_false_iff_ne.2 h5
        rw [decide_eq_false h5, Bool.and_false] at HF
        clear h5
        go_wp2
        go_ret
        exact ⟨rt_bool HF.out.symm, hBw⟩
      rw [h5] at c1
      rw [decide_eq_true h5, Bool.and_true, HID.out] at HF
      clear h5 m2
      by_cases h6 : 0 ≤ y.1
      rotate_left
      · have g6 : decide (0 ≤ y.1) = false := decide_eq_false h6
        rw [g6] at HF
        go_wp2
        go_ret
        exact ⟨rt_bool HF.out.symm, hBw⟩
      have g6 : decide (0 ≤ y.1) = true := decide_eq_true h6
      rw [g6] at HF
      obtain ⟨q, hq⟩ : ∃ q, decide (y.1 < (n : Int)) = q := ⟨_, rfl⟩
      rw [hq] at HF
      go_wp2
      go_ret
      exact ⟨rt_bool (by rw [HF.out]; rfl), hBw⟩

set_option maxHeartbeats 8000000 in
set_option maxRecDepth 100000 in
theorem sformD_any (S : Nat → Prop) (a : Option Addr) (ca : Nat) (l : List (List Sp)) (ga : Option Addr) (gc : Nat) (ma : Option Addr) (mc : Nat) (s : Sr) (w : World) (hl : Gr SpE.row S w a ca l) (k2 : s.rw.length ≤ 9223372036854775807) (k3 : s.rg.length ≤ 9223372036854775807) :
    Calls Tryz.prog 12 #[.slice a l.length ca, .agg #[.slice ga s.rg.length gc, .slice ma s.rw.length mc]] w fun e w' => e = .returned (.bool (foD (fiS s) l)) ∧ Below w.heap.size w w' := by
  have kl := hl.lenB
  obtain ⟨W, hW, X1, hbW⟩ : ∃ W, W = w.alloc (.cells #[.slice ga s.rg.length gc, .slice ma s.rw.length mc] 26) ∧ Bk 26 W w.heap.size [.slice ga s.rg.length gc, .slice ma s.rw.length mc] ∧ Below w.heap.size w W := ⟨_, rfl, Bk.new _ _ _, bl1 _⟩
  by_cases hn1 : 20 < l.length
  · have HF : Hid (foD (fiS s) l = false) := foD_no1 hn1
    have g2 : (20 : Int) < (l.length : Int) := by omega
    go_enter Tryz.func12, Tryz.ntmps12
    go_upto_region 1 with fail
    rw [← hW]
    clear hW
    go_wp2
    go_ret
    exact ⟨rt_bool HF.out.symm, hbW⟩
  have g2 : ¬ (20 : Int) < (l.length : Int) := by omega
  have HL : Hid (Gr SpE.row S W a ca l) := hl.below hbW
  have HX1 : Hid (Bk 26 W w.heap.size [.slice ga s.rg.length gc, .slice ma s.rw.length mc]) := X1
  have HBW : Hid (Below w.heap.size w W) := hbW
  go_enter Tryz.func12, Tryz.ntmps12
  go_upto_region 1 with fail
  rw [← hW]
  clear hW hl X1 hbW
  go_wp2
  clear g2
  go_loopw [5] (fun i wr => ∃ k : Nat, k ≤ l.length ∧ i = .int .i64 k ∧ Hid (∀ j, j < k → drF (fiS s) l.length (l.getD j []) = true) ∧ Below W.heap.size W wr) (fun i _ => l.length - (intOf i).toNat)
  case atStart => exact ⟨0, Nat.zero_le _, rfl, (fun j hj => by omega), Below.refl _ _⟩
  case round =>
    obtain ⟨k, hk, rfl, HOK, hB⟩ := hrel
    have hBw : Below w.heap.size w wr := HBW.out.trans (hB.mono HBW.out.size)
    by_cases hkn : k < l.length
    rotate_left
    · have HF : Hid (foD (fiS s) l = true) := foD_iff.2 ⟨by omega, fun j hj => HOK.out j (by omega)⟩
      have g4 : ¬ (k : Int) < (l.length : Int) := by omega
      clear HOK
      go_wp2
      go_ret
      exact ⟨rt_bool HF.out.symm, hBw⟩
    obtain ⟨b1, off, a1, c1, ea, hb1, c0, hd, hdl, -⟩ := HL.out.rw hB k hkn
    have HBad : Hid (drF (fiS s) l.length (l.getD k []) = false → foD (fiS s) l = false) := foD_no2 hkn
    obtain ⟨d, hdd⟩ : ∃ d, l.getD k [] = d := ⟨_, rfl⟩
    have HDD : Hid (l.getD k [] = d) := hdd
    rw [hdd] at c0 hd hdl HBad
    subst ea
    clear hdd
    have i1 : (0 : Int) ≤ (k : Int) := by omega
    have i2 : (k : Int) < (l.length : Int) := by omega
    by_cases hd6 : 60 < d.length
    · have g3 : (60 : Int) < (d.length : Int) := by omega
      have HF : Hid (foD (fiS s) l = false) := HBad.out (drF_no1 hd6)
      clear HBad HOK
      go_wp2
      go_ret
      exact ⟨rt_bool HF.out.symm, hBw⟩
    have g3 : ¬ (60 : Int) < (d.length : Int) := by omega
    have HD : Hid (Gr SpE S wr a1 c1 d) := hd
    have HB : Hid (Below W.heap.size W wr) := hB
    have HC0 : Hid (∀ U, Below W.heap.size wr U → U.cell? ⟨b1, off + k, none⟩ = some (.slice a1 d.length c1)) := fun U hU => (hU.cell (p := ⟨b1, off + k, none⟩) hb1).trans c0
    obtain ⟨wq, hwq⟩ : ∃ u, u = wr := ⟨_, rfl⟩
    rw [← hwq] at HD HB HC0
    rw [← hwq] at c0 ⊢
    clear hd hB hBw hwq
    go_wp2
    clear c0 g3
    go_loopw [6] (fun i wr => ∃ j : Nat, j ≤ d.length ∧ i = .int .i64 j ∧ Hid (∀ i, i < j → spF (fiS s) l.length (d.getD i Sp.none) = true) ∧ Below wq.heap.size wq wr) (fun i _ => d.length - (intOf i).toNat)
    case atStart => exact ⟨0, Nat.zero_le _, rfl, (fun j hj => by omega), Below.refl _ _⟩
    case round =>
      obtain ⟨j, hj, rfl, HOJ, hC⟩ := hrel
      have c0 := HC0.out wr (hC.mono HB.out.size)
      have hB : Below W.heap.size W wr := HB.out.trans (hC.mono HB.out.size)
      have hBw : Below w.heap.size w wr := HBW.out.trans (hB.mono HBW.out.size)
      by_cases hjn : j < d.length
      rotate_left
      · have g4 : ¬ (j : Int) < (d.length : Int) := by omega
        have HOK2 : Hid (∀ i, i < k + 1 → drF (fiS s) l.length (l.getD i []) = true) := fun i hi => by
          rcases Nat.lt_or_ge i k with h1 | h1
          · exact HOK.out i h1
          · rw [show i = k by omega, HDD.out]
            exact drF_iff.2 ⟨by omega, fun i hi => HOJ.out i (by omega)⟩
        clear HOK HOJ HBad HDD hC hBw
        go_wp2
        go_roundw
        case rel => exact ⟨k + 1, by omega, by go_num, HOK2, hB⟩
        case measure => simp [intOf]; omega
      obtain ⟨b2, of2, a2, c2, ea2, hb2, hI, d0, d1, hsl, hsl2⟩ := HD.out.sp hC j hjn
      have HBad2 : Hid (spF (fiS s) l.length (d.getD j Sp.none) = false → foD (fiS s) l = false) := fun h => HBad.out (drF_no2 hjn h)
      obtain ⟨x, hx⟩ : ∃ x, d.getD j Sp.none = x := ⟨_, rfl⟩
      have HXX : Hid (d.getD j Sp.none = x) := hx
      rw [hx] at hI d0 d1 hsl hsl2 HBad2
      subst ea2
      clear hx
      have i3 : (0 : Int) ≤ (j : Int) := by omega
      have i4 : (j : Int) < (d.length : Int) := by omega
      have hX1 := HX1.out.below hB
      obtain ⟨x0, x1, -⟩ := hX1.two
      go_upto_region 11 with fail
      refine wp_region_held_drew (S := fun w9 => w9.cell? ⟨b1, off + k, none⟩ = some (.slice (some ⟨b2, of2, none⟩) d.length c1) ∧ (w9.cell? ⟨b2, of2 + j * 2, none⟩ = some (.int .i64 x.d) ∧ w9.cell? ⟨b2, of2 + j * 2 + 1, none⟩ = some (.slice a2 x.ar.length c2)) ∧ w9.cell? ⟨w.heap.size, 0, none⟩ = some (.slice ga s.rg.length gc) ∧ w9.cell? ⟨w.heap.size, 1, none⟩ = some (.slice ma s.rw.length mc)) (by kernel_rfl) ?_ (fun hHeld => ?_)
      · (try dsimp only)
        go_keep
      have hdr : Below wr.heap.size wr wr.drew := Below.drew1
      generalize wr.drew = Z6 at hdr hHeld ⊢
      replace hsl := hsl.below hdr
      replace hC := hC.trans (hdr.mono hC.size)
      replace hBw := hBw.trans (hdr.mono hBw.size)
      have hst := sstepD_any S l.length ga gc ma mc s a2 c2 x Z6 kl k2 k3 hI hsl
      have HCL : Hid (∀ U, Below Z6.heap.size Z6 U → U.cell? ⟨b1, off + k, none⟩ = some (.slice (some ⟨b2, of2, none⟩) d.length c1) ∧ (U.cell? ⟨b2, of2 + j * 2, none⟩ = some (.int .i64 x.d) ∧ U.cell? ⟨b2, of2 + j * 2 + 1, none⟩ = some (.slice a2 x.ar.length c2)) ∧ U.cell? ⟨w.heap.size, 0, none⟩ = some (.slice ga s.rg.length gc) ∧ U.cell? ⟨w.heap.size, 1, none⟩ = some (.slice ma s.rw.length mc)) := fun U hU => by
        have l1 : w.heap.size < Z6.heap.size := Nat.lt_of_lt_of_le hX1.lt hdr.size
        have l2 : b2 < Z6.heap.size := Nat.lt_of_lt_of_le hb2 hC.size
        have l3 : b1 < Z6.heap.size := Nat.lt_of_lt_of_le hb1 (Nat.le_trans hB.size hdr.size)
        exact ⟨(hU.cell (p := ⟨b1, off + k, none⟩) l3).trans hHeld.1, ⟨(hU.cell (p := ⟨b2, of2 + j * 2, none⟩) l2).trans hHeld.2.1.1, (hU.cell (p := ⟨b2, of2 + j * 2 + 1, none⟩) l2).trans hHeld.2.1.2⟩, (hU.cell (p := ⟨w.heap.size, 0, none⟩) l1).trans hHeld.2.2.1, (hU.cell (p := ⟨w.heap.size, 1, none⟩) l1).trans hHeld.2.2.2⟩
      clear hdr c0 d0 d1 x0 x1 hX1 hB
      refine hT 0 hHeld ?_
      refine hT 1 hHeld ?_
      refine hT 2 hHeld ?_
      refine hT 3 hHeld ?_
      refine hT 4 hHeld ?_
      refine hT 5 hHeld ?_
      refine hT 6 hHeld ?_
      refine hT 7 hHeld ?_
      refine hT 8 hHeld ?_
      refine hT 9 hHeld ?_
      cases hf3 : spF (fiS s) l.length x with
      | false =>
        rw [hf3] at hst
        have HF : Hid (foD (fiS s) l = false) := HBad2.out hf3
        clear hf3 HBad2 HBad HOJ
        refine hCall (i := 10) rfl (by kernel_rfl) (by rfl) (fun K hK => ?_)
        go_simp
        refine (hst).mono ?_
        rintro e u4 ⟨rfl, hb⟩
        go_wp2_with fail
        refine hK.out _ _ ?_ (fun hHeld => ?_)
        · (try dsimp only)
          exact HCL.out _ hb
        clear hK K
        try simp only [Act.put, List.setIfInBounds_toArray, List.set_cons_zero, List.set_cons_succ]
        replace hBw := hBw.trans (hb.mono hBw.size)
        refine hT 11 hHeld ?_
        refine wpAnyH_done (by kernel_rfl) ?_ _
        clear hHeld hst hb
        go_wp2
        go_ret
        exact ⟨rt_bool HF.out.symm, hBw⟩
      | true =>
      rw [hf3] at hst
      have HOJ2 : Hid (∀ i, i < j + 1 → spF (fiS s) l.length (d.getD i Sp.none) = true) := fun i hi => by
        rcases Nat.lt_or_ge i j with h1 | h1
        · exact HOJ.out i h1
        · rw [show i = j by omega, HXX.out, hf3]
      clear hf3 HBad2 HOJ HXX
      refine hCall (i := 10) rfl (by kernel_rfl) (by rfl) (fun K hK => ?_)
      go_simp
      refine (hst).mono ?_
      rintro e u4 ⟨rfl, hb⟩
      go_wp2_with fail
      refine hK.out _ _ ?_ (fun hHeld => ?_)
      · (try dsimp only)
        exact HCL.out _ hb
      clear hK K
      try simp only [Act.put, List.setIfInBounds_toArray, List.set_cons_zero, List.set_cons_succ]
      replace hC := hC.trans (hb.mono hC.size)
      refine hT 11 hHeld ?_
      refine wpAnyH_done (by kernel_rfl) ?_ _
      clear hHeld hst hb hBw hsl HCL
      go_wp2
      go_roundw
      case rel => exact ⟨j + 1, by omega, by go_num, HOJ2, hC⟩
      case measure => simp [intOf]; omega

end Go.Proofs.YtkbbdkecillnpaaGreat

namespace Go.Proofs.YtkbbdkecillnpaaGreat
open Go.RowKit Go.Maps
set_option linter.unusedSimpArgs false
set_option linter.unusedVariables false

/-- What holds round by round. -/
structure AlI (c : Cx) (B n : Nat) (w : World) (d : List Sp) (p : Pe) (wr : World) (j : Nat) (q : Pe) (v : Value) : Prop where
  ok : q.er = 0 → OkP q
  bk : RenB c B wr q v
  co : Co (B + 1) wr v q.out
  be : Below B w wr
  eq : drN (RS c.s c.cs) c.l n d p = drA (drS (RS c.s c.cs) c.l n (sbN (RS c.s c.cs) c.l n)) (d.drop j) q

set_option maxHeartbeats 8000000 in
set_option maxRecDepth 100000 in
theorem sallD_step (S : Nat → Prop) (a : Option Addr) (ca : Nat) (l : List (List Sp)) (ga : Option Addr) (gc : Nat) (ma : Option Addr) (mc : Nat) (s : Sr) (pa : Option Addr) (pc : Nat) (cs : List Int) (w0 : World) (hl : Gr SpE.row S w0 a ca l) (hg : Tzz w0 ga gc s.rg) (hm : Rii w0 ma mc s.rw) (hp : Ri w0 pa pc cs) (h40 : s.rg.length ≤ 40) (h8 : ∀ l ∈ s.rg, l.length ≤ 8) (hfo : foD (fiS s) l = true) (n : Nat) (hn : n ≤ 10) (hsub : n ≠ 0 → AllC S ⟨a, ca, l, ga, gc, ma, mc, s, pa, pc, cs⟩ w0.heap.size w0 (n - 1)) : AllC S ⟨a, ca, l, ga, gc, ma, mc, s, pa, pc, cs⟩ w0.heap.size w0 n := by
  intro k a1 c1 p v w hk hd hok hP hC hB
  dsimp only at hk hd
  have HDF : Hid (drF (fiS s) l.length (l.getD k []) = true) := (foD_iff.1 hfo).2 k hk
  obtain ⟨d, hdd⟩ : ∃ d, l.getD k [] = d := ⟨_, rfl⟩
  have HEQ : Hid ((⟨a, ca, l, ga, gc, ma, mc, s, pa, pc, cs⟩ : Cx).l.getD k [] = d) := hdd
  rw [hdd] at hd HDF
  have hdl := hd.lenB
  have HD : Hid (Gr SpE S w0 a1 c1 d) := hd
  have HONE : Hid (∀ (x : Sp) (q : Pe) (u : Value) (xa : Option Addr) (xc : Nat) (U : World), Gr SlE S w0 xa xc x.ar → I64 x.d → spF (fiS s) l.length x = true → OkP q → RenB ⟨a, ca, l, ga, gc, ma, mc, s, pa, pc, cs⟩ w0.heap.size U q u → Co (w0.heap.size + 1) U u q.out → Below w0.heap.size w0 U → Calls Tryz.prog 44 #[.pointer (some ⟨w0.heap.size, 0, none⟩), .agg #[.int .i64 x.d, .slice xa x.ar.length xc], .int .i64 (10 - (n : Int))] U fun e w' => OneP ⟨a, ca, l, ga, gc, ma, mc, s, pa, pc, cs⟩ w0.heap.size (drS (RS s cs) l n (sbN (RS s cs) l n) x q) e U w') :=
    fun x q u xa xc U h1 h2 h3 h4 h5 h6 h7 => soneD_any S a ca l ga gc ma mc s pa pc cs w0 hl hg hm hp h40 h8 n hn hsub x q u xa xc U h1 h2 h3 h4 h5 h6 h7
  obtain ⟨B, hBe⟩ : ∃ B, w0.heap.size = B := ⟨_, rfl⟩
  have HBE : Hid (w0.heap.size = B) := hBe
  rw [hBe] at hP hC hB HONE
  have HI0 : AlI ⟨a, ca, l, ga, gc, ma, mc, s, pa, pc, cs⟩ B n w d p w 0 p v := ⟨fun _ => hok, hP, hC, Below.refl _ _, by rw [List.drop_zero]; exact drN_sb _ _ _ _ _⟩
  have HB : Hid (Below B w0 w) := hB
  rw [HEQ.out, hBe]
  obtain ⟨z, hz⟩ : ∃ z, (10 : Int) - (n : Int) = z := ⟨_, rfl⟩
  rw [hz] at HONE ⊢
  have hz1 : 0 ≤ z := by omega
  have hz2 : z ≤ 10 := by omega
  clear hd hdd hg hm hp hsub hP hC hB hok hBe hz hl
  go_enter Tryz.func26, Tryz.ntmps26
  go_wp2
  go_loopw [6] (fun i wr => ∃ (j : Nat) (q : Pe) (v : Value), j ≤ d.length ∧ i = .int .i64 j ∧ AlI ⟨a, ca, l, ga, gc, ma, mc, s, pa, pc, cs⟩ B n w d p wr j q v) (fun i _ => d.length - (intOf i).toNat)
  case atStart => exact ⟨0, p, v, Nat.zero_le _, rfl, HI0⟩
  case round =>
    clear HI0
    obtain ⟨j, q, v, hj, rfl, hI⟩ := hrel
    have t8 : wr.cell? ⟨B, 8, none⟩ = some (.int .i64 q.er) := Bk.cell hI.bk 8 (by show 8 < 9; omega)
    by_cases hjn : j < d.length
    rotate_left
    · have g1 : decide ((j : Int) < (d.length : Int)) = false := decide_eq_false (by omega)
      have g2 : decide (j < d.length) = false := decide_eq_false hjn
      have HF : Hid (drN (RS s cs) l n d p = q) := by
        have := hI.eq
        rw [drA_end _ (by omega)] at this
        exact this
      have HI2 : Hid (_) := hI
      clear hI
      go_wp2
      (try simp only [Exit.inBlock, Exit.then])
      refine bodyPost_end (results_none rfl _ _ _) rfl ?_
      show OneP _ _ (drN (RS s cs) l n d p) _ _ _
      rw [HF.out]
      exact ⟨rfl, HI2.out.ok, ⟨v, HI2.out.bk, HI2.out.co⟩, HI2.out.be⟩
    have g1 : decide ((j : Int) < (d.length : Int)) = true := decide_eq_true (by omega)
    have g2 : decide (j < d.length) = true := decide_eq_true hjn
    by_cases her : q.er = 0
    rotate_left
    · have g3 : (q.er == 0) = false := beq_eq_false_iff_ne.2 her
      have HF : Hid (drN (RS s cs) l n d p = q) := by
        have := hI.eq
        rw [drA_stop _ _ her] at this
        exact this
      have HI2 : Hid (_) := hI
      clear hI her
      go_wp2
      (try simp only [Exit.inBlock, Exit.then])
      refine bodyPost_end (results_none rfl _ _ _) rfl ?_
      show OneP _ _ (drN (RS s cs) l n d p) _ _ _
      rw [HF.out]
      exact ⟨rfl, HI2.out.ok, ⟨v, HI2.out.bk, HI2.out.co⟩, HI2.out.be⟩
    rw [her] at t8
    have HEQ2 : Hid (drN (RS s cs) l n d p = drA (drS (RS s cs) l n (sbN (RS s cs) l n)) (d.drop (j + 1)) (drS (RS s cs) l n (sbN (RS s cs) l n) (d.getD j Sp.none) q)) := by
      have := hI.eq
      rw [drA_at _ hjn her] at this
      exact this
    have hSPF : spF (fiS s) l.length (d.getD j Sp.none) = true := (drF_iff.1 HDF.out).2 j hjn
    have hBr : Below B w0 wr := HB.out.trans hI.be
    have hBr0 : Below w0.heap.size w0 wr := by rw [HBE.out]; exact hBr
    obtain ⟨b2, of2, a2, c2, ea2, hb2, hI64, e0, e1, hsl, -⟩ := HD.out.sp (Below.refl _ _) j hjn
    have d0 := (hBr0.cell (p := ⟨b2, of2 + j * 2, none⟩) hb2).trans e0
    have d1 := (hBr0.cell (p := ⟨b2, of2 + j * 2 + 1, none⟩) hb2).trans e1
    obtain ⟨x, hx⟩ : ∃ x, d.getD j Sp.none = x := ⟨_, rfl⟩
    rw [hx] at HEQ2 hSPF hI64 d0 d1 hsl
    have hon := HONE.out x q v a2 c2 wr hsl hI64 hSPF (hI.ok her) hI.bk hI.co hBr
    have kx := hsl.lenB
    generalize drS (RS s cs) l n (sbN (RS s cs) l n) x q = q2 at *
    have HBE2 : Hid (Below B w wr) := hI.be
    subst ea2
    clear hx e0 e1 hSPF hsl her hI hBr hBr0
    have i3 : (0 : Int) ≤ (j : Int) := by omega
    have i4 : (j : Int) < (d.length : Int) := by omega
    go_wp2_with fail
    refine hon.mono ?_
    rintro e u9 ⟨rfl, ok9, ⟨v9, hp9, hc9⟩, hb9⟩
    have HNI : Hid (AlI ⟨a, ca, l, ga, gc, ma, mc, s, pa, pc, cs⟩ B n w d p u9 (j + 1) q2 v9) := ⟨ok9, hp9, hc9, HBE2.out.trans hb9, HEQ2.out⟩
    clear hon d0 d1 ok9 hp9 hc9 hb9 t8
    go_wp2
    go_roundw
    case rel => exact ⟨j + 1, q2, v9, by omega, by go_num, HNI.out⟩
    case measure => simp [intOf]; omega

theorem sallD_any (S : Nat → Prop) (a : Option Addr) (ca : Nat) (l : List (List Sp)) (ga : Option Addr) (gc : Nat) (ma : Option Addr) (mc : Nat) (s : Sr) (pa : Option Addr) (pc : Nat) (cs : List Int) (w0 : World) (hl : Gr SpE.row S w0 a ca l) (hg : Tzz w0 ga gc s.rg) (hm : Rii w0 ma mc s.rw) (hp : Ri w0 pa pc cs) (h40 : s.rg.length ≤ 40) (h8 : ∀ l ∈ s.rg, l.length ≤ 8) (hfo : foD (fiS s) l = true) : ∀ n, n ≤ 10 → AllC S ⟨a, ca, l, ga, gc, ma, mc, s, pa, pc, cs⟩ w0.heap.size w0 n := by
  intro n
  induction n with
  | zero => intro hn; exact sallD_step S a ca l ga gc ma mc s pa pc cs w0 hl hg hm hp h40 h8 hfo 0 hn (fun h => absurd rfl h)
  | succ n ih => intro hn; exact sallD_step S a ca l ga gc ma mc s pa pc cs w0 hl hg hm hp h40 h8 hfo (n + 1) hn (fun _ => ih (by omega))

set_option maxHeartbeats 4000000 in
set_option maxRecDepth 100000 in
theorem satD_any (S : Nat → Prop) (a : Option Addr) (ca : Nat) (l : List (List Sp)) (ga : Option Addr) (gc : Nat) (ma : Option Addr) (mc : Nat) (s : Sr) (n : Int) (pa : Option Addr) (pc : Nat) (cs : List Int) (w : World) (hl : Gr SpE.row S w a ca l) (hg : Tzz w ga gc s.rg) (hm : Rii w ma mc s.rw) (hp : Ri w pa pc cs) (hn : I64 n) (h40 : s.rg.length ≤ 40) (h8 : ∀ l ∈ s.rg, l.length ≤ 8) :
    Calls Tryz.prog 9 #[.slice a l.length ca, .agg #[.slice ga s.rg.length gc, .slice ma s.rw.length mc], .int .i64 n, .slice pa cs.length pc] w fun e w' => ∃ a' c', e = .returned (.tuple #[.slice a' (atDL (fiS s) (RS s cs) l n).length c', .int .i64 (atDE (fiS s) (RS s cs) l n)]) ∧ Gr PnE.row (fun k => w.heap.size ≤ k) w' a' c' (atDL (fiS s) (RS s cs) l n) ∧ Below w.heap.size w w' := by
  have kl := hl.lenB
  have k2 := hm.lenB
  have k3 := hg.lenB
  have k4 := hp.lenB
  obtain ⟨hn1, hn2⟩ := hn
  obtain ⟨W, hW, X1, hbW⟩ : ∃ W, W = w.alloc (.cells #[.slice ga s.rg.length gc, .slice ma s.rw.length mc] 26) ∧ Bk 26 W w.heap.size [.slice ga s.rg.length gc, .slice ma s.rw.length mc] ∧ Below w.heap.size w W := ⟨_, rfl, Bk.new _ _ _, bl1 _⟩
  obtain ⟨p0, p1, -⟩ := X1.two
  have hfo := sformD_any S a ca l ga gc ma mc s W (hl.below hbW) k2 k3
  have HNO : Hid (foD (fiS s) l = false → atDE (fiS s) (RS s cs) l n = 1 ∧ atDL (fiS s) (RS s cs) l n = []) := atD_no
  have HNN : Hid (foD (fiS s) l = true → isD l.length n = false → atDE (fiS s) (RS s cs) l n = 5 ∧ atDL (fiS s) (RS s cs) l n = []) := atD_none
  have HYE : Hid (foD (fiS s) l = true → isD l.length n = true → (0 ≤ n ∧ n < (l.length : Int)) ∧ atDE (fiS s) (RS s cs) l n = (atDp (RS s cs) l n).er ∧ atDL (fiS s) (RS s cs) l n = if (atDp (RS s cs) l n).er = 0 then (atDp (RS s cs) l n).out else []) := atD_yes
  have HIS : Hid (isD l.length n = (decide (0 ≤ n) && decide (n < (l.length : Int)))) := rfl
  go_enter Tryz.func9, Tryz.ntmps9
  go_upto_region 1 with fail
  rw [← hW]
  clear hW
  cases hf : foD (fiS s) l with
  | false =>
    rw [hf] at hfo
    have HF : Hid (_) := HNO.out hf
    clear hf HNO HNN HYE
    go_wp2_with fail
    refine hfo.mono ?_
    rintro e u1 ⟨rfl, hb⟩
    have hfin := hbW.trans (hb.mono hbW.size)
    clear hfo hb p0 p1
    go_wp2
    go_ret2
    exact ⟨none, 0, by rw [HF.out.1, HF.out.2]; rfl, by rw [HF.out.2]; exact Gr.nil _ _ _ _ _ (Nat.zero_le _) (fun _ => rfl), hfin⟩
  | true =>
  rw [hf] at hfo
  have HFO : Hid (foD (fiS s) l = true) := hf
  clear hf HNO
  go_wp2_with fail
  refine hfo.mono ?_
  rintro e u1 ⟨rfl, hb⟩
  replace X1 := X1.below hb
  replace hbW := hbW.trans (hb.mono hbW.size)
  have HL : Hid (Gr SpE.row S u1 a ca l) := hl.below hbW
  have HG : Hid (Tzz u1 ga gc s.rg) := hg.below hbW
  have HM : Hid (Rii u1 ma mc s.rw) := hm.below hbW
  have HP : Hid (Ri u1 pa pc cs) := hp.below hbW
  clear hfo hb p0 p1 hl hg hm hp
  obtain ⟨p0, p1, -⟩ := X1.two
  by_cases h0 : 0 ≤ n
  rotate_left
  · have HF : Hid (_) := HNN.out HFO.out (by rw [HIS.out, decide_eq_false h0]; rfl)
    have g1 : decide (n < 0) = true := decide_eq_true (by omega)
    clear HNN HYE HIS
    go_wp2
    go_ret2
    exact ⟨none, 0, by rw [HF.out.1, HF.out.2]; rfl, by rw [HF.out.2]; exact Gr.nil _ _ _ _ _ (Nat.zero_le _) (fun _ => rfl), hbW⟩
  have g1 : decide (n < 0) = false := decide_eq_false (by omega)
  by_cases h1 : n < (l.length : Int)
  rotate_left
  · have HF : Hid (_) := HNN.out HFO.out (by rw [HIS.out, decide_eq_false h1, Bool.and_false])
    have g2 : decide ((l.length : Int) ≤ n) = true := decide_eq_true (by omega)
    clear HNN HYE HIS
    go_wp2
    go_ret2
    exact ⟨none, 0, by rw [HF.out.1, HF.out.2]; rfl, by rw [HF.out.2]; exact Gr.nil _ _ _ _ _ (Nat.zero_le _) (fun _ => rfl), hbW⟩
  have g2 : decide ((l.length : Int) ≤ n) = false := decide_eq_false (by omega)
  obtain ⟨-, HE, HL2⟩ := HYE.out HFO.out (by rw [HIS.out, decide_eq_true h0, decide_eq_true h1]; rfl)
  replace HE : Hid (_) := HE
  replace HL2 : Hid (_) := HL2
  clear HNN HYE HIS
  obtain ⟨k, rfl⟩ : ∃ k : Nat, n = (k : Int) := ⟨n.toNat, by omega⟩
  have hkl : k < l.length := by omega
  have HPE : Hid (atDp (RS s cs) l (k : Int) = drN (RS s cs) l 10 (l.getD k []) Pe.new) := by
    show _ = _
    unfold atDp
    rw [Int.toNat_natCast]
  obtain ⟨b1, off, a1, c1, ea, hb1, c0, hd, -, -⟩ := HL.out.rw (Below.refl _ _) k hkl
  obtain ⟨V, hV, Y9, hbv⟩ : ∃ V, V = u1.alloc (.cells #[.slice a l.length ca, .slice ga s.rg.length gc, .slice ma s.rw.length mc, .slice pa cs.length pc, .int .i64 0, .int .i64 0, .int .i64 0, .slice none 0 0, .int .i64 0] 66) ∧ RenB ⟨a, ca, l, ga, gc, ma, mc, s, pa, pc, cs⟩ u1.heap.size V Pe.new (.slice none 0 0) ∧ Below u1.heap.size u1 V := ⟨_, rfl, Bk.new _ _ _, bl1 _⟩
  have hdr := sallD_any S a ca l ga gc ma mc s pa pc cs u1 HL.out HG.out HM.out HP.out h40 h8 HFO.out 10 (Nat.le_refl _) k a1 c1 Pe.new (.slice none 0 0) V hkl hd OkP.new Y9 (Co.new _ _) hbv
  rw [show (10 : Int) - ((10 : Nat) : Int) = 0 from rfl] at hdr
  rw [show (Cx.mk a ca l ga gc ma mc s pa pc cs).l = l from rfl, show (Cx.mk a ca l ga gc ma mc s pa pc cs).s = s from rfl, show (Cx.mk a ca l ga gc ma mc s pa pc cs).cs = cs from rfl, ← HPE.out] at hdr
  have kd := hd.lenB
  obtain ⟨d, hdd⟩ : ∃ d, l.getD k [] = d := ⟨_, rfl⟩
  rw [hdd] at c0 hdr kd
  have c0V := (hbv.cell (p := ⟨b1, off + k, none⟩) hb1).trans c0
  have HSZ : Hid (w.heap.size ≤ u1.heap.size) := hbW.size
  have HBV : Hid (Below w.heap.size w V) := hbW.trans (hbv.mono hbW.size)
  generalize atDp (RS s cs) l (k : Int) = q at *
  have i1 : (0 : Int) ≤ (k : Int) := by omega
  have i2 : (k : Int) < (l.length : Int) := by omega
  subst ea
  clear HPE hdd hd
  go_upto_region 6 with fail
  rw [← hV]
  clear hV p0 p1 X1 hbv Y9 c0 g1 g2
  go_wp2_with fail
  refine hdr.mono ?_
  rintro e u3 ⟨rfl, hok, ⟨v9, hp9, hc9⟩, hb⟩
  have HFIN : Hid (Below w.heap.size w u3) := HBV.out.trans (hb.mono HSZ.out)
  have t8 : u3.cell? ⟨u1.heap.size, 8, none⟩ = some (.int .i64 q.er) := Bk.cell hp9 8 (by show 8 < 9; omega)
  clear hdr hb c0V
  by_cases her : q.er = 0
  rotate_left
  · have g7 : (q.er != 0) = true := bne_iff_ne.2 her
    have HF : Hid (atDL (fiS s) (RS s cs) l (k : Int) = []) := by
      show _ = _
      rw [HL2.out, if_neg her]
    clear her hok hp9 hc9
    go_upto_region 8 with fail
    refine wp_region_held_drew (S := fun w9 => w9.cell? ⟨u1.heap.size, 8, none⟩ = some (.int .i64 q.er)) (by kernel_rfl) ?_ (fun hHeld => ?_)
    · (try dsimp only)
      go_keep
    have hdr : Below u3.heap.size u3 u3.drew := Below.drew1
    generalize u3.drew = Z at hdr hHeld ⊢
    have HF3 : Hid (Below w.heap.size w Z) := HFIN.out.trans (hdr.mono HFIN.out.size)
    clear hdr t8
    refine hT 0 hHeld ?_
    refine hT 1 hHeld ?_
    refine hT 2 hHeld ?_
    refine hT 3 hHeld ?_
    refine hT 4 hHeld ?_
    refine hT 5 hHeld ?_
    refine wpAnyH_done (by kernel_rfl) ?_ _
    clear hHeld
    go_wp2
    go_ret2
    exact ⟨none, 0, by rw [HE.out, HF.out]; rfl, by rw [HF.out]; exact Gr.nil _ _ _ _ _ (Nat.zero_le _) (fun _ => rfl), HF3.out⟩
  have HF : Hid (atDL (fiS s) (RS s cs) l (k : Int) = q.out) := by
    show _ = _
    rw [HL2.out, if_pos her]
  obtain ⟨a9, c9, e9, hg9, -⟩ := hc9.slice
  subst e9
  have hv9 : u3.cell? ⟨u1.heap.size, 7, none⟩ = some (.slice a9 q.out.length c9) := Bk.cell hp9 7 (by show 7 < 9; omega)
  have HG9 : Hid (Gr PnE.row (fun k => w.heap.size ≤ k) u3 a9 c9 q.out) := hg9.wide (fun k h1 _ => by have := HSZ.out; omega)
  rw [her] at t8
  have HER : Hid (q.er = 0) := her
  clear her hok hp9 hc9 hg9
  go_wp2
  go_ret2
  exact ⟨a9, c9, by rw [HE.out, HF.out, HER.out]; rfl, by rw [HF.out]; exact HG9.out, HFIN.out⟩

end Go.Proofs.YtkbbdkecillnpaaGreat
