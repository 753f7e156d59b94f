/-
  foundryref18.Args, step, Formed: the walks (written by mk_dr0.py).
  foundryref03.Coordinate: the walk.
  foundryref09.Formed: the walk.
  foundryref01.Trim, Same; foundrylaw01.same: the walks.
  foundryref01.Bit, bits: the walks.
-/
import Derived.Test.YtkbbdkecillnpaaGreatZK18
import Derived.Test.YtkbbdkecillnpaaGreatZK27
import Derived.Test.YtkbbdkecillnpaaGreatZK8
import Derived.Test.YtkbbdkecillnpaaGreatZK15
import Derived.Test.YtkbbdkecillnpaaGreatZK16
import Derived.Test.YtkbbdkecillnpaaGreatZK9
import Derived.Test.YtkbbdkecillnpaaGreatZK10
import Derived.Laws.BitsAllLaws
namespace Go.Proofs.YtkbbdkecillnpaaGreat
open Go.RowKit Go.Maps
set_option linter.unusedSimpArgs false
set_option linter.unusedVariables false

set_option maxHeartbeats 1000000 in
set_option maxRecDepth 100000 in
theorem sArgs_any (d : Int) (w : World) (hd : I64 d) :
    Calls Tryz.prog 41 #[.int .i64 d] w fun e w' => e = .returned (.int .i64 (arD d)) ∧ w = w' := by
  by_cases h1 : d = 1
  · subst h1
    go_enter Tryz.func41, Tryz.ntmps41
    go_wp2
    go_ret
    exact ⟨rfl, rfl⟩
  by_cases h2 : d = 2
  · subst h2
    go_enter Tryz.func41, Tryz.ntmps41
    go_wp2
    go_ret
    exact ⟨rfl, rfl⟩
  by_cases h3 : d = 3
  · subst h3
    go_enter Tryz.func41, Tryz.ntmps41
    go_wp2
    go_ret
    exact ⟨rfl, rfl⟩
  by_cases h4 : d = 4
  · subst h4
    go_enter Tryz.func41, Tryz.ntmps41
    go_wp2
    go_ret
    exact ⟨rfl, rfl⟩
  have HA : Hid (arD d = -1) := by show _ = _; unfold arD; rw [if_neg h1, if_neg h2, if_neg h3, if_neg h4]
  have g1 : (d == 1) = false := beq_eq_false_iff_ne.2 h1
  have g2 : (d == 2) = false := beq_eq_false_iff_ne.2 h2
  have g3 : (d == 3) = false := beq_eq_false_iff_ne.2 h3
  have g4 : (d == 4) = false := beq_eq_false_iff_ne.2 h4
  go_enter Tryz.func41, Tryz.ntmps41
  go_wp2
  go_ret
  exact ⟨by rw [HA.out]; rfl, rfl⟩

set_option maxHeartbeats 8000000 in
set_option maxRecDepth 100000 in
theorem sstepD_any (S : Nat → Prop) (n : Nat) (ga : Option Addr) (gc : Nat) (ma : Option Addr) (mc : Nat) (s : Sr) (xa : Option Addr) (xc : Nat) (x : Sp) (w : World) (hn : n ≤ 9223372036854775807) (k2 : s.rw.length ≤ 9223372036854775807) (k3 : s.rg.length ≤ 9223372036854775807) (hd : I64 x.d) (hx : Gr SlE S w xa xc x.ar) :
    Calls Tryz.prog 29 #[.agg #[.int .i64 x.d, .slice xa x.ar.length xc], .agg #[.slice ga s.rg.length gc, .slice ma s.rw.length mc], .int .i64 (n : Int)] w fun e w' => e = .returned (.bool (spF (fiS s) n x)) ∧ Below w.heap.size w w' := by
  have kx := hx.lenB
  obtain ⟨W, hW, X2, X1, hbW⟩ : ∃ W, W = (w.alloc (.cells #[.int .i64 x.d, .slice xa x.ar.length xc] 50)).alloc (.cells #[.slice ga s.rg.length gc, .slice ma s.rw.length mc] 26) ∧ Bk 50 W w.heap.size [.int .i64 x.d, .slice xa x.ar.length xc] ∧ Bk 26 W (w.heap.size + 1) [.slice ga s.rg.length gc, .slice ma s.rw.length mc] ∧ Below w.heap.size w W := ⟨_, rfl, (Bk.new _ _ _).below (bl1 _), Bk.new1 _ _ _ _, bl2 _ _⟩
  obtain ⟨q0, q1, -⟩ := X2.two
  go_enter Tryz.func29, Tryz.ntmps29
  go_upto_region 1 with fail
  rw [← hW]
  clear hW
  refine wp_region_held_drew (S := fun w9 => w9.cell? ⟨w.heap.size, 0, none⟩ = some (.int .i64 x.d) ∧ w9.cell? ⟨w.heap.size, 1, none⟩ = some (.slice xa x.ar.length xc)) (by kernel_rfl) ?_ (fun hHeld => ?_)
  · (try dsimp only)
    go_keep
  have hdr : Below W.heap.size W W.drew := Below.drew1
  generalize W.drew = Z at hdr hHeld ⊢
  replace X1 := X1.below hdr
  replace X2 := X2.below hdr
  replace hx := (hx.below hbW).below hdr
  replace hbW := hbW.trans (hdr.mono hbW.size)
  have hag := sArgs_any x.d Z hd
  clear hdr q0 q1
  refine hT 0 hHeld ?_
  refine hT 1 hHeld ?_
  refine hT 2 hHeld ?_
  refine hT 3 hHeld ?_
  refine hT 4 hHeld ?_
  refine hCall (i := 5) rfl (by kernel_rfl) (by rfl) (fun K hK => ?_)
  go_simp
  refine (hag).mono ?_
  rintro e u ⟨rfl, rfl⟩
  go_wp2_with fail
  refine hK.out _ _ ?_ (fun hHeld => ?_)
  · (try dsimp only)
    exact hHeld
  clear hK K
  try simp only [Act.put, List.setIfInBounds_toArray, List.set_cons_zero, List.set_cons_succ]
  clear hag
  by_cases hlen : (x.ar.length : Int) = arD x.d
  rotate_left
  · have HF : Hid (spF (fiS s) n x = false) := spF_no1 hlen
    generalize arD x.d = z at *
    have g2 : ((x.ar.length : Int) != z) = true := bne_iff_ne.2 hlen
    clear hlen
    refine hT 6 hHeld ?_
    refine wpAnyH_done (by kernel_rfl) ?_ _
    clear hHeld
    go_wp2
    go_ret
    exact ⟨rt_bool HF.out.symm, hbW⟩
  have HLEN : Hid ((x.ar.length : Int) = arD x.d) := hlen
  have had := arD_in x.d
  have hpos : 0 < x.ar.length := by omega
  have hx6 : x.ar.length ≤ 6 := by omega
  rw [← hlen]
  have g2 : ((x.ar.length : Int) != (x.ar.length : Int)) = false := by simp
  have HX : Hid (Gr SlE S Z xa xc x.ar) := hx
  have HX1 : Hid (Bk 26 Z (w.heap.size + 1) [.slice ga s.rg.length gc, .slice ma s.rw.length mc]) := X1
  have HX2 : Hid (Bk 50 Z w.heap.size [.int .i64 x.d, .slice xa x.ar.length xc]) := X2
  have HBW : Hid (Below w.heap.size w Z) := hbW
  clear hlen had hx X1 X2 hbW
  refine hT 6 hHeld ?_
  refine wpAnyH_done (by kernel_rfl) ?_ _
  clear hHeld
  go_wp2
  clear g2
  go_loopw [7] (fun i wr => ∃ k : Nat, k ≤ x.ar.length ∧ i = .int .i64 k ∧ Hid (∀ j, j < k → fiS s (x.ar.getD j (0, 0)).1 (x.ar.getD j (0, 0)).2 = true) ∧ Below Z.heap.size Z wr) (fun i _ => x.ar.length - (intOf i).toNat)
  case atStart => exact ⟨0, Nat.zero_le _, rfl, (fun j hj => by omega), Below.refl _ _⟩
  case round =>
    obtain ⟨k, hk, rfl, HOK, hB⟩ := hrel
    have hBw : Below w.heap.size w wr := HBW.out.trans (hB.mono HBW.out.size)
    have hX1 := HX1.out.below hB
    have hX2 := HX2.out.below hB
    obtain ⟨x0, x1, -⟩ := hX1.two
    obtain ⟨q0, q1, -⟩ := hX2.two
    by_cases hkn : k < x.ar.length
    · obtain ⟨b1, off, ea, hb1, ⟨m1, m2⟩, c0, c1⟩ := HX.out.sl hB k hkn
      subst ea
      have HBad : Hid (fiS s (x.ar.getD k (0, 0)).1 (x.ar.getD k (0, 0)).2 = false → spF (fiS s) n x = false) := fun h => spF_no2 hkn h
      obtain ⟨y, hy⟩ : ∃ y, x.ar.getD k (0, 0) = y := ⟨_, rfl⟩
      have HY : Hid (x.ar.getD k (0, 0) = y) := hy
      rw [hy] at m1 m2 c0 c1 HBad
      clear hy
      have i1 : (0 : Int) ≤ (k : Int) := by omega
      have i2 : (k : Int) < (x.ar.length : Int) := by omega
      go_upto_region 6 with fail
      refine wp_region_held_drew (S := fun w9 => (w9.cell? ⟨w.heap.size + 1, 0, none⟩ = some (.slice ga s.rg.length gc) ∧ w9.cell? ⟨w.heap.size + 1, 1, none⟩ = some (.slice ma s.rw.length mc)) ∧ w9.cell? ⟨w.heap.size, 1, none⟩ = some (.slice (some ⟨b1, off, none⟩) x.ar.length xc) ∧ w9.cell? ⟨b1, off + k * 2, none⟩ = some (.int .i64 y.1) ∧ w9.cell? ⟨b1, off + k * 2 + 1, none⟩ = some (.int .i64 y.2)) (by kernel_rfl) ?_ (fun hHeld => ?_)
      · (try dsimp only)
        go_keep
      have hdr : Below wr.heap.size wr wr.drew := Below.drew1
      generalize wr.drew = Z6 at hdr hHeld ⊢
      replace hB := hB.trans (hdr.mono hB.size)
      replace hBw := hBw.trans (hdr.mono hBw.size)
      have hfi := sfitsS_any ga gc ma mc s y.1 y.2 Z6 k2 m1 m2
      clear hdr c0 c1 x0 x1 q0 q1 hX1 hX2
      refine hT 0 hHeld ?_
      refine hT 1 hHeld ?_
      refine hT 2 hHeld ?_
      refine hT 3 hHeld ?_
      refine hT 4 hHeld ?_
      refine hT 5 hHeld ?_
      have HCL : Hid (∀ U, Below Z6.heap.size Z6 U → (U.cell? ⟨w.heap.size + 1, 0, none⟩ = some (.slice ga s.rg.length gc) ∧ U.cell? ⟨w.heap.size + 1, 1, none⟩ = some (.slice ma s.rw.length mc)) ∧ U.cell? ⟨w.heap.size, 1, none⟩ = some (.slice (some ⟨b1, off, none⟩) x.ar.length xc) ∧ U.cell? ⟨b1, off + k * 2, none⟩ = some (.int .i64 y.1) ∧ U.cell? ⟨b1, off + k * 2 + 1, none⟩ = some (.int .i64 y.2)) := fun U hU => by
        have l1 : w.heap.size + 1 < Z6.heap.size := Nat.lt_of_lt_of_le HX1.out.lt hB.size
        have l2 : b1 < Z6.heap.size := Nat.lt_of_lt_of_le hb1 hB.size
        exact ⟨⟨(hU.cell (p := ⟨w.heap.size + 1, 0, none⟩) l1).trans hHeld.1.1, (hU.cell (p := ⟨w.heap.size + 1, 1, none⟩) l1).trans hHeld.1.2⟩, (hU.cell (p := ⟨w.heap.size, 1, none⟩) (by show w.heap.size < _; omega)).trans hHeld.2.1, (hU.cell (p := ⟨b1, off + k * 2, none⟩) l2).trans hHeld.2.2.1, (hU.cell (p := ⟨b1, off + k * 2 + 1, none⟩) l2).trans hHeld.2.2.2⟩
      cases hf3 : fiS s y.1 y.2 with
      | false =>
        rw [hf3] at hfi
        have HF : Hid (spF (fiS s) n x = false) := HBad.out hf3
        clear hf3 HBad HOK
        refine hCall (i := 6) rfl (by kernel_rfl) (by rfl) (fun K hK => ?_)
        go_simp
        refine (hfi).mono ?_
        rintro e u4 ⟨rfl, hb⟩
        go_wp2_with fail
        refine hK.out _ _ ?_ (fun hHeld => ?_)
        · (try dsimp only)
          exact HCL.out _ hb
        clear hK K
        try simp only [Act.put, List.setIfInBounds_toArray, List.set_cons_zero, List.set_cons_succ]
        replace hBw := hBw.trans (hb.mono hBw.size)
        refine hT 7 hHeld ?_
        refine wpAnyH_done (by kernel_rfl) ?_ _
        clear hHeld hfi hb
        go_wp2
        go_ret
        exact ⟨rt_bool HF.out.symm, hBw⟩
      | true =>
      rw [hf3] at hfi
      have HOK2 : Hid (∀ j, j < k + 1 → fiS s (x.ar.getD j (0, 0)).1 (x.ar.getD j (0, 0)).2 = true) := fun j hj => by
        rcases Nat.lt_or_ge j k with h1 | h1
        · exact HOK.out j h1
        · rw [show j = k by omega, HY.out, hf3]
      clear hf3 HBad HOK HY
      refine hCall (i := 6) rfl (by kernel_rfl) (by rfl) (fun K hK => ?_)
      go_simp
      refine (hfi).mono ?_
      rintro e u4 ⟨rfl, hb⟩
      go_wp2_with fail
      refine hK.out _ _ ?_ (fun hHeld => ?_)
      · (try dsimp only)
        exact HCL.out _ hb
      clear hK K
      try simp only [Act.put, List.setIfInBounds_toArray, List.set_cons_zero, List.set_cons_succ]
      replace hB := hB.trans (hb.mono hB.size)
      refine hT 7 hHeld ?_
      refine wpAnyH_done (by kernel_rfl) ?_ _
      clear hHeld hfi hb hBw HCL
      go_wp2
      go_roundw
      case rel => exact ⟨k + 1, by omega, by go_num, HOK2, hB⟩
      case measure => simp [intOf]; omega
    · have g4 : ¬ (k : Int) < (x.ar.length : Int) := by omega
      have HF : Hid (spF (fiS s) n x = (!decide (x.d = 4) || (isD n (x.ar.getD 0 (0, 0)).1 && decide ((x.ar.getD 0 (0, 0)).2 = -1)))) := spF_yes HLEN.out (fun j hj => HOK.out j (by omega))
      obtain ⟨b1, off, ea, hb1, ⟨m1, m2⟩, c0, c1⟩ := HX.out.sl hB 0 hpos
      subst ea
      rw [Nat.zero_mul, Nat.add_zero] at c0 c1
      have hi0 : (0 : Int) < (x.ar.length : Int) := by omega
      generalize x.ar.getD 0 (0, 0) = y at *
      have HID : Hid (isD n y.1 = (decide (0 ≤ y.1) && decide (y.1 < (n : Int)))) := rfl
      clear HOK hX1 hX2 x0 x1
      by_cases h4 : x.d = 4
      rotate_left
      · have g5 : (x.d != 4) = true := bne_iff_ne.2 h4
        rw [decide_eq_false h4] at HF
        clear h4
        go_wp2
        go_ret
        exact ⟨rt_bool HF.out.symm, hBw⟩
      rw [h4] at q0
      rw [decide_eq_true h4] at HF
      clear h4
      by_cases h5 : y.2 = -1
      rotate_left
      · have g6 : (y.2 == -1) = false := beq_eq_false_iff_ne.2 h5
        rw [decide_eq_false h5, Bool.and_false] at HF
        clear h5
        go_wp2
        go_ret
        exact ⟨rt_bool HF.out.symm, hBw⟩
      rw [h5] at c1
      rw [decide_eq_true h5, Bool.and_true, HID.out] at HF
      clear h5 m2
      by_cases h6 : 0 ≤ y.1
      rotate_left
      · have g6 : decide (0 ≤ y.1) = false := decide_eq_false h6
        rw [g6] at HF
        go_wp2
        go_ret
        exact ⟨rt_bool HF.out.symm, hBw⟩
      have g6 : decide (0 ≤ y.1) = true := decide_eq_true h6
      rw [g6] at HF
      obtain ⟨q, hq⟩ : ∃ q, decide (y.1 < (n : Int)) = q := ⟨_, rfl⟩
      rw [hq] at HF
      go_wp2
      go_ret
      exact ⟨rt_bool (by rw [HF.out]; rfl), hBw⟩

set_option maxHeartbeats 8000000 in
set_option maxRecDepth 100000 in
theorem sformD_any (S : Nat → Prop) (a : Option Addr) (ca : Nat) (l : List (List Sp)) (ga : Option Addr) (gc : Nat) (ma : Option Addr) (mc : Nat) (s : Sr) (w : World) (hl : Gr SpE.row S w a ca l) (k2 : s.rw.length ≤ 9223372036854775807) (k3 : s.rg.length ≤ 9223372036854775807) :
    Calls Tryz.prog 12 #[.slice a l.length ca, .agg #[.slice ga s.rg.length gc, .slice ma s.rw.length mc]] w fun e w' => e = .returned (.bool (foD (fiS s) l)) ∧ Below w.heap.size w w' := by
  have kl := hl.lenB
  obtain ⟨W, hW, X1, hbW⟩ : ∃ W, W = w.alloc (.cells #[.slice ga s.rg.length gc, .slice ma s.rw.length mc] 26) ∧ Bk 26 W w.heap.size [.slice ga s.rg.length gc, .slice ma s.rw.length mc] ∧ Below w.heap.size w W := ⟨_, rfl, Bk.new _ _ _, bl1 _⟩
  by_cases hn1 : 20 < l.length
  · have HF : Hid (foD (fiS s) l = false) := foD_no1 hn1
    have g2 : (20 : Int) < (l.length : Int) := by omega
    go_enter Tryz.func12, Tryz.ntmps12
    go_upto_region 1 with fail
    rw [← hW]
    clear hW
    go_wp2
    go_ret
    exact ⟨rt_bool HF.out.symm, hbW⟩
  have g2 : ¬ (20 : Int) < (l.length : Int) := by omega
  have HL : Hid (Gr SpE.row S W a ca l) := hl.below hbW
  have HX1 : Hid (Bk 26 W w.heap.size [.slice ga s.rg.length gc, .slice ma s.rw.length mc]) := X1
  have HBW : Hid (Below w.heap.size w W) := hbW
  go_enter Tryz.func12, Tryz.ntmps12
  go_upto_region 1 with fail
  rw [← hW]
  clear hW hl X1 hbW
  go_wp2
  clear g2
  go_loopw [5] (fun i wr => ∃ k : Nat, k ≤ l.length ∧ i = .int .i64 k ∧ Hid (∀ j, j < k → drF (fiS s) l.length (l.getD j []) = true) ∧ Below W.heap.size W wr) (fun i _ => l.length - (intOf i).toNat)
  case atStart => exact ⟨0, Nat.zero_le _, rfl, (fun j hj => by omega), Below.refl _ _⟩
  case round =>
    obtain ⟨k, hk, rfl, HOK, hB⟩ := hrel
    have hBw : Below w.heap.size w wr := HBW.out.trans (hB.mono HBW.out.size)
    by_cases hkn : k < l.length
    rotate_left
    · have HF : Hid (foD (fiS s) l = true) := foD_iff.2 ⟨by omega, fun j hj => HOK.out j (by omega)⟩
      have g4 : ¬ (k : Int) < (l.length : Int) := by omega
      clear HOK
      go_wp2
      go_ret
      exact ⟨rt_bool HF.out.symm, hBw⟩
    obtain ⟨b1, off, a1, c1, ea, hb1, c0, hd, hdl, -⟩ := HL.out.rw hB k hkn
    have HBad : Hid (drF (fiS s) l.length (l.getD k []) = false → foD (fiS s) l = false) := foD_no2 hkn
    obtain ⟨d, hdd⟩ : ∃ d, l.getD k [] = d := ⟨_, rfl⟩
    have HDD : Hid (l.getD k [] = d) := hdd
    rw [hdd] at c0 hd hdl HBad
    subst ea
    clear hdd
    have i1 : (0 : Int) ≤ (k : Int) := by omega
    have i2 : (k : Int) < (l.length : Int) := by omega
    by_cases hd6 : 60 < d.length
    · have g3 : (60 : Int) < (d.length : Int) := by omega
      have HF : Hid (foD (fiS s) l = false) := HBad.out (drF_no1 hd6)
      clear HBad HOK
      go_wp2
      go_ret
      exact ⟨rt_bool HF.out.symm, hBw⟩
    have g3 : ¬ (60 : Int) < (d.length : Int) := by omega
    have HD : Hid (Gr SpE S wr a1 c1 d) := hd
    have HB : Hid (Below W.heap.size W wr) := hB
    have HC0 : Hid (∀ U, Below W.heap.size wr U → U.cell? ⟨b1, off + k, none⟩ = some (.slice a1 d.length c1)) := fun U hU => (hU.cell (p := ⟨b1, off + k, none⟩) hb1).trans c0
    obtain ⟨wq, hwq⟩ : ∃ u, u = wr := ⟨_, rfl⟩
    rw [← hwq] at HD HB HC0
    rw [← hwq] at c0 ⊢
    clear hd hB hBw hwq
    go_wp2
    clear c0 g3
    go_loopw [6] (fun i wr => ∃ j : Nat, j ≤ d.length ∧ i = .int .i64 j ∧ Hid (∀ i, i < j → spF (fiS s) l.length (d.getD i Sp.none) = true) ∧ Below wq.heap.size wq wr) (fun i _ => d.length - (intOf i).toNat)
    case atStart => exact ⟨0, Nat.zero_le _, rfl, (fun j hj => by omega), Below.refl _ _⟩
    case round =>
      obtain ⟨j, hj, rfl, HOJ, hC⟩ := hrel
      have c0 := HC0.out wr (hC.mono HB.out.size)
      have hB : Below W.heap.size W wr := HB.out.trans (hC.mono HB.out.size)
      have hBw : Below w.heap.size w wr := HBW.out.trans (hB.mono HBW.out.size)
      by_cases hjn : j < d.length
      rotate_left
      · have g4 : ¬ (j : Int) < (d.length : Int) := by omega
        have HOK2 : Hid (∀ i, i < k + 1 → drF (fiS s) l.length (l.getD i []) = true) := fun i hi => by
          rcases Nat.lt_or_ge i k with h1 | h1
          · exact HOK.out i h1
          · rw [show i = k by omega, HDD.out]
            exact drF_iff.2 ⟨by omega, fun i hi => HOJ.out i (by omega)⟩
        clear HOK HOJ HBad HDD hC hBw
        go_wp2
        go_roundw
        case rel => exact ⟨k + 1, by omega, by go_num, HOK2, hB⟩
        case measure => simp [intOf]; omega
      obtain ⟨b2, of2, a2, c2, ea2, hb2, hI, d0, d1, hsl, hsl2⟩ := HD.out.sp hC j hjn
      have HBad2 : Hid (spF (fiS s) l.length (d.getD j Sp.none) = false → foD (fiS s) l = false) := fun h => HBad.out (drF_no2 hjn h)
      obtain ⟨x, hx⟩ : ∃ x, d.getD j Sp.none = x := ⟨_, rfl⟩
      have HXX : Hid (d.getD j Sp.none = x) := hx
      rw [hx] at hI d0 d1 hsl hsl2 HBad2
      subst ea2
      clear hx
      have i3 : (0 : Int) ≤ (j : Int) := by omega
      have i4 : (j : Int) < (d.length : Int) := by omega
      have hX1 := HX1.out.below hB
      obtain ⟨x0, x1, -⟩ := hX1.two
      go_upto_region 11 with fail
      refine wp_region_held_drew (S := fun w9 => w9.cell? ⟨b1, off + k, none⟩ = some (.slice (some ⟨b2, of2, none⟩) d.length c1) ∧ (w9.cell? ⟨b2, of2 + j * 2, none⟩ = some (.int .i64 x.d) ∧ w9.cell? ⟨b2, of2 + j * 2 + 1, none⟩ = some (.slice a2 x.ar.length c2)) ∧ w9.cell? ⟨w.heap.size, 0, none⟩ = some (.slice ga s.rg.length gc) ∧ w9.cell? ⟨w.heap.size, 1, none⟩ = some (.slice ma s.rw.length mc)) (by kernel_rfl) ?_ (fun hHeld => ?_)
      · (try dsimp only)
        go_keep
      have hdr : Below wr.heap.size wr wr.drew := Below.drew1
      generalize wr.drew = Z6 at hdr hHeld ⊢
      replace hsl := hsl.below hdr
      replace hC := hC.trans (hdr.mono hC.size)
      replace hBw := hBw.trans (hdr.mono hBw.size)
      have hst := sstepD_any S l.length ga gc ma mc s a2 c2 x Z6 kl k2 k3 hI hsl
      have HCL : Hid (∀ U, Below Z6.heap.size Z6 U → U.cell? ⟨b1, off + k, none⟩ = some (.slice (some ⟨b2, of2, none⟩) d.length c1) ∧ (U.cell? ⟨b2, of2 + j * 2, none⟩ = some (.int .i64 x.d) ∧ U.cell? ⟨b2, of2 + j * 2 + 1, none⟩ = some (.slice a2 x.ar.length c2)) ∧ U.cell? ⟨w.heap.size, 0, none⟩ = some (.slice ga s.rg.length gc) ∧ U.cell? ⟨w.heap.size, 1, none⟩ = some (.slice ma s.rw.length mc)) := fun U hU => by
        have l1 : w.heap.size < Z6.heap.size := Nat.lt_of_lt_of_le hX1.lt hdr.size
        have l2 : b2 < Z6.heap.size := Nat.lt_of_lt_of_le hb2 hC.size
        have l3 : b1 < Z6.heap.size := Nat.lt_of_lt_of_le hb1 (Nat.le_trans hB.size hdr.size)
        exact ⟨(hU.cell (p := ⟨b1, off + k, none⟩) l3).trans hHeld.1, ⟨(hU.cell (p := ⟨b2, of2 + j * 2, none⟩) l2).trans hHeld.2.1.1, (hU.cell (p := ⟨b2, of2 + j * 2 + 1, none⟩) l2).trans hHeld.2.1.2⟩, (hU.cell (p := ⟨w.heap.size, 0, none⟩) l1).trans hHeld.2.2.1, (hU.cell (p := ⟨w.heap.size, 1, none⟩) l1).trans hHeld.2.2.2⟩
      clear hdr c0 d0 d1 x0 x1 hX1 hB
      refine hT 0 hHeld ?_
      refine hT 1 hHeld ?_
      refine hT 2 hHeld ?_
      refine hT 3 hHeld ?_
      refine hT 4 hHeld ?_
      refine hT 5 hHeld ?_
      refine hT 6 hHeld ?_
      refine hT 7 hHeld ?_
      refine hT 8 hHeld ?_
      refine hT 9 hHeld ?_
      cases hf3 : spF (fiS s) l.length x with
      | false =>
        rw [hf3] at hst
        have HF : Hid (foD (fiS s) l = false) := HBad2.out hf3
        clear hf3 HBad2 HBad HOJ
        refine hCall (i := 10) rfl (by kernel_rfl) (by rfl) (fun K hK => ?_)
        go_simp
        refine (hst).mono ?_
        rintro e u4 ⟨rfl, hb⟩
        go_wp2_with fail
        refine hK.out _ _ ?_ (fun hHeld => ?_)
        · (try dsimp only)
          exact HCL.out _ hb
        clear hK K
        try simp only [Act.put, List.setIfInBounds_toArray, List.set_cons_zero, List.set_cons_succ]
        replace hBw := hBw.trans (hb.mono hBw.size)
        refine hT 11 hHeld ?_
        refine wpAnyH_done (by kernel_rfl) ?_ _
        clear hHeld hst hb
        go_wp2
        go_ret
        exact ⟨rt_bool HF.out.symm, hBw⟩
      | true =>
      rw [hf3] at hst
      have HOJ2 : Hid (∀ i, i < j + 1 → spF (fiS s) l.length (d.getD i Sp.none) = true) := fun i hi => by
        rcases Nat.lt_or_ge i j with h1 | h1
        · exact HOJ.out i h1
        · rw [show i = j by omega, HXX.out, hf3]
      clear hf3 HBad2 HOJ HXX
      refine hCall (i := 10) rfl (by kernel_rfl) (by rfl) (fun K hK => ?_)
      go_simp
      refine (hst).mono ?_
      rintro e u4 ⟨rfl, hb⟩
      go_wp2_with fail
      refine hK.out _ _ ?_ (fun hHeld => ?_)
      · (try dsimp only)
        exact HCL.out _ hb
      clear hK K
      try simp only [Act.put, List.setIfInBounds_toArray, List.set_cons_zero, List.set_cons_succ]
      replace hC := hC.trans (hb.mono hC.size)
      refine hT 11 hHeld ?_
      refine wpAnyH_done (by kernel_rfl) ?_ _
      clear hHeld hst hb hBw hsl HCL
      go_wp2
      go_roundw
      case rel => exact ⟨j + 1, by omega, by go_num, HOJ2, hC⟩
      case measure => simp [intOf]; omega

end Go.Proofs.YtkbbdkecillnpaaGreat

namespace Go.Proofs.YtkbbdkecillnpaaGreat
open Go.RowKit Classical
set_option linter.unusedSimpArgs false
set_option linter.unusedVariables false

set_option maxHeartbeats 400000 in
set_option maxRecDepth 100000 in
theorem scoord_any (z : Int) (w : World) : Calls Tryz.prog 142 #[.int .i64 z] w fun e w' => e = .returned (.bool (crd z)) ∧ w = w' := by
  by_cases h1 : -16384 ≤ z
  · go_enter Tryz.func142, Tryz.ntmps142
    go_wp2
    go_ret
    exact ⟨ret_bool (by simp [crd, h1]), rfl⟩
  · go_enter Tryz.func142, Tryz.ntmps142
    go_wp2
    go_ret
    exact ⟨ret_bool (by simp [crd]; omega), rfl⟩

theorem scoordB_any (z : Int) (w : World) : Calls Tryz.prog 142 #[.int .i64 z] w fun e w' => e = .returned (.bool (crd z)) ∧ Below w.heap.size w w' :=
  (scoord_any z w).mono fun e w' h => ⟨h.1, h.2 ▸ Below.refl _ _⟩

end Go.Proofs.YtkbbdkecillnpaaGreat

namespace Go.Proofs.YtkbbdkecillnpaaGreat
open Go.RowKit Go.Maps
set_option linter.unusedSimpArgs false
set_option linter.unusedVariables false

/-- Above 0, below 0, at 0. -/
theorem tfS_up {t : Te} (h1 : crd t.st = true) (h2 : crd t.pk = true) (h3 : crd t.en = true) (h : 0 < t.pk) : tfB t = (decide (0 ≤ t.st) && (decide (t.st < t.pk) && (decide (t.pk < t.en) || (t.pk == 16384 && t.en == 16384)))) := by
  rw [crdT] at h1 h2 h3
  rw [Bool.eq_iff_iff, tfB_iff]
  unfold TfT
  simp
  omega
theorem tfS_down {t : Te} (h1 : crd t.st = true) (h2 : crd t.pk = true) (h3 : crd t.en = true) (h : t.pk < 0) : tfB t = (decide (t.en ≤ 0) && (decide (t.pk < t.en) && (decide (t.st < t.pk) || (t.pk == -16384 && t.st == -16384)))) := by
  rw [crdT] at h1 h2 h3
  rw [Bool.eq_iff_iff, tfB_iff]
  unfold TfT
  simp
  omega
theorem tfS_mid {t : Te} (h1 : crd t.st = true) (h2 : crd t.pk = true) (h3 : crd t.en = true) (h : t.pk = 0) : tfB t = (t.st == 0 && t.en == 0) := by
  rw [crdT] at h1 h2 h3
  rw [Bool.eq_iff_iff, tfB_iff]
  unfold TfT
  simp
  omega

set_option maxHeartbeats 4000000 in
set_option maxRecDepth 100000 in
theorem sformT_any (t : Te) (w : World) :
    Calls Tryz.prog 141 #[.agg #[.int .i64 t.st, .int .i64 t.pk, .int .i64 t.en]] w fun e w' => e = .returned (.bool (tfB t)) ∧ Below w.heap.size w w' := by
  obtain ⟨W, hW, X1, hbW⟩ : ∃ W, W = w.alloc (.cells #[.int .i64 t.st, .int .i64 t.pk, .int .i64 t.en] 166) ∧ Box 166 W w.heap.size (.int .i64 t.st) (.int .i64 t.pk) (.int .i64 t.en) ∧ Below w.heap.size w W := ⟨_, rfl, Box.new _ _ _ _ _, al1 _⟩
  cases c1 : crd t.st with
  | false =>
    have HF : Hid (tfB t = false) := tfB_no (fun h => by rw [crdT.2 h.1] at c1; cases c1)
    obtain ⟨st, pk, en⟩ := t
    dsimp only at *
    obtain ⟨p0, p1, p2, _⟩ := X1.cells
    go_enter Tryz.func141, Tryz.ntmps141
    go_wp2_with fail
    rw [← hW]
    clear hW
    refine (scoord_any st _).mono ?_
    rintro e u1 ⟨rfl, rfl⟩
    rw [c1]
    go_wp2
    go_ret
    exact ⟨rt_bool HF.out.symm, hbW⟩
  | true =>
    cases c2 : crd t.pk with
    | false =>
      have HF : Hid (tfB t = false) := tfB_no (fun h => by rw [crdT.2 h.2.1] at c2; cases c2)
      obtain ⟨st, pk, en⟩ := t
      dsimp only at *
      obtain ⟨p0, p1, p2, _⟩ := X1.cells
      go_enter Tryz.func141, Tryz.ntmps141
      go_wp2_with fail
      rw [← hW]
      clear hW
      refine (scoord_any st _).mono ?_
      rintro e u1 ⟨rfl, rfl⟩
      rw [c1]
      go_wp2_with fail
      refine (scoord_any pk _).mono ?_
      rintro e u1 ⟨rfl, rfl⟩
      rw [c2]
      go_wp2
      go_ret
      exact ⟨rt_bool HF.out.symm, hbW⟩
    | true =>
      cases c3 : crd t.en with
      | false =>
        have HF : Hid (tfB t = false) := tfB_no (fun h => by rw [crdT.2 h.2.2.1] at c3; cases c3)
        obtain ⟨st, pk, en⟩ := t
        dsimp only at *
        obtain ⟨p0, p1, p2, _⟩ := X1.cells
        go_enter Tryz.func141, Tryz.ntmps141
        go_wp2_with fail
        rw [← hW]
        clear hW
        refine (scoord_any st _).mono ?_
        rintro e u1 ⟨rfl, rfl⟩
        rw [c1]
        go_wp2_with fail
        refine (scoord_any pk _).mono ?_
        rintro e u1 ⟨rfl, rfl⟩
        rw [c2]
        go_wp2_with fail
        refine (scoord_any en _).mono ?_
        rintro e u1 ⟨rfl, rfl⟩
        rw [c3]
        go_wp2
        go_ret
        exact ⟨rt_bool HF.out.symm, hbW⟩
      | true =>
        by_cases hu : 0 < t.pk
        · have HF : Hid (tfB t = _) := tfS_up c1 c2 c3 hu
          cases g1 : (decide (0 ≤ t.st) : Bool) with
          | false =>
            rw [g1] at HF
            obtain ⟨st, pk, en⟩ := t
            dsimp only at *
            obtain ⟨p0, p1, p2, _⟩ := X1.cells
            go_enter Tryz.func141, Tryz.ntmps141
            go_wp2_with fail
            rw [← hW]
            clear hW
            refine (scoord_any st _).mono ?_
            rintro e u1 ⟨rfl, rfl⟩
            rw [c1]
            go_wp2_with fail
            refine (scoord_any pk _).mono ?_
            rintro e u1 ⟨rfl, rfl⟩
            rw [c2]
            go_wp2_with fail
            refine (scoord_any en _).mono ?_
            rintro e u1 ⟨rfl, rfl⟩
            rw [c3]
            clear c1 c2 c3
            go_wp2
            go_ret
            exact ⟨rt_bool (by rw [HF.out]; simp), hbW⟩
          | true =>
            cases g2 : (decide (t.st < t.pk) : Bool) with
            | false =>
              rw [g1, g2] at HF
              obtain ⟨st, pk, en⟩ := t
              dsimp only at *
              obtain ⟨p0, p1, p2, _⟩ := X1.cells
              go_enter Tryz.func141, Tryz.ntmps141
              go_wp2_with fail
              rw [← hW]
              clear hW
              refine (scoord_any st _).mono ?_
              rintro e u1 ⟨rfl, rfl⟩
              rw [c1]
              go_wp2_with fail
              refine (scoord_any pk _).mono ?_
              rintro e u1 ⟨rfl, rfl⟩
              rw [c2]
              go_wp2_with fail
              refine (scoord_any en _).mono ?_
              rintro e u1 ⟨rfl, rfl⟩
              rw [c3]
              clear c1 c2 c3
              go_wp2
              go_ret
              exact ⟨rt_bool (by rw [HF.out]; simp), hbW⟩
            | true =>
              cases g3 : (decide (t.pk < t.en) : Bool) with
              | false =>
                cases g4 : (t.pk == 16384 : Bool) with
                | false =>
                  rw [g1, g2, g3, g4] at HF
                  obtain ⟨st, pk, en⟩ := t
                  dsimp only at *
                  obtain ⟨p0, p1, p2, _⟩ := X1.cells
                  go_enter Tryz.func141, Tryz.ntmps141
                  go_wp2_with fail
                  rw [← hW]
                  clear hW
                  refine (scoord_any st _).mono ?_
                  rintro e u1 ⟨rfl, rfl⟩
                  rw [c1]
                  go_wp2_with fail
                  refine (scoord_any pk _).mono ?_
                  rintro e u1 ⟨rfl, rfl⟩
                  rw [c2]
                  go_wp2_with fail
                  refine (scoord_any en _).mono ?_
                  rintro e u1 ⟨rfl, rfl⟩
                  rw [c3]
                  clear c1 c2 c3
                  go_wp2
                  go_ret
                  exact ⟨rt_bool (by rw [HF.out]; simp), hbW⟩
                | true =>
                  rw [g1, g2, g3, g4] at HF
                  obtain ⟨st, pk, en⟩ := t
                  dsimp only at *
                  obtain ⟨p0, p1, p2, _⟩ := X1.cells
                  go_enter Tryz.func141, Tryz.ntmps141
                  go_wp2_with fail
                  rw [← hW]
                  clear hW
                  refine (scoord_any st _).mono ?_
                  rintro e u1 ⟨rfl, rfl⟩
                  rw [c1]
                  go_wp2_with fail
                  refine (scoord_any pk _).mono ?_
                  rintro e u1 ⟨rfl, rfl⟩
                  rw [c2]
                  go_wp2_with fail
                  refine (scoord_any en _).mono ?_
                  rintro e u1 ⟨rfl, rfl⟩
                  rw [c3]
                  clear c1 c2 c3
                  go_wp2
                  go_ret
                  exact ⟨rt_bool (by rw [HF.out]; simp), hbW⟩
              | true =>
                rw [g1, g2, g3] at HF
                obtain ⟨st, pk, en⟩ := t
                dsimp only at *
                obtain ⟨p0, p1, p2, _⟩ := X1.cells
                go_enter Tryz.func141, Tryz.ntmps141
                go_wp2_with fail
                rw [← hW]
                clear hW
                refine (scoord_any st _).mono ?_
                rintro e u1 ⟨rfl, rfl⟩
                rw [c1]
                go_wp2_with fail
                refine (scoord_any pk _).mono ?_
                rintro e u1 ⟨rfl, rfl⟩
                rw [c2]
                go_wp2_with fail
                refine (scoord_any en _).mono ?_
                rintro e u1 ⟨rfl, rfl⟩
                rw [c3]
                clear c1 c2 c3
                go_wp2
                go_ret
                exact ⟨rt_bool (by rw [HF.out]; simp), hbW⟩
        · by_cases hd : t.pk < 0
          · have HF : Hid (tfB t = _) := tfS_down c1 c2 c3 hd
            cases g1 : (decide (t.en ≤ 0) : Bool) with
            | false =>
              rw [g1] at HF
              obtain ⟨st, pk, en⟩ := t
              dsimp only at *
              obtain ⟨p0, p1, p2, _⟩ := X1.cells
              go_enter Tryz.func141, Tryz.ntmps141
              go_wp2_with fail
              rw [← hW]
              clear hW
              refine (scoord_any st _).mono ?_
              rintro e u1 ⟨rfl, rfl⟩
              rw [c1]
              go_wp2_with fail
              refine (scoord_any pk _).mono ?_
              rintro e u1 ⟨rfl, rfl⟩
              rw [c2]
              go_wp2_with fail
              refine (scoord_any en _).mono ?_
              rintro e u1 ⟨rfl, rfl⟩
              rw [c3]
              clear c1 c2 c3
              go_wp2
              go_ret
              exact ⟨rt_bool (by rw [HF.out]; simp), hbW⟩
            | true =>
              cases g2 : (decide (t.pk < t.en) : Bool) with
              | false =>
                rw [g1, g2] at HF
                obtain ⟨st, pk, en⟩ := t
                dsimp only at *
                obtain ⟨p0, p1, p2, _⟩ := X1.cells
                go_enter Tryz.func141, Tryz.ntmps141
                go_wp2_with fail
                rw [← hW]
                clear hW
                refine (scoord_any st _).mono ?_
                rintro e u1 ⟨rfl, rfl⟩
                rw [c1]
                go_wp2_with fail
                refine (scoord_any pk _).mono ?_
                rintro e u1 ⟨rfl, rfl⟩
                rw [c2]
                go_wp2_with fail
                refine (scoord_any en _).mono ?_
                rintro e u1 ⟨rfl, rfl⟩
                rw [c3]
                clear c1 c2 c3
                go_wp2
                go_ret
                exact ⟨rt_bool (by rw [HF.out]; simp), hbW⟩
              | true =>
                cases g3 : (decide (t.st < t.pk) : Bool) with
                | false =>
                  cases g4 : (t.pk == -16384 : Bool) with
                  | false =>
                    rw [g1, g2, g3, g4] at HF
                    obtain ⟨st, pk, en⟩ := t
                    dsimp only at *
                    obtain ⟨p0, p1, p2, _⟩ := X1.cells
                    go_enter Tryz.func141, Tryz.ntmps141
                    go_wp2_with fail
                    rw [← hW]
                    clear hW
                    refine (scoord_any st _).mono ?_
                    rintro e u1 ⟨rfl, rfl⟩
                    rw [c1]
                    go_wp2_with fail
                    refine (scoord_any pk _).mono ?_
                    rintro e u1 ⟨rfl, rfl⟩
                    rw [c2]
                    go_wp2_with fail
                    refine (scoord_any en _).mono ?_
                    rintro e u1 ⟨rfl, rfl⟩
                    rw [c3]
                    clear c1 c2 c3
                    go_wp2
                    go_ret
                    exact ⟨rt_bool (by rw [HF.out]; simp), hbW⟩
                  | true =>
                    rw [g1, g2, g3, g4] at HF
                    obtain ⟨st, pk, en⟩ := t
                    dsimp only at *
                    obtain ⟨p0, p1, p2, _⟩ := X1.cells
                    go_enter Tryz.func141, Tryz.ntmps141
                    go_wp2_with fail
                    rw [← hW]
                    clear hW
                    refine (scoord_any st _).mono ?_
                    rintro e u1 ⟨rfl, rfl⟩
                    rw [c1]
                    go_wp2_with fail
                    refine (scoord_any pk _).mono ?_
                    rintro e u1 ⟨rfl, rfl⟩
                    rw [c2]
                    go_wp2_with fail
                    refine (scoord_any en _).mono ?_
                    rintro e u1 ⟨rfl, rfl⟩
                    rw [c3]
                    clear c1 c2 c3
                    go_wp2
                    go_ret
                    exact ⟨rt_bool (by rw [HF.out]; simp), hbW⟩
                | true =>
                  rw [g1, g2, g3] at HF
                  obtain ⟨st, pk, en⟩ := t
                  dsimp only at *
                  obtain ⟨p0, p1, p2, _⟩ := X1.cells
                  go_enter Tryz.func141, Tryz.ntmps141
                  go_wp2_with fail
                  rw [← hW]
                  clear hW
                  refine (scoord_any st _).mono ?_
                  rintro e u1 ⟨rfl, rfl⟩
                  rw [c1]
                  go_wp2_with fail
                  refine (scoord_any pk _).mono ?_
                  rintro e u1 ⟨rfl, rfl⟩
                  rw [c2]
                  go_wp2_with fail
                  refine (scoord_any en _).mono ?_
                  rintro e u1 ⟨rfl, rfl⟩
                  rw [c3]
                  clear c1 c2 c3
                  go_wp2
                  go_ret
                  exact ⟨rt_bool (by rw [HF.out]; simp), hbW⟩
          · have HF : Hid (tfB t = _) := tfS_mid c1 c2 c3 (by omega)
            cases g1 : (t.st == 0 : Bool) with
            | false =>
              rw [g1] at HF
              obtain ⟨st, pk, en⟩ := t
              dsimp only at *
              obtain ⟨p0, p1, p2, _⟩ := X1.cells
              go_enter Tryz.func141, Tryz.ntmps141
              go_wp2_with fail
              rw [← hW]
              clear hW
              refine (scoord_any st _).mono ?_
              rintro e u1 ⟨rfl, rfl⟩
              rw [c1]
              go_wp2_with fail
              refine (scoord_any pk _).mono ?_
              rintro e u1 ⟨rfl, rfl⟩
              rw [c2]
              go_wp2_with fail
              refine (scoord_any en _).mono ?_
              rintro e u1 ⟨rfl, rfl⟩
              rw [c3]
              clear c1 c2 c3
              go_wp2
              go_ret
              exact ⟨rt_bool (by rw [HF.out]; simp), hbW⟩
            | true =>
              rw [g1] at HF
              obtain ⟨st, pk, en⟩ := t
              dsimp only at *
              obtain ⟨p0, p1, p2, _⟩ := X1.cells
              go_enter Tryz.func141, Tryz.ntmps141
              go_wp2_with fail
              rw [← hW]
              clear hW
              refine (scoord_any st _).mono ?_
              rintro e u1 ⟨rfl, rfl⟩
              rw [c1]
              go_wp2_with fail
              refine (scoord_any pk _).mono ?_
              rintro e u1 ⟨rfl, rfl⟩
              rw [c2]
              go_wp2_with fail
              refine (scoord_any en _).mono ?_
              rintro e u1 ⟨rfl, rfl⟩
              rw [c3]
              clear c1 c2 c3
              go_wp2
              go_ret
              exact ⟨rt_bool (by rw [HF.out]; simp), hbW⟩

end Go.Proofs.YtkbbdkecillnpaaGreat

namespace Go.Proofs.YtkbbdkecillnpaaGreat
open Go.RowKit
set_option linter.unusedSimpArgs false
set_option linter.unusedVariables false

set_option maxHeartbeats 800000 in
set_option maxRecDepth 100000 in
theorem rtrim_any (a : Option Addr) (cap : Nat) (xs : List Nat) (w : World) (h : Rd w a cap xs) (hl : xs.length ≤ 1000000000) :
    Calls Tryz.prog 138 #[.slice a xs.length cap] w fun e w' => ∃ a' cap', e = .returned (.slice a' (strip xs).length cap') ∧ Res 157 w.heap.size w' a' cap' (strip xs) ∧ Below w.heap.size w w' := by
  obtain ⟨i0, hi, hz0, hz1, hz2⟩ := info_parts info_limb
  have hsl := strip_length_le xs
  have hc2 : xs.length ≤ cap := h.le
  have hc3 : cap ≤ maxLen := h.cap
  unfold maxLen at hc3
  have hst := h.strip
  have lst := h.lim.strip
  have fm := h.fm
  clear h
  go_enter Tryz.func138, Tryz.ntmps138
  go_wp2
  go_loop [3] (fun n => ∃ k : Nat, k ≤ xs.length ∧ n = .int .i64 k ∧ strip (xs.take k) = strip xs) (fun n => (intOf n).toNat)
  case atStart => exact ⟨xs.length, Nat.le_refl _, rfl, by rw [List.take_length]⟩
  case round =>
    obtain ⟨k, hk, rfl, hs0⟩ := hrel
    have HS : Hid (strip (xs.take k) = strip xs) := hs0
    clear hs0
    by_cases hk0 : k = 0
    · subst hk0
      have e0 : strip xs = [] := by rw [← HS.out]; rfl
      rw [e0] at hst lst
      have E0 : Hid (strip xs = []) := e0
      clear e0 HS
      go_wp2_with (at_builtin; refine wpList_append_rd rfl _ _ 122 rfl w.heap.size 157 i0 Tryz.underlying122 hi hz0 hz1 hz2 _ 0 [] rfl (World.ownsRow_nil _ _ _ _) a cap 0 [] ?_ rfl hst (by simp) (Nat.le_refl _) ?_)
      intro v' w1 hown hgrow
      obtain ⟨a', cap', rfl, hres⟩ := Res.of (xs := []) Lim.nil hown
      go_wp2
      go_ret
      exact ⟨a', cap', by rw [E0.out]; rfl, by rw [E0.out]; exact hres, (Below.refl _ _).grown hgrow (Nat.le_refl _) (fun k hk => by simp [Value.ownBlock] at hk)⟩
    · obtain ⟨j, rfl⟩ : ∃ j, k = j + 1 := ⟨k - 1, by omega⟩
      obtain ⟨b, off, rfl, _, hcj⟩ := fm.at (Below.refl _ _) j (by omega)
      obtain ⟨x, hx⟩ : ∃ x, xs.getD j 0 = x := ⟨_, rfl⟩
      rw [hx] at hcj
      have HX : Hid (xs.getD j 0 = x) := hx
      clear hx
      by_cases hx0 : x = 0
      · subst hx0
        go_wp2
        go_round
        case rel => exact ⟨j, by omega, rfl, by rw [← HS.out, strip_take_zero xs j (by omega) HX.out]⟩
        case measure => simp [intOf]
      · have hx1 : ((x : Int) == 0) = false := by simp; omega
        have e : strip xs = xs.take (j + 1) := by rw [← HS.out]; exact strip_take_some xs j (by omega) (by rw [HX.out]; exact hx0)
        have el : j + 1 = (strip xs).length := by rw [e]; simp; omega
        have EL : Hid (j + 1 = (strip xs).length) := el
        clear e el
        go_wp2_with (at_builtin; refine wpList_append_rd rfl _ _ 122 rfl w.heap.size 157 i0 Tryz.underlying122 hi hz0 hz1 hz2 _ 0 [] rfl (World.ownsRow_nil _ _ _ _) (some ⟨b, off, none⟩) cap (j + 1) (strip xs) rfl EL.out hst (by omega) (Nat.le_refl _) ?_)
        intro v' w1 hown hgrow
        obtain ⟨a', cap', rfl, hres⟩ := Res.of lst hown
        go_wp2
        go_ret
        exact ⟨a', cap', rfl, hres, (Below.refl _ _).grown hgrow (Nat.le_refl _) (fun k hk => by simp [Value.ownBlock] at hk)⟩

end Go.Proofs.YtkbbdkecillnpaaGreat

namespace Go.Proofs.YtkbbdkecillnpaaGreat
open Go.RowKit
set_option linter.unusedSimpArgs false
set_option linter.unusedVariables false

theorem and_one_u32 (n : Nat) (h : n < 4294967296) : bits BinOp.and IntKind.u32 (n : Int) 1 = ((n % 2 : Nat) : Int) := by
  have := u32_and_nat n 1 h (by decide)
  rw [Nat.and_one_is_mod] at this
  exact this

/-- A bit of a number is a bit of one of its limbs. -/
theorem V_bit (xs : List Nat) (lm : Lim xs) (i : Nat) : V xs / 2 ^ i % 2 = xs.getD (i / 32) 0 / 2 ^ (i % 32) % 2 := by
  have e := V_take_drop xs (i / 32)
  have hd := V_head_tail (xs.drop (i / 32))
  have hg : (xs.drop (i / 32)).getD 0 0 = xs.getD (i / 32) 0 := by simp [List.getD]
  rw [hg] at hd
  have hl : V (xs.take (i / 32)) < 4294967296 ^ (i / 32) := by
    have := V_take_Sv xs (i / 32)
    rw [this]
    exact Sv_lt (fun j _ => lm.getD j)
  have hp : 2 ^ i = 4294967296 ^ (i / 32) * 2 ^ (i % 32) := by
    rw [show (4294967296 : Nat) = 2 ^ 32 from rfl, ← Nat.pow_mul, ← Nat.pow_add, Nat.div_add_mod]
  rw [hp, ← Nat.div_div_eq_div_mul, e, Nat.add_mul_div_left _ _ (Nat.pow_pos (by decide)), Nat.div_eq_of_lt hl, Nat.zero_add, hd]
  generalize V (xs.drop (i / 32)).tail = T
  generalize xs.getD (i / 32) 0 = x
  have h32 : (4294967296 : Nat) = 2 ^ (i % 32) * (2 * 2 ^ (31 - i % 32)) := by
    have : (4294967296 : Nat) = 2 ^ 32 := rfl
    rw [this, ← Nat.pow_succ', ← Nat.pow_add]
    congr 1
    omega
  rw [h32, Nat.mul_assoc, Nat.add_mul_div_left _ _ (Nat.pow_pos (by decide)), Nat.mul_assoc, Nat.add_mul_mod_self_left]

set_option maxHeartbeats 400000 in
set_option maxRecDepth 100000 in
theorem rbits_any (a : Option Addr) (n cap : Nat) (w : World) (hn : n ≤ 100000000000000000) :
    Calls Tryz.prog 120 #[.slice a n cap] w fun e w' => e = .returned (.int .i64 (32 * (n : Int))) ∧ w = w' := by
  go_enter Tryz.func120, Tryz.ntmps120
  go_wp2
  go_ret
  exact ⟨rfl, rfl⟩

set_option maxHeartbeats 400000 in
set_option maxRecDepth 100000 in
theorem rbit_any (a : Option Addr) (cap : Nat) (xs : List Nat) (i : Nat) (w : World) (h : Rd w a cap xs) (hi : i ≤ 100000000000000000) :
    Calls Tryz.prog 122 #[.slice a xs.length cap, .int .i64 (i : Int)] w fun e w' => e = .returned (.int .u32 ((V xs / 2 ^ i % 2 : Nat) : Int)) ∧ w = w' := by
  have k1 := h.le
  have k2 := h.cap
  unfold maxLen at k2
  have fm := h.fm
  have lm := h.lim
  clear h
  by_cases hlt : i / 32 < xs.length
  · obtain ⟨b, off, rfl, _, hc⟩ := fm.at (Below.refl _ _) (i / 32) hlt
    obtain ⟨x, hx⟩ : ∃ x, xs.getD (i / 32) 0 = x := ⟨_, rfl⟩
    rw [hx] at hc
    have bx : x < 4294967296 := by rw [← hx]; exact lm.getD _
    go_enter Tryz.func122, Tryz.ntmps122
    go_wp2
    go_ret
    refine ⟨ret_u32 ?_, rfl⟩
    have hq : x / 2 ^ (i % 32) ≤ x := Nat.div_le_self _ _
    have hcast : (x : Int) / 2 ^ (i % 32) = ((x / 2 ^ (i % 32) : Nat) : Int) := by simp
    rw [V_bit xs lm i, hx, hcast, and_one_u32 _ (by omega)]
  · go_enter Tryz.func122, Tryz.ntmps122
    go_wp2
    go_ret
    refine ⟨ret_u32 ?_, rfl⟩
    rw [V_bit xs lm i, getD_past _ _ (by omega)]
    simp

theorem pow_32 (m : Nat) : 4294967296 ^ m = 2 ^ (32 * m) := by rw [Nat.pow_mul]

end Go.Proofs.YtkbbdkecillnpaaGreat
