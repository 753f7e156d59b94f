/-
  foundryref11.Points: the walk.
-/
import Derived.Test.YtngmcghmniakeaaGreatZY25
import Derived.Test.YtngmcghmniakeaaGreatZY37
set_option maxHeartbeats 16000000
set_option maxRecDepth 100000
set_option linter.unusedSimpArgs false
set_option linter.unusedVariables false
namespace Go.Proofs.YtngmcghmniakeaaGreat
open Go.RowKit Go.Maps
theorem enP_len (kd : Nat) (x : Int) : (enP kd x).length ≤ 2 := by unfold enP be1 be2; split <;> simp
theorem sPointsB_any (a : Option Addr) (cap : Nat) (l : List Int) (w : World) (h : Ri w a cap l) :
    Calls Tryz.prog 46 #[.slice a l.length cap] w fun e w' => ∃ v, e = .returned (.tuple #[v, .int .i64 (ppE l)]) ∧ Bo w.heap.size w' v (ppB l) ∧ Below w.heap.size w w' := by
 have k2 := h.lenB
 have hfo := spoints_any a cap l w h
 have HH : Hid (Ri w a cap l) := h
 clear h
 cases hc : ptB l with
 | false =>
  have HE : Hid (ppE l = 1 ∧ ppB l = []) := ⟨by simp [ppE, hc], by simp [ppB, hc]⟩
  rw [hc] at hfo; clear hc
  go_enter Tryz.func46, Tryz.ntmps46
  go_wp2_with fail
  refine hfo.mono ?_
  rintro e u1 ⟨rfl, hb1⟩; clear hfo; go_wp2
  go_ret2
  exact ⟨.slice none 0 0, by rw [HE.out.1]; rfl, by rw [HE.out.2]; exact Bo.nil _ _, hb1⟩
 | true =>
  have HE : Hid (ppE l = 0 ∧ ppB l = cnE l.length ++ pk PP (stps 0 l)) := ⟨by simp [ppE, hc], by simp [ppB, hc]⟩
  have hl2 := (ptB_steps hc).2
  have HPT : Hid (∀ j, j < l.length → 0 ≤ l.getD j 0 ∧ l.getD j 0 ≤ 65535 ∧ (0 < j → l.getD (j - 1) 0 < l.getD j 0)) := fun j hj => ptB_at hc hj
  have HD : Hid (∀ j, j < (stps 0 l).length → 0 ≤ (stps 0 l).getD j 0 ∧ (stps 0 l).getD j 0 ≤ 65535) := fun j hj => (ptB_steps hc).1 _ (by rw [List.getD_eq_getElem?_getD, List.getElem?_eq_getElem hj]; exact List.getElem_mem hj)
  have HTL : Hid ((cnE l.length ++ pk PP (stps 0 l)).length ≤ 7000) := by
   show _ ≤ _
   have := pk_short fitP (m := 3) (fun x _ => by show szP (kdP x) + 1 ≤ 3; unfold szP; split <;> omega) _ (stps 0 l) rfl (ptB_steps hc).1
   have h2 : (cnE l.length).length ≤ 2 := by unfold cnE; split <;> simp
   rw [stps_len] at this; rw [List.length_append]
   omega
  rw [hc] at hfo; clear hc
  go_enter Tryz.func46, Tryz.ntmps46
  go_wp2_with fail
  refine hfo.mono ?_
  rintro e u1 ⟨rfl, hb1⟩; clear hfo
  have HB1 : Hid (Below w.heap.size w u1) := hb1
  clear hb1
  go_upto_if 16 with fail
  go_cut [4] from 14 to 37 (fun v wx => Bo u1.heap.size wx v (cnE l.length) ∧ Below u1.heap.size u1 wx)
  case first =>
   by_cases h128 : 128 ≤ l.length
   · have g1 : (128 : Int) ≤ (l.length : Int) := by omega
     obtain ⟨z1, hz1⟩ : ∃ z : Nat, z = 128 + l.length / 256 := ⟨_, rfl⟩
     obtain ⟨z2, hz2⟩ : ∃ z : Nat, z = l.length % 256 := ⟨_, rfl⟩
     have HC : Hid (cnE l.length = [z1, z2]) := by show _ = _; rw [cnE, if_neg (by omega), hz1, hz2]
     have e1 : 128 + (l.length : Int) / 256 = (z1 : Int) := by omega
     have e2 : (l.length : Int).tmod 256 = (z2 : Int) := by rw [tmod_nn (by omega)]; omega
     have b1 : z1 < 256 := by omega
     have b2 : z2 < 256 := by omega
     have hl1 : [z1].length + 1 ≤ 1000000 := by simp
     have hT : Bo u1.heap.size u1 (.slice none 0 0) [] := Bo.nil _ _
     have hBu : Below u1.heap.size u1 u1 := Below.refl _ _
     clear h128 hz1 hz2
     have hT5 := hT.below (bl1 (.cells #[.int .u8 (z1 : Int)] 5))
     have hN := heap_alloc_new u1 (.cells #[.int .u8 (z1 : Int)] 5)
     have n0 := cell_of_row _ u1.heap.size 0 _ _ (0, 0) hN
     have hbs : u1.heap.size ≤ (u1.alloc (.cells #[.int .u8 (z1 : Int)] 5)).heap.size := Nat.le_trans hBu.size (bl1 _).size
     clear hN
     go_wp2_with (at_builtin; refine wpList_append_b1 rfl _ _ rfl u1.heap.size _ [] rfl hT5 u1.heap.size z1 rfl n0 b1 (by decide) hbs ?_)
     intro v' w9 hT9 hgrow
     have hB9 : Below u1.heap.size u1 w9 := (hBu.alloc hBu.size _).grown hgrow hbs (fun k hk => (hT.lo hk).1)
     clear hgrow hT5 n0 hbs hT hBu; obtain ⟨a3, c3, rfl, _⟩ := hT9.slice
     have hBu := hB9
     have hT95 := hT9.below (bl1 (.cells #[.int .u8 (z2 : Int)] 5))
     have hN := heap_alloc_new w9 (.cells #[.int .u8 (z2 : Int)] 5)
     have n0 := cell_of_row _ w9.heap.size 0 _ _ (0, 0) hN
     have hbs : u1.heap.size ≤ (w9.alloc (.cells #[.int .u8 (z2 : Int)] 5)).heap.size := Nat.le_trans hBu.size (bl1 _).size
     clear hN
     go_wp2_with (at_builtin; refine wpList_append_b1 rfl _ _ rfl u1.heap.size _ [z1] rfl hT95 w9.heap.size z2 rfl n0 b2 hl1 hbs ?_)
     intro v' w10 hT10 hgrow
     have hB10 : Below u1.heap.size u1 w10 := (hB9.alloc hB9.size _).grown hgrow hbs (fun k hk => (hT9.lo hk).1)
     clear hgrow hT95 n0 hbs; go_wp2
     go_meet
     exact ⟨by rw [HC.out]; exact hT10, hB10⟩
   · have g1 : ¬ (128 : Int) ≤ (l.length : Int) := by omega
     obtain ⟨z1, hz1⟩ : ∃ z : Nat, z = l.length := ⟨_, rfl⟩
     have HC : Hid (cnE l.length = [z1]) := by show _ = _; rw [cnE, if_pos (by omega), hz1]
     have b1 : z1 < 256 := by omega
     have e1 : (l.length : Int) = (z1 : Int) := by omega
     have hT : Bo u1.heap.size u1 (.slice none 0 0) [] := Bo.nil _ _
     have hBu : Below u1.heap.size u1 u1 := Below.refl _ _
     subst hz1
     have hT5 := hT.below (bl1 (.cells #[.int .u8 (l.length : Int)] 5))
     have hN := heap_alloc_new u1 (.cells #[.int .u8 (l.length : Int)] 5)
     have n0 := cell_of_row _ u1.heap.size 0 _ _ (0, 0) hN
     have hbs : u1.heap.size ≤ (u1.alloc (.cells #[.int .u8 (l.length : Int)] 5)).heap.size := Nat.le_trans hBu.size (bl1 _).size
     clear hN
     go_wp2_with (at_builtin; refine wpList_append_b1 rfl _ _ rfl u1.heap.size _ [] rfl hT5 u1.heap.size l.length rfl n0 b1 (by decide) hbs ?_)
     intro v' w9 hT9 hgrow
     have hB9 : Below u1.heap.size u1 w9 := (hBu.alloc hBu.size _).grown hgrow hbs (fun k hk => (hT.lo hk).1)
     clear hgrow hT5 n0 hbs hT hBu; go_wp2
     go_meet
     exact ⟨by rw [HC.out]; exact hT9, hB9⟩
  case rest =>
  obtain ⟨hBo, hBu⟩ := hcut; go_wp2
  go_loopw [5, 6] (fun v ii wr => ∃ k : Nat, k ≤ l.length ∧ ii = .int .i64 (k : Int) ∧ Io u1.heap.size wr v (stpK l k) ∧ Bo u1.heap.size wr u4 (cnE l.length) ∧ Below u1.heap.size u1 wr) (fun _ ii _ => l.length - (intOf ii).toNat)
  case atStart => exact ⟨0, Nat.zero_le _, rfl, Io.nil _ _, hBo, hBu⟩
  case round =>
   clear hBo hBu; obtain ⟨k, hk, rfl, hIo, hBo, hBu⟩ := hrel
   by_cases hkn : k < l.length
   · have hbW := HB1.out.trans (hBu.mono HB1.out.size)
     obtain ⟨b, off, ea, hb, d0⟩ := HH.out.at hbW k hkn
     subst ea; obtain ⟨av, cv, rfl, _⟩ := hIo.slice
     have hll : (stpK l k).length + 1 ≤ 1000000 := by rw [stpK_len]; omega
     have hpk := HPT.out k hkn
     by_cases hk0 : k = 0
     · have HS : Hid (stpK l (k + 1) = stpK l k ++ [l.getD k 0]) := by show _ = _; rw [stpK_succ, if_pos hk0, hk0]
       have HLK : Hid ((stpK l k).length = k) := stpK_len l k
       have g1 : ¬ (0 : Int) < (k : Int) := by omega
       obtain ⟨x, hx⟩ : ∃ x, l.getD k 0 = x := ⟨_, rfl⟩
       rw [hx] at HS d0 hpk
       have hxi : I64 x := ⟨by omega, by omega⟩
       clear hx hk0 hpk
       have hIo5 := hIo.below (bl1 (.cells #[.int .i64 x] 3))
       have hBo5 := hBo.below (bl1 (.cells #[.int .i64 x] 3))
       have hN := heap_alloc_new wr (.cells #[.int .i64 x] 3)
       have n0 := cell_of_row _ wr.heap.size 0 _ _ (0, 0) hN
       have hbs : u1.heap.size ≤ (wr.alloc (.cells #[.int .i64 x] 3)).heap.size := Nat.le_trans hBu.size (bl1 _).size
       clear hN
       go_wp2_with (at_builtin; refine wpList_append_int rfl _ _ rfl u1.heap.size _ (stpK l k) rfl hIo5 wr.heap.size x rfl n0 hxi hll hbs ?_)
       intro v' w9 hI9 hgrow
       have hB9 : Below u1.heap.size u1 w9 := (hBu.alloc hBu.size _).grown hgrow hbs (fun k hk => hIo.lo hk)
       have hBo9 := hBo5.grownI hIo5 hgrow
       rw [← HS.out] at hI9; clear hgrow hIo5 hBo5 n0 hbs hll hIo hBo; go_wp2
       go_roundw
       case rel => exact ⟨k + 1, by omega, by go_num, hI9, hBo9, hB9⟩
       case measure => simp [intOf]; omega
     · obtain ⟨m, rfl⟩ : ∃ m, k = m + 1 := ⟨k - 1, by omega⟩
       have HS : Hid (stpK l (m + 1 + 1) = stpK l (m + 1) ++ [l.getD (m + 1) 0 - l.getD m 0]) := by show _ = _; rw [stpK_succ l (m + 1), if_neg hk0, Nat.add_sub_cancel]
       have HLK : Hid ((stpK l (m + 1)).length = m + 1) := stpK_len l (m + 1)
       have hpm := HPT.out m (by omega)
       rw [Nat.add_sub_cancel] at hpk
       obtain ⟨b', off', ea, _, d1⟩ := HH.out.at hbW m (by omega)
       cases ea
       obtain ⟨k, hkm⟩ : ∃ k, m + 1 = k := ⟨_, rfl⟩
       rw [hkm] at HS HLK hpk d0 hIo hll hkn hk ⊢
       obtain ⟨x, hx⟩ : ∃ x, l.getD k 0 = x := ⟨_, rfl⟩
       obtain ⟨y, hy⟩ : ∃ x, l.getD m 0 = x := ⟨_, rfl⟩
       rw [hx] at HS d0 hpk; rw [hy] at HS d1 hpk hpm
       obtain ⟨z, hz⟩ : ∃ z, x - y = z := ⟨_, rfl⟩
       rw [hz] at HS
       have hzi : I64 z := ⟨by omega, by omega⟩
       have hwz : IntKind.i64.wrap z = z := wrapi64' hzi.1 (by have := hzi.2; omega)
       have A0 : Cl wr b (off + k) (.int .i64 x) := ⟨World.block_lt_of_cell? wr _ d0, d0⟩
       have A1 : Cl wr b (off + m) (.int .i64 y) := ⟨World.block_lt_of_cell? wr _ d1, d1⟩
       have hmk : (k : Int) - 1 = (m : Int) := by omega
       have hwm : IntKind.i64.wrap (m : Int) = (m : Int) := wrapi64' (by omega) (by omega)
       have i3 : (0 : Int) ≤ (m : Int) := by omega
       have i4 : (m : Int) < (l.length : Int) := by omega
       have i5 : (k : Int) < (l.length : Int) := by omega
       have i6 : (0 : Int) ≤ (k : Int) := by omega
       have g1 : (0 : Int) < (k : Int) := by omega
       have hbR := hBu
       clear hx hy hpk hpm hk0 hBu
       go_upto_region 14 with fail
       refine wp_region_held_drew (S := (fun u => u.cell? ⟨b, off + k, none⟩ = some (.int .i64 x) ∧ u.cell? ⟨b, off + m, none⟩ = some (.int .i64 y))) (by kernel_rfl) ?_ (fun hHeld => ?_)
       · (try dsimp only)
         go_keep
       have hdr : Below wr.heap.size wr wr.drew := Below.drew1
       generalize wr.drew = ud1 at hdr hHeld ⊢
       replace A0 := A0.below hdr; replace A1 := A1.below hdr; replace hIo := hIo.below hdr; replace hBo := hBo.below hdr
       replace hbW : Below w.heap.size w ud1 := hbW.trans (hdr.mono hbW.size)
       replace hbR : Below u1.heap.size u1 ud1 := hbR.trans (hdr.mono hbR.size)
       clear hdr; refine hT 0 hHeld ?_; refine hT 1 hHeld ?_; refine hT 2 hHeld ?_; refine hT 3 hHeld ?_; refine hT 4 hHeld ?_; refine hT 5 hHeld ?_; refine hT 6 hHeld ?_; refine hT 7 hHeld ?_; refine hT 8 hHeld ?_; refine hT 9 hHeld ?_; refine hT 10 hHeld ?_
       refine wpAnyH_done (by kernel_rfl) ?_ _
       clear hHeld d0 d1
       have hBu := hbR
       have hIo5 := hIo.below (bl1 (.cells #[.int .i64 z] 3))
       have hBo5 := hBo.below (bl1 (.cells #[.int .i64 z] 3))
       have hN := heap_alloc_new ud1 (.cells #[.int .i64 z] 3)
       have n0 := cell_of_row _ ud1.heap.size 0 _ _ (0, 0) hN
       have hbs : u1.heap.size ≤ (ud1.alloc (.cells #[.int .i64 z] 3)).heap.size := Nat.le_trans hBu.size (bl1 _).size
       clear hN
       go_wp2_with (at_builtin; refine wpList_append_int rfl _ _ rfl u1.heap.size _ (stpK l k) rfl hIo5 ud1.heap.size z rfl n0 hzi hll hbs ?_)
       intro v' w9 hI9 hgrow
       have hB9 : Below u1.heap.size u1 w9 := (hBu.alloc hBu.size _).grown hgrow hbs (fun k hk => hIo.lo hk)
       have hBo9 := hBo5.grownI hIo5 hgrow
       rw [← HS.out] at hI9; clear hgrow hIo5 hBo5 n0 hbs hll hIo hBo A0 A1 hbR hBu; go_wp2
       go_roundw
       case rel => exact ⟨k + 1, by omega, by go_num, hI9, hBo9, hB9⟩
       case measure => simp [intOf]; omega
   · obtain rfl : k = l.length := by omega
     rw [stpK_eq] at hIo
     obtain ⟨ds, hds⟩ : ∃ ds, stps 0 l = ds := ⟨_, rfl⟩
     have hdl : ds.length = l.length := by rw [← hds, stps_len]
     rw [hds] at hIo HTL HE HD
     obtain ⟨TOT, hTOT⟩ : ∃ t, cnE l.length ++ pk PP ds = t := ⟨_, rfl⟩
     have HTO : Hid (cnE l.length ++ pk PP (ds.drop 0) = TOT) := by show _ = _; rw [List.drop_zero]; exact hTOT
     rw [hTOT] at HTL HE; obtain ⟨ad, cd, rfl, _⟩ := hIo.slice
     have hdl2 : ds.length ≤ 2000 := by omega
     have g1 : ¬ (l.length : Int) < (l.length : Int) := by omega
     clear hds hTOT HPT hdl; go_wp2
     go_loopw [4, 8] (fun v ii wr => ∃ (i : Nat) (ys : List Nat), i ≤ ds.length ∧ ii = .int .i64 (i : Int) ∧ ys ++ pk PP (ds.drop i) = TOT ∧ Bo u1.heap.size wr v ys ∧ Io u1.heap.size wr (.slice ad ds.length cd) ds ∧ Below u1.heap.size u1 wr) (fun _ ii _ => ds.length - (intOf ii).toNat)
     case atStart => exact ⟨0, _, Nat.zero_le _, rfl, HTO.out, hBo, hIo, hBu⟩
     case round =>
      clear hBo hIo hBu HTO; obtain ⟨i, ys, hi, rfl, htot, hBo, hIo, hBu⟩ := hrel
      have HT : Hid (ys ++ pk PP (ds.drop i) = TOT) := htot
      have hyl : ys.length + (pk PP (ds.drop i)).length ≤ 7000 := by have := HTL.out; rw [← htot, List.length_append] at this; exact this
      clear htot
      by_cases hin : i < ds.length
      rotate_left
      · obtain rfl : i = ds.length := by omega
        have HY : Hid (ys = TOT) := by show _ = _; rw [← HT.out, List.drop_length]; simp [pk_nil]
        obtain ⟨a2, c2, rfl, hrb⟩ := hBo.slice
        have hbW := HB1.out.trans (hBu.mono HB1.out.size)
        have g2 : ¬ (ds.length : Int) < (ds.length : Int) := by omega
        go_wp2
        go_ret2
        exact ⟨.slice a2 ys.length c2, by rw [HE.out.1]; rfl, by rw [HE.out.2, ← HY.out]; exact bo_mono hBo HB1.out.size, hbW⟩
      have g2 : (i : Int) < (ds.length : Int) := by omega
      obtain ⟨wo, rfl⟩ : ∃ wo, wo = wr := ⟨_, rfl⟩
      have HBo : Hid (Below w.heap.size w wo) := HB1.out.trans (hBu.mono HB1.out.size)
      obtain ⟨av, cv, rfl, _⟩ := hBo.slice; obtain ⟨_, _, e9, hri⟩ := hIo.slice
      cases e9
      have HBo0 : Hid (Bo u1.heap.size wo (.slice av ys.length cv) ys) := hBo
      have HIo : Hid (Io u1.heap.size wo (.slice ad ds.length cd) ds) := hIo
      have HRI : Hid (Ri wo ad cd ds) := hri
      have HBu : Hid (Below u1.heap.size u1 wo) := hBu
      clear hBo hBu hIo hri
      go_upto_block 4 with fail
      go_cut [9] from 64 to 128 (fun s9 wx => ∃ e : Nat, s9 = .int .i64 (e : Int) ∧ rn PP.c PP.M (ds.drop i) = e - i ∧ i < e ∧ e ≤ ds.length ∧ Below wo.heap.size wo wx)
      case first =>
       go_wp2_with fail
       go_loopw [9] (fun s9 wr => ∃ e : Nat, i ≤ e ∧ e ≤ i + 128 ∧ e ≤ ds.length ∧ s9 = .int .i64 (e : Int) ∧ (∀ j, i ≤ j → j < e → kdP (ds.getD j 0) = kdP (ds.getD i 0)) ∧ Below wo.heap.size wo wr) (fun s9 _ => ds.length - (intOf s9).toNat)
       case atStart => exact ⟨i, Nat.le_refl _, by omega, hi, rfl, (fun j h1 h2 => by omega), Below.refl _ _⟩
       case round =>
        obtain ⟨e, he1, he2, hle, rfl, hsm, hbR⟩ := hrel
        have HSM : Hid (∀ j, i ≤ j → j < e → kdP (ds.getD j 0) = kdP (ds.getD i 0)) := hsm
        have hbW := HBo.out.trans (hbR.mono HBo.out.size)
        clear hsm
        have j1 : (i : Int) < (ds.length : Int) := by omega
        by_cases h1 : e < ds.length
        · by_cases h2 : e < i + 128
          · obtain ⟨b, off, ea, hb, d0⟩ := HRI.out.at hbR e h1
            obtain ⟨b', off', ea', _, d1⟩ := HRI.out.at hbR i hin
            rw [ea] at ea'
            cases ea'
            subst ea
            have HD : Hid (kdP (ds.getD e 0) ≠ kdP (ds.getD i 0) → rn PP.c PP.M (ds.drop i) = e - i ∧ i < e) := fun h => by
             have hie : i < e := by
              rcases Nat.lt_or_ge i e with h1 | h1
              · exact h1
              · exact absurd (by rw [show e = i by omega]) h
             exact ⟨run_found (P := PP) hie (by show e ≤ i + 128; omega) (by omega) HSM.out (.inr (.inr h)), hie⟩
            obtain ⟨x, hx⟩ : ∃ x, ds.getD e 0 = x := ⟨_, rfl⟩
            obtain ⟨y, hy⟩ : ∃ x, ds.getD i 0 = x := ⟨_, rfl⟩
            have HK : Hid (kdP x = kdP y → ∀ j, i ≤ j → j < e + 1 → kdP (ds.getD j 0) = kdP (ds.getD i 0)) := fun h j hj1 hj2 => by
             rcases Nat.lt_or_ge j e with h1 | h1
             · exact HSM.out j hj1 h1
             · rw [show j = e by omega, hx, hy]; exact h
            rw [hx] at d0 HD; rw [hy] at d1 HD
            have A0 : Cl wr b (off + e) (.int .i64 x) := ⟨World.block_lt_of_cell? wr _ d0, d0⟩
            have A1 : Cl wr b (off + i) (.int .i64 y) := ⟨World.block_lt_of_cell? wr _ d1, d1⟩
            clear d0 d1 hx hy
            have q0 := A0.2
            have q1 := A1.2
            have hw64 : IntKind.i64.wrap ((i : Int) + 128) = (i : Int) + 128 := wrapi64' (by omega) (by omega)
            have g1 : decide (e < ds.length) = true := decide_eq_true h1
            have g2 : decide ((e : Int) < (i : Int) + 128) = true := decide_eq_true (by omega)
            have j2 : (e : Int) < (ds.length : Int) := by omega
            have j3 : (0 : Int) ≤ (e : Int) := by omega
            have j4 : (0 : Int) ≤ (i : Int) := by omega
            have hka := fun U => (swide_any x U).mono fun e w' (h : _ ∧ _) => (⟨h.1, h.2 ▸ Below.refl _ _⟩ : _ ∧ Below U.heap.size U w')
            have hkb := fun U => (swide_any y U).mono fun e w' (h : _ ∧ _) => (⟨h.1, h.2 ▸ Below.refl _ _⟩ : _ ∧ Below U.heap.size U w')
            by_cases h3 : kdP x = kdP y
            · have HSM2 : Hid (∀ j, i ≤ j → j < e + 1 → kdP (ds.getD j 0) = kdP (ds.getD i 0)) := HK.out h3
              have g3 : (((kdP x : Nat) : Int) == ((kdP y : Nat) : Int)) = true := by simp [h3]
              simp only [h3] at hka g3
              generalize ((kdP y : Nat) : Int) = cy at *
              have g4 : (cy == cy) = true := by simp
              clear h3 HK HD HSM
              go_upto_region 19 with fail
              refine wp_region_held_drew (S := (fun u => u.cell? ⟨b, off + e, none⟩ = some (.int .i64 x) ∧ u.cell? ⟨b, off + i, none⟩ = some (.int .i64 y))) (by kernel_rfl) ?_ (fun hHeld => ?_)
              · (try dsimp only)
                go_keep
              have hdr : Below wr.heap.size wr wr.drew := Below.drew1
              generalize wr.drew = ud2 at hdr hHeld ⊢
              replace A0 := A0.below hdr; replace A1 := A1.below hdr
              replace hbW : Below w.heap.size w ud2 := hbW.trans (hdr.mono hbW.size)
              replace hbR : Below wo.heap.size wo ud2 := hbR.trans (hdr.mono hbR.size)
              clear hdr; refine hT 0 hHeld ?_; refine hT 1 hHeld ?_; refine hT 2 hHeld ?_; refine hT 3 hHeld ?_; refine hT 4 hHeld ?_; refine hT 5 hHeld ?_; refine hT 6 hHeld ?_; refine hT 7 hHeld ?_; refine hT 8 hHeld ?_; refine hT 9 hHeld ?_; refine hT 10 hHeld ?_; refine hT 11 hHeld ?_; refine hT 12 hHeld ?_
              refine hT 13 hHeld ?_; refine hT 14 hHeld ?_; refine hT 16 hHeld ?_; refine hT 17 hHeld ?_; refine hT 18 hHeld ?_; refine hT 19 hHeld ?_
              refine hCall (i := 15) rfl (by kernel_rfl) (by rfl) (fun K hK => ?_)
              go_simp
              refine (hka _).mono ?_
              rintro e u1 ⟨rfl, hb1⟩; replace A0 := A0.below hb1; replace A1 := A1.below hb1
              replace hbW : Below w.heap.size w u1 := hbW.trans (hb1.mono hbW.size)
              replace hbR : Below wo.heap.size wo u1 := hbR.trans (hb1.mono hbR.size)
              clear hb1
              go_wp2_with fail
              refine hK.out _ _ ?_ (fun hHeld => ?_)
              · (try dsimp only)
                exact ⟨A0.2, A1.2⟩
              clear hK K
              try simp only [Act.put, pZ]
              refine hCall (i := 20) rfl (by kernel_rfl) (by rfl) (fun K hK => ?_)
              go_simp
              refine (hkb _).mono ?_
              rintro e u2 ⟨rfl, hb2⟩; replace A0 := A0.below hb2; replace A1 := A1.below hb2
              replace hbW : Below w.heap.size w u2 := hbW.trans (hb2.mono hbW.size)
              replace hbR : Below wo.heap.size wo u2 := hbR.trans (hb2.mono hbR.size)
              clear hb2
              go_wp2_with fail
              refine hK.out _ _ ?_ (fun hHeld => ?_)
              · (try dsimp only)
                exact ⟨A0.2, A1.2⟩
              clear hK K
              try simp only [Act.put, pZ]
              refine hT 21 hHeld ?_; refine hT 22 hHeld ?_
              refine wpAnyH_done (by kernel_rfl) ?_ _
              clear hHeld
              go_wp2_with fail
              go_roundw
              case rel => exact ⟨e + 1, by omega, by omega, by omega, by go_num, HSM2.out, hbR⟩
              case measure => simp [intOf]; omega
            · obtain ⟨h5, h6⟩ := HD.out h3
              have HRN : Hid (rn PP.c PP.M (ds.drop i) = e - i) := h5
              have HIE : Hid (i < e) := h6
              have g3 : (((kdP x : Nat) : Int) == ((kdP y : Nat) : Int)) = false := beq_eq_false_iff_ne.2 (by omega)
              generalize ((kdP x : Nat) : Int) = cx at *
              generalize ((kdP y : Nat) : Int) = cy at *
              clear h3 HK HD HSM h5 h6
              go_upto_region 19 with fail
              refine wp_region_held_drew (S := (fun u => u.cell? ⟨b, off + e, none⟩ = some (.int .i64 x) ∧ u.cell? ⟨b, off + i, none⟩ = some (.int .i64 y))) (by kernel_rfl) ?_ (fun hHeld => ?_)
              · (try dsimp only)
                go_keep
              have hdr : Below wr.heap.size wr wr.drew := Below.drew1
              generalize wr.drew = ud3 at hdr hHeld ⊢
              replace A0 := A0.below hdr; replace A1 := A1.below hdr
              replace hbW : Below w.heap.size w ud3 := hbW.trans (hdr.mono hbW.size)
              replace hbR : Below wo.heap.size wo ud3 := hbR.trans (hdr.mono hbR.size)
              clear hdr; refine hT 0 hHeld ?_; refine hT 1 hHeld ?_; refine hT 2 hHeld ?_; refine hT 3 hHeld ?_; refine hT 4 hHeld ?_; refine hT 5 hHeld ?_; refine hT 6 hHeld ?_; refine hT 7 hHeld ?_; refine hT 8 hHeld ?_; refine hT 9 hHeld ?_; refine hT 10 hHeld ?_; refine hT 11 hHeld ?_; refine hT 12 hHeld ?_
              refine hT 13 hHeld ?_; refine hT 14 hHeld ?_; refine hT 16 hHeld ?_; refine hT 17 hHeld ?_; refine hT 18 hHeld ?_; refine hT 19 hHeld ?_
              refine hCall (i := 15) rfl (by kernel_rfl) (by rfl) (fun K hK => ?_)
              go_simp
              refine (hka _).mono ?_
              rintro e u1 ⟨rfl, hb1⟩; replace A0 := A0.below hb1; replace A1 := A1.below hb1
              replace hbW : Below w.heap.size w u1 := hbW.trans (hb1.mono hbW.size)
              replace hbR : Below wo.heap.size wo u1 := hbR.trans (hb1.mono hbR.size)
              clear hb1
              go_wp2_with fail
              refine hK.out _ _ ?_ (fun hHeld => ?_)
              · (try dsimp only)
                exact ⟨A0.2, A1.2⟩
              clear hK K
              try simp only [Act.put, pZ]
              refine hCall (i := 20) rfl (by kernel_rfl) (by rfl) (fun K hK => ?_)
              go_simp
              refine (hkb _).mono ?_
              rintro e u2 ⟨rfl, hb2⟩; replace A0 := A0.below hb2; replace A1 := A1.below hb2
              replace hbW : Below w.heap.size w u2 := hbW.trans (hb2.mono hbW.size)
              replace hbR : Below wo.heap.size wo u2 := hbR.trans (hb2.mono hbR.size)
              clear hb2
              go_wp2_with fail
              refine hK.out _ _ ?_ (fun hHeld => ?_)
              · (try dsimp only)
                exact ⟨A0.2, A1.2⟩
              clear hK K
              try simp only [Act.put, pZ]
              refine hT 21 hHeld ?_; refine hT 22 hHeld ?_
              refine wpAnyH_done (by kernel_rfl) ?_ _
              clear hHeld
              go_wp2_with fail
              go_meet
              exact ⟨e, rfl, HRN.out, HIE.out, hle, hbR⟩
          · have hie : i < e := by omega
            have HRN : Hid (rn PP.c PP.M (ds.drop i) = e - i) := run_found (P := PP) hie (by show e ≤ i + 128; omega) (by omega) HSM.out (.inl (by show e = i + 128; omega))
            have HIE : Hid (i < e) := hie
            have hw64 : IntKind.i64.wrap ((i : Int) + 128) = (i : Int) + 128 := wrapi64' (by omega) (by omega)
            have g1 : decide (e < ds.length) = true := decide_eq_true h1
            have g2 : decide ((e : Int) < (i : Int) + 128) = false := decide_eq_false (by omega)
            clear h1 h2 HSM hie
            go_upto_region 19 with fail
            refine wp_region_held_drew (S := (fun _ => True)) (by kernel_rfl) ?_ (fun hHeld => ?_)
            · (try dsimp only)
              all_goals go_keep
            have hdr : Below wr.heap.size wr wr.drew := Below.drew1
            generalize wr.drew = ud4 at hdr hHeld ⊢
            replace hbW : Below w.heap.size w ud4 := hbW.trans (hdr.mono hbW.size)
            replace hbR : Below wo.heap.size wo ud4 := hbR.trans (hdr.mono hbR.size)
            clear hdr; refine hT 0 hHeld ?_; refine hT 1 hHeld ?_; refine hT 2 hHeld ?_; refine hT 3 hHeld ?_; refine hT 4 hHeld ?_; refine hT 5 hHeld ?_; refine hT 6 hHeld ?_; refine hT 7 hHeld ?_; refine hT 8 hHeld ?_; refine hT 9 hHeld ?_; refine hT 10 hHeld ?_; refine hN 11 hHeld ?_; refine hN 12 hHeld ?_
            refine hN 13 hHeld ?_; refine hN 14 hHeld ?_; refine hN 15 hHeld ?_; refine hN 16 hHeld ?_; refine hN 17 hHeld ?_; refine hN 18 hHeld ?_; refine hN 19 hHeld ?_; refine hN 20 hHeld ?_; refine hN 21 hHeld ?_; refine hT 22 hHeld ?_
            refine wpAnyH_done (by kernel_rfl) ?_ _
            clear hHeld
            go_wp2_with fail
            go_meet
            exact ⟨e, rfl, HRN.out, HIE.out, hle, hbR⟩
        · have hie : i < e := by omega
          have HRN : Hid (rn PP.c PP.M (ds.drop i) = e - i) := run_found (P := PP) hie (by show e ≤ i + 128; omega) (by omega) HSM.out (.inr (.inl (by omega)))
          have HIE : Hid (i < e) := hie
          have g1 : decide (e < ds.length) = false := decide_eq_false h1
          clear h1 HSM hie
          go_upto_region 19 with fail
          refine wp_region_held_drew (S := (fun _ => True)) (by kernel_rfl) ?_ (fun hHeld => ?_)
          · (try dsimp only)
            all_goals go_keep
          have hdr : Below wr.heap.size wr wr.drew := Below.drew1
          generalize wr.drew = ud5 at hdr hHeld ⊢
          replace hbW : Below w.heap.size w ud5 := hbW.trans (hdr.mono hbW.size)
          replace hbR : Below wo.heap.size wo ud5 := hbR.trans (hdr.mono hbR.size)
          clear hdr; refine hT 0 hHeld ?_; refine hT 1 hHeld ?_; refine hT 2 hHeld ?_; refine hT 3 hHeld ?_; refine hT 4 hHeld ?_; refine hN 5 hHeld ?_; refine hN 6 hHeld ?_; refine hN 7 hHeld ?_; refine hN 8 hHeld ?_; refine hT 9 hHeld ?_; refine hT 10 hHeld ?_; refine hN 11 hHeld ?_; refine hN 12 hHeld ?_
          refine hN 13 hHeld ?_; refine hN 14 hHeld ?_; refine hN 15 hHeld ?_; refine hN 16 hHeld ?_; refine hN 17 hHeld ?_; refine hN 18 hHeld ?_; refine hN 19 hHeld ?_; refine hN 20 hHeld ?_; refine hN 21 hHeld ?_; refine hT 22 hHeld ?_
          refine wpAnyH_done (by kernel_rfl) ?_ _
          clear hHeld
          go_wp2_with fail
          go_meet
          exact ⟨e, rfl, HRN.out, HIE.out, hle, hbR⟩
      case rest =>
       obtain ⟨e, rfl, hrn, hie, hle, hbR⟩ := hcut
       have HRN : Hid (rn PP.c PP.M (ds.drop i) = e - i) := hrn
       have hek : e - i ≤ 128 := by have := (rn_le (c := PP.c) (M := PP.M) (ds.drop i)).2; rw [hrn] at this; exact this
       have hT := HBo0.out.below hbR
       have hIo := HIo.out.below hbR
       have hBu := HBu.out.trans (hbR.mono HBu.out.size)
       obtain ⟨b, off, ea, hb, d0⟩ := HRI.out.at hbR i hin
       subst ea; clear hrn hbR
       obtain ⟨y, hy⟩ : ∃ x, ds.getD i 0 = x := ⟨_, rfl⟩
       rw [hy] at d0
       have hkc : kdP y ≤ 1 := by rcases kdP_cases y with h | h <;> omega
       have hks := swide_any y wc
       obtain ⟨c0, hc0⟩ : ∃ c, kdP y = c := ⟨_, rfl⟩
       have HC : Hid (PP.c (ds.getD i 0) = c0) := by show kdP (ds.getD i 0) = c0; rw [hy, hc0]
       have HYC : Hid (kdP y = c0) := hc0
       have HYV : Hid (ds.getD i 0 = y) := hy
       rw [hc0] at hks hkc
       obtain ⟨hd, hhd⟩ : ∃ h : Nat, h = 128 * c0 + (e - i) - 1 := ⟨_, rfl⟩
       have HHD : Hid (hd = PP.M * c0 + (e - i) - 1) := hhd
       have hd2 : hd < 256 := by omega
       have hE : 128 * (c0 : Int) + (e : Int) - (i : Int) - 1 = (hd : Int) := by omega
       clear hy hc0 hhd
       go_wp2_with fail
       refine hks.mono ?_
       rintro e' w1 ⟨rfl, rfl⟩
       have hT5 := hT.below (bl1 (.cells #[.int .u8 (hd : Int)] 5))
       have hIo5 := hIo.below (bl1 (.cells #[.int .u8 (hd : Int)] 5))
       have hN := heap_alloc_new wc (.cells #[.int .u8 (hd : Int)] 5)
       have n0 := cell_of_row _ wc.heap.size 0 _ _ (0, 0) hN
       have hbs : u1.heap.size ≤ (wc.alloc (.cells #[.int .u8 (hd : Int)] 5)).heap.size := Nat.le_trans hBu.size (bl1 _).size
       clear hN
       have hll : ys.length + 1 ≤ 1000000 := by omega
       clear hks d0
       go_wp2_with (at_builtin; refine wpList_append_b1 rfl _ _ rfl u1.heap.size _ ys rfl hT5 wc.heap.size hd rfl n0 hd2 hll hbs ?_)
       intro v' w9 hT9 hgrow
       have hB9 : Below u1.heap.size u1 w9 := (hBu.alloc hBu.size _).grown hgrow hbs (fun k hk => (hT.lo hk).1)
       have hI9 := hIo5.grownB hT5 hgrow
       clear hgrow hT5 hIo5 hIo n0 hbs hll hT hBu hE
       have HYL : Hid (ys.length ≤ 7000) := by show _ ≤ _; omega
       clear hyl; go_wp2
       go_loopw [4, 10] (fun v kk wr => ∃ j : Nat, i ≤ j ∧ j ≤ e ∧ kk = .int .i64 (j : Int) ∧ Bo u1.heap.size wr v (ys ++ [hd] ++ ((ds.drop i).take (j - i)).flatMap (PP.en c0)) ∧ Io u1.heap.size wr (.slice (some ⟨b, off, none⟩) ds.length cd) ds ∧ Below u1.heap.size u1 wr) (fun _ kk _ => e - (intOf kk).toNat)
       case atStart => exact ⟨i, Nat.le_refl _, Nat.le_of_lt hie, rfl, by rw [Nat.sub_self, List.take_zero, List.flatMap_nil, List.append_nil]; exact hT9, hI9, hB9⟩
       case round =>
        obtain ⟨j, hj1, hj2, rfl, hTb, hIo, hBu⟩ := hrel
        by_cases hje : j < e
        rotate_left
        · obtain rfl : j = e := by omega
          have HS : Hid (_) := pk_step (P := PP) (by decide) hin HRN.out hie HC.out HHD.out HT.out
          clear hT9 hB9 hI9; go_wp2
          go_roundw
          case rel => exact ⟨j, _, hle, rfl, HS.out, hTb, hIo, hBu⟩
          case measure => simp [intOf]; omega
        clear hT9 hB9 hI9
        have hbW := HB1.out.trans (hBu.mono HB1.out.size)
        have hbR := hBu
        clear hBu; obtain ⟨_, _, e9, hri⟩ := hIo.slice
        cases e9
        obtain ⟨b', off', ea, _, d0⟩ := hri.at (Below.refl _ _) j (by omega)
        cases ea
        obtain ⟨b', off', ea, _, d1⟩ := hri.at (Below.refl _ _) i hin
        cases ea
        rw [HYV.out] at d1
        have hdm := HD.out j (by omega)
        have hkx : kdP (ds.getD j 0) = c0 := run_kind (P := PP) HRN.out HC.out hj1 hje
        obtain ⟨x, hx⟩ : ∃ x, ds.getD j 0 = x := ⟨_, rfl⟩
        have HS : Hid (_) := body_succ (P := PP) (c0 := c0) hj1 (show j < ds.length by omega) hx
        have hln : (ys ++ [hd] ++ ((ds.drop i).take (j - i)).flatMap (PP.en c0)).length ≤ 8000 := by
         have h1 := HYL.out
         have h2 : (((ds.drop i).take (j - i)).flatMap (PP.en c0)).length ≤ 2 * _ := flat_len (enP_len c0) _
         rw [List.length_take] at h2; rw [List.length_append, List.length_append, List.length_singleton]
         omega
        obtain ⟨zs, hzs⟩ : ∃ zs, ys ++ [hd] ++ ((ds.drop i).take (j - i)).flatMap (PP.en c0) = zs := ⟨_, rfl⟩
        have HN : Hid (ys ++ [hd] ++ ((ds.drop i).take (j + 1 - i)).flatMap (PP.en c0) = zs ++ enP c0 x) := by
         show _ = _
         rw [HS.out, ← hzs]
         simp only [List.append_assoc]
         rfl
        rw [hx] at hdm hkx d0; rw [hzs] at hTb hln
        have hks := fun U => (swide_any y U).mono fun e w' (h : _ ∧ _) => (⟨h.1, h.2 ▸ Below.refl _ _⟩ : _ ∧ Below U.heap.size U w')
        rw [HYC.out] at hks; clear HS hzs hx hri; obtain ⟨a4, c4, rfl, _⟩ := hTb.slice
        have A0 : Cl wr b (off + j) (.int .i64 x) := ⟨World.block_lt_of_cell? wr _ d0, d0⟩
        have A1 : Cl wr b (off + i) (.int .i64 y) := ⟨World.block_lt_of_cell? wr _ d1, d1⟩
        have g3 : (j : Int) < (e : Int) := by omega
        have j1 : (j : Int) < (ds.length : Int) := by omega
        have j2 : (0 : Int) ≤ (j : Int) := by omega
        have j3 : (0 : Int) ≤ (i : Int) := by omega
        rcases kdP_cases x with ⟨h1, h2⟩ | ⟨h1, h2⟩
        · have hc0 : c0 = 1 := hkx.symm.trans h2
          have HN2 : Hid (enP c0 x = be2 x) := by show _ = _; rw [hc0]; rfl
          rw [HN2.out] at HN; rw [hc0] at hks
          have hbg := fun U => big2_any x U (by omega) (by omega)
          have hll : zs.length + (be2 x).length ≤ 1000000 := by rw [show (be2 x).length = 2 from rfl]; omega
          have hw1 : (1 : Int) + ((1 : Nat) : Int) = 2 := rfl
          clear hc0 HN2 hkx h1 h2
          go_upto_region 25 with fail
          refine wp_region_held_drew (S := (fun u => u.cell? ⟨b, off + j, none⟩ = some (.int .i64 x) ∧ u.cell? ⟨b, off + i, none⟩ = some (.int .i64 y))) (by kernel_rfl) ?_ (fun hHeld => ?_)
          · (try dsimp only)
            go_keep
          have hdr : Below wr.heap.size wr wr.drew := Below.drew1
          generalize wr.drew = ud6 at hdr hHeld ⊢
          replace A0 := A0.below hdr; replace A1 := A1.below hdr; replace hTb := hTb.below hdr; replace hIo := hIo.below hdr
          replace hbW : Below w.heap.size w ud6 := hbW.trans (hdr.mono hbW.size)
          replace hbR : Below u1.heap.size u1 ud6 := hbR.trans (hdr.mono hbR.size)
          clear hdr; refine hT 0 hHeld ?_; refine hT 1 hHeld ?_; refine hT 2 hHeld ?_; refine hT 3 hHeld ?_; refine hT 4 hHeld ?_; refine hT 5 hHeld ?_; refine hT 6 hHeld ?_; refine hT 7 hHeld ?_; refine hT 8 hHeld ?_
          refine hCall (i := 9) rfl (by kernel_rfl) (by rfl) (fun K hK => ?_)
          go_simp
          refine (hks _).mono ?_
          rintro e u201 ⟨rfl, hb201⟩; replace A0 := A0.below hb201; replace A1 := A1.below hb201; replace hTb := hTb.below hb201; replace hIo := hIo.below hb201
          replace hbW : Below w.heap.size w u201 := hbW.trans (hb201.mono hbW.size)
          replace hbR : Below u1.heap.size u1 u201 := hbR.trans (hb201.mono hbR.size)
          clear hb201
          go_wp2_with fail
          refine hK.out _ _ ?_ (fun hHeld => ?_)
          · (try dsimp only)
            first | exact ⟨A0.2, A1.2⟩ | exact ⟨q0, q1⟩
          clear hK K
          try simp only [Act.put, pZ]
          refine hT 10 hHeld ?_
          refine hCall (i := 11) rfl (by kernel_rfl) (by rfl) (fun K hK => ?_)
          go_simp
          refine (hbg _).mono ?_
          rintro e u202 ⟨ab, cb, rfl, hrb, hb202⟩; replace A0 := A0.below hb202; replace A1 := A1.below hb202; replace hTb := hTb.below hb202; replace hIo := hIo.below hb202
          replace hbW : Below w.heap.size w u202 := hbW.trans (hb202.mono hbW.size)
          replace hbR : Below u1.heap.size u1 u202 := hbR.trans (hb202.mono hbR.size)
          clear hb202
          go_wp2_with fail
          refine hK.out _ _ ?_ (fun hHeld => ?_)
          · (try dsimp only)
            first | exact ⟨A0.2, A1.2⟩ | exact ⟨q0, q1⟩
          clear hK K
          try simp only [Act.put, pZ]
          refine hCall (i := 12) rfl (by kernel_rfl) (by rfl) (fun K hK => ?_)
          have hbs : u1.heap.size ≤ u202.heap.size := hbR.size
          refine wp_append_bs _ _ rfl u1.heap.size _ zs rfl hTb _ _ _ (be2 x) rfl (fun e => by cases e) rfl hrb hll hbs ?_
          intro v' w9 hT9 hgrow
          have hB9 : Below u1.heap.size u1 w9 := hbR.grown hgrow hbs (fun k hk => (hTb.lo hk).1)
          have hI9 := hIo.grownB hTb hgrow
          have hne := hIo.ne_bo hTb (g := b) rfl
          have q0 := hgrow.cell A0.2 hne
          have q1 := hgrow.cell A1.2 hne
          refine hK.out _ _ ?_ (fun hHeld => ?_)
          · (try dsimp only)
            first | exact ⟨A0.2, A1.2⟩ | exact ⟨q0, q1⟩
          clear hK K
          try simp only [Act.put, pZ]
          refine hT 13 hHeld ?_
          refine wpAnyH_done (by kernel_rfl) ?_ _
          clear hHeld d0 d1 A0 A1 hTb hIo hrb hgrow hbR hbW hne hks hbg; go_wp2
          go_roundw
          case rel => exact ⟨j + 1, by omega, by omega, by go_num, by rw [HN.out]; exact hT9, hI9, hB9⟩
          case measure => simp [intOf]; omega
        · have hc0 : c0 = 0 := hkx.symm.trans h2
          have HN2 : Hid (enP c0 x = be1 x) := by show _ = _; rw [hc0]; rfl
          rw [HN2.out] at HN; rw [hc0] at hks
          have hbg := fun U => big1_any x U (by omega) (by omega)
          have hll : zs.length + (be1 x).length ≤ 1000000 := by rw [show (be1 x).length = 1 from rfl]; omega
          have hw1 : (1 : Int) + ((0 : Nat) : Int) = 1 := rfl
          clear hc0 HN2 hkx h1 h2
          go_upto_region 25 with fail
          refine wp_region_held_drew (S := (fun u => u.cell? ⟨b, off + j, none⟩ = some (.int .i64 x) ∧ u.cell? ⟨b, off + i, none⟩ = some (.int .i64 y))) (by kernel_rfl) ?_ (fun hHeld => ?_)
          · (try dsimp only)
            go_keep
          have hdr : Below wr.heap.size wr wr.drew := Below.drew1
          generalize wr.drew = ud7 at hdr hHeld ⊢
          replace A0 := A0.below hdr; replace A1 := A1.below hdr; replace hTb := hTb.below hdr; replace hIo := hIo.below hdr
          replace hbW : Below w.heap.size w ud7 := hbW.trans (hdr.mono hbW.size)
          replace hbR : Below u1.heap.size u1 ud7 := hbR.trans (hdr.mono hbR.size)
          clear hdr; refine hT 0 hHeld ?_; refine hT 1 hHeld ?_; refine hT 2 hHeld ?_; refine hT 3 hHeld ?_; refine hT 4 hHeld ?_; refine hT 5 hHeld ?_; refine hT 6 hHeld ?_; refine hT 7 hHeld ?_; refine hT 8 hHeld ?_
          refine hCall (i := 9) rfl (by kernel_rfl) (by rfl) (fun K hK => ?_)
          go_simp
          refine (hks _).mono ?_
          rintro e u201 ⟨rfl, hb201⟩; replace A0 := A0.below hb201; replace A1 := A1.below hb201; replace hTb := hTb.below hb201; replace hIo := hIo.below hb201
          replace hbW : Below w.heap.size w u201 := hbW.trans (hb201.mono hbW.size)
          replace hbR : Below u1.heap.size u1 u201 := hbR.trans (hb201.mono hbR.size)
          clear hb201
          go_wp2_with fail
          refine hK.out _ _ ?_ (fun hHeld => ?_)
          · (try dsimp only)
            first | exact ⟨A0.2, A1.2⟩ | exact ⟨q0, q1⟩
          clear hK K
          try simp only [Act.put, pZ]
          refine hT 10 hHeld ?_
          refine hCall (i := 11) rfl (by kernel_rfl) (by rfl) (fun K hK => ?_)
          go_simp
          refine (hbg _).mono ?_
          rintro e u202 ⟨ab, cb, rfl, hrb, hb202⟩; replace A0 := A0.below hb202; replace A1 := A1.below hb202; replace hTb := hTb.below hb202; replace hIo := hIo.below hb202
          replace hbW : Below w.heap.size w u202 := hbW.trans (hb202.mono hbW.size)
          replace hbR : Below u1.heap.size u1 u202 := hbR.trans (hb202.mono hbR.size)
          clear hb202
          go_wp2_with fail
          refine hK.out _ _ ?_ (fun hHeld => ?_)
          · (try dsimp only)
            first | exact ⟨A0.2, A1.2⟩ | exact ⟨q0, q1⟩
          clear hK K
          try simp only [Act.put, pZ]
          refine hCall (i := 12) rfl (by kernel_rfl) (by rfl) (fun K hK => ?_)
          have hbs : u1.heap.size ≤ u202.heap.size := hbR.size
          refine wp_append_bs _ _ rfl u1.heap.size _ zs rfl hTb _ _ _ (be1 x) rfl (fun e => by cases e) rfl hrb hll hbs ?_
          intro v' w9 hT9 hgrow
          have hB9 : Below u1.heap.size u1 w9 := hbR.grown hgrow hbs (fun k hk => (hTb.lo hk).1)
          have hI9 := hIo.grownB hTb hgrow
          have hne := hIo.ne_bo hTb (g := b) rfl
          have q0 := hgrow.cell A0.2 hne
          have q1 := hgrow.cell A1.2 hne
          refine hK.out _ _ ?_ (fun hHeld => ?_)
          · (try dsimp only)
            first | exact ⟨A0.2, A1.2⟩ | exact ⟨q0, q1⟩
          clear hK K
          try simp only [Act.put, pZ]
          refine hT 13 hHeld ?_
          refine wpAnyH_done (by kernel_rfl) ?_ _
          clear hHeld d0 d1 A0 A1 hTb hIo hrb hgrow hbR hbW hne hks hbg; go_wp2
          go_roundw
          case rel => exact ⟨j + 1, by omega, by omega, by go_num, by rw [HN.out]; exact hT9, hI9, hB9⟩
          case measure => simp [intOf]; omega
end Go.Proofs.YtngmcghmniakeaaGreat
