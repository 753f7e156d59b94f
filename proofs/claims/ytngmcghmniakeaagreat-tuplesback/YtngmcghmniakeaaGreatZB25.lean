/-
  tuples.addTerms: the walk.
-/
import Derived.Test.YtngmcghmniakeaaGreatZB24
namespace Go.Proofs.YtngmcghmniakeaaGreat
open Go.RowKit Go.Maps
set_option linter.unusedSimpArgs false
set_option linter.unusedVariables false

theorem sgn_zero {q : Rat} (h : sgnQ q = 0) : q = 0 := by
  unfold sgnQ at h
  by_cases h0 : q = 0
  · exact h0
  · exfalso
    revert h
    simp [h0]
    try (split <;> simp)

set_option maxHeartbeats 4000000 in
set_option maxRecDepth 100000 in
theorem uadd_any (B : Nat → Prop) (v : Value) (T : List (List Rat)) (da : Option Addr) (dc : Nat) (ds : List Rat) (p : Rat) (pn : Bool) (pa : Option Addr) (px pc : Nat) (pb : Option Addr) (py pd : Nat) (w : World) (h : Rr B w v 20 T) (hd : Rf w da dc 7 ds) (hdB : ∀ b o, da = some ⟨b, o, none⟩ → ¬ B b) (hF : Fr w (.agg #[.bool pn, .slice pa px pc, .slice pb py pd]) 10 p) (hl : ds.length = T.length) (hT1 : T.length ≤ 1000) (hlen : ∀ i, i < T.length → (T.getD i []).length ≤ 1000) (hB : ∀ k, B k → k < w.heap.size) :
    Calls Tryz.prog 30 #[v, .slice da ds.length dc, .agg #[.bool pn, .slice pa px pc, .slice pb py pd]] w fun e w' => e = .returned (.tuple #[]) ∧ Rr (fun k => B k ∨ w.heap.size ≤ k) w' v 20 (adK T ds p ds.length) ∧ Kn B w w' := by
  obtain ⟨va, vc, rfl, hv1, hv2⟩ := h.slice
  obtain ⟨W, hW, X1, hbW⟩ : ∃ W, W = w.alloc (.cells #[.bool pn, .slice pa px pc, .slice pb py pd] 69) ∧ Bk 69 W w.heap.size [.bool pn, .slice pa px pc, .slice pb py pd] ∧ Below w.heap.size w W := ⟨_, rfl, Bk.new _ _ _, bl1 _⟩
  have HD : Hid (Rf W da dc 7 ds) := hd.below hbW
  have HDB : Hid (∀ b o, da = some ⟨b, o, none⟩ → ¬ B b) := hdB
  have HFP : Hid (Fr W (.agg #[.bool pn, .slice pa px pc, .slice pb py pd]) 10 p) := hF.below hbW
  have HX1 : Hid (Bk 69 W w.heap.size [.bool pn, .slice pa px pc, .slice pb py pd]) := X1
  have HBW : Hid (∀ k, B k → k < w.heap.size) := hB
  have HRW : Hid (Rr (fun j => (B j ∨ W.heap.size ≤ j) ∧ j < W.heap.size) W (.slice va T.length vc) 20 T) := (h.below hbW).mono (fun k h1 h2 => ⟨.inl h1, h2⟩)
  have hws : w.heap.size < W.heap.size := X1.lt
  have HLE : Hid (∀ i, i < T.length → (T.getD i []).length ≤ 1000) := hlen
  have HLD : Hid (ds.length = T.length) := hl
  have HBK : Hid (Below w.heap.size w W) := hbW
  rw [hl]
  obtain ⟨n, hnn⟩ : ∃ n, T.length = n := ⟨_, rfl⟩
  have HL : Hid (T.length = n) := hnn
  rw [hnn] at HRW hv1 hT1 ⊢
  unfold maxLen at hv2
  clear h hd hdB hF hB hbW X1 hl hnn hlen
  go_enter Tryz.func30, Tryz.ntmps30
  go_upto_region 1 with fail
  rw [← hW]
  clear hW
  go_wp2
  go_loopw [10] (fun i wr => ∃ k : Nat, k ≤ n ∧ i = .int .i64 k ∧ Rr (fun j => (B j ∨ W.heap.size ≤ j) ∧ j < wr.heap.size) wr (.slice va n vc) 20 (adK T ds p k) ∧ Kn B W wr) (fun i _ => n - (intOf i).toNat)
  case atStart => exact ⟨0, Nat.zero_le _, rfl, HRW.out, Kn.refl _ _⟩
  case round =>
    clear HRW
    obtain ⟨k, hk, rfl, hR, hkn0⟩ := hrel
    have HKN : Hid (Kn B W wr) := hkn0
    have hWs := hkn0.size
    clear hkn0
    by_cases hkn : k < n
    · obtain ⟨bd, od, x, y, zz, ed, hbd, d0, d1, d2, hFz⟩ := (HD.out.kn HKN.out HDB.out).1.2.2 k (by rw [HLD.out, HL.out]; exact hkn)
      subst ed
      have hlk := HLE.out k (by rw [HL.out]; exact hkn)
      have HTL : Hid ((adK T ds p k).length = n) := by show _ = _; rw [adK_len]; exact HL.out
      obtain ⟨g, cap, u, ea, hg, hgB, _, _, hc, hfz, hu, hub⟩ := hR.at k (by rw [HTL.out]; exact hkn)
      rw [HTL.out] at ea
      injection ea with ea _ ec
      subst ea ec
      have HS : Hid (adK T ds p (k + 1) = (adK T ds p k).set k ((adK T ds p k).getD k [] ++ trm ds p k)) := rfl
      have HSZ : Hid (ds.getD k 0 = 0 → adK T ds p (k + 1) = adK T ds p k) := fun e => by
        rw [HS.out]
        unfold trm
        rw [if_pos e, List.append_nil]
        refine List.ext_getElem (by simp) (fun i h1 h2 => ?_)
        rw [List.getElem_set]
        split
        · rename_i h3; subst h3; simp [List.getD, h2]
        · rfl
      have HSN : Hid (ds.getD k 0 ≠ 0 → trm ds p k = [ds.getD k 0 * p]) := fun e => by unfold trm; rw [if_neg e]
      have hTl0 : ((adK T ds p k).getD k []).length ≤ 1000 := by rw [adK_get _ _ _ _ _ (by rw [HL.out]; exact hkn), if_neg (by omega)]; exact hlk
      obtain ⟨z, hz⟩ : ∃ z, ds.getD k 0 = z := ⟨_, rfl⟩
      rw [hz] at hFz HSZ HSN
      obtain ⟨Tk, hTk⟩ : ∃ t, (adK T ds p k).getD k [] = t := ⟨_, rfl⟩
      rw [hTk] at hu HS hTl0
      obtain ⟨ua, uc, rfl, -⟩ := hu.rf
      have hTl : Tk.length + [z * p].length ≤ 1000000 := by simp; omega
      obtain ⟨m9, y1, y2, y3, y4, y5, y6, e9⟩ := hFz.cells3'
      simp only [Value.agg.injEq, Array.mk.injEq, List.cons.injEq, and_true] at e9
      obtain ⟨rfl, rfl, rfl⟩ := e9
      obtain ⟨V, hV, X0, hb4⟩ : ∃ V, V = wr.alloc (.cells #[.bool m9, .slice y1 y2 y3, .slice y4 y5 y6] 69) ∧ Bk 69 V wr.heap.size [.bool m9, .slice y1 y2 y3, .slice y4 y5 y6] ∧ Below wr.heap.size wr V := ⟨_, rfl, Bk.new _ _ _, bl1 _⟩
      have X1 : Bk 69 V w.heap.size [.bool pn, .slice pa px pc, .slice pb py pd] := (HX1.out.kn HKN.out (fun h => by have := HBW.out _ h; omega)).below hb4
      have hFp := (HFP.out.kn HKN.out).below hb4
      replace hFz := hFz.below hb4
      have hsi := qsign_any 7 z _ V hFz.ct (by decide) (by decide)
      obtain ⟨p0, p1, p2, _⟩ := X1.three
      obtain ⟨r0, r1, r2, _⟩ := X0.three
      have i1 : (0 : Int) ≤ (k : Int) := by omega
      have i2 : (k : Int) < (n : Int) := by omega
      have hgw : g ≠ w.heap.size := fun e => by
        rcases hgB.1 with h | h
        · have := HBW.out _ h; omega
        · omega
      have hbc : Below wr.heap.size wr V := hb4
      clear hz hTk hlk
      go_upto_region 4 with fail
      rw [← hV]
      clear hV d0 d1 d2 hb4
      by_cases hz0 : z = 0
      · have HZ : Hid (Rr (fun j => (B j ∨ W.heap.size ≤ j) ∧ j < wr.heap.size) wr (.slice (some ⟨g, 0, none⟩) n vc) 20 (adK T ds p (k + 1))) := by show Rr _ _ _ _ _; rw [HSZ.out hz0]; exact hR
        have hs0 : sgnQ z = 0 := by rw [hz0]; rfl
        rw [hs0] at hsi
        clear HS HSN HSZ hu hR hFp hFz hz0 hs0
        go_wp2_with fail
        refine hsi.mono ?_
        rintro e m1 ⟨rfl, hb1⟩
        replace hbc := hbc.trans (hb1.mono hbc.size)
        have HR2 : Hid (Rr (fun j => (B j ∨ W.heap.size ≤ j) ∧ j < m1.heap.size) m1 (.slice (some ⟨g, 0, none⟩) n vc) 20 (adK T ds p (k + 1))) := (HZ.out.below hbc).mono (fun j h1 h2 => ⟨h1.1, h2⟩)
        have HK2 : Hid (Kn B W m1) := HKN.out.trans (Kn.of (B := B) hbc) (fun i hi _ => hi)
        clear hb1 hsi HZ p0 p1 p2 r0 r1 r2
        go_wp2
        go_roundw
        case rel => exact ⟨k + 1, by omega, by go_num, HR2.out, HK2.out⟩
        case measure => simp [intOf]; omega
      · have HS : Hid (adK T ds p (k + 1) = (adK T ds p k).set k (Tk ++ [z * p])) := by show _ = _; rw [HS.out, HSN.out hz0]
        have hs0 : (sgnQ z != 0) = true := by rw [bne_iff_ne]; exact fun e => hz0 (sgn_zero e)
        have hs1 : ¬ sgnQ z = 0 := fun e => hz0 (sgn_zero e)
        generalize sgnQ z = sg at *
        clear HSN HSZ hz0
        go_wp2_with fail
        refine hsi.mono ?_
        rintro e m1 ⟨rfl, hb1⟩
        replace X1 := X1.below hb1
        replace X0 := X0.below hb1
        replace hbc := hbc.trans (hb1.mono hbc.size)
        replace hFp := hFp.below hb1
        replace hFz := hFz.below hb1
        clear p0 p1 p2 r0 r1 r2 hb1 hsi
        obtain ⟨p0, p1, p2, _⟩ := X1.three
        obtain ⟨r0, r1, r2, _⟩ := X0.three
        go_upto_region 5 with fail
        refine wp_region_held_drew (S := fun w9 => w9.cell? ⟨w.heap.size, 0, none⟩ = some (.bool pn) ∧ w9.cell? ⟨w.heap.size, 1, none⟩ = some (.slice pa px pc) ∧ w9.cell? ⟨w.heap.size, 2, none⟩ = some (.slice pb py pd) ∧ w9.cell? ⟨wr.heap.size, 0, none⟩ = some (.bool m9) ∧ w9.cell? ⟨wr.heap.size, 1, none⟩ = some (.slice y1 y2 y3) ∧ w9.cell? ⟨wr.heap.size, 2, none⟩ = some (.slice y4 y5 y6)) (by kernel_rfl) ?_ (fun hHeld => ?_)
        · (try dsimp only)
          go_keep
        have hdr : Below m1.heap.size m1 m1.drew := Below.drew1
        generalize m1.drew = ud at hdr hHeld ⊢
        replace hFp := hFp.below hdr
        replace hFz := hFz.below hdr
        replace X1 := X1.below hdr
        replace X0 := X0.below hdr
        replace hbc := hbc.trans (hdr.mono hbc.size)
        clear hdr p0 p1 p2 r0 r1 r2
        obtain ⟨p0, p1, p2, _⟩ := X1.three
        obtain ⟨r0, r1, r2, _⟩ := X0.three
        refine hT 0 hHeld ?_
        refine hT 1 hHeld ?_
        refine hT 2 hHeld ?_
        refine hT 3 hHeld ?_
        refine hT 4 hHeld ?_
        refine hT 6 hHeld ?_
        refine hT 7 hHeld ?_
        refine wpAnyH_ready (rs := [5, 8]) (by kernel_rfl) (by simp) (hCons (i := 5) rfl (by rfl) (fun K hK => ?_) (hCons (i := 8) rfl (by rfl) (fun K hK => ?_) AllReadyH.nil))
        · have hc5 := (hbc.cell (p := ⟨g, k, none⟩) hg).trans hc
          go_simp
          refine hK.out _ _ ?_ (fun hHeld => ?_)
          · (try dsimp only)
            exact ⟨p0, p1, p2, r0, r1, r2⟩
          clear hK K
          try simp only [Act.put, List.setIfInBounds_toArray, List.set_cons_zero, List.set_cons_succ]
          clear hc5
          refine hCall (i := 8) rfl (by kernel_rfl) (by rfl) (fun K hK => ?_)
          go_simp
          refine (qmul_any 7 10 z p _ _ _ hFz.ct hFp.ct (by decide) (by decide) (by decide) (by decide)).mono ?_
          rintro e u1 ⟨v1, rfl, hF1, hb0⟩
          replace hF1 := hF1.le (show 7 + 10 ≤ 20 by decide)
          obtain ⟨z1, x1, x2, x3, x4, x5, x6, rfl⟩ := hF1.cells3'
          replace X1 := X1.below hb0
          replace X0 := X0.below hb0
          replace hbc := hbc.trans (hb0.mono hbc.size)
          clear p0 p1 p2 r0 r1 r2
          obtain ⟨p0, p1, p2, _⟩ := X1.three
          obtain ⟨r0, r1, r2, _⟩ := X0.three
          go_wp2_with fail
          refine hK.out _ _ ?_ (fun hHeld => ?_)
          · (try dsimp only)
            exact ⟨p0, p1, p2, r0, r1, r2⟩
          clear hK K
          try simp only [Act.put, List.setIfInBounds_toArray, List.set_cons_zero, List.set_cons_succ]
          refine hCall (i := 9) rfl (by kernel_rfl) (by rfl) (fun K hK => ?_)
          go_simp
          obtain ⟨V1, hV1, A1, hb1⟩ : ∃ V, V = u1.alloc (.cells #[.bool z1, .slice x1 x2 x3, .slice x4 x5 x6] 69) ∧ Bk 69 V u1.heap.size [.bool z1, .slice x1 x2 x3, .slice x4 x5 x6] ∧ Below u1.heap.size u1 V := ⟨_, rfl, Bk.new _ _ _, bl1 _⟩
          rw [← hV1]
          clear hV1
          have hF2 := hF1.below hb1
          have hsu := hbc.size
          replace X1 := X1.below hb1
          replace X0 := X0.below hb1
          replace hbc := hbc.trans (hb1.mono hbc.size)
          clear p0 p1 p2 r0 r1 r2
          obtain ⟨p0, p1, p2, _⟩ := X1.three
          obtain ⟨r0, r1, r2, _⟩ := X0.three
          refine hK.out _ _ ?_ (fun hHeld => ?_)
          · (try dsimp only)
            exact ⟨p0, p1, p2, r0, r1, r2⟩
          clear hK K
          try simp only [Act.put, List.setIfInBounds_toArray, List.set_cons_zero, List.set_cons_succ]
          have hbq := hbc
          refine hCall (i := 10) rfl (by kernel_rfl) (by rfl) (fun K hK => ?_)
          obtain ⟨t0, t1, t2, _⟩ := A1.three
          have hone := Rz.one A1.lt t0 t1 t2 hF2
          have hRV := hR.below hbc
          have hcV := (hbc.cell (p := ⟨g, k, none⟩) hg).trans hc
          refine wp_append_rts 32 69 Tryz.underlying32 info_rt _ _ rfl 0 (.slice ua Tk.length uc) 20 Tk [z * p] rfl (hu.below hbc) (some ⟨u1.heap.size, 0, none⟩) 1 1 rfl rfl hone (fun e => by cases e) (fun ad e => by cases e; exact ⟨_, _, rfl⟩) hTl (Nat.zero_le _) ?_
          intro v9 w9 hT9 hgrow hown
          obtain ⟨va', vc', rfl, -⟩ := hT9.rf
          have hputs := Rr.put (C := fun j => B j ∨ W.heap.size ≤ j) hRV k (by rw [HTL.out]; exact hkn) (by rw [HTL.out]) hcV hgrow hT9 hown rfl (fun j hj => hj.1) (.inr (Nat.le_trans hWs hbc.size))
          have hcw : ∀ b, Value.ownBlock (.slice ua Tk.length uc) = some b → b ≠ wr.heap.size ∧ b ≠ w.heap.size := fun b e => ⟨fun e2 => by have := (hub b e).1.2; omega, fun e2 => by
            rcases (hub b e).1.1 with h | h
            · have := HBW.out b h; omega
            · omega⟩
          replace X1 := X1.grown hgrow (fun e => (hcw _ e).2 rfl)
          replace X0 := X0.grown hgrow (fun e => (hcw _ e).1 rfl)
          clear p0 p1 p2 r0 r1 r2
          obtain ⟨p0, p1, p2, _⟩ := X1.three
          obtain ⟨r0, r1, r2, _⟩ := X0.three
          have hgb : w9.heap[g]? = V1.heap[g]? := hgrow.block g (Nat.lt_of_lt_of_le hg hbc.size) (fun e => (hub g e.symm).2 rfl)
          have hc9 : w9.cell? ⟨g, k, none⟩ = some (.slice ua Tk.length uc) := (World.cell?_of_block (w := V1) (a := ⟨g, k, none⟩) hgb).trans hcV
          have hf9 : w9.frozen? ⟨g, k, none⟩ = false := (World.frozen?_of_block (w := V1) (a := ⟨g, k, none⟩) hgb).trans ((hbc.frozen (p := ⟨g, k, none⟩) hg).trans hfz)
          obtain ⟨nl, hnl⟩ : ∃ n, (Tk ++ [z * p]).length = n := ⟨_, rfl⟩
          rw [hnl] at hputs ⊢
          clear hnl
          refine hK.out _ _ ?_ (fun hHeld => ?_)
          · (try dsimp only)
            exact ⟨p0, p1, p2, r0, r1, r2⟩
          clear hK K
          try simp only [Act.put, List.setIfInBounds_toArray, List.set_cons_zero, List.set_cons_succ]
          refine hT 11 hHeld ?_
          refine hCall (i := 12) rfl (by kernel_rfl) (by rfl) (fun K hK => ?_)
          go_simp
          replace X1 := X1.other k (.slice va' nl vc') (show w.heap.size ≠ g by omega)
          replace X0 := X0.other k (.slice va' nl vc') (show wr.heap.size ≠ g by omega)
          clear p0 p1 p2 r0 r1 r2 hc9 hf9
          obtain ⟨p0, p1, p2, _⟩ := X1.three
          obtain ⟨r0, r1, r2, _⟩ := X0.three
          generalize w9.setCell ⟨g, k, none⟩ (.slice va' nl vc') = wz at hputs X1 X0 p0 p1 p2 r0 r1 r2 ⊢
          refine hK.out _ _ ?_ (fun hHeld => ?_)
          · (try dsimp only)
            exact ⟨p0, p1, p2, r0, r1, r2⟩
          clear hK K
          try simp only [Act.put, List.setIfInBounds_toArray, List.set_cons_zero, List.set_cons_succ]
          refine wpAnyH_done (by kernel_rfl) ?_ _
          clear hHeld p0 p1 p2 r0 r1 r2 X1 X0
          have HR2 : Hid (Rr (fun j => (B j ∨ W.heap.size ≤ j) ∧ j < wz.heap.size) wz (.slice (some ⟨g, 0, none⟩) n vc) 20 (adK T ds p (k + 1))) := by
            rw [HS.out]
            exact hputs.1.mono (fun j h1 h2 => ⟨h1, h2⟩)
          have HK2 : Hid (Kn B W wz) := (HKN.out.trans (Kn.of (B := B) hbq) (fun i hi _ => hi)).trans hputs.2 (fun i hi hl => by
            rcases hi.1 with h | h
            · exact h
            · omega)
          clear hputs
          go_wp2
          go_roundw
          case rel => exact ⟨k + 1, by omega, by go_num, HR2.out, HK2.out⟩
          case measure => simp [intOf]; omega
        · go_simp
          refine (qmul_any 7 10 z p _ _ _ hFz.ct hFp.ct (by decide) (by decide) (by decide) (by decide)).mono ?_
          rintro e u1 ⟨v1, rfl, hF1, hb0⟩
          replace hF1 := hF1.le (show 7 + 10 ≤ 20 by decide)
          obtain ⟨z1, x1, x2, x3, x4, x5, x6, rfl⟩ := hF1.cells3'
          replace X1 := X1.below hb0
          replace X0 := X0.below hb0
          replace hbc := hbc.trans (hb0.mono hbc.size)
          clear p0 p1 p2 r0 r1 r2
          obtain ⟨p0, p1, p2, _⟩ := X1.three
          obtain ⟨r0, r1, r2, _⟩ := X0.three
          go_wp2_with fail
          refine hK.out _ _ ?_ (fun hHeld => ?_)
          · (try dsimp only)
            exact ⟨p0, p1, p2, r0, r1, r2⟩
          clear hK K
          try simp only [Act.put, List.setIfInBounds_toArray, List.set_cons_zero, List.set_cons_succ]
          refine wpAnyH_ready (rs := [5, 9]) (by kernel_rfl) (by simp) (hCons (i := 5) rfl (by rfl) (fun K hK => ?_) (hCons (i := 9) rfl (by rfl) (fun K hK => ?_) AllReadyH.nil))
          · have hc5 := (hbc.cell (p := ⟨g, k, none⟩) hg).trans hc
            go_simp
            refine hK.out _ _ ?_ (fun hHeld => ?_)
            · (try dsimp only)
              exact ⟨p0, p1, p2, r0, r1, r2⟩
            clear hK K
            try simp only [Act.put, List.setIfInBounds_toArray, List.set_cons_zero, List.set_cons_succ]
            clear hc5
            refine hCall (i := 9) rfl (by kernel_rfl) (by rfl) (fun K hK => ?_)
            go_simp
            obtain ⟨V1, hV1, A1, hb1⟩ : ∃ V, V = u1.alloc (.cells #[.bool z1, .slice x1 x2 x3, .slice x4 x5 x6] 69) ∧ Bk 69 V u1.heap.size [.bool z1, .slice x1 x2 x3, .slice x4 x5 x6] ∧ Below u1.heap.size u1 V := ⟨_, rfl, Bk.new _ _ _, bl1 _⟩
            rw [← hV1]
            clear hV1
            have hF2 := hF1.below hb1
            have hsu := hbc.size
            replace X1 := X1.below hb1
            replace X0 := X0.below hb1
            replace hbc := hbc.trans (hb1.mono hbc.size)
            clear p0 p1 p2 r0 r1 r2
            obtain ⟨p0, p1, p2, _⟩ := X1.three
            obtain ⟨r0, r1, r2, _⟩ := X0.three
            refine hK.out _ _ ?_ (fun hHeld => ?_)
            · (try dsimp only)
              exact ⟨p0, p1, p2, r0, r1, r2⟩
            clear hK K
            try simp only [Act.put, List.setIfInBounds_toArray, List.set_cons_zero, List.set_cons_succ]
            have hbq := hbc
            refine hCall (i := 10) rfl (by kernel_rfl) (by rfl) (fun K hK => ?_)
            obtain ⟨t0, t1, t2, _⟩ := A1.three
            have hone := Rz.one A1.lt t0 t1 t2 hF2
            have hRV := hR.below hbc
            have hcV := (hbc.cell (p := ⟨g, k, none⟩) hg).trans hc
            refine wp_append_rts 32 69 Tryz.underlying32 info_rt _ _ rfl 0 (.slice ua Tk.length uc) 20 Tk [z * p] rfl (hu.below hbc) (some ⟨u1.heap.size, 0, none⟩) 1 1 rfl rfl hone (fun e => by cases e) (fun ad e => by cases e; exact ⟨_, _, rfl⟩) hTl (Nat.zero_le _) ?_
            intro v9 w9 hT9 hgrow hown
            obtain ⟨va', vc', rfl, -⟩ := hT9.rf
            have hputs := Rr.put (C := fun j => B j ∨ W.heap.size ≤ j) hRV k (by rw [HTL.out]; exact hkn) (by rw [HTL.out]) hcV hgrow hT9 hown rfl (fun j hj => hj.1) (.inr (Nat.le_trans hWs hbc.size))
            have hcw : ∀ b, Value.ownBlock (.slice ua Tk.length uc) = some b → b ≠ wr.heap.size ∧ b ≠ w.heap.size := fun b e => ⟨fun e2 => by have := (hub b e).1.2; omega, fun e2 => by
              rcases (hub b e).1.1 with h | h
              · have := HBW.out b h; omega
              · omega⟩
            replace X1 := X1.grown hgrow (fun e => (hcw _ e).2 rfl)
            replace X0 := X0.grown hgrow (fun e => (hcw _ e).1 rfl)
            clear p0 p1 p2 r0 r1 r2
            obtain ⟨p0, p1, p2, _⟩ := X1.three
            obtain ⟨r0, r1, r2, _⟩ := X0.three
            have hgb : w9.heap[g]? = V1.heap[g]? := hgrow.block g (Nat.lt_of_lt_of_le hg hbc.size) (fun e => (hub g e.symm).2 rfl)
            have hc9 : w9.cell? ⟨g, k, none⟩ = some (.slice ua Tk.length uc) := (World.cell?_of_block (w := V1) (a := ⟨g, k, none⟩) hgb).trans hcV
            have hf9 : w9.frozen? ⟨g, k, none⟩ = false := (World.frozen?_of_block (w := V1) (a := ⟨g, k, none⟩) hgb).trans ((hbc.frozen (p := ⟨g, k, none⟩) hg).trans hfz)
            obtain ⟨nl, hnl⟩ : ∃ n, (Tk ++ [z * p]).length = n := ⟨_, rfl⟩
            rw [hnl] at hputs ⊢
            clear hnl
            refine hK.out _ _ ?_ (fun hHeld => ?_)
            · (try dsimp only)
              exact ⟨p0, p1, p2, r0, r1, r2⟩
            clear hK K
            try simp only [Act.put, List.setIfInBounds_toArray, List.set_cons_zero, List.set_cons_succ]
            refine hT 11 hHeld ?_
            refine hCall (i := 12) rfl (by kernel_rfl) (by rfl) (fun K hK => ?_)
            go_simp
            replace X1 := X1.other k (.slice va' nl vc') (show w.heap.size ≠ g by omega)
            replace X0 := X0.other k (.slice va' nl vc') (show wr.heap.size ≠ g by omega)
            clear p0 p1 p2 r0 r1 r2 hc9 hf9
            obtain ⟨p0, p1, p2, _⟩ := X1.three
            obtain ⟨r0, r1, r2, _⟩ := X0.three
            generalize w9.setCell ⟨g, k, none⟩ (.slice va' nl vc') = wz at hputs X1 X0 p0 p1 p2 r0 r1 r2 ⊢
            refine hK.out _ _ ?_ (fun hHeld => ?_)
            · (try dsimp only)
              exact ⟨p0, p1, p2, r0, r1, r2⟩
            clear hK K
            try simp only [Act.put, List.setIfInBounds_toArray, List.set_cons_zero, List.set_cons_succ]
            refine wpAnyH_done (by kernel_rfl) ?_ _
            clear hHeld p0 p1 p2 r0 r1 r2 X1 X0
            have HR2 : Hid (Rr (fun j => (B j ∨ W.heap.size ≤ j) ∧ j < wz.heap.size) wz (.slice (some ⟨g, 0, none⟩) n vc) 20 (adK T ds p (k + 1))) := by
              rw [HS.out]
              exact hputs.1.mono (fun j h1 h2 => ⟨h1, h2⟩)
            have HK2 : Hid (Kn B W wz) := (HKN.out.trans (Kn.of (B := B) hbq) (fun i hi _ => hi)).trans hputs.2 (fun i hi hl => by
              rcases hi.1 with h | h
              · exact h
              · omega)
            clear hputs
            go_wp2
            go_roundw
            case rel => exact ⟨k + 1, by omega, by go_num, HR2.out, HK2.out⟩
            case measure => simp [intOf]; omega
          · go_simp
            obtain ⟨V1, hV1, A1, hb1⟩ : ∃ V, V = u1.alloc (.cells #[.bool z1, .slice x1 x2 x3, .slice x4 x5 x6] 69) ∧ Bk 69 V u1.heap.size [.bool z1, .slice x1 x2 x3, .slice x4 x5 x6] ∧ Below u1.heap.size u1 V := ⟨_, rfl, Bk.new _ _ _, bl1 _⟩
            rw [← hV1]
            clear hV1
            have hF2 := hF1.below hb1
            have hsu := hbc.size
            replace X1 := X1.below hb1
            replace X0 := X0.below hb1
            replace hbc := hbc.trans (hb1.mono hbc.size)
            clear p0 p1 p2 r0 r1 r2
            obtain ⟨p0, p1, p2, _⟩ := X1.three
            obtain ⟨r0, r1, r2, _⟩ := X0.three
            refine hK.out _ _ ?_ (fun hHeld => ?_)
            · (try dsimp only)
              exact ⟨p0, p1, p2, r0, r1, r2⟩
            clear hK K
            try simp only [Act.put, List.setIfInBounds_toArray, List.set_cons_zero, List.set_cons_succ]
            refine hCall (i := 5) rfl (by kernel_rfl) (by rfl) (fun K hK => ?_)
            have hc5 := (hbc.cell (p := ⟨g, k, none⟩) hg).trans hc
            go_simp
            refine hK.out _ _ ?_ (fun hHeld => ?_)
            · (try dsimp only)
              exact ⟨p0, p1, p2, r0, r1, r2⟩
            clear hK K
            try simp only [Act.put, List.setIfInBounds_toArray, List.set_cons_zero, List.set_cons_succ]
            clear hc5
            have hbq := hbc
            refine hCall (i := 10) rfl (by kernel_rfl) (by rfl) (fun K hK => ?_)
            obtain ⟨t0, t1, t2, _⟩ := A1.three
            have hone := Rz.one A1.lt t0 t1 t2 hF2
            have hRV := hR.below hbc
            have hcV := (hbc.cell (p := ⟨g, k, none⟩) hg).trans hc
            refine wp_append_rts 32 69 Tryz.underlying32 info_rt _ _ rfl 0 (.slice ua Tk.length uc) 20 Tk [z * p] rfl (hu.below hbc) (some ⟨u1.heap.size, 0, none⟩) 1 1 rfl rfl hone (fun e => by cases e) (fun ad e => by cases e; exact ⟨_, _, rfl⟩) hTl (Nat.zero_le _) ?_
            intro v9 w9 hT9 hgrow hown
            obtain ⟨va', vc', rfl, -⟩ := hT9.rf
            have hputs := Rr.put (C := fun j => B j ∨ W.heap.size ≤ j) hRV k (by rw [HTL.out]; exact hkn) (by rw [HTL.out]) hcV hgrow hT9 hown rfl (fun j hj => hj.1) (.inr (Nat.le_trans hWs hbc.size))
            have hcw : ∀ b, Value.ownBlock (.slice ua Tk.length uc) = some b → b ≠ wr.heap.size ∧ b ≠ w.heap.size := fun b e => ⟨fun e2 => by have := (hub b e).1.2; omega, fun e2 => by
              rcases (hub b e).1.1 with h | h
              · have := HBW.out b h; omega
              · omega⟩
            replace X1 := X1.grown hgrow (fun e => (hcw _ e).2 rfl)
            replace X0 := X0.grown hgrow (fun e => (hcw _ e).1 rfl)
            clear p0 p1 p2 r0 r1 r2
            obtain ⟨p0, p1, p2, _⟩ := X1.three
            obtain ⟨r0, r1, r2, _⟩ := X0.three
            have hgb : w9.heap[g]? = V1.heap[g]? := hgrow.block g (Nat.lt_of_lt_of_le hg hbc.size) (fun e => (hub g e.symm).2 rfl)
            have hc9 : w9.cell? ⟨g, k, none⟩ = some (.slice ua Tk.length uc) := (World.cell?_of_block (w := V1) (a := ⟨g, k, none⟩) hgb).trans hcV
            have hf9 : w9.frozen? ⟨g, k, none⟩ = false := (World.frozen?_of_block (w := V1) (a := ⟨g, k, none⟩) hgb).trans ((hbc.frozen (p := ⟨g, k, none⟩) hg).trans hfz)
            obtain ⟨nl, hnl⟩ : ∃ n, (Tk ++ [z * p]).length = n := ⟨_, rfl⟩
            rw [hnl] at hputs ⊢
            clear hnl
            refine hK.out _ _ ?_ (fun hHeld => ?_)
            · (try dsimp only)
              exact ⟨p0, p1, p2, r0, r1, r2⟩
            clear hK K
            try simp only [Act.put, List.setIfInBounds_toArray, List.set_cons_zero, List.set_cons_succ]
            refine hT 11 hHeld ?_
            refine hCall (i := 12) rfl (by kernel_rfl) (by rfl) (fun K hK => ?_)
            go_simp
            replace X1 := X1.other k (.slice va' nl vc') (show w.heap.size ≠ g by omega)
            replace X0 := X0.other k (.slice va' nl vc') (show wr.heap.size ≠ g by omega)
            clear p0 p1 p2 r0 r1 r2 hc9 hf9
            obtain ⟨p0, p1, p2, _⟩ := X1.three
            obtain ⟨r0, r1, r2, _⟩ := X0.three
            generalize w9.setCell ⟨g, k, none⟩ (.slice va' nl vc') = wz at hputs X1 X0 p0 p1 p2 r0 r1 r2 ⊢
            refine hK.out _ _ ?_ (fun hHeld => ?_)
            · (try dsimp only)
              exact ⟨p0, p1, p2, r0, r1, r2⟩
            clear hK K
            try simp only [Act.put, List.setIfInBounds_toArray, List.set_cons_zero, List.set_cons_succ]
            refine wpAnyH_done (by kernel_rfl) ?_ _
            clear hHeld p0 p1 p2 r0 r1 r2 X1 X0
            have HR2 : Hid (Rr (fun j => (B j ∨ W.heap.size ≤ j) ∧ j < wz.heap.size) wz (.slice (some ⟨g, 0, none⟩) n vc) 20 (adK T ds p (k + 1))) := by
              rw [HS.out]
              exact hputs.1.mono (fun j h1 h2 => ⟨h1, h2⟩)
            have HK2 : Hid (Kn B W wz) := (HKN.out.trans (Kn.of (B := B) hbq) (fun i hi _ => hi)).trans hputs.2 (fun i hi hl => by
              rcases hi.1 with h | h
              · exact h
              · omega)
            clear hputs
            go_wp2
            go_roundw
            case rel => exact ⟨k + 1, by omega, by go_num, HR2.out, HK2.out⟩
            case measure => simp [intOf]; omega
    · obtain rfl : k = n := by omega
      have g4 : ¬ (k : Int) < (k : Int) := by omega
      have HR2 : Hid (Rr (fun j => B j ∨ w.heap.size ≤ j) wr (.slice va k vc) 20 (adK T ds p k)) := hR.mono (fun j h1 _ => by
        rcases h1.1 with h | h
        · exact .inl h
        · exact .inr (by omega))
      have HK2 : Hid (Kn B w wr) := (Kn.of (B := B) HBK.out).trans HKN.out (fun i hi _ => hi)
      clear hR
      go_wp2
      go_end0
      exact ⟨rfl, HR2.out, HK2.out⟩

end Go.Proofs.YtngmcghmniakeaaGreat
