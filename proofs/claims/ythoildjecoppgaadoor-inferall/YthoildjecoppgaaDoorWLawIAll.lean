/-
  foundrylaw13.InferAll: the walk.
-/
import Derived.Test.YthoildjecoppgaaDoorWLawIAlike
import Derived.Test.YthoildjecoppgaaDoorZ23
namespace Go.Proofs.YthoildjecoppgaaDoor
open Go.RowKit Go.Maps
set_option linter.unusedSimpArgs false
set_option linter.unusedVariables false

/-- A row of no element is read. -/
theorem ri_none (w : World) : Ri w none 0 [] := Ri.nil _ _ _ (Nat.zero_le _)
theorem half_fd {z : Int} (h : -32768 ≤ z ∧ z ≤ 32767) : -32768 ≤ z.tdiv 2 ∧ z.tdiv 2 ≤ 32767 := by
  by_cases h0 : 0 ≤ z
  · rw [Int.tdiv_eq_ediv_of_nonneg h0]; omega
  · have : z.tdiv 2 = -((-z).tdiv 2) := by rw [Int.neg_tdiv, Int.neg_neg]
    rw [this, Int.tdiv_eq_ediv_of_nonneg (by omega)]
    omega
theorem hf_take {zs : List Int} {k : Nat} (hk : k < zs.length) : (zs.take (k + 1)).map (fun z => z.tdiv 2) = (zs.take k).map (fun z => z.tdiv 2) ++ [(zs.getD k 0).tdiv 2] := by
  rw [take_get hk, List.map_append]; rfl

set_option maxHeartbeats 8000000 in
set_option maxRecDepth 100000 in
theorem inferAll_any (S : Nat → Prop) (a : Option Addr) (ca : Nat) (b : Option Addr) (cb : Nat) (o : Ol) (za : Option Addr) (zc : Nat) (zs : List Int) (w : World) (hg : Gr PnE.row S w a ca o.cs) (hm : Gr PaE S w b cb o.ps) (hz : Rh w za zc zs) (htab : Pow w) :
    Calls Tryd.prog 6 #[.agg #[.slice a o.cs.length ca, .slice b o.ps.length cb], .slice za zs.length zc] w fun e w' => e = .returned (.bool true) ∧ Below w.heap.size w w' := by
  have k1 := hg.lenB
  have k2 := hm.lenB
  have b1 := hz.lenB
  have HB : Hid (Pow w) := htab
  have HZ : Hid (Rh w za zc zs) := hz
  obtain ⟨W, hW, X1, hbW⟩ : ∃ W, W = w.alloc (.cells #[.slice a o.cs.length ca, .slice b o.ps.length cb] 44) ∧ Bk 44 W w.heap.size [.slice a o.cs.length ca, .slice b o.ps.length cb] ∧ Below w.heap.size w W := ⟨_, rfl, Bk.new _ _ _, bl1 _⟩
  replace hg := hg.below hbW
  replace hm := hm.below hbW
  clear htab hz
  go_enter Tryd.func6, Tryd.ntmps6
  go_wp2_with fail
  rw [← hW]
  clear hW
  refine (awake13_any _ (HB.out.below hbW)).mono ?_
  rintro e m0 ⟨rfl, hb9⟩
  replace X1 := X1.below hb9
  replace hg := hg.below hb9
  replace hm := hm.below hb9
  replace hbW := hbW.trans (hb9.mono hbW.size)
  clear hb9
  obtain ⟨p0, p1, _⟩ := X1.two
  have hfw := sfewO_any S a ca b cb o m0 hg hm
  cases hq : fewB o with
  | false =>
    rw [hq] at hfw
    clear hq
    go_wp2_with fail
    refine hfw.mono ?_
    rintro e m1 ⟨rfl, hb9⟩
    replace hbW := hbW.trans (hb9.mono hbW.size)
    clear hb9 hfw
    go_wp2_with fail
    refine (awake13_any _ (HB.out.below hbW)).mono ?_
    rintro e v9 ⟨rfl, hb9⟩
    replace hbW := hbW.trans (hb9.mono hbW.size)
    clear hb9
    go_wp2
    go_ret
    exact ⟨rfl, hbW⟩
  | true =>
  obtain ⟨q1, q2, q3⟩ := fewB_of hq
  rw [hq] at hfw
  clear hq
  go_wp2_with fail
  refine hfw.mono ?_
  rintro e m1 ⟨rfl, hb9⟩
  replace X1 := X1.below hb9
  replace hg := hg.below hb9
  replace hm := hm.below hb9
  replace hbW := hbW.trans (hb9.mono hbW.size)
  clear hb9 hfw p0 p1
  obtain ⟨p0, p1, _⟩ := X1.two
  have hfo := cformO_any S a ca b cb o m1 hg hm
  cases hq : foB o with
  | false =>
    rw [hq] at hfo
    clear hq
    go_wp2_with fail
    refine hfo.mono ?_
    rintro e m2 ⟨rfl, hb9⟩
    replace hbW := hbW.trans (hb9.mono hbW.size)
    clear hb9 hfo
    go_wp2_with fail
    refine (awake13_any _ (HB.out.below hbW)).mono ?_
    rintro e v9 ⟨rfl, hb9⟩
    replace hbW := hbW.trans (hb9.mono hbW.size)
    clear hb9
    go_wp2
    go_ret
    exact ⟨rfl, hbW⟩
  | true =>
  have hFO := foB_iff.1 hq
  rw [hq] at hfo
  clear hq
  go_wp2_with fail
  refine hfo.mono ?_
  rintro e m2 ⟨rfl, hb9⟩
  replace X1 := X1.below hb9
  replace hg := hg.below hb9
  replace hm := hm.below hb9
  replace hbW := hbW.trans (hb9.mono hbW.size)
  clear hb9 hfo p0 p1
  obtain ⟨p0, p1, _⟩ := X1.two
  have hcn := fun U (h1 : Gr PnE.row S U a ca o.cs) (h2 : Gr PaE S U b cb o.ps) => ccount_any S a ca b cb o U h1 h2 (by omega) (by omega)
  have hcs : cntO o ≤ 86 := by have h1 := hFO.2.2.1; have h2 := hFO.2.2.2.2.1; unfold cntO; omega
  have hsp := fun U pa pc pts xa xc dx ya yc dy (h1 : Gr PnE.row S U a ca o.cs) (h2 : Gr PaE S U b cb o.ps) (h3 : Ri U pa pc pts) (h4 : Ri U xa xc dx) (h5 : Ri U ya yc dy) => cspread_any S a ca b cb o pa pc pts xa xc dx ya yc dy U h1 h2 h3 h4 h5 (by omega) (by omega) (by omega)
  go_wp2_with fail
  refine (hcn m2 hg hm).mono ?_
  rintro e m3 ⟨rfl, hb9⟩
  replace X1 := X1.below hb9
  replace hg := hg.below hb9
  replace hm := hm.below hb9
  replace hbW := hbW.trans (hb9.mono hbW.size)
  clear hb9 p0 p1
  obtain ⟨n, hn⟩ : ∃ n, cntO o = n := ⟨_, rfl⟩
  have HNN : Hid (cntO o = n) := hn
  rw [hn] at hcn hcs ⊢
  clear hn
  by_cases hlt : zs.length < n
  · have g1 : (zs.length : Int) < (n : Int) := by omega
    clear hcn hsp hg hm X1
    go_wp2_with fail
    refine (awake13_any _ (HB.out.below hbW)).mono ?_
    rintro e v9 ⟨rfl, hb9⟩
    replace hbW := hbW.trans (hb9.mono hbW.size)
    clear hb9
    go_wp2
    go_ret
    exact ⟨rfl, hbW⟩
  have g1 : ¬ (zs.length : Int) < (n : Int) := by omega
  have HX : Hid (Bk 44 m3 w.heap.size [.slice a o.cs.length ca, .slice b o.ps.length cb]) := X1
  have HG : Hid (Gr PnE.row S m3 a ca o.cs) := hg
  have HM : Hid (Gr PaE S m3 b cb o.ps) := hm
  have HFO : Hid (FoP o) := hFO
  have HCN : Hid (∀ U, Gr PnE.row S U a ca o.cs → Gr PaE S U b cb o.ps → Calls Tryd.prog 14 #[.agg #[.slice a o.cs.length ca, .slice b o.ps.length cb]] U fun e w' => e = .returned (.int .i64 (n : Int)) ∧ Below U.heap.size U w') := hcn
  have HSP : Hid (_) := hsp
  clear hg hm X1 hFO hcn hsp
  go_wp2
  go_loopw [5, 6, 7, 8] (fun vp vx vy i wr => ∃ k : Nat, k ≤ n ∧ i = .int .i64 k ∧ Fam El.int 3 m3.heap.size wr [vp, vx, vy] [allI k, zs.take k, (zs.take k).map (fun z => z.tdiv 2)] ∧ Below m3.heap.size m3 wr) (fun _ _ _ i _ => n - (intOf i).toNat)
  case atStart => exact ⟨0, Nat.zero_le _, rfl, Fam.three _ _ _ _, Below.refl _ _⟩
  case round =>
    obtain ⟨k, hk, rfl, fam, hB⟩ := hrel
    obtain ⟨p0, p1, _⟩ := (HX.out.below hB).two
    go_wp2_with fail
    refine (HCN.out wr (HG.out.below hB) (HM.out.below hB)).mono ?_
    rintro e m4 ⟨rfl, hb9⟩
    replace fam := fam.below hb9
    replace hB := hB.trans (hb9.mono hB.size)
    clear hb9 p0 p1
    by_cases hkn : k < n
    · obtain ⟨b0, o0, e0, hb0, d0⟩ := HZ.out.at (hbW.trans (hB.mono hbW.size)) k (by omega)
      have hz0 := HZ.out.in (k := k) (by omega)
      have HTK : Hid (zs.take (k + 1) = zs.take k ++ [zs.getD k 0]) := take_get (by omega)
      have HHK : Hid ((zs.take (k + 1)).map (fun z => z.tdiv 2) = (zs.take k).map (fun z => z.tdiv 2) ++ [(zs.getD k 0).tdiv 2]) := hf_take (by omega)
      have HAK : Hid (allI (k + 1) = allI k ++ [(k : Int)]) := allI_succ k
      subst e0
      obtain ⟨z, hz⟩ : ∃ z, zs.getD k 0 = z := ⟨_, rfl⟩
      have HZK : Hid (k < zs.length ∧ zs.getD k 0 = z) := ⟨by omega, hz⟩
      rw [hz] at d0 hz0 HTK HHK
      have hh := half_fd hz0
      obtain ⟨h, hhh⟩ : ∃ h, z.tdiv 2 = h := ⟨_, rfl⟩
      have hq2 : Int.tdiv z 2 = h := hhh
      rw [hhh] at hh HHK
      have hz1 : I64 (k : Int) := by unfold I64; omega
      have hz2 : I64 z := by unfold I64; omega
      have hz3 : I64 h := by unfold I64; omega
      have hll1 : (allI k).length + 1 ≤ 1000000 := by rw [allI_len]; omega
      have hll2 : (zs.take k).length + 1 ≤ 1000000 := by rw [List.length_take]; omega
      have hll3 : ((zs.take k).map (fun z => z.tdiv 2)).length + 1 ≤ 1000000 := by rw [List.length_map, List.length_take]; omega
      generalize (zs.take k).map (fun z => z.tdiv 2) = LY at *
      generalize zs.take k = LX at *
      generalize allI k = LP at *
      have i1 : (0 : Int) ≤ (k : Int) := by omega
      have i2 : (k : Int) < (n : Int) := by omega
      have i3 : (k : Int) < (zs.length : Int) := by omega
      clear hz hhh
      obtain ⟨V1, hV1, c1, hbV1, hlV1⟩ : ∃ V, V = m4.alloc (.cells #[.int .i64 (k : Int)] 3) ∧ V.cell? ⟨m4.heap.size, 0, none⟩ = some (.int .i64 (k : Int)) ∧ Below m4.heap.size m4 V ∧ m4.heap.size < V.heap.size := ⟨_, rfl, cell_of_row _ _ 0 _ _ (0, 0) (heap_alloc_new _ _), bl1 _, by simp⟩
      have famv1 := fam.below hbV1
      have hown1 : Gw El.int 3 m3.heap.size (fun _ => False) V1 u5 LP := famv1.row 0 (by simp)
      have hbs1 : m3.heap.size ≤ V1.heap.size := Nat.le_trans hB.size hbV1.size
      have hBV1 : Below m3.heap.size m3 V1 := hB.trans (hbV1.mono hB.size)
      go_wp2_with (at_builtin; rw [← hV1]; refine wpList_append_gi rfl _ _ rfl m3.heap.size u5 LP rfl hown1 m4.heap.size (k : Int) rfl hlV1 c1 hz1 hll1 hbs1 ?_)
      intro v1 y1 hT1 hg1 ho1
      rw [← hV1] at hg1
      rw [show m4.heap.size + 1 = V1.heap.size by rw [hV1]; simp] at ho1
      replace hB : Below m3.heap.size m3 y1 := hBV1.grown hg1 hbs1 (fun g hg => (hown1.lo hg).1)
      replace fam : Fam El.int 3 m3.heap.size y1 [v1, u6, u7] [(LP ++ [(k : Int)]), LX, LY] := famv1.grow 0 (by simp) hT1 hg1 ho1
      clear hV1 c1 hlV1 famv1 hbs1 hBV1 hT1 hll1
      obtain ⟨b5, o5, e5, hb5, d5⟩ := HZ.out.at (hbW.trans (hB.mono hbW.size)) k HZK.out.1
      cases e5
      rw [HZK.out.2] at d5
      obtain ⟨V2, hV2, c2, hbV2, hlV2⟩ : ∃ V, V = y1.alloc (.cells #[.int .i64 z] 3) ∧ V.cell? ⟨y1.heap.size, 0, none⟩ = some (.int .i64 z) ∧ Below y1.heap.size y1 V ∧ y1.heap.size < V.heap.size := ⟨_, rfl, cell_of_row _ _ 0 _ _ (0, 0) (heap_alloc_new _ _), bl1 _, by simp⟩
      have famv2 := fam.below hbV2
      have hown2 : Gw El.int 3 m3.heap.size (fun _ => False) V2 u6 LX := famv2.row 1 (by simp)
      have hbs2 : m3.heap.size ≤ V2.heap.size := Nat.le_trans hB.size hbV2.size
      have hBV2 : Below m3.heap.size m3 V2 := hB.trans (hbV2.mono hB.size)
      go_wp2_with (at_builtin; rw [← hV2]; refine wpList_append_gi rfl _ _ rfl m3.heap.size u6 LX rfl hown2 y1.heap.size z rfl hlV2 c2 hz2 hll2 hbs2 ?_)
      intro v2 y2 hT2 hg2 ho2
      rw [← hV2] at hg2
      rw [show y1.heap.size + 1 = V2.heap.size by rw [hV2]; simp] at ho2
      replace hB : Below m3.heap.size m3 y2 := hBV2.grown hg2 hbs2 (fun g hg => (hown2.lo hg).1)
      replace fam : Fam El.int 3 m3.heap.size y2 [v1, v2, u7] [(LP ++ [(k : Int)]), (LX ++ [z]), LY] := famv2.grow 1 (by simp) hT2 hg2 ho2
      clear hV2 c2 hlV2 famv2 hbs2 hBV2 hT2 hll2
      obtain ⟨b6, o6, e6, hb6, d6⟩ := HZ.out.at (hbW.trans (hB.mono hbW.size)) k HZK.out.1
      cases e6
      rw [HZK.out.2] at d6
      obtain ⟨V3, hV3, c3, hbV3, hlV3⟩ : ∃ V, V = y2.alloc (.cells #[.int .i64 h] 3) ∧ V.cell? ⟨y2.heap.size, 0, none⟩ = some (.int .i64 h) ∧ Below y2.heap.size y2 V ∧ y2.heap.size < V.heap.size := ⟨_, rfl, cell_of_row _ _ 0 _ _ (0, 0) (heap_alloc_new _ _), bl1 _, by simp⟩
      have famv3 := fam.below hbV3
      have hown3 : Gw El.int 3 m3.heap.size (fun _ => False) V3 u7 LY := famv3.row 2 (by simp)
      have hbs3 : m3.heap.size ≤ V3.heap.size := Nat.le_trans hB.size hbV3.size
      have hBV3 : Below m3.heap.size m3 V3 := hB.trans (hbV3.mono hB.size)
      go_wp2_with (at_builtin; rw [← hV3]; refine wpList_append_gi rfl _ _ rfl m3.heap.size u7 LY rfl hown3 y2.heap.size h rfl hlV3 c3 hz3 hll3 hbs3 ?_)
      intro v3 y3 hT3 hg3 ho3
      rw [← hV3] at hg3
      rw [show y2.heap.size + 1 = V3.heap.size by rw [hV3]; simp] at ho3
      replace hB : Below m3.heap.size m3 y3 := hBV3.grown hg3 hbs3 (fun g hg => (hown3.lo hg).1)
      replace fam : Fam El.int 3 m3.heap.size y3 [v1, v2, v3] [(LP ++ [(k : Int)]), (LX ++ [z]), (LY ++ [h])] := famv3.grow 2 (by simp) hT3 hg3 ho3
      clear hV3 c3 hlV3 famv3 hbs3 hBV3 hT3 hll3
      have FAM : Hid (Fam El.int 3 m3.heap.size y3 [v1, v2, v3] [allI (k + 1), zs.take (k + 1), (zs.take (k + 1)).map (fun z => z.tdiv 2)]) := by
        rw [HTK.out, HAK.out, ← HTK.out, HHK.out, HTK.out]
        exact fam
      have HBB : Hid (Below m3.heap.size m3 y3) := hB
      clear fam hB hz0 hz1 hz2 hz3 d0 d5 d6
      go_wp2
      go_roundw
      case rel => exact ⟨k + 1, by omega, by go_num, FAM.out, HBB.out⟩
      case measure => simp [intOf]; omega
    · obtain rfl : k = n := by omega
      have g4 : ¬ (k : Int) < (k : Int) := by omega
      have hrp : Gi m3.heap.size m4 u5 (allI k) := fam.row 0 (by simp)
      have hrx : Gi m3.heap.size m4 u6 (zs.take k) := fam.row 1 (by simp)
      have hry : Gi m3.heap.size m4 u7 ((zs.take k).map (fun z => z.tdiv 2)) := fam.row 2 (by simp)
      obtain ⟨pa, pc, rfl, hrp, -⟩ := hrp.slice
      obtain ⟨xa, xc, rfl, hrx, -⟩ := hrx.slice
      obtain ⟨ya, yc, rfl, hry, -⟩ := hry.slice
      have lp : (allI k).length = k := allI_len k
      have lx : (zs.take k).length = k := by rw [List.length_take]; omega
      have ly : ((zs.take k).map (fun z => z.tdiv 2)).length = k := by rw [List.length_map, lx]
      have fx : ∀ z ∈ zs.take k, -32768 ≤ z ∧ z ≤ 32767 := fun z hz => HZ.out.1 z (List.mem_of_mem_take hz)
      have fy : ∀ z ∈ (zs.take k).map (fun z => z.tdiv 2), -32768 ≤ z ∧ z ≤ 32767 := fun z hz => by
        obtain ⟨x, hx, rfl⟩ := List.mem_map.1 hz
        exact half_fd (fx x hx)
      have hsb : spB o (allI k) (zs.take k) ((zs.take k).map (fun z => z.tdiv 2)) = true := spB_iff.2 ⟨HFO.out, by rw [HNN.out]; exact allI_ris k, by rw [lp, lx], by rw [lp, ly], fx, fy⟩
      have hsn : spB o [] [] [] = true := spB_iff.2 ⟨HFO.out, rfl, rfl, rfl, by simp, by simp⟩
      have HS1 : Hid (spL Pn.x o (allI k) (zs.take k) (zs.take k) ((zs.take k).map (fun z => z.tdiv 2)) = (zs.take k).map (fun z : Int => (z : Rat))) := by
        show _ = _
        rw [spL_yes hsb, ← HNN.out]
        exact spQ_all HFO.out (by rw [HNN.out, lx]) (fun p hp => (HFO.out.2.2.2.2.2.1 p hp).1) (by rw [HNN.out]; exact fx)
      have HS2 : Hid (spL Pn.y o (allI k) ((zs.take k).map (fun z => z.tdiv 2)) (zs.take k) ((zs.take k).map (fun z => z.tdiv 2)) = ((zs.take k).map (fun z => z.tdiv 2)).map (fun z : Int => (z : Rat))) := by
        show _ = _
        rw [spL_yes hsb, ← HNN.out]
        exact spQ_all HFO.out (by rw [HNN.out, ly]) (fun p hp => (HFO.out.2.2.2.2.2.1 p hp).2) (by rw [HNN.out]; exact fy)
      have HE1 : Hid (spE o (allI k) (zs.take k) ((zs.take k).map (fun z => z.tdiv 2)) = 0) := spE_yes hsb
      have HS3 : Hid (spL Pn.x o [] [] [] [] = (List.replicate k (0 : Int)).map (fun z : Int => (z : Rat))) := by
        show _ = _
        rw [spL_yes hsn, ← HNN.out]
        exact spQ_none HFO.out (fun p hp => (HFO.out.2.2.2.2.2.1 p hp).1)
      have HS4 : Hid (spL Pn.y o [] [] [] [] = (List.replicate k (0 : Int)).map (fun z : Int => (z : Rat))) := by
        show _ = _
        rw [spL_yes hsn, ← HNN.out]
        exact spQ_none HFO.out (fun p hp => (HFO.out.2.2.2.2.2.1 p hp).2)
      have HE2 : Hid (spE o [] [] [] = 0) := spE_yes hsn
      have hc1 := HSP.out m4 pa pc (allI k) xa xc (zs.take k) ya yc ((zs.take k).map (fun z => z.tdiv 2)) (HG.out.below hB) (HM.out.below hB) hrp hrx hry
      have hc2 := fun U (hb : Below m3.heap.size m3 U) => HSP.out U none 0 [] none 0 [] none 0 [] (HG.out.below hb) (HM.out.below hb) (ri_none _) (ri_none _) (ri_none _)
      rw [HS1.out, HS2.out, HE1.out] at hc1
      simp only [List.length_map, lp, lx] at hc1
      rw [HS3.out, HS4.out, HE2.out] at hc2
      simp only [List.length_map, List.length_replicate, List.length_nil] at hc2
      rw [lp, lx, ly]
      have HLX : Hid ((zs.take k).length = k ∧ ((zs.take k).map (fun z => z.tdiv 2)).length = k) := ⟨lx, ly⟩
      have HFX : Hid (∀ z ∈ zs.take k, -32768 ≤ z ∧ z ≤ 32767) := fx
      have HFY : Hid (∀ z ∈ (zs.take k).map (fun z => z.tdiv 2), -32768 ≤ z ∧ z ≤ 32767) := fy
      clear hsb hsn fx fy lp lx ly HS1 HS2 HS3 HS4 HE1 HE2
      generalize (zs.take k).map (fun z => z.tdiv 2) = DY at *
      generalize zs.take k = DX at *
      obtain ⟨p0, p1, _⟩ := (HX.out.below hB).two
      clear fam hrp
      go_wp2_with fail
      refine hc1.mono ?_
      rintro e m5 ⟨s1, t1, s2, t2, rfl, hR1, hR2, hb9⟩
      replace hrx := hrx.below hb9
      replace hry := hry.below hb9
      replace hB := hB.trans (hb9.mono hB.size)
      clear hb9 hc1 p0 p1
      obtain ⟨p0, p1, _⟩ := (HX.out.below hB).two
      go_wp2_with fail
      refine (hc2 _ hB).mono ?_
      rintro e m6 ⟨s3, t3, s4, t4, rfl, hR3, hR4, hb9⟩
      have HRX : Hid (Ri m6 xa xc DX) := hrx.below hb9
      have HRY : Hid (Ri m6 ya yc DY) := hry.below hb9
      have HR1 : Hid (Rf m6 s1 t1 7 (DX.map (fun z : Int => (z : Rat)))) := hR1.below hb9
      have HR2 : Hid (Rf m6 s2 t2 7 (DY.map (fun z : Int => (z : Rat)))) := hR2.below hb9
      have HR3 : Hid (Rf m6 s3 t3 7 ((List.replicate k (0 : Int)).map (fun z : Int => (z : Rat)))) := hR3
      have HR4 : Hid (Rf m6 s4 t4 7 ((List.replicate k (0 : Int)).map (fun z : Int => (z : Rat)))) := hR4
      replace hB := hB.trans (hb9.mono hB.size)
      have HBX : Hid (Below w.heap.size w m6) := hbW.trans (hB.mono hbW.size)
      clear hb9 hc2 p0 p1 hrx hry hR1 hR2 hR3 hR4 hB
      go_wp2
      go_loopw [15] (fun i wr => ∃ j : Nat, j ≤ k ∧ i = .int .i64 j ∧ Below m6.heap.size m6 wr) (fun i _ => k - (intOf i).toNat)
      case atStart => exact ⟨0, Nat.zero_le _, rfl, Below.refl _ _⟩
      case round =>
        obtain ⟨i, hi, rfl, hB⟩ := hrel
        by_cases hin : i < k
        · obtain ⟨c1, o1, x1, y1, z1, ea1, hc1, d0, d1, d2, hFa⟩ := HR1.out.1.at hB i (by rw [List.length_map, HLX.out.1]; exact hin)
          subst ea1
          obtain ⟨c2, o2, x2, y2, z2, ea2, hc2, d3, d4, d5, hFb⟩ := HR2.out.1.at hB i (by rw [List.length_map, HLX.out.2]; exact hin)
          subst ea2
          obtain ⟨c3, o3, x3, y3, z3, ea3, hc3, d6, d7, d8, hFc⟩ := HR3.out.1.at hB i (by rw [List.length_map, List.length_replicate]; exact hin)
          subst ea3
          obtain ⟨c4, o4, x4, y4, z4, ea4, hc4, d9, d10, d11, hFd⟩ := HR4.out.1.at hB i (by rw [List.length_map, List.length_replicate]; exact hin)
          subst ea4
          obtain ⟨c5, o5, ea5, hc5, d12⟩ := HRX.out.at hB i (by rw [HLX.out.1]; exact hin)
          subst ea5
          obtain ⟨c6, o6, ea6, hc6, d13⟩ := HRY.out.at hB i (by rw [HLX.out.2]; exact hin)
          subst ea6
          have e1 : (DX.map (fun z : Int => (z : Rat))).getD i 0 = ((DX.getD i 0 : Int) : Rat) := by simp [List.getD, show i < DX.length by rw [HLX.out.1]; exact hin]
          have e2 : (DY.map (fun z : Int => (z : Rat))).getD i 0 = ((DY.getD i 0 : Int) : Rat) := by simp [List.getD, show i < DY.length by rw [HLX.out.2]; exact hin]
          have e3 : ((List.replicate k (0 : Int)).map (fun z : Int => (z : Rat))).getD i 0 = 0 := by simp [List.getD, hin]
          rw [e1] at hFa
          rw [e2] at hFb
          rw [e3] at hFc hFd
          have hbx := fd_getD HFX.out i
          have hby := fd_getD HFY.out i
          obtain ⟨zx, ezx⟩ : ∃ z, DX.getD i 0 = z := ⟨_, rfl⟩
          obtain ⟨zy, ezy⟩ : ∃ z, DY.getD i 0 = z := ⟨_, rfl⟩
          rw [ezx] at hFa hbx d12
          rw [ezy] at hFb hby d13
          have i1 : (0 : Int) ≤ (i : Int) := by omega
          have i2 : (i : Int) < (k : Int) := by omega
          clear e1 e2 e3 ezx ezy
          obtain ⟨n1, a10, a11, a12, a13, a14, a15, e1⟩ := hFa.cells3'
          simp only [Value.agg.injEq, Array.mk.injEq, List.cons.injEq, and_true] at e1
          obtain ⟨rfl, rfl, rfl⟩ := e1
          obtain ⟨n2, a20, a21, a22, a23, a24, a25, e2⟩ := hFb.cells3'
          simp only [Value.agg.injEq, Array.mk.injEq, List.cons.injEq, and_true] at e2
          obtain ⟨rfl, rfl, rfl⟩ := e2
          obtain ⟨n3, a30, a31, a32, a33, a34, a35, e3⟩ := hFc.cells3'
          simp only [Value.agg.injEq, Array.mk.injEq, List.cons.injEq, and_true] at e3
          obtain ⟨rfl, rfl, rfl⟩ := e3
          obtain ⟨n4, a40, a41, a42, a43, a44, a45, e4⟩ := hFd.cells3'
          simp only [Value.agg.injEq, Array.mk.injEq, List.cons.injEq, and_true] at e4
          obtain ⟨rfl, rfl, rfl⟩ := e4
          go_wp2_with fail
          refine wp_region_held_drew (S := fun w9 => w9.cell? ⟨c1, o1 + i * 3, none⟩ = some (.bool n1) ∧ w9.cell? ⟨c1, o1 + i * 3 + 1, none⟩ = some (.slice a10 a11 a12) ∧ w9.cell? ⟨c1, o1 + i * 3 + 2, none⟩ = some (.slice a13 a14 a15) ∧ w9.cell? ⟨c2, o2 + i * 3, none⟩ = some (.bool n2) ∧ w9.cell? ⟨c2, o2 + i * 3 + 1, none⟩ = some (.slice a20 a21 a22) ∧ w9.cell? ⟨c2, o2 + i * 3 + 2, none⟩ = some (.slice a23 a24 a25) ∧ w9.cell? ⟨c3, o3 + i * 3, none⟩ = some (.bool n3) ∧ w9.cell? ⟨c3, o3 + i * 3 + 1, none⟩ = some (.slice a30 a31 a32) ∧ w9.cell? ⟨c3, o3 + i * 3 + 2, none⟩ = some (.slice a33 a34 a35) ∧ w9.cell? ⟨c4, o4 + i * 3, none⟩ = some (.bool n4) ∧ w9.cell? ⟨c4, o4 + i * 3 + 1, none⟩ = some (.slice a40 a41 a42) ∧ w9.cell? ⟨c4, o4 + i * 3 + 2, none⟩ = some (.slice a43 a44 a45) ∧ w9.cell? ⟨c5, o5 + i, none⟩ = some (.int .i64 zx) ∧ w9.cell? ⟨c6, o6 + i, none⟩ = some (.int .i64 zy)) (by kernel_rfl) ?_ (fun hHeld => ?_)
          · (try dsimp only)
            go_keep
          have hdr : Below wr.heap.size wr wr.drew := Below.drew1
          generalize wr.drew = Z1 at hdr hHeld ⊢
          replace hFa := hFa.below hdr
          replace hFb := hFb.below hdr
          replace hFc := hFc.below hdr
          replace hFd := hFd.below hdr
          replace hB := hB.trans (hdr.mono hB.size)
          clear hdr
          refine hT 0 hHeld ?_
          refine hT 1 hHeld ?_
          refine hT 2 hHeld ?_
          refine hT 3 hHeld ?_
          refine hT 4 hHeld ?_
          refine hT 5 hHeld ?_
          refine hT 6 hHeld ?_
          refine hT 7 hHeld ?_
          refine hCall (i := 8) rfl (by kernel_rfl) (by rfl) (fun K hK => ?_)
          go_simp
          refine (whole_any zx _ (by omega) (by omega)).mono ?_
          rintro e m7 ⟨v7, rfl, hF7, hbc⟩
          have hHz : m7.cell? ⟨c1, o1 + i * 3, none⟩ = some (.bool n1) ∧ m7.cell? ⟨c1, o1 + i * 3 + 1, none⟩ = some (.slice a10 a11 a12) ∧ m7.cell? ⟨c1, o1 + i * 3 + 2, none⟩ = some (.slice a13 a14 a15) ∧ m7.cell? ⟨c2, o2 + i * 3, none⟩ = some (.bool n2) ∧ m7.cell? ⟨c2, o2 + i * 3 + 1, none⟩ = some (.slice a20 a21 a22) ∧ m7.cell? ⟨c2, o2 + i * 3 + 2, none⟩ = some (.slice a23 a24 a25) ∧ m7.cell? ⟨c3, o3 + i * 3, none⟩ = some (.bool n3) ∧ m7.cell? ⟨c3, o3 + i * 3 + 1, none⟩ = some (.slice a30 a31 a32) ∧ m7.cell? ⟨c3, o3 + i * 3 + 2, none⟩ = some (.slice a33 a34 a35) ∧ m7.cell? ⟨c4, o4 + i * 3, none⟩ = some (.bool n4) ∧ m7.cell? ⟨c4, o4 + i * 3 + 1, none⟩ = some (.slice a40 a41 a42) ∧ m7.cell? ⟨c4, o4 + i * 3 + 2, none⟩ = some (.slice a43 a44 a45) ∧ m7.cell? ⟨c5, o5 + i, none⟩ = some (.int .i64 zx) ∧ m7.cell? ⟨c6, o6 + i, none⟩ = some (.int .i64 zy) := ⟨(hbc.cell (p := ⟨c1, o1 + i * 3, none⟩) (Nat.lt_of_lt_of_le hc1 hB.size)).trans hHeld.1, (hbc.cell (p := ⟨c1, o1 + i * 3 + 1, none⟩) (Nat.lt_of_lt_of_le hc1 hB.size)).trans hHeld.2.1, (hbc.cell (p := ⟨c1, o1 + i * 3 + 2, none⟩) (Nat.lt_of_lt_of_le hc1 hB.size)).trans hHeld.2.2.1, (hbc.cell (p := ⟨c2, o2 + i * 3, none⟩) (Nat.lt_of_lt_of_le hc2 hB.size)).trans hHeld.2.2.2.1, (hbc.cell (p := ⟨c2, o2 + i * 3 + 1, none⟩) (Nat.lt_of_lt_of_le hc2 hB.size)).trans hHeld.2.2.2.2.1, (hbc.cell (p := ⟨c2, o2 + i * 3 + 2, none⟩) (Nat.lt_of_lt_of_le hc2 hB.size)).trans hHeld.2.2.2.2.2.1, (hbc.cell (p := ⟨c3, o3 + i * 3, none⟩) (Nat.lt_of_lt_of_le hc3 hB.size)).trans hHeld.2.2.2.2.2.2.1, (hbc.cell (p := ⟨c3, o3 + i * 3 + 1, none⟩) (Nat.lt_of_lt_of_le hc3 hB.size)).trans hHeld.2.2.2.2.2.2.2.1, (hbc.cell (p := ⟨c3, o3 + i * 3 + 2, none⟩) (Nat.lt_of_lt_of_le hc3 hB.size)).trans hHeld.2.2.2.2.2.2.2.2.1, (hbc.cell (p := ⟨c4, o4 + i * 3, none⟩) (Nat.lt_of_lt_of_le hc4 hB.size)).trans hHeld.2.2.2.2.2.2.2.2.2.1, (hbc.cell (p := ⟨c4, o4 + i * 3 + 1, none⟩) (Nat.lt_of_lt_of_le hc4 hB.size)).trans hHeld.2.2.2.2.2.2.2.2.2.2.1, (hbc.cell (p := ⟨c4, o4 + i * 3 + 2, none⟩) (Nat.lt_of_lt_of_le hc4 hB.size)).trans hHeld.2.2.2.2.2.2.2.2.2.2.2.1, (hbc.cell (p := ⟨c5, o5 + i, none⟩) (Nat.lt_of_lt_of_le hc5 hB.size)).trans hHeld.2.2.2.2.2.2.2.2.2.2.2.2.1, (hbc.cell (p := ⟨c6, o6 + i, none⟩) (Nat.lt_of_lt_of_le hc6 hB.size)).trans hHeld.2.2.2.2.2.2.2.2.2.2.2.2.2⟩
          replace hFa := hFa.below hbc
          replace hFb := hFb.below hbc
          replace hFc := hFc.below hbc
          replace hFd := hFd.below hbc
          replace hB := hB.trans (hbc.mono hB.size)
          clear hbc
          go_wp2_with fail
          refine hK.out _ _ ?_ (fun hHeld => ?_)
          · (try dsimp only)
            exact hHz
          clear hK K hHz
          try simp only [Act.put, List.setIfInBounds_toArray, List.set_cons_zero, List.set_cons_succ]
          refine hCall (i := 9) rfl (by kernel_rfl) (by rfl) (fun K hK => ?_)
          go_simp
          refine (qcmp_any 7 2 _ _ _ _ m7 hFa.ct hF7.ct (by decide) (by decide) (by decide) (by decide)).mono ?_
          rintro e m8 ⟨rfl, hbc⟩
          have hHz : m8.cell? ⟨c1, o1 + i * 3, none⟩ = some (.bool n1) ∧ m8.cell? ⟨c1, o1 + i * 3 + 1, none⟩ = some (.slice a10 a11 a12) ∧ m8.cell? ⟨c1, o1 + i * 3 + 2, none⟩ = some (.slice a13 a14 a15) ∧ m8.cell? ⟨c2, o2 + i * 3, none⟩ = some (.bool n2) ∧ m8.cell? ⟨c2, o2 + i * 3 + 1, none⟩ = some (.slice a20 a21 a22) ∧ m8.cell? ⟨c2, o2 + i * 3 + 2, none⟩ = some (.slice a23 a24 a25) ∧ m8.cell? ⟨c3, o3 + i * 3, none⟩ = some (.bool n3) ∧ m8.cell? ⟨c3, o3 + i * 3 + 1, none⟩ = some (.slice a30 a31 a32) ∧ m8.cell? ⟨c3, o3 + i * 3 + 2, none⟩ = some (.slice a33 a34 a35) ∧ m8.cell? ⟨c4, o4 + i * 3, none⟩ = some (.bool n4) ∧ m8.cell? ⟨c4, o4 + i * 3 + 1, none⟩ = some (.slice a40 a41 a42) ∧ m8.cell? ⟨c4, o4 + i * 3 + 2, none⟩ = some (.slice a43 a44 a45) ∧ m8.cell? ⟨c5, o5 + i, none⟩ = some (.int .i64 zx) ∧ m8.cell? ⟨c6, o6 + i, none⟩ = some (.int .i64 zy) := ⟨(hbc.cell (p := ⟨c1, o1 + i * 3, none⟩) (Nat.lt_of_lt_of_le hc1 hB.size)).trans hHeld.1, (hbc.cell (p := ⟨c1, o1 + i * 3 + 1, none⟩) (Nat.lt_of_lt_of_le hc1 hB.size)).trans hHeld.2.1, (hbc.cell (p := ⟨c1, o1 + i * 3 + 2, none⟩) (Nat.lt_of_lt_of_le hc1 hB.size)).trans hHeld.2.2.1, (hbc.cell (p := ⟨c2, o2 + i * 3, none⟩) (Nat.lt_of_lt_of_le hc2 hB.size)).trans hHeld.2.2.2.1, (hbc.cell (p := ⟨c2, o2 + i * 3 + 1, none⟩) (Nat.lt_of_lt_of_le hc2 hB.size)).trans hHeld.2.2.2.2.1, (hbc.cell (p := ⟨c2, o2 + i * 3 + 2, none⟩) (Nat.lt_of_lt_of_le hc2 hB.size)).trans hHeld.2.2.2.2.2.1, (hbc.cell (p := ⟨c3, o3 + i * 3, none⟩) (Nat.lt_of_lt_of_le hc3 hB.size)).trans hHeld.2.2.2.2.2.2.1, (hbc.cell (p := ⟨c3, o3 + i * 3 + 1, none⟩) (Nat.lt_of_lt_of_le hc3 hB.size)).trans hHeld.2.2.2.2.2.2.2.1, (hbc.cell (p := ⟨c3, o3 + i * 3 + 2, none⟩) (Nat.lt_of_lt_of_le hc3 hB.size)).trans hHeld.2.2.2.2.2.2.2.2.1, (hbc.cell (p := ⟨c4, o4 + i * 3, none⟩) (Nat.lt_of_lt_of_le hc4 hB.size)).trans hHeld.2.2.2.2.2.2.2.2.2.1, (hbc.cell (p := ⟨c4, o4 + i * 3 + 1, none⟩) (Nat.lt_of_lt_of_le hc4 hB.size)).trans hHeld.2.2.2.2.2.2.2.2.2.2.1, (hbc.cell (p := ⟨c4, o4 + i * 3 + 2, none⟩) (Nat.lt_of_lt_of_le hc4 hB.size)).trans hHeld.2.2.2.2.2.2.2.2.2.2.2.1, (hbc.cell (p := ⟨c5, o5 + i, none⟩) (Nat.lt_of_lt_of_le hc5 hB.size)).trans hHeld.2.2.2.2.2.2.2.2.2.2.2.2.1, (hbc.cell (p := ⟨c6, o6 + i, none⟩) (Nat.lt_of_lt_of_le hc6 hB.size)).trans hHeld.2.2.2.2.2.2.2.2.2.2.2.2.2⟩
          replace hFa := hFa.below hbc
          replace hFb := hFb.below hbc
          replace hFc := hFc.below hbc
          replace hFd := hFd.below hbc
          replace hB := hB.trans (hbc.mono hB.size)
          clear hbc
          rw [sgn_self]
          go_wp2_with fail
          refine hK.out _ _ ?_ (fun hHeld => ?_)
          · (try dsimp only)
            exact hHz
          clear hK K hHz
          try simp only [Act.put, List.setIfInBounds_toArray, List.set_cons_zero, List.set_cons_succ]
          refine hT 10 hHeld ?_
          refine hT 11 hHeld ?_
          refine hT 12 hHeld ?_
          refine hT 13 hHeld ?_
          refine hT 14 hHeld ?_
          refine hT 15 hHeld ?_
          refine hT 16 hHeld ?_
          refine hT 17 hHeld ?_
          refine hT 18 hHeld ?_
          refine hT 19 hHeld ?_
          refine hCall (i := 20) rfl (by kernel_rfl) (by rfl) (fun K hK => ?_)
          go_simp
          refine (whole_any zy _ (by omega) (by omega)).mono ?_
          rintro e m9 ⟨v9, rfl, hF9, hbc⟩
          have hHz : m9.cell? ⟨c1, o1 + i * 3, none⟩ = some (.bool n1) ∧ m9.cell? ⟨c1, o1 + i * 3 + 1, none⟩ = some (.slice a10 a11 a12) ∧ m9.cell? ⟨c1, o1 + i * 3 + 2, none⟩ = some (.slice a13 a14 a15) ∧ m9.cell? ⟨c2, o2 + i * 3, none⟩ = some (.bool n2) ∧ m9.cell? ⟨c2, o2 + i * 3 + 1, none⟩ = some (.slice a20 a21 a22) ∧ m9.cell? ⟨c2, o2 + i * 3 + 2, none⟩ = some (.slice a23 a24 a25) ∧ m9.cell? ⟨c3, o3 + i * 3, none⟩ = some (.bool n3) ∧ m9.cell? ⟨c3, o3 + i * 3 + 1, none⟩ = some (.slice a30 a31 a32) ∧ m9.cell? ⟨c3, o3 + i * 3 + 2, none⟩ = some (.slice a33 a34 a35) ∧ m9.cell? ⟨c4, o4 + i * 3, none⟩ = some (.bool n4) ∧ m9.cell? ⟨c4, o4 + i * 3 + 1, none⟩ = some (.slice a40 a41 a42) ∧ m9.cell? ⟨c4, o4 + i * 3 + 2, none⟩ = some (.slice a43 a44 a45) ∧ m9.cell? ⟨c5, o5 + i, none⟩ = some (.int .i64 zx) ∧ m9.cell? ⟨c6, o6 + i, none⟩ = some (.int .i64 zy) := ⟨(hbc.cell (p := ⟨c1, o1 + i * 3, none⟩) (Nat.lt_of_lt_of_le hc1 hB.size)).trans hHeld.1, (hbc.cell (p := ⟨c1, o1 + i * 3 + 1, none⟩) (Nat.lt_of_lt_of_le hc1 hB.size)).trans hHeld.2.1, (hbc.cell (p := ⟨c1, o1 + i * 3 + 2, none⟩) (Nat.lt_of_lt_of_le hc1 hB.size)).trans hHeld.2.2.1, (hbc.cell (p := ⟨c2, o2 + i * 3, none⟩) (Nat.lt_of_lt_of_le hc2 hB.size)).trans hHeld.2.2.2.1, (hbc.cell (p := ⟨c2, o2 + i * 3 + 1, none⟩) (Nat.lt_of_lt_of_le hc2 hB.size)).trans hHeld.2.2.2.2.1, (hbc.cell (p := ⟨c2, o2 + i * 3 + 2, none⟩) (Nat.lt_of_lt_of_le hc2 hB.size)).trans hHeld.2.2.2.2.2.1, (hbc.cell (p := ⟨c3, o3 + i * 3, none⟩) (Nat.lt_of_lt_of_le hc3 hB.size)).trans hHeld.2.2.2.2.2.2.1, (hbc.cell (p := ⟨c3, o3 + i * 3 + 1, none⟩) (Nat.lt_of_lt_of_le hc3 hB.size)).trans hHeld.2.2.2.2.2.2.2.1, (hbc.cell (p := ⟨c3, o3 + i * 3 + 2, none⟩) (Nat.lt_of_lt_of_le hc3 hB.size)).trans hHeld.2.2.2.2.2.2.2.2.1, (hbc.cell (p := ⟨c4, o4 + i * 3, none⟩) (Nat.lt_of_lt_of_le hc4 hB.size)).trans hHeld.2.2.2.2.2.2.2.2.2.1, (hbc.cell (p := ⟨c4, o4 + i * 3 + 1, none⟩) (Nat.lt_of_lt_of_le hc4 hB.size)).trans hHeld.2.2.2.2.2.2.2.2.2.2.1, (hbc.cell (p := ⟨c4, o4 + i * 3 + 2, none⟩) (Nat.lt_of_lt_of_le hc4 hB.size)).trans hHeld.2.2.2.2.2.2.2.2.2.2.2.1, (hbc.cell (p := ⟨c5, o5 + i, none⟩) (Nat.lt_of_lt_of_le hc5 hB.size)).trans hHeld.2.2.2.2.2.2.2.2.2.2.2.2.1, (hbc.cell (p := ⟨c6, o6 + i, none⟩) (Nat.lt_of_lt_of_le hc6 hB.size)).trans hHeld.2.2.2.2.2.2.2.2.2.2.2.2.2⟩
          replace hFa := hFa.below hbc
          replace hFb := hFb.below hbc
          replace hFc := hFc.below hbc
          replace hFd := hFd.below hbc
          replace hB := hB.trans (hbc.mono hB.size)
          clear hbc
          go_wp2_with fail
          refine hK.out _ _ ?_ (fun hHeld => ?_)
          · (try dsimp only)
            exact hHz
          clear hK K hHz
          try simp only [Act.put, List.setIfInBounds_toArray, List.set_cons_zero, List.set_cons_succ]
          refine hCall (i := 21) rfl (by kernel_rfl) (by rfl) (fun K hK => ?_)
          go_simp
          refine (qcmp_any 7 2 _ _ _ _ m9 hFb.ct hF9.ct (by decide) (by decide) (by decide) (by decide)).mono ?_
          rintro e ma ⟨rfl, hbc⟩
          have hHz : ma.cell? ⟨c1, o1 + i * 3, none⟩ = some (.bool n1) ∧ ma.cell? ⟨c1, o1 + i * 3 + 1, none⟩ = some (.slice a10 a11 a12) ∧ ma.cell? ⟨c1, o1 + i * 3 + 2, none⟩ = some (.slice a13 a14 a15) ∧ ma.cell? ⟨c2, o2 + i * 3, none⟩ = some (.bool n2) ∧ ma.cell? ⟨c2, o2 + i * 3 + 1, none⟩ = some (.slice a20 a21 a22) ∧ ma.cell? ⟨c2, o2 + i * 3 + 2, none⟩ = some (.slice a23 a24 a25) ∧ ma.cell? ⟨c3, o3 + i * 3, none⟩ = some (.bool n3) ∧ ma.cell? ⟨c3, o3 + i * 3 + 1, none⟩ = some (.slice a30 a31 a32) ∧ ma.cell? ⟨c3, o3 + i * 3 + 2, none⟩ = some (.slice a33 a34 a35) ∧ ma.cell? ⟨c4, o4 + i * 3, none⟩ = some (.bool n4) ∧ ma.cell? ⟨c4, o4 + i * 3 + 1, none⟩ = some (.slice a40 a41 a42) ∧ ma.cell? ⟨c4, o4 + i * 3 + 2, none⟩ = some (.slice a43 a44 a45) ∧ ma.cell? ⟨c5, o5 + i, none⟩ = some (.int .i64 zx) ∧ ma.cell? ⟨c6, o6 + i, none⟩ = some (.int .i64 zy) := ⟨(hbc.cell (p := ⟨c1, o1 + i * 3, none⟩) (Nat.lt_of_lt_of_le hc1 hB.size)).trans hHeld.1, (hbc.cell (p := ⟨c1, o1 + i * 3 + 1, none⟩) (Nat.lt_of_lt_of_le hc1 hB.size)).trans hHeld.2.1, (hbc.cell (p := ⟨c1, o1 + i * 3 + 2, none⟩) (Nat.lt_of_lt_of_le hc1 hB.size)).trans hHeld.2.2.1, (hbc.cell (p := ⟨c2, o2 + i * 3, none⟩) (Nat.lt_of_lt_of_le hc2 hB.size)).trans hHeld.2.2.2.1, (hbc.cell (p := ⟨c2, o2 + i * 3 + 1, none⟩) (Nat.lt_of_lt_of_le hc2 hB.size)).trans hHeld.2.2.2.2.1, (hbc.cell (p := ⟨c2, o2 + i * 3 + 2, none⟩) (Nat.lt_of_lt_of_le hc2 hB.size)).trans hHeld.2.2.2.2.2.1, (hbc.cell (p := ⟨c3, o3 + i * 3, none⟩) (Nat.lt_of_lt_of_le hc3 hB.size)).trans hHeld.2.2.2.2.2.2.1, (hbc.cell (p := ⟨c3, o3 + i * 3 + 1, none⟩) (Nat.lt_of_lt_of_le hc3 hB.size)).trans hHeld.2.2.2.2.2.2.2.1, (hbc.cell (p := ⟨c3, o3 + i * 3 + 2, none⟩) (Nat.lt_of_lt_of_le hc3 hB.size)).trans hHeld.2.2.2.2.2.2.2.2.1, (hbc.cell (p := ⟨c4, o4 + i * 3, none⟩) (Nat.lt_of_lt_of_le hc4 hB.size)).trans hHeld.2.2.2.2.2.2.2.2.2.1, (hbc.cell (p := ⟨c4, o4 + i * 3 + 1, none⟩) (Nat.lt_of_lt_of_le hc4 hB.size)).trans hHeld.2.2.2.2.2.2.2.2.2.2.1, (hbc.cell (p := ⟨c4, o4 + i * 3 + 2, none⟩) (Nat.lt_of_lt_of_le hc4 hB.size)).trans hHeld.2.2.2.2.2.2.2.2.2.2.2.1, (hbc.cell (p := ⟨c5, o5 + i, none⟩) (Nat.lt_of_lt_of_le hc5 hB.size)).trans hHeld.2.2.2.2.2.2.2.2.2.2.2.2.1, (hbc.cell (p := ⟨c6, o6 + i, none⟩) (Nat.lt_of_lt_of_le hc6 hB.size)).trans hHeld.2.2.2.2.2.2.2.2.2.2.2.2.2⟩
          replace hFa := hFa.below hbc
          replace hFb := hFb.below hbc
          replace hFc := hFc.below hbc
          replace hFd := hFd.below hbc
          replace hB := hB.trans (hbc.mono hB.size)
          clear hbc
          rw [sgn_self]
          go_wp2_with fail
          refine hK.out _ _ ?_ (fun hHeld => ?_)
          · (try dsimp only)
            exact hHz
          clear hK K hHz
          try simp only [Act.put, List.setIfInBounds_toArray, List.set_cons_zero, List.set_cons_succ]
          refine hT 22 hHeld ?_
          refine hT 23 hHeld ?_
          refine hT 24 hHeld ?_
          refine hT 25 hHeld ?_
          refine hT 26 hHeld ?_
          refine hT 27 hHeld ?_
          refine hT 28 hHeld ?_
          refine hCall (i := 29) rfl (by kernel_rfl) (by rfl) (fun K hK => ?_)
          go_simp
          refine (qsign_any 7 _ _ _ hFc.ct (by decide) (by decide)).mono ?_
          rintro e mb ⟨rfl, hbc⟩
          have hHz : mb.cell? ⟨c1, o1 + i * 3, none⟩ = some (.bool n1) ∧ mb.cell? ⟨c1, o1 + i * 3 + 1, none⟩ = some (.slice a10 a11 a12) ∧ mb.cell? ⟨c1, o1 + i * 3 + 2, none⟩ = some (.slice a13 a14 a15) ∧ mb.cell? ⟨c2, o2 + i * 3, none⟩ = some (.bool n2) ∧ mb.cell? ⟨c2, o2 + i * 3 + 1, none⟩ = some (.slice a20 a21 a22) ∧ mb.cell? ⟨c2, o2 + i * 3 + 2, none⟩ = some (.slice a23 a24 a25) ∧ mb.cell? ⟨c3, o3 + i * 3, none⟩ = some (.bool n3) ∧ mb.cell? ⟨c3, o3 + i * 3 + 1, none⟩ = some (.slice a30 a31 a32) ∧ mb.cell? ⟨c3, o3 + i * 3 + 2, none⟩ = some (.slice a33 a34 a35) ∧ mb.cell? ⟨c4, o4 + i * 3, none⟩ = some (.bool n4) ∧ mb.cell? ⟨c4, o4 + i * 3 + 1, none⟩ = some (.slice a40 a41 a42) ∧ mb.cell? ⟨c4, o4 + i * 3 + 2, none⟩ = some (.slice a43 a44 a45) ∧ mb.cell? ⟨c5, o5 + i, none⟩ = some (.int .i64 zx) ∧ mb.cell? ⟨c6, o6 + i, none⟩ = some (.int .i64 zy) := ⟨(hbc.cell (p := ⟨c1, o1 + i * 3, none⟩) (Nat.lt_of_lt_of_le hc1 hB.size)).trans hHeld.1, (hbc.cell (p := ⟨c1, o1 + i * 3 + 1, none⟩) (Nat.lt_of_lt_of_le hc1 hB.size)).trans hHeld.2.1, (hbc.cell (p := ⟨c1, o1 + i * 3 + 2, none⟩) (Nat.lt_of_lt_of_le hc1 hB.size)).trans hHeld.2.2.1, (hbc.cell (p := ⟨c2, o2 + i * 3, none⟩) (Nat.lt_of_lt_of_le hc2 hB.size)).trans hHeld.2.2.2.1, (hbc.cell (p := ⟨c2, o2 + i * 3 + 1, none⟩) (Nat.lt_of_lt_of_le hc2 hB.size)).trans hHeld.2.2.2.2.1, (hbc.cell (p := ⟨c2, o2 + i * 3 + 2, none⟩) (Nat.lt_of_lt_of_le hc2 hB.size)).trans hHeld.2.2.2.2.2.1, (hbc.cell (p := ⟨c3, o3 + i * 3, none⟩) (Nat.lt_of_lt_of_le hc3 hB.size)).trans hHeld.2.2.2.2.2.2.1, (hbc.cell (p := ⟨c3, o3 + i * 3 + 1, none⟩) (Nat.lt_of_lt_of_le hc3 hB.size)).trans hHeld.2.2.2.2.2.2.2.1, (hbc.cell (p := ⟨c3, o3 + i * 3 + 2, none⟩) (Nat.lt_of_lt_of_le hc3 hB.size)).trans hHeld.2.2.2.2.2.2.2.2.1, (hbc.cell (p := ⟨c4, o4 + i * 3, none⟩) (Nat.lt_of_lt_of_le hc4 hB.size)).trans hHeld.2.2.2.2.2.2.2.2.2.1, (hbc.cell (p := ⟨c4, o4 + i * 3 + 1, none⟩) (Nat.lt_of_lt_of_le hc4 hB.size)).trans hHeld.2.2.2.2.2.2.2.2.2.2.1, (hbc.cell (p := ⟨c4, o4 + i * 3 + 2, none⟩) (Nat.lt_of_lt_of_le hc4 hB.size)).trans hHeld.2.2.2.2.2.2.2.2.2.2.2.1, (hbc.cell (p := ⟨c5, o5 + i, none⟩) (Nat.lt_of_lt_of_le hc5 hB.size)).trans hHeld.2.2.2.2.2.2.2.2.2.2.2.2.1, (hbc.cell (p := ⟨c6, o6 + i, none⟩) (Nat.lt_of_lt_of_le hc6 hB.size)).trans hHeld.2.2.2.2.2.2.2.2.2.2.2.2.2⟩
          replace hFa := hFa.below hbc
          replace hFb := hFb.below hbc
          replace hFc := hFc.below hbc
          replace hFd := hFd.below hbc
          replace hB := hB.trans (hbc.mono hB.size)
          clear hbc
          rw [show sgnQ 0 = 0 from rfl]
          go_wp2_with fail
          refine hK.out _ _ ?_ (fun hHeld => ?_)
          · (try dsimp only)
            exact hHz
          clear hK K hHz
          try simp only [Act.put, List.setIfInBounds_toArray, List.set_cons_zero, List.set_cons_succ]
          refine hT 30 hHeld ?_
          refine hT 31 hHeld ?_
          refine hT 32 hHeld ?_
          refine hT 33 hHeld ?_
          refine hT 34 hHeld ?_
          refine hT 35 hHeld ?_
          refine hT 36 hHeld ?_
          refine hCall (i := 37) rfl (by kernel_rfl) (by rfl) (fun K hK => ?_)
          go_simp
          refine (qsign_any 7 _ _ _ hFd.ct (by decide) (by decide)).mono ?_
          rintro e mc ⟨rfl, hbc⟩
          have hHz : mc.cell? ⟨c1, o1 + i * 3, none⟩ = some (.bool n1) ∧ mc.cell? ⟨c1, o1 + i * 3 + 1, none⟩ = some (.slice a10 a11 a12) ∧ mc.cell? ⟨c1, o1 + i * 3 + 2, none⟩ = some (.slice a13 a14 a15) ∧ mc.cell? ⟨c2, o2 + i * 3, none⟩ = some (.bool n2) ∧ mc.cell? ⟨c2, o2 + i * 3 + 1, none⟩ = some (.slice a20 a21 a22) ∧ mc.cell? ⟨c2, o2 + i * 3 + 2, none⟩ = some (.slice a23 a24 a25) ∧ mc.cell? ⟨c3, o3 + i * 3, none⟩ = some (.bool n3) ∧ mc.cell? ⟨c3, o3 + i * 3 + 1, none⟩ = some (.slice a30 a31 a32) ∧ mc.cell? ⟨c3, o3 + i * 3 + 2, none⟩ = some (.slice a33 a34 a35) ∧ mc.cell? ⟨c4, o4 + i * 3, none⟩ = some (.bool n4) ∧ mc.cell? ⟨c4, o4 + i * 3 + 1, none⟩ = some (.slice a40 a41 a42) ∧ mc.cell? ⟨c4, o4 + i * 3 + 2, none⟩ = some (.slice a43 a44 a45) ∧ mc.cell? ⟨c5, o5 + i, none⟩ = some (.int .i64 zx) ∧ mc.cell? ⟨c6, o6 + i, none⟩ = some (.int .i64 zy) := ⟨(hbc.cell (p := ⟨c1, o1 + i * 3, none⟩) (Nat.lt_of_lt_of_le hc1 hB.size)).trans hHeld.1, (hbc.cell (p := ⟨c1, o1 + i * 3 + 1, none⟩) (Nat.lt_of_lt_of_le hc1 hB.size)).trans hHeld.2.1, (hbc.cell (p := ⟨c1, o1 + i * 3 + 2, none⟩) (Nat.lt_of_lt_of_le hc1 hB.size)).trans hHeld.2.2.1, (hbc.cell (p := ⟨c2, o2 + i * 3, none⟩) (Nat.lt_of_lt_of_le hc2 hB.size)).trans hHeld.2.2.2.1, (hbc.cell (p := ⟨c2, o2 + i * 3 + 1, none⟩) (Nat.lt_of_lt_of_le hc2 hB.size)).trans hHeld.2.2.2.2.1, (hbc.cell (p := ⟨c2, o2 + i * 3 + 2, none⟩) (Nat.lt_of_lt_of_le hc2 hB.size)).trans hHeld.2.2.2.2.2.1, (hbc.cell (p := ⟨c3, o3 + i * 3, none⟩) (Nat.lt_of_lt_of_le hc3 hB.size)).trans hHeld.2.2.2.2.2.2.1, (hbc.cell (p := ⟨c3, o3 + i * 3 + 1, none⟩) (Nat.lt_of_lt_of_le hc3 hB.size)).trans hHeld.2.2.2.2.2.2.2.1, (hbc.cell (p := ⟨c3, o3 + i * 3 + 2, none⟩) (Nat.lt_of_lt_of_le hc3 hB.size)).trans hHeld.2.2.2.2.2.2.2.2.1, (hbc.cell (p := ⟨c4, o4 + i * 3, none⟩) (Nat.lt_of_lt_of_le hc4 hB.size)).trans hHeld.2.2.2.2.2.2.2.2.2.1, (hbc.cell (p := ⟨c4, o4 + i * 3 + 1, none⟩) (Nat.lt_of_lt_of_le hc4 hB.size)).trans hHeld.2.2.2.2.2.2.2.2.2.2.1, (hbc.cell (p := ⟨c4, o4 + i * 3 + 2, none⟩) (Nat.lt_of_lt_of_le hc4 hB.size)).trans hHeld.2.2.2.2.2.2.2.2.2.2.2.1, (hbc.cell (p := ⟨c5, o5 + i, none⟩) (Nat.lt_of_lt_of_le hc5 hB.size)).trans hHeld.2.2.2.2.2.2.2.2.2.2.2.2.1, (hbc.cell (p := ⟨c6, o6 + i, none⟩) (Nat.lt_of_lt_of_le hc6 hB.size)).trans hHeld.2.2.2.2.2.2.2.2.2.2.2.2.2⟩
          replace hFa := hFa.below hbc
          replace hFb := hFb.below hbc
          replace hFc := hFc.below hbc
          replace hFd := hFd.below hbc
          replace hB := hB.trans (hbc.mono hB.size)
          clear hbc
          rw [show sgnQ 0 = 0 from rfl]
          go_wp2_with fail
          refine hK.out _ _ ?_ (fun hHeld => ?_)
          · (try dsimp only)
            exact hHz
          clear hK K hHz
          try simp only [Act.put, List.setIfInBounds_toArray, List.set_cons_zero, List.set_cons_succ]
          refine hT 38 hHeld ?_
          refine hT 39 hHeld ?_
          refine wpAnyH_done (by kernel_rfl) ?_ _
          clear hHeld
          go_wp2
          go_roundw
          case rel => exact ⟨i + 1, by omega, by go_num, hB⟩
          case measure => simp [intOf]; omega
        · obtain rfl : i = k := by omega
          have g6 : ¬ (i : Int) < (i : Int) := by omega
          have HBY : Hid (Below w.heap.size w wr) := HBX.out.trans (hB.mono HBX.out.size)
          go_wp2
          go_ret
          exact ⟨rfl, HBY.out⟩

end Go.Proofs.YthoildjecoppgaaDoor
