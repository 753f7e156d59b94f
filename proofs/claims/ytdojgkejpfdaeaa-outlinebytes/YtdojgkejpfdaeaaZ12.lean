/-
  outline.pointsOf: the walk.
  outline.fields, partsFormed, contoursFormed, Formed: the walks.
-/
import Derived.Test.YtdojgkejpfdaeaaZ11
namespace Go.Proofs.Ytdojgkejpfdaeaa
open Go.RowKit Go.Maps
set_option linter.unusedSimpArgs false
set_option linter.unusedVariables false

set_option maxHeartbeats 4000000 in
set_option maxRecDepth 100000 in
theorem cpointsOf_any (n : Nat) (g : Nat) (pa : Option Addr) (pc : Nat) (xs : List Nat) (p : Nat) (w : World) (h : Sc 63 w g pa pc xs p) (hp : p ≤ 100000) (hn : n ≤ 80) (hpb : ∀ b o, pa = some ⟨b, o, none⟩ → xs ≠ [] → b < w.heap.size) :
    Calls Try.prog 56 #[pg g, .int .i64 (n : Int)] w fun e w' => ∃ a' c', e = .returned (.slice a' (ptK n (xs.drop p)).length c') ∧ Gr PnE (fun _ => False) w' a' c' (ptK n (xs.drop p)) ∧ (∀ b o, a' = some ⟨b, o, none⟩ → w.heap.size ≤ b ∧ b < w'.heap.size) ∧ Kp g w w' := by
  have hgl : g < w.heap.size := h.bk.lt
  have hby := h.rb.lim.drop p
  have HB1 : Hid (Byt (fgK n (xs.drop p)).2) := fgK_byt hby
  have HB2 : Hid (Byt (xsK n (xs.drop p)).2) := xsK_byt hby
  have HBF : Hid (Byt (fsK n (xs.drop p))) := fsK_byt hby
  have HFL : Hid ((fsK n (xs.drop p)).length = n) := fsK_len _ _
  have HPA : Hid (∀ (L : List Pn), L.length = n → (∀ i, i < n → L.getD i Pn.none = pYk (xsK n (xs.drop p)).1 (ysK n (xs.drop p)).1 (fsK n (xs.drop p)) n i) → L = ptK n (xs.drop p)) := fun L => pts_all
  have HPL : Hid ((ptK n (xs.drop p)).length = n) := ptK_len _ _
  have HXE : Hid (xsK n (xs.drop p) = rdD 2 16 (fsK n (xs.drop p)) (fgK n (xs.drop p)).2 0) := rfl
  have HYE : Hid (ysK n (xs.drop p) = rdD 4 32 (fsK n (xs.drop p)) (xsK n (xs.drop p)).2 0) := rfl
  have htf := ctakeFlags_any n g pa pc xs p w h hp hn hpb
  clear h hby
  generalize ptK n (xs.drop p) = PT at *
  generalize ysK n (xs.drop p) = YY at *
  generalize xsK n (xs.drop p) = XX at *
  generalize fsK n (xs.drop p) = fs at *
  generalize fgK n (xs.drop p) = FG at *
  have HNL : Hid ((nI fs).length = n) := by show _ = _; rw [nI_len]; exact HFL.out
  rw [HNL.out] at htf
  go_enter Try.func56, Try.ntmps56
  go_wp2_with fail
  refine htf.mono ?_
  rintro e u1 ⟨a5, c5, rfl, hri, hbk, q, hS, hq, hqp, hK⟩
  clear htf
  obtain ⟨i0, hi0, hz0, hz1, hz2⟩ := info_parts info_pn
  obtain ⟨u2, hmk, hown, hgrow⟩ := run_makeSlice_full u1 u1.heap.size 39 38 i0 _ 3 Try.underlying39 hi0 hz0 hz1 .i64 .i64 n (by omega) (by rw [hz2]; omega) (by unfold maxLen; omega) (Nat.le_refl _)
  have hG0 : Gw PnE 38 u1.heap.size (fun _ => False) u2 (.slice (some ⟨u1.heap.size, 0, none⟩) n n) (List.replicate n Pn.none) := Gw.zeros hown rfl (by decide) (PnE_rep.2 ⟨rfl, ⟨by decide, by decide⟩, ⟨by decide, by decide⟩⟩)
  have hB2 : Below u1.heap.size u1 u2 := (Below.refl _ _).grown hgrow (Nat.le_refl _) (fun k hk => by cases hk)
  have hS2 := hS.below hB2
  have HRI : Hid (Ri u1 a5 c5 (nI fs)) := hri
  have HBK : Hid (∀ b o, a5 = some ⟨b, o, none⟩ → b < u1.heap.size ∧ b ≠ g) := fun b o e => ⟨(hbk b o e).2, by have := (hbk b o e).1; omega⟩
  have HPB : Hid (∀ b o, pa = some ⟨b, o, none⟩ → xs ≠ [] → b ≠ u1.heap.size) := fun b o e hne => by have := hpb b o e hne; have := hK.size; omega
  have HS2 : Hid (Sc 63 u2 g pa pc xs q) := hS2
  have HK2 : Hid (Kp g u1 u2) := Kp.of hB2
  have HQ : Hid (xs.drop q = FG.2) := hq
  have HG0 : Hid (Gw PnE 38 u1.heap.size (fun _ => False) u2 (.slice (some ⟨u1.heap.size, 0, none⟩) n n) (List.replicate n Pn.none)) := hG0
  have HKW : Hid (Kp g w u1) := hK
  have hgP : g < u1.heap.size := hS.bk.lt
  have HSZ : Hid (w.heap.size ≤ u1.heap.size) := hK.size
  clear hi0 hz0 hz1 hz2 hown hgrow hB2 hS2 hS hri hbk hq hG0 hK hpb
  go_wp2
  clear hmk
  obtain ⟨gP, hgPe⟩ : ∃ gP, u1.heap.size = gP := ⟨_, rfl⟩
  have hgPl : u1.heap.size ≤ gP := by omega
  have hgne : g ≠ gP := by omega
  rw [hgPe] at HG0 HPB ⊢
  have HGP : Hid (w.heap.size ≤ gP ∧ gP < u2.heap.size) := ⟨by have := HSZ.out; omega, by have := (HG0.out.lo (g := gP) rfl).2; exact this⟩
  clear hgPe hgP
  go_loopw [7, 20] (fun xv i wr => ∃ (k q1 : Nat) (x : Int) (L : List Pn), k ≤ n ∧ i = .int .i64 k ∧ xv = .int .i64 x ∧ x = (if k = 0 then 0 else XX.1.getD (k - 1) 0) ∧ L.length = n ∧ (∀ i, i < n → L.getD i Pn.none = pXk XX.1 fs k i) ∧ Gw PnE 38 gP (fun _ => False) wr (.slice (some ⟨gP, 0, none⟩) n n) L ∧ Sc 63 wr g pa pc xs q1 ∧ q1 ≤ q + 2 * k ∧ xs.drop q1 = rdR 2 16 fs FG.2 0 k ∧ Kp g u1 wr) (fun _ i _ => n - (intOf i).toNat)
  case atStart => exact ⟨0, q, 0, List.replicate n Pn.none, Nat.zero_le _, rfl, rfl, rfl, List.length_replicate, (fun i hi => by simp [List.getD, hi, pXk]), HG0.out, HS2.out, by omega, by rw [rdR_zero]; exact HQ.out, HK2.out⟩
  case round =>
    clear HG0 HS2 HK2
    obtain ⟨k, q1, x, L, hk, rfl, rfl, hx, hLl, hL, hG, hS, hq1, hr, hK⟩ := hrel
    by_cases hkn : k < n
    · obtain ⟨b5, o5, ea, hb5, d0⟩ := (Ri.kept HRI.out hK HBK.out).get k (by rw [HNL.out]; exact hkn)
      rw [nI_get] at d0
      have hfb : fs.getD k 0 < 256 := HBF.out.getD k
      obtain ⟨hat1, hat2⟩ := rdD_at 2 16 fs FG.2 0 k (by rw [HFL.out]; exact hkn)
      have hxl := rdD_le (sh := 2) (sm := 16) (fs := fs) HB1.out k (by rw [HFL.out]; exact hkn)
      rw [← HXE.out] at hat1 hxl
      rw [← hr] at hat1 hat2
      have hst := cstepX_any (fs.getD k 0) g pa pc xs q1 wr hS (by omega) hfb
      have hon : onK fs k = decide (fs.getD k 0 % 2 = 1) := rfl
      have hdl := dfR_le (fs.getD k 0) 2 16 (hS.rb.lim.drop q1)
      have hand := and_1n hfb
      subst ea
      obtain ⟨f, hf⟩ : ∃ f, fs.getD k 0 = f := ⟨_, rfl⟩
      rw [hf] at d0 hat1 hat2 hst hon hfb hdl hand
      rw [← hx] at hat1
      have HAT2 : Hid (_) := hat2
      obtain ⟨dd, hdd⟩ : ∃ d, (dfR f 2 16 (xs.drop q1)).1 = d := ⟨_, rfl⟩
      rw [hdd] at hat1 hst hdl
      obtain ⟨x2, hx2⟩ : ∃ z, x + dd = z := ⟨_, rfl⟩
      rw [hx2] at hat1
      have HX2 : Hid (XX.1.getD k 0 = x2) := hat1
      rw [hat1] at hxl
      have hx2b : -9223372036854775808 ≤ x2 ∧ x2 ≤ 9223372036854775807 := by omega
      have hx2i : I64 x2 := hx2b
      have i1 : (0 : Int) ≤ (k : Int) := by omega
      have i2 : (k : Int) < (n : Int) := by omega
      have HL : Hid (∀ i, i < n → L.getD i Pn.none = pXk XX.1 fs k i) := hL
      have HLK : Hid (L.getD k Pn.none = Pn.none) := by show _ = _; rw [hL k hkn]; unfold pXk; rw [if_neg (by omega)]
      have HON : Hid (onK fs k = decide (f % 2 = 1)) := hon
      clear hr hat1 hat2 hx hf hdd hL hxl hon
      go_wp2_with fail
      refine hst.mono ?_
      rintro e v1 ⟨q2, rfl, hS1, hq2, hq2l, hK1⟩
      have hG1 := hG.kp hS.bk (by decide) hK1
      have hK2 := hK.trans hK1
      have HQ2 : Hid (xs.drop q2 = rdR 2 16 fs FG.2 0 (k + 1)) := by show _ = _; rw [hq2, HAT2.out]
      clear hst hS hK hK1 hG hq2 d0
      obtain ⟨sx, _, so, fz, c0, c1, c2⟩ := hG1.pnSet (k := k) (by rw [hLl]; exact hkn)
      have hGa := sx x2 hx2i
      obtain ⟨_, _, so2, fz2, e0, e1, e2⟩ := hGa.pnSet (k := k) (by rw [List.length_set, hLl]; exact hkn)
      rw [HLK.out] at c0 c1 c2
      have hkL : k < L.length := by rw [hLl]; exact hkn
      have hsel : (L.set k ⟨x2, (L.getD k Pn.none).y, (L.getD k Pn.none).on⟩).getD k Pn.none = ⟨x2, 0, false⟩ := by rw [getD_set' hkL, if_pos rfl, HLK.out]; rfl
      rw [hsel] at e0 e1 e2 so2
      dsimp only at so2 e0 e1 e2
      have HFIN : Hid (∀ o : Bool, o = decide (f % 2 = 1) → ∀ i, i < n → ((L.set k ⟨x2, (L.getD k Pn.none).y, (L.getD k Pn.none).on⟩).set k ⟨x2, 0, o⟩).getD i Pn.none = pXk XX.1 fs (k + 1) i) := fun o ho i hi => by
        rw [getD_set' (by rw [List.length_set]; exact hkL), getD_set' hkL]
        by_cases hik : i = k
        · rw [if_pos hik, hik]
          unfold pXk
          rw [if_pos (by omega), HX2.out, HON.out, ho]
        · rw [if_neg hik, if_neg hik, HL.out i hi]
          unfold pXk
          by_cases h1 : i < k
          · rw [if_pos h1, if_pos (by omega)]
          · rw [if_neg h1, if_neg (by omega)]
      have HS2 : Hid (∀ o : Bool, Sc 63 ((v1.setCell ⟨gP, k * 3, none⟩ (.int .i64 x2)).setCell ⟨gP, k * 3 + 2, none⟩ (.bool o)) g pa pc xs q2) := fun o => (hS1.other _ _ hgne HPB.out).other _ _ hgne HPB.out
      have HKK : Hid (∀ o : Bool, Kp g u1 ((v1.setCell ⟨gP, k * 3, none⟩ (.int .i64 x2)).setCell ⟨gP, k * 3 + 2, none⟩ (.bool o))) := fun o => (hK2.other _ _ hgPl).other _ _ hgPl
      have HGG : Hid (_) := so2
      have HLL : Hid (∀ o : Bool, ((L.set k ⟨x2, (L.getD k Pn.none).y, (L.getD k Pn.none).on⟩).set k ⟨x2, 0, o⟩).length = n) := fun o => by rw [List.length_set, List.length_set, hLl]
      have hfz0 := fz (k * 3)
      have hfz2 := fz2 (k * 3 + 2)
      have hfz3 := fz (k * 3 + 2)
      have hXk : x2 = (if k + 1 = 0 then 0 else XX.1.getD (k + 1 - 1) 0) := by rw [if_neg (by omega), Nat.add_sub_cancel, HX2.out]
      have HXK : Hid (_) := hXk
      clear sx so so2 fz fz2 hGa hG1 hS1 hK2 hsel hXk HL HLK hLl hkL HAT2 hdl hx2i
      by_cases ho : f % 2 = 1
      · rw [if_pos ho] at hand
        have HO : Hid (true = decide (f % 2 = 1)) := (decide_eq_true ho).symm
        clear ho
        go_wp2
        go_roundw
        case rel => exact ⟨k + 1, q2, x2, _, by omega, by go_num, rfl, HXK.out, HLL.out true, HFIN.out true HO.out, HGG.out true, HS2.out true, by omega, HQ2.out, HKK.out true⟩
        case measure => simp [intOf]; omega
      · rw [if_neg ho] at hand
        have HO : Hid (false = decide (f % 2 = 1)) := (decide_eq_false ho).symm
        clear ho
        go_wp2
        go_roundw
        case rel => exact ⟨k + 1, q2, x2, _, by omega, by go_num, rfl, HXK.out, HLL.out false, HFIN.out false HO.out, HGG.out false, HS2.out false, by omega, HQ2.out, HKK.out false⟩
        case measure => simp [intOf]; omega
    · obtain rfl : k = n := by omega
      have g1 : ¬ (k : Int) < (k : Int) := by omega
      have hr2 : xs.drop q1 = XX.2 := by
        have := rdR_all 2 16 fs FG.2 0
        rw [HFL.out, ← HXE.out] at this
        rw [hr, this]
      have HR2 : Hid (xs.drop q1 = XX.2) := hr2
      have HL1 : Hid (∀ i, i < k → L.getD i Pn.none = pYk XX.1 YY.1 fs 0 i) := fun i hi => by
        rw [hL i hi]
        unfold pXk pYk
        rw [if_pos hi, if_neg (by omega)]
      have HG1 : Hid (Gw PnE 38 gP (fun _ => False) wr (.slice (some ⟨gP, 0, none⟩) k k) L) := hG
      have HS1 : Hid (Sc 63 wr g pa pc xs q1) := hS
      have HK1 : Hid (Kp g u1 wr) := hK
      have HLL : Hid (L.length = k) := hLl
      clear hx hLl hL hG hS hr hK hr2 hkn hk
      go_wp2
      obtain ⟨n, hnk⟩ : ∃ n, k = n := ⟨_, rfl⟩
      subst hnk
      go_loopw [8, 45] (fun yv i wr => ∃ (j q2 : Nat) (y : Int) (M : List Pn), j ≤ k ∧ i = .int .i64 j ∧ yv = .int .i64 y ∧ y = (if j = 0 then 0 else YY.1.getD (j - 1) 0) ∧ M.length = k ∧ (∀ i, i < k → M.getD i Pn.none = pYk XX.1 YY.1 fs j i) ∧ Gw PnE 38 gP (fun _ => False) wr (.slice (some ⟨gP, 0, none⟩) k k) M ∧ Sc 63 wr g pa pc xs q2 ∧ q2 ≤ q1 + 2 * j ∧ xs.drop q2 = rdR 4 32 fs XX.2 0 j ∧ Kp g u1 wr) (fun _ i _ => k - (intOf i).toNat)
      case atStart => exact ⟨0, q1, 0, L, Nat.zero_le _, rfl, rfl, rfl, HLL.out, HL1.out, HG1.out, HS1.out, by omega, by rw [rdR_zero]; exact HR2.out, HK1.out⟩
      case round =>
        clear HG1 HS1 HK1 HLL HL1
        obtain ⟨j, q2, y, M, hj, rfl, rfl, hy, hMl, hM, hG, hS, hq2, hr, hK⟩ := hrel
        by_cases hjn : j < k
        · obtain ⟨b5, o5, ea, hb5, d0⟩ := (Ri.kept HRI.out hK HBK.out).get j (by rw [HNL.out]; exact hjn)
          rw [nI_get] at d0
          have hfb : fs.getD j 0 < 256 := HBF.out.getD j
          obtain ⟨hat1, hat2⟩ := rdD_at 4 32 fs XX.2 0 j (by rw [HFL.out]; exact hjn)
          have hyl := rdD_le (sh := 4) (sm := 32) (fs := fs) HB2.out j (by rw [HFL.out]; exact hjn)
          rw [← HYE.out] at hat1 hyl
          rw [← hr] at hat1 hat2
          have hst := cstepY_any (fs.getD j 0) g pa pc xs q2 wr hS (by omega) hfb
          have hdl := dfR_le (fs.getD j 0) 4 32 (hS.rb.lim.drop q2)
          subst ea
          obtain ⟨f, hf⟩ : ∃ f, fs.getD j 0 = f := ⟨_, rfl⟩
          rw [hf] at d0 hat1 hat2 hst hfb hdl
          rw [← hy] at hat1
          have HAT2 : Hid (_) := hat2
          obtain ⟨dd, hdd⟩ : ∃ d, (dfR f 4 32 (xs.drop q2)).1 = d := ⟨_, rfl⟩
          rw [hdd] at hat1 hst hdl
          obtain ⟨y2, hy2⟩ : ∃ z, y + dd = z := ⟨_, rfl⟩
          rw [hy2] at hat1
          have HY2 : Hid (YY.1.getD j 0 = y2) := hat1
          rw [hat1] at hyl
          have hy2b : -9223372036854775808 ≤ y2 ∧ y2 ≤ 9223372036854775807 := by omega
          have hy2i : I64 y2 := hy2b
          have i1 : (0 : Int) ≤ (j : Int) := by omega
          have i2 : (j : Int) < (k : Int) := by omega
          have HM : Hid (∀ i, i < k → M.getD i Pn.none = pYk XX.1 YY.1 fs j i) := hM
          clear hr hat1 hat2 hy hf hdd hM hyl
          go_wp2_with fail
          refine hst.mono ?_
          rintro e v1 ⟨q3, rfl, hS1, hq3, hq3l, hK1⟩
          have hG1 := hG.kp hS.bk (by decide) hK1
          have hK2 := hK.trans hK1
          have HQ3 : Hid (xs.drop q3 = rdR 4 32 fs XX.2 0 (j + 1)) := by show _ = _; rw [hq3, HAT2.out]
          clear hst hS hK hK1 hG hq3 d0
          have hjM : j < M.length := by rw [hMl]; exact hjn
          obtain ⟨_, sy, _, fz, c0, c1, c2⟩ := hG1.pnSet (k := j) hjM
          have hGa := sy y2 hy2i
          have HFIN : Hid (∀ i, i < k → (M.set j ⟨(M.getD j Pn.none).x, y2, (M.getD j Pn.none).on⟩).getD i Pn.none = pYk XX.1 YY.1 fs (j + 1) i) := fun i hi => by
            rw [getD_set' hjM]
            by_cases hij : i = j
            · rw [if_pos hij, hij, HM.out j hjn]
              simp only [pYk, if_pos (show j < j + 1 by omega), HY2.out]
            · rw [if_neg hij, HM.out i hi]
              unfold pYk
              by_cases h1 : i < j
              · rw [if_pos h1, if_pos (by omega)]
              · rw [if_neg h1, if_neg (by omega)]
          have hS3 := hS1.other (j * 3 + 1) (.int .i64 y2) hgne HPB.out
          have hK3 := hK2.other (j * 3 + 1) (.int .i64 y2) hgPl
          have HLL : Hid ((M.set j ⟨(M.getD j Pn.none).x, y2, (M.getD j Pn.none).on⟩).length = k) := by show _ = _; rw [List.length_set, hMl]
          have hfz1 := fz (j * 3 + 1)
          have hYk : y2 = (if j + 1 = 0 then 0 else YY.1.getD (j + 1 - 1) 0) := by rw [if_neg (by omega), Nat.add_sub_cancel, HY2.out]
          have HYK : Hid (_) := hYk
          have HGA : Hid (_) := hGa
          have HS3 : Hid (_) := hS3
          have HK3 : Hid (_) := hK3
          clear sy fz hGa hG1 hS1 hK2 hYk HM hMl hjM HAT2 hdl hy2i hS3 hK3
          go_wp2
          go_roundw
          case rel => exact ⟨j + 1, q3, y2, _, by omega, by go_num, rfl, HYK.out, HLL.out, HFIN.out, HGA.out, HS3.out, by omega, HQ3.out, HK3.out⟩
          case measure => simp [intOf]; omega
        · obtain rfl : j = k := by omega
          have g2 : ¬ (j : Int) < (j : Int) := by omega
          have hME := HPA.out M hMl hM
          subst hME
          obtain ⟨a9, c9, ev, hgr, hb9⟩ := hG.slice
          have HGR : Hid (Gr PnE (fun _ => False) wr (some ⟨gP, 0, none⟩) j M) := by
            injection ev with e1 e2 e3
            subst e1 e3
            exact hgr
          have HSL : Hid (∀ b o, (some ⟨gP, 0, none⟩ : Option Addr) = some ⟨b, o, none⟩ → w.heap.size ≤ b ∧ b < wr.heap.size) := fun b o e => by
            cases e
            exact ⟨HGP.out.1, (hG.lo (g := gP) rfl).2⟩
          have HKF : Hid (Kp g w wr) := HKW.out.trans hK
          clear hG hgr hb9 ev hS hr hy hM
          go_wp2
          go_ret
          exact ⟨_, j, by first | rfl | rw [HPL.out]; rfl, HGR.out, HSL.out, HKF.out⟩

end Go.Proofs.Ytdojgkejpfdaeaa

namespace Go.Proofs.Ytdojgkejpfdaeaa
open Go.RowKit Go.Maps
set_option linter.unusedSimpArgs false
set_option linter.unusedVariables false

theorem wrap_i16' (z : Int) : IntKind.i16.wrap z = if 32768 ≤ z % 65536 then z % 65536 - 65536 else z % 65536 := by
  simp [IntKind.wrap, IntKind.bits, IntKind.signed]

set_option maxHeartbeats 400000 in
set_option maxRecDepth 100000 in
theorem wrap16_fd' (z : Int) : (IntKind.i16.wrap z != z) = !fdB z := by
  rw [wrap_i16', fdB, Bool.eq_iff_iff, bne_iff_ne, Bool.not_eq_true', decide_eq_false_iff_not]
  split <;> omega
theorem wrap64_16 (z : Int) : IntKind.i64.wrap (IntKind.i16.wrap z) = IntKind.i16.wrap z := by
  rw [wrap_i16']
  simp only [IntKind.wrap, IntKind.bits, IntKind.signed]
  split <;> (simp; omega)
theorem all_no' {α : Type} {p : α → Bool} {r : List α} {d : α} {k : Nat} (hk : k < r.length) (h : p (r.getD k d) = false) : r.all p = false := by
  rw [Bool.eq_false_iff]
  intro e
  have := List.all_eq_true.1 e (r.getD k d) (get_mem hk)
  rw [h] at this
  cases this
theorem all_yes' {α : Type} {p : α → Bool} {r : List α} {d : α} (h : ∀ j, j < r.length → p (r.getD j d) = true) : r.all p = true := by
  rw [List.all_eq_true]
  exact of_get h
theorem upto_succ {p : Nat → Prop} {k : Nat} (h : ∀ j, j < k → p j) (h1 : p k) : ∀ j, j < k + 1 → p j := fun j hj => by
  rcases Nat.lt_or_ge j k with h2 | h2
  · exact h j h2
  · rw [show j = k by omega]; exact h1

set_option maxHeartbeats 1000000 in
set_option maxRecDepth 100000 in
theorem cfields_any (a : Option Addr) (cap : Nat) (r : List Int) (w : World) (h : Ri w a cap r) :
    Calls Try.prog 18 #[.slice a r.length cap] w fun e w' => e = .returned (.bool (r.all fdB)) ∧ w = w' := by
  have k2 := h.lenB
  have HH : Hid (Ri w a cap r) := h
  clear h
  go_enter Try.func18, Try.ntmps18
  go_wp2
  go_loopw [7] (fun i wr => ∃ k : Nat, k ≤ r.length ∧ i = .int .i64 k ∧ (∀ j, j < k → fdB (r.getD j 0) = true) ∧ w = wr) (fun i _ => r.length - (intOf i).toNat)
  case atStart => exact ⟨0, Nat.zero_le _, rfl, (fun j hj => by omega), rfl⟩
  case round =>
    obtain ⟨k, hk, rfl, hok, rfl⟩ := hrel
    have HOK : Hid (∀ j, j < k → fdB (r.getD j 0) = true) := hok
    clear hok
    by_cases hkn : k < r.length
    · obtain ⟨b, off, ea, hb, d0⟩ := HH.out.at (Below.refl _ _) k hkn
      subst ea
      obtain ⟨z, hzz⟩ : ∃ z, r.getD k 0 = z := ⟨_, rfl⟩
      have HZ : Hid (r.getD k 0 = z) := hzz
      rw [hzz] at d0
      have i1 : (0 : Int) ≤ (k : Int) := by omega
      have i2 : (k : Int) < (r.length : Int) := by omega
      have hw1 := wrap64_16 z
      have hw2 := wrap16_fd' z
      clear hzz
      cases hf : fdB z with
      | false =>
        have HF : Hid (r.all fdB = false) := all_no' hkn (by rw [HZ.out]; exact hf)
        rw [hf] at hw2
        clear hf HZ HOK
        go_wp2
        go_ret
        exact ⟨rt_bool HF.out.symm, rfl⟩
      | true =>
        have HOK2 : Hid (∀ j, j < k + 1 → fdB (r.getD j 0) = true) := upto_succ HOK.out (by rw [HZ.out]; exact hf)
        rw [hf] at hw2
        clear hf HZ HOK
        go_wp2
        go_roundw
        case rel => exact ⟨k + 1, by omega, by go_num, HOK2.out, trivial⟩
        case measure => simp [intOf]; omega
    · obtain rfl : k = r.length := by omega
      have HF : Hid (r.all fdB = true) := all_yes' HOK.out
      have g1 : ¬ (r.length : Int) < (r.length : Int) := by omega
      clear HOK
      go_wp2
      go_ret
      exact ⟨rt_bool HF.out.symm, rfl⟩

/-- Two ints laid in a block. -/
theorem ri_two (w : World) (x y : Int) (hx : I64 x) (hy : I64 y) : Ri (w.alloc (.cells #[.int .i64 x, .int .i64 y] 3)) (some ⟨w.heap.size, 0, none⟩) 2 [x, y] := by
  have hN := heap_alloc_new w (.cells #[.int .i64 x, .int .i64 y] 3)
  refine ⟨fun z hz => ?_, Nat.le_refl _, by unfold maxLen; omega, .inr ⟨w.heap.size, 0, rfl, by simp, fun i hi => ?_⟩⟩
  · simp at hz
    rcases hz with rfl | rfl
    · exact hx
    · exact hy
  · match i, hi with
    | 0, _ => exact cell_of_row _ w.heap.size 0 _ _ (0, 0) hN
    | 1, _ => exact cell_of_row _ w.heap.size 1 _ _ (0, 0) hN
theorem two_all (x y : Int) : [x, y].all fdB = (fdB x && fdB y) := by simp

set_option maxHeartbeats 2000000 in
set_option maxRecDepth 100000 in
theorem cpartsF_any (S : Nat → Prop) (a : Option Addr) (cap : Nat) (l : List Pa) (w : World) (h : Gr PaE S w a cap l) :
    Calls Try.prog 32 #[.slice a l.length cap] w fun e w' => e = .returned (.bool (decide (l.length ≤ 6) && l.all paF)) ∧ Below w.heap.size w w' := by
  have k2 := h.lenB
  have HH : Hid (Gr PaE S w a cap l) := h
  clear h
  by_cases h6 : 6 < l.length
  · have HF : Hid ((decide (l.length ≤ 6) && l.all paF) = false) := by show _ = _; rw [decide_eq_false (by omega), Bool.false_and]
    have g1 : (6 : Int) < (l.length : Int) := by omega
    go_enter Try.func32, Try.ntmps32
    go_wp2
    go_ret
    exact ⟨rt_bool HF.out.symm, Below.refl _ _⟩
  have HL : Hid ((decide (l.length ≤ 6) && l.all paF) = l.all paF) := by show _ = _; rw [decide_eq_true (by omega), Bool.true_and]
  have g1 : ¬ (6 : Int) < (l.length : Int) := by omega
  go_enter Try.func32, Try.ntmps32
  go_wp2
  go_loopw [10] (fun i wr => ∃ k : Nat, k ≤ l.length ∧ i = .int .i64 k ∧ (∀ j, j < k → paF (l.getD j Pa.none) = true) ∧ Below w.heap.size w wr) (fun i _ => l.length - (intOf i).toNat)
  case atStart => exact ⟨0, Nat.zero_le _, rfl, (fun j hj => by omega), Below.refl _ _⟩
  case round =>
    obtain ⟨k, hk, rfl, hok, hB⟩ := hrel
    have HOK : Hid (∀ j, j < k → paF (l.getD j Pa.none) = true) := hok
    clear hok
    by_cases hkn : k < l.length
    · obtain ⟨b, off, ea, hb, ⟨w0, w1, w2⟩, d0, d1, d2⟩ := HH.out.pa hB k hkn
      subst ea
      have HN : Hid (paF (l.getD k Pa.none) = false → (decide (l.length ≤ 6) && l.all paF) = false) := fun hf => by rw [HL.out]; exact all_no' hkn hf
      have HY : Hid (paF (l.getD k Pa.none) = true → ∀ j, j < k + 1 → paF (l.getD j Pa.none) = true) := fun hf => upto_succ HOK.out hf
      generalize l.getD k Pa.none = p at *
      obtain ⟨g, x, y⟩ := p
      dsimp only at w0 w1 w2 d0 d1 d2
      have i1 : (0 : Int) ≤ (k : Int) := by omega
      have i2 : (k : Int) < (l.length : Int) := by omega
      clear HOK
      by_cases hg0 : g < 0
      · have HF : Hid ((decide (l.length ≤ 6) && l.all paF) = false) := HN.out (by unfold paF; rw [decide_eq_false (by show ¬ (0 ≤ g ∧ g ≤ 65535); omega), Bool.false_and])
        have g2 : decide (g < 0) = true := decide_eq_true hg0
        clear HN HY
        go_wp2
        go_ret
        exact ⟨rt_bool HF.out.symm, hB.alloc hB.size _⟩
      have g2 : decide (g < 0) = false := decide_eq_false hg0
      by_cases hg1 : 65535 < g
      · have HF : Hid ((decide (l.length ≤ 6) && l.all paF) = false) := HN.out (by unfold paF; rw [decide_eq_false (by show ¬ (0 ≤ g ∧ g ≤ 65535); omega), Bool.false_and])
        have g3 : decide (65535 < g) = true := decide_eq_true hg1
        clear HN HY
        go_wp2
        go_ret
        exact ⟨rt_bool HF.out.symm, hB.alloc hB.size _⟩
      have g3 : decide (65535 < g) = false := decide_eq_false hg1
      have hpf : paF ⟨g, x, y⟩ = (fdB x && fdB y) := by unfold paF; rw [decide_eq_true (by show 0 ≤ g ∧ g ≤ 65535; omega), Bool.true_and]
      rw [hpf] at HN HY
      obtain ⟨W, hW⟩ : ∃ W, W = (wr.alloc (.cells #[.int .i64 g, .int .i64 x, .int .i64 y] 59)).alloc (.cells #[.int .i64 x, .int .i64 y] 3) := ⟨_, rfl⟩
      have hri := ri_two (wr.alloc (.cells #[.int .i64 g, .int .i64 x, .int .i64 y] 59)) x y w1 w2
      have hsz : (wr.alloc (.cells #[.int .i64 g, .int .i64 x, .int .i64 y] 59)).heap.size = wr.heap.size + 1 := by simp
      rw [← hW, hsz] at hri
      have hbW : Below w.heap.size w W := by rw [hW]; exact (hB.alloc hB.size _).alloc (by simp; have := hB.size; omega) _
      have hfo := cfields_any _ _ _ _ hri
      rw [two_all] at hfo
      simp only [List.length_cons, List.length_nil, Nat.zero_add] at hfo
      clear hpf hri hsz
      cases hf : (fdB x && fdB y) with
      | false =>
        have HF : Hid ((decide (l.length ≤ 6) && l.all paF) = false) := HN.out hf
        rw [hf] at hfo
        clear hf HN HY
        go_wp2_with fail
        rw [← hW]
        clear hW
        refine hfo.mono ?_
        rintro e u1 ⟨rfl, rfl⟩
        clear hfo
        go_wp2
        go_ret
        exact ⟨rt_bool HF.out.symm, hbW⟩
      | true =>
        have HOK2 : Hid (∀ j, j < k + 1 → paF (l.getD j Pa.none) = true) := HY.out hf
        rw [hf] at hfo
        clear hf HN HY
        go_wp2_with fail
        rw [← hW]
        clear hW
        refine hfo.mono ?_
        rintro e u1 ⟨rfl, rfl⟩
        clear hfo
        go_wp2
        go_roundw
        case rel => exact ⟨k + 1, by omega, by go_num, HOK2.out, hbW⟩
        case measure => simp [intOf]; omega
    · obtain rfl : k = l.length := by omega
      have HF : Hid ((decide (l.length ≤ 6) && l.all paF) = true) := by show _ = _; rw [HL.out]; exact all_yes' HOK.out
      have g1 : ¬ (l.length : Int) < (l.length : Int) := by omega
      clear HOK
      go_wp2
      go_ret
      exact ⟨rt_bool HF.out.symm, hB⟩

theorem flat_take_succ {cs : List (List Pn)} {k : Nat} (hk : k < cs.length) : ((cs.take (k + 1)).flatten).length = ((cs.take k).flatten).length + (cs.getD k []).length := by
  rw [take_snoc (d := []) hk, List.flatten_append, List.length_append, List.flatten_singleton]
theorem flat_take_le (cs : List (List Pn)) (k : Nat) : ((cs.take k).flatten).length ≤ cs.flatten.length := by
  conv => rhs; rw [← List.take_append_drop k cs, List.flatten_append, List.length_append]
  omega
/-- Whether contours are formed. -/
def coF (cs : List (List Pn)) : Bool := decide (cs.length ≤ 10) && (cs.all (fun c => decide (0 < c.length)) && (decide (cs.flatten.length ≤ 80) && cs.flatten.all pnF))
theorem coF_no {cs : List (List Pn)} (h : ¬ (cs.length ≤ 10 ∧ (∀ c ∈ cs, 0 < c.length) ∧ cs.flatten.length ≤ 80 ∧ ∀ c ∈ cs, c.all pnF = true)) : coF cs = false := by
  rw [Bool.eq_false_iff]
  intro e
  unfold coF at e
  simp only [Bool.and_eq_true, decide_eq_true_iff, List.all_eq_true] at e
  refine h ⟨e.1, e.2.1, e.2.2.1, fun c hc => List.all_eq_true.2 fun p hp => e.2.2.2 p (List.mem_flatten.2 ⟨c, hc, hp⟩)⟩
theorem coF_yes {cs : List (List Pn)} (h1 : cs.length ≤ 10) (h2 : ∀ j, j < cs.length → 0 < (cs.getD j []).length ∧ (cs.getD j []).all pnF = true) (h3 : cs.flatten.length ≤ 80) : coF cs = true := by
  unfold coF
  simp only [Bool.and_eq_true, decide_eq_true_iff, List.all_eq_true]
  refine ⟨h1, fun c hc => (of_get (p := fun c => 0 < c.length ∧ c.all pnF = true) h2 c hc).1, h3, fun p hp => ?_⟩
  obtain ⟨c, hc, hpc⟩ := List.mem_flatten.1 hp
  exact List.all_eq_true.1 (of_get (p := fun c => 0 < c.length ∧ c.all pnF = true) h2 c hc).2 p hpc

set_option maxHeartbeats 4000000 in
set_option maxRecDepth 100000 in
theorem ccontF_any (S : Nat → Prop) (a : Option Addr) (cap : Nat) (cs : List (List Pn)) (w : World) (h : Gr PnE.row S w a cap cs) :
    Calls Try.prog 31 #[.slice a cs.length cap] w fun e w' => e = .returned (.bool (coF cs)) ∧ Below w.heap.size w w' := by
  have k2 := h.lenB
  have HH : Hid (Gr PnE.row S w a cap cs) := h
  have HNO : Hid (¬ (cs.length ≤ 10 ∧ (∀ c ∈ cs, 0 < c.length) ∧ cs.flatten.length ≤ 80 ∧ ∀ c ∈ cs, c.all pnF = true) → coF cs = false) := coF_no
  clear h
  by_cases h10 : 10 < cs.length
  · have HF : Hid (coF cs = false) := HNO.out (fun h => by omega)
    have g1 : (10 : Int) < (cs.length : Int) := by omega
    go_enter Try.func31, Try.ntmps31
    go_wp2
    go_ret
    exact ⟨rt_bool HF.out.symm, Below.refl _ _⟩
  have g1 : ¬ (10 : Int) < (cs.length : Int) := by omega
  go_enter Try.func31, Try.ntmps31
  go_wp2
  go_loopw [3, 13] (fun n i wr => ∃ k m : Nat, k ≤ cs.length ∧ i = .int .i64 k ∧ n = .int .i64 (m : Int) ∧ m = ((cs.take k).flatten).length ∧ m ≤ 80 ∧ (∀ j, j < k → 0 < (cs.getD j []).length ∧ (cs.getD j []).all pnF = true) ∧ Below w.heap.size w wr) (fun _ i _ => cs.length - (intOf i).toNat)
  case atStart => exact ⟨0, 0, Nat.zero_le _, rfl, rfl, rfl, by omega, (fun j hj => by omega), Below.refl _ _⟩
  case round =>
    obtain ⟨k, m, hk, rfl, rfl, hm, hm80, hok, hB⟩ := hrel
    have HOK : Hid (∀ j, j < k → 0 < (cs.getD j []).length ∧ (cs.getD j []).all pnF = true) := hok
    have HM : Hid (m = ((cs.take k).flatten).length) := hm
    clear hok hm
    by_cases hkn : k < cs.length
    · obtain ⟨b, off, a1, c1, ea, hb, d0, hrow, hlb, _⟩ := HH.out.rw hB k hkn
      subst ea
      have hmem := getL_mem' hkn
      have hst := flat_take_succ hkn
      have hle := flat_take_le cs (k + 1)
      rw [← HM.out] at hst
      have HX : Hid (∀ c, cs.getD k [] = c → 0 < c.length → c.all pnF = true → ∀ j, j < k + 1 → 0 < (cs.getD j []).length ∧ (cs.getD j []).all pnF = true) := fun c hc h1 h2 => upto_succ HOK.out (by rw [hc]; exact ⟨h1, h2⟩)
      obtain ⟨c, hc⟩ : ∃ c, cs.getD k [] = c := ⟨_, rfl⟩
      replace HX := HX.out c hc
      rw [hc] at d0 hrow hlb hmem hst
      have HM2 : Hid (m + c.length = ((cs.take (k + 1)).flatten).length) := hst.symm
      have HLE : Hid (m + c.length ≤ cs.flatten.length) := by show _ ≤ _; omega
      have HN : Hid (¬ (0 < c.length ∧ m + c.length ≤ 80 ∧ c.all pnF = true) → coF cs = false) := fun hn => HNO.out (fun hy => hn ⟨hy.2.1 c hmem, by have := HLE.out; omega, hy.2.2.2 c hmem⟩)
      have HX : Hid (0 < c.length → c.all pnF = true → ∀ j, j < k + 1 → 0 < (cs.getD j []).length ∧ (cs.getD j []).all pnF = true) := HX
      have i1 : (0 : Int) ≤ (k : Int) := by omega
      have i2 : (k : Int) < (cs.length : Int) := by omega
      clear hc hmem hst hle HOK HM HLE
      by_cases h0 : c.length = 0
      · have HF : Hid (coF cs = false) := HN.out (fun h => by omega)
        have g2 : ((c.length : Int) == 0) = true := by simp [h0]
        clear HN HX HM2 hrow h0
        go_wp2
        go_ret
        exact ⟨rt_bool HF.out.symm, hB⟩
      have g2 : ((c.length : Int) == 0) = false := by simp; intro e; rw [e] at h0; exact h0 rfl
      by_cases h80 : 80 < m + c.length
      · have HF : Hid (coF cs = false) := HN.out (fun h => by omega)
        have g3 : decide ((80 : Int) < (m : Int) + (c.length : Int)) = true := decide_eq_true (by omega)
        clear HN HX HM2 hrow h0
        go_wp2
        go_ret
        exact ⟨rt_bool HF.out.symm, hB⟩
      have g3 : decide ((80 : Int) < (m : Int) + (c.length : Int)) = false := decide_eq_false (by omega)
      have HP : Hid (0 < c.length) := by show _ < _; omega
      have hcl : c.length ≤ 80 := by omega
      have HRW : Hid (Gr PnE S wr a1 c1 c) := hrow
      have HBW : Hid (Below w.heap.size w wr) := hB
      clear hrow h0
      go_wp2
      obtain ⟨wo, rfl⟩ : ∃ wo, wo = wr := ⟨_, rfl⟩
      clear d0 hB
      go_loopw [30] (fun i wr => ∃ t : Nat, t ≤ c.length ∧ i = .int .i64 t ∧ (∀ j, j < t → pnF (c.getD j Pn.none) = true) ∧ Below wo.heap.size wo wr) (fun i _ => c.length - (intOf i).toNat)
      case atStart => exact ⟨0, Nat.zero_le _, rfl, (fun j hj => by omega), Below.refl _ _⟩
      case round =>
        obtain ⟨t, ht, rfl, hok, hB⟩ := hrel
        have HOK : Hid (∀ j, j < t → pnF (c.getD j Pn.none) = true) := hok
        have hBW := HBW.out.trans (hB.mono HBW.out.size)
        clear hok
        by_cases htn : t < c.length
        · obtain ⟨b2, o2, eb, hb2, ⟨w0, w1⟩, q0, q1, q2⟩ := HRW.out.pn hB t htn
          subst eb
          have HN2 : Hid (pnF (c.getD t Pn.none) = false → coF cs = false) := fun hf => HN.out (fun h => by have := all_no' htn hf; rw [h.2.2] at this; cases this)
          have HY2 : Hid (pnF (c.getD t Pn.none) = true → ∀ j, j < t + 1 → pnF (c.getD j Pn.none) = true) := fun hf => upto_succ HOK.out hf
          generalize c.getD t Pn.none = p at *
          obtain ⟨x, y, on⟩ := p
          dsimp only at w0 w1 q0 q1 q2
          have hpf : pnF ⟨x, y, on⟩ = (fdB x && fdB y) := rfl
          rw [hpf] at HN2 HY2
          have j1 : (0 : Int) ≤ (t : Int) := by omega
          have j2 : (t : Int) < (c.length : Int) := by omega
          obtain ⟨W, hW⟩ : ∃ W, W = (wr.alloc (.cells #[.int .i64 x, .int .i64 y, .bool on] 38)).alloc (.cells #[.int .i64 x, .int .i64 y] 3) := ⟨_, rfl⟩
          have hri := ri_two (wr.alloc (.cells #[.int .i64 x, .int .i64 y, .bool on] 38)) x y w0 w1
          have hsz : (wr.alloc (.cells #[.int .i64 x, .int .i64 y, .bool on] 38)).heap.size = wr.heap.size + 1 := by simp
          rw [← hW, hsz] at hri
          have hbX : Below w.heap.size w W := by rw [hW]; exact (hBW.alloc hBW.size _).alloc (by simp; have := hBW.size; omega) _
          have hbY : Below wo.heap.size wo W := by rw [hW]; exact (hB.alloc hB.size _).alloc (by simp; have := hB.size; omega) _
          have hfo := cfields_any _ _ _ _ hri
          rw [two_all] at hfo
          simp only [List.length_cons, List.length_nil, Nat.zero_add] at hfo
          clear hpf hri hsz HOK
          cases hf : (fdB x && fdB y) with
          | false =>
            have HF : Hid (coF cs = false) := HN2.out hf
            rw [hf] at hfo
            clear hf HN2 HY2
            go_wp2_with fail
            rw [← hW]
            clear hW
            refine hfo.mono ?_
            rintro e u1 ⟨rfl, rfl⟩
            clear hfo
            go_wp2
            go_ret
            exact ⟨rt_bool HF.out.symm, hbX⟩
          | true =>
            have HOK2 : Hid (∀ j, j < t + 1 → pnF (c.getD j Pn.none) = true) := HY2.out hf
            rw [hf] at hfo
            clear hf HN2 HY2
            go_wp2_with fail
            rw [← hW]
            clear hW
            refine hfo.mono ?_
            rintro e u1 ⟨rfl, rfl⟩
            clear hfo
            go_wp2
            go_roundw
            case rel => exact ⟨t + 1, by omega, by go_num, HOK2.out, hbY⟩
            case measure => simp [intOf]; omega
        · obtain rfl : t = c.length := by omega
          have HOK3 : Hid (∀ j, j < k + 1 → 0 < (cs.getD j []).length ∧ (cs.getD j []).all pnF = true) := HX.out HP.out (all_yes' HOK.out)
          have j2 : ¬ (c.length : Int) < (c.length : Int) := by omega
          clear HOK HX
          go_wp2
          go_roundw
          case rel => exact ⟨k + 1, m + c.length, by omega, by go_num, by go_num, HM2.out, by omega, HOK3.out, hBW⟩
          case measure => simp [intOf]; omega
    · obtain rfl : k = cs.length := by omega
      have HF : Hid (coF cs = true) := coF_yes (by omega) HOK.out (by have := HM.out; rw [List.take_length] at this; omega)
      have g4 : ¬ (cs.length : Int) < (cs.length : Int) := by omega
      clear HOK HM
      go_wp2
      go_ret
      exact ⟨rt_bool HF.out.symm, hB⟩

end Go.Proofs.Ytdojgkejpfdaeaa
