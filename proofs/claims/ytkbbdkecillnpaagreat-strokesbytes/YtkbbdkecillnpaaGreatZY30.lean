/-
  strokes.Read: the walk.
  foundryref10.Field: the walk.
  foundryref10.Fits: the walk.
  foundryref18.Args, step, Formed: the walks (written by mk_dr0.py).
  Rows of bytes of the call's own (Bo), and how they grow.
-/
import Derived.Test.YtkbbdkecillnpaaGreatZY29
import Derived.Test.YtkbbdkecillnpaaGreatZY28
import Derived.Test.YtkbbdkecillnpaaGreatZY1
import Derived.Test.YtkbbdkecillnpaaGreatZY17
import Derived.Test.YtkbbdkecillnpaaGreatZY18
import Derived.Test.YtkbbdkecillnpaaGreatZY8
namespace Go.Proofs.YtkbbdkecillnpaaGreat
open Go.RowKit Go.Maps
set_option linter.unusedSimpArgs false
set_option linter.unusedVariables false

theorem Rb.blkD {w : World} {a : Option Addr} {cap : Nat} {xs : List Nat} (h : Rb w a cap xs) (hne : xs ≠ []) {b o : Nat} (e : a = some ⟨b, o, none⟩) : b < w.heap.size := by
  rcases h.2.2.2.2 with h0 | ⟨b', o', e', hb, _⟩
  · exact absurd h0 hne
  · rw [e] at e'
    cases e'
    exact hb
theorem okDc_no1 {xs : List Nat} (h : ckB xs 0 20 = false) : okDc xs = false := by
  unfold okDc
  unfold ckB at h
  rw [List.drop_zero] at h
  rw [h]
  rfl
theorem okDc_no2 {xs : List Nat} (h : okDws (hd2 xs) (xs.drop 2) = false) : okDc xs = false := by
  unfold okDc
  rw [h, Bool.and_false]
theorem okDc_y {xs : List Nat} (h0 : ckB xs 0 20 = true) (h : okDws (hd2 xs) (xs.drop 2) = true) : okDc xs = true ∧ rdDc xs = rdDws (hd2 xs) (xs.drop 2) ∧ usD xs = 2 + usWs (hd2 xs) (xs.drop 2) := by
  have h1 := ckB_iff.1 h0
  rw [List.drop_zero] at h1
  refine ⟨okDc_iff.2 ⟨h1, h⟩, ?_, ?_⟩
  · rw [rdDc, nD_of h1.2]
  · rw [usD, nD_of h1.2]

set_option maxHeartbeats 8000000 in
set_option maxRecDepth 100000 in
theorem creadD_any (ba : Option Addr) (bc : Nat) (xs : List Nat) (ga : Option Addr) (gc : Nat) (ma : Option Addr) (mc : Nat) (s : Sr) (w : World) (hx : Rb w ba bc xs) (k2 : s.rw.length ≤ 9223372036854775807) (k3 : s.rg.length ≤ 9223372036854775807) :
    Calls Tryz.prog 18 #[.slice ba xs.length bc, .agg #[.slice ga s.rg.length gc, .slice ma s.rw.length mc]] w fun e w' => ∃ a' c', e = .returned (.tuple #[.slice a' (rdDL (fiS s) xs).length c', .int .i64 (rdDE (fiS s) xs)]) ∧ Gr SpE.row (fun k => w.heap.size ≤ k) w' a' c' (rdDL (fiS s) xs) ∧ Below w.heap.size w w' := by
  have kx := hx.le
  have kx2 := hx.cap
  unfold maxLen at kx2
  have hn16 := hd2_lt hx.lim 0
  rw [List.drop_zero] at hn16
  obtain ⟨W, hW, X1, X2, hbW⟩ : ∃ W, W = (w.alloc (.cells #[.slice ga s.rg.length gc, .slice ma s.rw.length mc] 26)).alloc (.cells #[.slice ba xs.length bc, .int .i64 0] 90) ∧ Bk 26 W w.heap.size [.slice ga s.rg.length gc, .slice ma s.rw.length mc] ∧ Bk 90 W (w.heap.size + 1) [.slice ba xs.length bc, .int .i64 0] ∧ Below w.heap.size w W := ⟨_, rfl, (Bk.new _ _ _).below (bl1 _), Bk.new1 _ _ _ _, bl2 _ _⟩
  obtain ⟨sb, hsb⟩ : ∃ n, w.heap.size + 1 = n := ⟨_, rfl⟩
  have HSB : Hid (w.heap.size + 1 = sb) := hsb
  rw [hsb] at X2
  have hSc : Sc 90 W sb ba bc xs 0 := ⟨X2, hx.below hbW, fun b o e hne => by have := hx.blkD hne e; omega⟩
  have HSC : Hid (Sc 90 W sb ba bc xs 0) := hSc
  have hc := count_any sb ba bc xs 0 20 W hSc (by omega) (by omega)
  rw [List.drop_zero] at hc
  obtain ⟨hcy, hcn⟩ := rdD_code (fiS_16 s) hx.lim
  have HCY : Hid (okDc xs = true → usD xs = xs.length → foD (fiS s) (rdDc xs) = true → rdDL (fiS s) xs = rdDc xs ∧ rdDE (fiS s) xs = 0) := hcy
  have HCN : Hid ((okDc xs = false ∨ usD xs ≠ xs.length ∨ foD (fiS s) (rdDc xs) = false) → rdDL (fiS s) xs = [] ∧ rdDE (fiS s) xs = 2) := hcn
  have HN1 : Hid (ckB xs 0 20 = false → okDc xs = false) := okDc_no1
  have HN2 : Hid (okDws (hd2 xs) (xs.drop 2) = false → okDc xs = false) := okDc_no2
  have HYY : Hid (ckB xs 0 20 = true → okDws (hd2 xs) (xs.drop 2) = true → okDc xs = true ∧ rdDc xs = rdDws (hd2 xs) (xs.drop 2) ∧ usD xs = 2 + usWs (hd2 xs) (xs.drop 2)) := okDc_y
  have HN3 : Hid (ckB xs 0 20 = true → hd2 xs ≤ 20) := fun h => by have := (ckB_iff.1 h).2; rw [List.drop_zero] at this; exact this
  generalize hd2 xs = n at *
  have HBW : Hid (Below w.heap.size w W) := hbW
  clear hx hSc hcy hcn hbW
  go_enter Tryz.func18, Tryz.ntmps18
  go_upto_region 2 with fail
  rw [← hW]
  try rw [hsb]
  clear hW hsb
  cases hck : ckB xs 0 20 with
  | false =>
    rw [hck] at hc
    have HNO : Hid (_) := HCN.out (.inl (HN1.out hck))
    clear hck HN1 HN2 HYY HN3 HCY HCN
    go_wp2_with fail
    refine hc.mono ?_
    rintro e u ⟨rfl, -, hk⟩
    have hfin := HBW.out.trans (hk.below HBW.out.size (by have := HSB.out; omega))
    clear hc
    go_wp2
    go_ret2
    exact ⟨none, 0, by rw [HNO.out.1, HNO.out.2]; rfl, by rw [HNO.out.1]; exact Gr.nil _ _ _ _ _ (Nat.zero_le _) (fun _ => rfl), hfin⟩
  | true =>
  rw [hck] at hc
  have HY2 : Hid (_) := HYY.out hck
  have hn20 := HN3.out hck
  clear hck HN1 HYY HN3
  go_wp2_with fail
  refine hc.mono ?_
  rintro e u ⟨rfl, hB, hK⟩
  clear hc
  replace X1 := X1.kp hK (by have := HSB.out; omega)
  have hWu : W.heap.size ≤ u.heap.size := hK.size
  obtain ⟨w1, hmk, hI0, hb1, hs1⟩ := makeG SpE.row (fun k => u.heap.size ≤ k) 22 52 Tryz.underlying22 info_ssD (by decide) n (by omega) u
  have hus : sb < u.heap.size := hB.lt
  have HWU : Hid (w.heap.size ≤ u.heap.size) := by show _ ≤ _; have := HSB.out; omega
  obtain ⟨g, hgg⟩ : ∃ g, u.heap.size = g := ⟨_, rfl⟩
  rw [hgg] at hI0 hmk hus HWU
  replace hB := hB.below hb1
  replace hK := hK.trans (Kp.of hb1)
  replace X1 := X1.below hb1
  have hgs : g ≤ w1.heap.size := by omega
  have hWg : W.heap.size ≤ g := by rw [← hgg]; exact hWu
  have hI1 : Gw SpE.row 52 g (fun k => g ≤ k) w1 (.slice (some ⟨g, 0, none⟩) 0 n) (rdDws 0 (xs.drop 2)) := hI0
  have hB1 : Bk 90 w1 sb [.slice ba xs.length bc, .int .i64 ((2 + usWs 0 (xs.drop 2) : Nat) : Int)] := hB
  clear hI0 hb1 hs1 hB X2 hWu
  go_wp2
  clear hmk hgg
  go_loopw [9, 25] (fun v i wr => ∃ (k : Nat), k ≤ n ∧ i = .int .i64 (k : Int) ∧ Gw SpE.row 52 g (fun k => g ≤ k) wr v (rdDws k (xs.drop 2)) ∧ Bk 90 wr sb [.slice ba xs.length bc, .int .i64 ((2 + usWs k (xs.drop 2) : Nat) : Int)] ∧ Bk 26 wr w.heap.size [.slice ga s.rg.length gc, .slice ma s.rw.length mc] ∧ Kp sb W wr ∧ g ≤ wr.heap.size ∧ Hid (okDws k (xs.drop 2) = true)) (fun _ i _ => n - (intOf i).toNat)
  case atStart => exact ⟨0, Nat.zero_le _, rfl, hI1, hB1, X1, hK, hgs, (by show okDws 0 _ = true; rfl)⟩
  case round =>
    clear hI1 hB1 hK hgs X1
    obtain ⟨k, hk, rfl, hGw, hB, hX, hK, hgs, HOK⟩ := hrel
    obtain ⟨a7, c7, e7, hgr7, hb7⟩ := hGw.slice
    subst e7
    rw [rdDws_len] at hGw ⊢
    have hBw : Below w.heap.size w wr := HBW.out.trans (hK.below HBW.out.size (by have := HSB.out; omega))
    by_cases hkn : k < n
    rotate_left
    · have hkk : k = n := by omega
      subst hkk
      have g4 : ¬ (k : Int) < (k : Int) := by omega
      obtain ⟨y1, y2, y3⟩ := HY2.out HOK.out
      have HY : Hid (okDc xs = true) := y1
      rw [← y3] at hB
      have HUD : Hid (usD xs = 2 + usWs k (xs.drop 2)) := y3
      rw [y2] at HCY HCN
      have hul := usWs_le k (xs.drop 2)
      have hu2 : usD xs ≤ 40000 := by omega
      have HLN : Hid ((rdDws k (xs.drop 2)).length = k) := rdDws_len _ _
      have hgf := formD_any _ a7 c7 (rdDws k (xs.drop 2)) ga gc ma mc s wr hgr7 k2
      rw [rdDws_len] at hgf
      have HGR : Hid (Gr SpE.row (fun q => g ≤ q) wr a7 c7 (rdDws k (xs.drop 2))) := hgr7
      generalize rdDws k (xs.drop 2) = tl at *
      generalize usD xs = ud at *
      obtain ⟨x0, x1, -⟩ := hX.two
      obtain ⟨z0, z1, -⟩ := hB.two
      clear hGw hgr7 hb7 y1 y2 y3 hul hkn HUD
      by_cases hlen : ud = xs.length
      rotate_left
      · have g5 : ((ud : Int) != (xs.length : Int)) = true := bne_iff_ne.2 (by omega)
        have HNO : Hid (_) := HCN.out (.inr (.inl hlen))
        clear hgf hlen HCY HCN
        go_wp2
        go_ret2
        exact ⟨none, 0, by rw [HNO.out.1, HNO.out.2]; rfl, by rw [HNO.out.1]; exact Gr.nil _ _ _ _ _ (Nat.zero_le _) (fun _ => rfl), hBw⟩
      have g5 : ((ud : Int) != (xs.length : Int)) = false := by rw [hlen]; simp
      have HLEN : Hid (ud = xs.length) := hlen
      clear hlen
      cases hfo : foD (fiS s) tl with
      | false =>
        rw [hfo] at hgf
        have HNO : Hid (_) := HCN.out (.inr (.inr hfo))
        clear hfo HCY HCN
        go_wp2_with fail
        refine hgf.mono ?_
        rintro e u3 ⟨rfl, hb3⟩
        have HFIN : Hid (_) := hBw.trans (hb3.mono hBw.size)
        clear hgf hb3
        go_wp2
        go_ret2
        exact ⟨none, 0, by rw [HNO.out.1, HNO.out.2]; rfl, by rw [HNO.out.1]; exact Gr.nil _ _ _ _ _ (Nat.zero_le _) (fun _ => rfl), HFIN.out⟩
      | true =>
        rw [hfo] at hgf
        have HYS : Hid (_) := HCY.out HY.out HLEN.out hfo
        clear hfo HCY HCN
        go_wp2_with fail
        refine hgf.mono ?_
        rintro e u3 ⟨rfl, hb3⟩
        have HFIN : Hid (_) := hBw.trans (hb3.mono hBw.size)
        have HGF : Hid (Gr SpE.row (fun k => w.heap.size ≤ k) u3 a7 c7 tl) := (HGR.out.below hb3).wide (fun k h1 _ => Nat.le_trans HWU.out h1)
        clear hgf hb3
        go_wp2
        go_ret2
        exact ⟨a7, c7, by rw [HYS.out.1, HYS.out.2, HLN.out]; rfl, by rw [HYS.out.1]; exact HGF.out, HFIN.out⟩
    have g2 : (k : Int) < (n : Int) := by omega
    have hpk : 2 + usWs k (xs.drop 2) ≤ 40000 := by have := usWs_le k (xs.drop 2); omega
    have hSc := HSC.out.ofD hK hB
    obtain ⟨hs1, hs2⟩ := rdDws_succ k (xs.drop 2)
    have hs3 := okDws_succ k (xs.drop 2)
    have HNO3 : Hid (okDw (xs.drop (2 + usWs k (xs.drop 2))) = false → okDc xs = false) := fun h => HN2.out (okDws_no hkn (by rw [List.drop_drop]; exact h))
    rw [List.drop_drop] at hs1 hs2 hs3
    have HS1 : Hid (_) := hs1
    have HS2 : Hid (2 + usWs (k + 1) (xs.drop 2) = 2 + usWs k (xs.drop 2) + usW (xs.drop (2 + usWs k (xs.drop 2)))) := by show _ = _; rw [hs2]; omega
    have HS3 : Hid (okDw (xs.drop (2 + usWs k (xs.drop 2))) = true → okDws (k + 1) (xs.drop 2) = true) := fun h => by rw [hs3, HOK.out, h]; rfl
    have HLM : Hid ((rdDws k (xs.drop 2)).length = k) := rdDws_len _ _
    have HOW : Hid (∀ q, (Value.slice a7 k c7).ownBlock = some q → g ≤ q ∧ q < wr.heap.size) := fun q e => hGw.lo e
    clear hs1 hs2 hs3 hgr7 hb7
    obtain ⟨q, hq⟩ : ∃ q, 2 + usWs k (xs.drop 2) = q := ⟨_, rfl⟩
    rw [hq] at hB hSc hpk HNO3 HS1 HS2 HS3
    obtain ⟨M, hM⟩ : ∃ M, rdDws k (xs.drop 2) = M := ⟨_, rfl⟩
    rw [hM] at hGw HS1 HLM
    have hst := drawing_any sb ba bc xs q wr hSc (by omega)
    clear hq hM hSc
    go_wp2_with fail
    refine hst.mono ?_
    rintro e u4 ⟨hyn, hk4⟩
    have hGw4 := hGw.kpS hus hk4
    have hK4 := hK.trans hk4
    have hs4 := hk4.size
    have hX4 := hX.kp hk4 (by have := HSB.out; omega)
    rcases hyn with ⟨hok, ⟨xa, xc, rfl, hrep⟩, hb4⟩ | ⟨hok, rfl⟩
    rotate_left
    · have HNO : Hid (_) := HCN.out (.inl (HNO3.out hok))
      have hfin := HBW.out.trans (hK4.below HBW.out.size (by have := HSB.out; omega))
      clear hst hok hGw hGw4 hK hk4 hB HCY HCN
      go_wp2
      go_ret2
      exact ⟨none, 0, by rw [HNO.out.1, HNO.out.2]; rfl, by rw [HNO.out.1]; exact Gr.nil _ _ _ _ _ (Nat.zero_le _) (fun _ => rfl), hfin⟩
    have HOK2 : Hid (_) := HS3.out hok
    rw [← HS2.out] at hb4
    obtain ⟨x, hx⟩ : ∃ x, rdDw (xs.drop q) = x := ⟨_, rfl⟩
    rw [hx] at hrep HS1 ⊢
    have h6 : x.length ≤ 60 := by rw [← hx, rdDw, rdSps_len]; unfold mD; split <;> omega
    have HWS : Hid (wr.heap.size ≤ u4.heap.size) := hs4
    obtain ⟨V9, hV9, Y9, hb9⟩ : ∃ W, W = u4.alloc (.cells #[.slice xa x.length xc] 52) ∧ Bk 52 W u4.heap.size [.slice xa x.length xc] ∧ Below u4.heap.size u4 W := ⟨_, rfl, Bk.new _ _ _, bl1 _⟩
    replace hrep := SpE.row.stay hrep hb9.size (S' := fun q => g ≤ q ∧ (Value.slice a7 k c7).ownBlock ≠ some q) (fun q hq hl => ⟨⟨by omega, fun e => by have := (HOW.out q e).2; omega⟩, hb9.block q hl⟩)
    have hone := Gr.one (E := SpE.row) hrep Y9.lt (fun j hj => Y9.cell j hj)
    have hGb := hGw4.below hb9
    have hs9 := hb9.size
    have hbs : g ≤ V9.heap.size := by omega
    have hll : M.length + 1 ≤ 1000000 := by have := HLM.out; omega
    replace hb4 := hb4.below hb9
    replace hX4 := hX4.below hb9
    replace hK4 := hK4.trans (Kp.of hb9)
    clear hrep hGw4 hst hok hGw hK hk4 hB hx hX
    go_wp2_with (at_builtin; rw [← hV9]; refine wpList_append_el (E := SpE.row) 22 52 Tryz.underlying22 info_ssD rfl (by decide) (by decide) rfl _ _ rfl g (fun k => g ≤ k) _ M rfl hGb (some ⟨u4.heap.size, 0, none⟩) 1 1 [x] rfl rfl hone hll hbs ?_)
    intro v9 w9 hT9 hgrow _
    rw [← hV9] at hgrow
    rw [← HS1.out] at hT9
    have hng : (Value.slice a7 k c7).ownBlock ≠ some sb := fun e => by have := (HOW.out sb e).1; omega
    have hnw : (Value.slice a7 k c7).ownBlock ≠ some w.heap.size := fun e => by have := (HOW.out _ e).1; have := HSB.out; omega
    have hB9 := hb4.grown hgrow hng
    have hX9 := hX4.grown hgrow hnw
    have hK9 := hK4.grown hgrow (fun q hq => by have := (HOW.out q hq).1; omega)
    have hs10 : g ≤ w9.heap.size := Nat.le_trans hbs hgrow.size
    clear hgrow hGb hone hbs hll hV9 Y9 hb9 hng hb4 hK4 hs9 hX4 hnw
    go_wp2
    go_roundw
    case rel => exact ⟨k + 1, by omega, by go_num, hT9, hB9, hX9, hK9, hs10, HOK2⟩
    case measure => simp [intOf]; omega

end Go.Proofs.YtkbbdkecillnpaaGreat

namespace Go.Proofs.YtkbbdkecillnpaaGreat
open Go.RowKit Go.Maps
set_option linter.unusedSimpArgs false
set_option linter.unusedVariables false

set_option maxHeartbeats 400000 in
set_option maxRecDepth 100000 in
theorem sField_any (z : Int) (w : World) :
    Calls Tryz.prog 62 #[.int .i64 z] w fun e w' => e = .returned (.bool (fdB z)) ∧ w = w' := by
  by_cases h1 : -32768 ≤ z
  · have g1 : decide (-32768 ≤ z) = true := decide_eq_true h1
    have HE : Hid (decide (z ≤ 32767) = fdB z) := by show _ = _; rw [fdB]; exact decide_eq_decide.2 ⟨fun h => ⟨h1, h⟩, fun h => h.2⟩
    go_enter Tryz.func62, Tryz.ntmps62
    go_wp2
    go_ret
    exact ⟨rt_bool HE.out, rfl⟩
  · have g1 : decide (-32768 ≤ z) = false := decide_eq_false h1
    have HE : Hid (false = fdB z) := by show _ = _; rw [fdB]; exact (decide_eq_false (fun h => h1 h.1)).symm
    go_enter Tryz.func62, Tryz.ntmps62
    go_wp2
    go_ret
    exact ⟨rt_bool HE.out, rfl⟩
theorem sFieldB_any (z : Int) (w : World) :
    Calls Tryz.prog 62 #[.int .i64 z] w fun e w' => e = .returned (.bool (fdB z)) ∧ Below w.heap.size w w' :=
  (sField_any z w).mono fun e w' h => ⟨h.1, h.2 ▸ Below.refl _ _⟩

end Go.Proofs.YtkbbdkecillnpaaGreat

namespace Go.Proofs.YtkbbdkecillnpaaGreat
open Go.RowKit Go.Maps
set_option linter.unusedSimpArgs false
set_option linter.unusedVariables false

set_option maxHeartbeats 4000000 in
set_option maxRecDepth 100000 in
theorem sfitsS_any (a : Option Addr) (ca : Nat) (b : Option Addr) (cb : Nat) (s : Sr) (x r : Int) (w : World) (hl : s.rw.length ≤ 9223372036854775807) (hx : I64 x) (hr : I64 r) :
    Calls Tryz.prog 47 #[.agg #[.slice a s.rg.length ca, .slice b s.rw.length cb], .agg #[.int .i64 x, .int .i64 r]] w fun e w' => e = .returned (.bool (fiS s x r)) ∧ Below w.heap.size w w' := by
  obtain ⟨W, hW, X1, X2, hbW⟩ : ∃ W, W = (w.alloc (.cells #[.slice a s.rg.length ca, .slice b s.rw.length cb] 26)).alloc (.cells #[.int .i64 x, .int .i64 r] 79) ∧ BxS W w.heap.size (.slice a s.rg.length ca) (.slice b s.rw.length cb) ∧ BxL W (w.heap.size + 1) (.int .i64 x) (.int .i64 r) ∧ Below w.heap.size w W := ⟨_, rfl, (BxS.new _ _ _).below (bl1 _), BxL.new1 _ _ _ _, bl2 _ _⟩
  have hif := fun U => sField_any x U
  cases hf : fdB x with
  | false =>
    have HE : Hid (fiS s x r = false) := by show _ = _; rw [fiS, hf, Bool.false_and]
    simp only [hf] at hif
    clear hf
    go_enter Tryz.func47, Tryz.ntmps47
    go_wp2_with fail
    rw [← hW]
    clear hW
    refine (hif _).mono ?_
    rintro e u1 ⟨rfl, rfl⟩
    obtain ⟨c0, c1, _⟩ := X1.cells
    obtain ⟨d0, d1, _⟩ := X2.cells
    go_wp2
    go_ret
    exact ⟨rt_bool HE.out.symm, hbW⟩
  | true =>
    simp only [hf] at hif
    by_cases h1 : r = -1
    · have HE : Hid (fiS s x r = true) := by show _ = _; rw [fiS, hf, Bool.true_and, decide_eq_true h1, Bool.true_or]
      have g1 : (r == -1) = true := by simp [h1]
      clear h1
      clear hf
      go_enter Tryz.func47, Tryz.ntmps47
      go_wp2_with fail
      rw [← hW]
      clear hW
      refine (hif _).mono ?_
      rintro e u1 ⟨rfl, rfl⟩
      obtain ⟨c0, c1, _⟩ := X1.cells
      obtain ⟨d0, d1, _⟩ := X2.cells
      go_wp2
      go_ret
      exact ⟨rt_bool HE.out.symm, hbW⟩
    have g1 : (r == -1) = false := by simp [h1]
    have HE0 : Hid (fiS s x r = (decide (0 ≤ r) && (decide (r < (s.rw.length : Int)) && decide (r < 400)))) := by show _ = _; rw [fiS, hf, Bool.true_and, decide_eq_false h1, Bool.false_or]
    clear h1
    by_cases h2 : 0 ≤ r
    · have g2 : decide (0 ≤ r) = true := decide_eq_true h2
      by_cases h3 : r < (s.rw.length : Int)
      · have g3 : decide (r < (s.rw.length : Int)) = true := decide_eq_true h3
        have HE : Hid (fiS s x r = decide (r < 400)) := by show _ = _; rw [HE0.out, g2, g3, Bool.true_and, Bool.true_and]
        clear hf
        go_enter Tryz.func47, Tryz.ntmps47
        go_wp2_with fail
        rw [← hW]
        clear hW
        refine (hif _).mono ?_
        rintro e u1 ⟨rfl, rfl⟩
        obtain ⟨c0, c1, _⟩ := X1.cells
        obtain ⟨d0, d1, _⟩ := X2.cells
        go_wp2
        go_ret
        exact ⟨rt_bool HE.out.symm, hbW⟩
      · have g3 : decide (r < (s.rw.length : Int)) = false := decide_eq_false h3
        have HE : Hid (fiS s x r = false) := by show _ = _; rw [HE0.out, g2, g3]; rfl
        clear hf
        go_enter Tryz.func47, Tryz.ntmps47
        go_wp2_with fail
        rw [← hW]
        clear hW
        refine (hif _).mono ?_
        rintro e u1 ⟨rfl, rfl⟩
        obtain ⟨c0, c1, _⟩ := X1.cells
        obtain ⟨d0, d1, _⟩ := X2.cells
        go_wp2
        go_ret
        exact ⟨rt_bool HE.out.symm, hbW⟩
    · have g2 : decide (0 ≤ r) = false := decide_eq_false h2
      have HE : Hid (fiS s x r = false) := by show _ = _; rw [HE0.out, g2]; rfl
      clear hf
      go_enter Tryz.func47, Tryz.ntmps47
      go_wp2_with fail
      rw [← hW]
      clear hW
      refine (hif _).mono ?_
      rintro e u1 ⟨rfl, rfl⟩
      obtain ⟨c0, c1, _⟩ := X1.cells
      obtain ⟨d0, d1, _⟩ := X2.cells
      go_wp2
      go_ret
      exact ⟨rt_bool HE.out.symm, hbW⟩

end Go.Proofs.YtkbbdkecillnpaaGreat

namespace Go.Proofs.YtkbbdkecillnpaaGreat
open Go.RowKit Go.Maps
set_option linter.unusedSimpArgs false
set_option linter.unusedVariables false

set_option maxHeartbeats 1000000 in
set_option maxRecDepth 100000 in
theorem sArgs_any (d : Int) (w : World) (hd : I64 d) :
    Calls Tryz.prog 41 #[.int .i64 d] w fun e w' => e = .returned (.int .i64 (arD d)) ∧ w = w' := by
  by_cases h1 : d = 1
  · subst h1
    go_enter Tryz.func41, Tryz.ntmps41
    go_wp2
    go_ret
    exact ⟨rfl, rfl⟩
  by_cases h2 : d = 2
  · subst h2
    go_enter Tryz.func41, Tryz.ntmps41
    go_wp2
    go_ret
    exact ⟨rfl, rfl⟩
  by_cases h3 : d = 3
  · subst h3
    go_enter Tryz.func41, Tryz.ntmps41
    go_wp2
    go_ret
    exact ⟨rfl, rfl⟩
  by_cases h4 : d = 4
  · subst h4
    go_enter Tryz.func41, Tryz.ntmps41
    go_wp2
    go_ret
    exact ⟨rfl, rfl⟩
  have HA : Hid (arD d = -1) := by show _ = _; unfold arD; rw [if_neg h1, if_neg h2, if_neg h3, if_neg h4]
  have g1 : (d == 1) = false := beq_eq_false_iff_ne.2 h1
  have g2 : (d == 2) = false := beq_eq_false_iff_ne.2 h2
  have g3 : (d == 3) = false := beq_eq_false_iff_ne.2 h3
  have g4 : (d == 4) = false := beq_eq_false_iff_ne.2 h4
  go_enter Tryz.func41, Tryz.ntmps41
  go_wp2
  go_ret
  exact ⟨by rw [HA.out]; rfl, rfl⟩

set_option maxHeartbeats 8000000 in
set_option maxRecDepth 100000 in
theorem sstepD_any (S : Nat → Prop) (n : Nat) (ga : Option Addr) (gc : Nat) (ma : Option Addr) (mc : Nat) (s : Sr) (xa : Option Addr) (xc : Nat) (x : Sp) (w : World) (hn : n ≤ 9223372036854775807) (k2 : s.rw.length ≤ 9223372036854775807) (k3 : s.rg.length ≤ 9223372036854775807) (hd : I64 x.d) (hx : Gr SlE S w xa xc x.ar) :
    Calls Tryz.prog 29 #[.agg #[.int .i64 x.d, .slice xa x.ar.length xc], .agg #[.slice ga s.rg.length gc, .slice ma s.rw.length mc], .int .i64 (n : Int)] w fun e w' => e = .returned (.bool (spF (fiS s) n x)) ∧ Below w.heap.size w w' := by
  have kx := hx.lenB
  obtain ⟨W, hW, X2, X1, hbW⟩ : ∃ W, W = (w.alloc (.cells #[.int .i64 x.d, .slice xa x.ar.length xc] 50)).alloc (.cells #[.slice ga s.rg.length gc, .slice ma s.rw.length mc] 26) ∧ Bk 50 W w.heap.size [.int .i64 x.d, .slice xa x.ar.length xc] ∧ Bk 26 W (w.heap.size + 1) [.slice ga s.rg.length gc, .slice ma s.rw.length mc] ∧ Below w.heap.size w W := ⟨_, rfl, (Bk.new _ _ _).below (bl1 _), Bk.new1 _ _ _ _, bl2 _ _⟩
  obtain ⟨q0, q1, -⟩ := X2.two
  go_enter Tryz.func29, Tryz.ntmps29
  go_upto_region 1 with fail
  rw [← hW]
  clear hW
  refine wp_region_held_drew (S := fun w9 => w9.cell? ⟨w.heap.size, 0, none⟩ = some (.int .i64 x.d) ∧ w9.cell? ⟨w.heap.size, 1, none⟩ = some (.slice xa x.ar.length xc)) (by kernel_rfl) ?_ (fun hHeld => ?_)
  · (try dsimp only)
    go_keep
  have hdr : Below W.heap.size W W.drew := Below.drew1
  generalize W.drew = Z at hdr hHeld ⊢
  replace X1 := X1.below hdr
  replace X2 := X2.below hdr
  replace hx := (hx.below hbW).below hdr
  replace hbW := hbW.trans (hdr.mono hbW.size)
  have hag := sArgs_any x.d Z hd
  clear hdr q0 q1
  refine hT 0 hHeld ?_
  refine hT 1 hHeld ?_
  refine hT 2 hHeld ?_
  refine hT 3 hHeld ?_
  refine hT 4 hHeld ?_
  refine hCall (i := 5) rfl (by kernel_rfl) (by rfl) (fun K hK => ?_)
  go_simp
  refine (hag).mono ?_
  rintro e u ⟨rfl, rfl⟩
  go_wp2_with fail
  refine hK.out _ _ ?_ (fun hHeld => ?_)
  · (try dsimp only)
    exact hHeld
  clear hK K
  try simp only [Act.put, List.setIfInBounds_toArray, List.set_cons_zero, List.set_cons_succ]
  clear hag
  by_cases hlen : (x.ar.length : Int) = arD x.d
  rotate_left
  · have HF : Hid (spF (fiS s) n x = false) := spF_no1 hlen
    generalize arD x.d = z at *
    have g2 : ((x.ar.length : Int) != z) = true := bne_iff_ne.2 hlen
    clear hlen
    refine hT 6 hHeld ?_
    refine wpAnyH_done (by kernel_rfl) ?_ _
    clear hHeld
    go_wp2
    go_ret
    exact ⟨rt_bool HF.out.symm, hbW⟩
  have HLEN : Hid ((x.ar.length : Int) = arD x.d) := hlen
  have had := arD_in x.d
  have hpos : 0 < x.ar.length := by omega
  have hx6 : x.ar.length ≤ 6 := by omega
  rw [← hlen]
  have g2 : ((x.ar.length : Int) != (x.ar.length : Int)) = false := by simp
  have HX : Hid (Gr SlE S Z xa xc x.ar) := hx
  have HX1 : Hid (Bk 26 Z (w.heap.size + 1) [.slice ga s.rg.length gc, .slice ma s.rw.length mc]) := X1
  have HX2 : Hid (Bk 50 Z w.heap.size [.int .i64 x.d, .slice xa x.ar.length xc]) := X2
  have HBW : Hid (Below w.heap.size w Z) := hbW
  clear hlen had hx X1 X2 hbW
  refine hT 6 hHeld ?_
  refine wpAnyH_done (by kernel_rfl) ?_ _
  clear hHeld
  go_wp2
  clear g2
  go_loopw [7] (fun i wr => ∃ k : Nat, k ≤ x.ar.length ∧ i = .int .i64 k ∧ Hid (∀ j, j < k → fiS s (x.ar.getD j (0, 0)).1 (x.ar.getD j (0, 0)).2 = true) ∧ Below Z.heap.size Z wr) (fun i _ => x.ar.length - (intOf i).toNat)
  case atStart => exact ⟨0, Nat.zero_le _, rfl, (fun j hj => by omega), Below.refl _ _⟩
  case round =>
    obtain ⟨k, hk, rfl, HOK, hB⟩ := hrel
    have hBw : Below w.heap.size w wr := HBW.out.trans (hB.mono HBW.out.size)
    have hX1 := HX1.out.below hB
    have hX2 := HX2.out.below hB
    obtain ⟨x0, x1, -⟩ := hX1.two
    obtain ⟨q0, q1, -⟩ := hX2.two
    by_cases hkn : k < x.ar.length
    · obtain ⟨b1, off, ea, hb1, ⟨m1, m2⟩, c0, c1⟩ := HX.out.sl hB k hkn
      subst ea
      have HBad : Hid (fiS s (x.ar.getD k (0, 0)).1 (x.ar.getD k (0, 0)).2 = false → spF (fiS s) n x = false) := fun h => spF_no2 hkn h
      obtain ⟨y, hy⟩ : ∃ y, x.ar.getD k (0, 0) = y := ⟨_, rfl⟩
      have HY : Hid (x.ar.getD k (0, 0) = y) := hy
      rw [hy] at m1 m2 c0 c1 HBad
      clear hy
      have i1 : (0 : Int) ≤ (k : Int) := by omega
      have i2 : (k : Int) < (x.ar.length : Int) := by omega
      go_upto_region 6 with fail
      refine wp_region_held_drew (S := fun w9 => (w9.cell? ⟨w.heap.size + 1, 0, none⟩ = some (.slice ga s.rg.length gc) ∧ w9.cell? ⟨w.heap.size + 1, 1, none⟩ = some (.slice ma s.rw.length mc)) ∧ w9.cell? ⟨w.heap.size, 1, none⟩ = some (.slice (some ⟨b1, off, none⟩) x.ar.length xc) ∧ w9.cell? ⟨b1, off + k * 2, none⟩ = some (.int .i64 y.1) ∧ w9.cell? ⟨b1, off + k * 2 + 1, none⟩ = some (.int .i64 y.2)) (by kernel_rfl) ?_ (fun hHeld => ?_)
      · (try dsimp only)
        go_keep
      have hdr : Below wr.heap.size wr wr.drew := Below.drew1
      generalize wr.drew = Z6 at hdr hHeld ⊢
      replace hB := hB.trans (hdr.mono hB.size)
      replace hBw := hBw.trans (hdr.mono hBw.size)
      have hfi := sfitsS_any ga gc ma mc s y.1 y.2 Z6 k2 m1 m2
      clear hdr c0 c1 x0 x1 q0 q1 hX1 hX2
      refine hT 0 hHeld ?_
      refine hT 1 hHeld ?_
      refine hT 2 hHeld ?_
      refine hT 3 hHeld ?_
      refine hT 4 hHeld ?_
      refine hT 5 hHeld ?_
      have HCL : Hid (∀ U, Below Z6.heap.size Z6 U → (U.cell? ⟨w.heap.size + 1, 0, none⟩ = some (.slice ga s.rg.length gc) ∧ U.cell? ⟨w.heap.size + 1, 1, none⟩ = some (.slice ma s.rw.length mc)) ∧ U.cell? ⟨w.heap.size, 1, none⟩ = some (.slice (some ⟨b1, off, none⟩) x.ar.length xc) ∧ U.cell? ⟨b1, off + k * 2, none⟩ = some (.int .i64 y.1) ∧ U.cell? ⟨b1, off + k * 2 + 1, none⟩ = some (.int .i64 y.2)) := fun U hU => by
        have l1 : w.heap.size + 1 < Z6.heap.size := Nat.lt_of_lt_of_le HX1.out.lt hB.size
        have l2 : b1 < Z6.heap.size := Nat.lt_of_lt_of_le hb1 hB.size
        exact ⟨⟨(hU.cell (p := ⟨w.heap.size + 1, 0, none⟩) l1).trans hHeld.1.1, (hU.cell (p := ⟨w.heap.size + 1, 1, none⟩) l1).trans hHeld.1.2⟩, (hU.cell (p := ⟨w.heap.size, 1, none⟩) (by show w.heap.size < _; omega)).trans hHeld.2.1, (hU.cell (p := ⟨b1, off + k * 2, none⟩) l2).trans hHeld.2.2.1, (hU.cell (p := ⟨b1, off + k * 2 + 1, none⟩) l2).trans hHeld.2.2.2⟩
      cases hf3 : fiS s y.1 y.2 with
      | false =>
        rw [hf3] at hfi
        have HF : Hid (spF (fiS s) n x = false) := HBad.out hf3
        clear hf3 HBad HOK
        refine hCall (i := 6) rfl (by kernel_rfl) (by rfl) (fun K hK => ?_)
        go_simp
        refine (hfi).mono ?_
        rintro e u4 ⟨rfl, hb⟩
        go_wp2_with fail
        refine hK.out _ _ ?_ (fun hHeld => ?_)
        · (try dsimp only)
          exact HCL.out _ hb
        clear hK K
        try simp only [Act.put, List.setIfInBounds_toArray, List.set_cons_zero, List.set_cons_succ]
        replace hBw := hBw.trans (hb.mono hBw.size)
        refine hT 7 hHeld ?_
        refine wpAnyH_done (by kernel_rfl) ?_ _
        clear hHeld hfi hb
        go_wp2
        go_ret
        exact ⟨rt_bool HF.out.symm, hBw⟩
      | true =>
      rw [hf3] at hfi
      have HOK2 : Hid (∀ j, j < k + 1 → fiS s (x.ar.getD j (0, 0)).1 (x.ar.getD j (0, 0)).2 = true) := fun j hj => by
        rcases Nat.lt_or_ge j k with h1 | h1
        · exact HOK.out j h1
        · rw [show j = k by omega, HY.out, hf3]
      clear hf3 HBad HOK HY
      refine hCall (i := 6) rfl (by kernel_rfl) (by rfl) (fun K hK => ?_)
      go_simp
      refine (hfi).mono ?_
      rintro e u4 ⟨rfl, hb⟩
      go_wp2_with fail
      refine hK.out _ _ ?_ (fun hHeld => ?_)
      · (try dsimp only)
        exact HCL.out _ hb
      clear hK K
      try simp only [Act.put, List.setIfInBounds_toArray, List.set_cons_zero, List.set_cons_succ]
      replace hB := hB.trans (hb.mono hB.size)
      refine hT 7 hHeld ?_
      refine wpAnyH_done (by kernel_rfl) ?_ _
      clear hHeld hfi hb hBw HCL
      go_wp2
      go_roundw
      case rel => exact ⟨k + 1, by omega, by go_num, HOK2, hB⟩
      case measure => simp [intOf]; omega
    · have g4 : ¬ (k : Int) < (x.ar.length : Int) := by omega
      have HF : Hid (spF (fiS s) n x = (!decide (x.d = 4) || (isD n (x.ar.getD 0 (0, 0)).1 && decide ((x.ar.getD 0 (0, 0)).2 = -1)))) := spF_yes HLEN.out (fun j hj => HOK.out j (by omega))
      obtain ⟨b1, off, ea, hb1, ⟨m1, m2⟩, c0, c1⟩ := HX.out.sl hB 0 hpos
      subst ea
      rw [Nat.zero_mul, Nat.add_zero] at c0 c1
      have hi0 : (0 : Int) < (x.ar.length : Int) := by omega
      generalize x.ar.getD 0 (0, 0) = y at *
      have HID : Hid (isD n y.1 = (decide (0 ≤ y.1) && decide (y.1 < (n : Int)))) := rfl
      clear HOK hX1 hX2 x0 x1
      by_cases h4 : x.d = 4
      rotate_left
      · have g5 : (x.d != 4) = true := bne_iff_ne.2 h4
        rw [decide_eq_false h4] at HF
        clear h4
        go_wp2
        go_ret
        exact ⟨rt_bool HF.out.symm, hBw⟩
      rw [h4] at q0
      rw [decide_eq_true h4] at HF
      clear h4
      by_cases h5 : y.2 = -1
      rotate_left
      · have g6 : (y.2 == -1) = false := beq_eq_false_iff_ne.2 h5
        rw [decide_eq_false h5, Bool.and_false] at HF
        clear h5
        go_wp2
        go_ret
        exact ⟨rt_bool HF.out.symm, hBw⟩
      rw [h5] at c1
      rw [decide_eq_true h5, Bool.and_true, HID.out] at HF
      clear h5 m2
      by_cases h6 : 0 ≤ y.1
      rotate_left
      · have g6 : decide (0 ≤ y.1) = false := decide_eq_false h6
        rw [g6] at HF
        go_wp2
        go_ret
        exact ⟨rt_bool HF.out.symm, hBw⟩
      have g6 : decide (0 ≤ y.1) = true := decide_eq_true h6
      rw [g6] at HF
      obtain ⟨q, hq⟩ : ∃ q, decide (y.1 < (n : Int)) = q := ⟨_, rfl⟩
      rw [hq] at HF
      go_wp2
      go_ret
      exact ⟨rt_bool (by rw [HF.out]; rfl), hBw⟩

set_option maxHeartbeats 8000000 in
set_option maxRecDepth 100000 in
theorem sformD_any (S : Nat → Prop) (a : Option Addr) (ca : Nat) (l : List (List Sp)) (ga : Option Addr) (gc : Nat) (ma : Option Addr) (mc : Nat) (s : Sr) (w : World) (hl : Gr SpE.row S w a ca l) (k2 : s.rw.length ≤ 9223372036854775807) (k3 : s.rg.length ≤ 9223372036854775807) :
    Calls Tryz.prog 12 #[.slice a l.length ca, .agg #[.slice ga s.rg.length gc, .slice ma s.rw.length mc]] w fun e w' => e = .returned (.bool (foD (fiS s) l)) ∧ Below w.heap.size w w' := by
  have kl := hl.lenB
  obtain ⟨W, hW, X1, hbW⟩ : ∃ W, W = w.alloc (.cells #[.slice ga s.rg.length gc, .slice ma s.rw.length mc] 26) ∧ Bk 26 W w.heap.size [.slice ga s.rg.length gc, .slice ma s.rw.length mc] ∧ Below w.heap.size w W := ⟨_, rfl, Bk.new _ _ _, bl1 _⟩
  by_cases hn1 : 20 < l.length
  · have HF : Hid (foD (fiS s) l = false) := foD_no1 hn1
    have g2 : (20 : Int) < (l.length : Int) := by omega
    go_enter Tryz.func12, Tryz.ntmps12
    go_upto_region 1 with fail
    rw [← hW]
    clear hW
    go_wp2
    go_ret
    exact ⟨rt_bool HF.out.symm, hbW⟩
  have g2 : ¬ (20 : Int) < (l.length : Int) := by omega
  have HL : Hid (Gr SpE.row S W a ca l) := hl.below hbW
  have HX1 : Hid (Bk 26 W w.heap.size [.slice ga s.rg.length gc, .slice ma s.rw.length mc]) := X1
  have HBW : Hid (Below w.heap.size w W) := hbW
  go_enter Tryz.func12, Tryz.ntmps12
  go_upto_region 1 with fail
  rw [← hW]
  clear hW hl X1 hbW
  go_wp2
  clear g2
  go_loopw [5] (fun i wr => ∃ k : Nat, k ≤ l.length ∧ i = .int .i64 k ∧ Hid (∀ j, j < k → drF (fiS s) l.length (l.getD j []) = true) ∧ Below W.heap.size W wr) (fun i _ => l.length - (intOf i).toNat)
  case atStart => exact ⟨0, Nat.zero_le _, rfl, (fun j hj => by omega), Below.refl _ _⟩
  case round =>
    obtain ⟨k, hk, rfl, HOK, hB⟩ := hrel
    have hBw : Below w.heap.size w wr := HBW.out.trans (hB.mono HBW.out.size)
    by_cases hkn : k < l.length
    rotate_left
    · have HF : Hid (foD (fiS s) l = true) := foD_iff.2 ⟨by omega, fun j hj => HOK.out j (by omega)⟩
      have g4 : ¬ (k : Int) < (l.length : Int) := by omega
      clear HOK
      go_wp2
      go_ret
      exact ⟨rt_bool HF.out.symm, hBw⟩
    obtain ⟨b1, off, a1, c1, ea, hb1, c0, hd, hdl, -⟩ := HL.out.rw hB k hkn
    have HBad : Hid (drF (fiS s) l.length (l.getD k []) = false → foD (fiS s) l = false) := foD_no2 hkn
    obtain ⟨d, hdd⟩ : ∃ d, l.getD k [] = d := ⟨_, rfl⟩
    have HDD : Hid (l.getD k [] = d) := hdd
    rw [hdd] at c0 hd hdl HBad
    subst ea
    clear hdd
    have i1 : (0 : Int) ≤ (k : Int) := by omega
    have i2 : (k : Int) < (l.length : Int) := by omega
    by_cases hd6 : 60 < d.length
    · have g3 : (60 : Int) < (d.length : Int) := by omega
      have HF : Hid (foD (fiS s) l = false) := HBad.out (drF_no1 hd6)
      clear HBad HOK
      go_wp2
      go_ret
      exact ⟨rt_bool HF.out.symm, hBw⟩
    have g3 : ¬ (60 : Int) < (d.length : Int) := by omega
    have HD : Hid (Gr SpE S wr a1 c1 d) := hd
    have HB : Hid (Below W.heap.size W wr) := hB
    have HC0 : Hid (∀ U, Below W.heap.size wr U → U.cell? ⟨b1, off + k, none⟩ = some (.slice a1 d.length c1)) := fun U hU => (hU.cell (p := ⟨b1, off + k, none⟩) hb1).trans c0
    obtain ⟨wq, hwq⟩ : ∃ u, u = wr := ⟨_, rfl⟩
    rw [← hwq] at HD HB HC0
    rw [← hwq] at c0 ⊢
    clear hd hB hBw hwq
    go_wp2
    clear c0 g3
    go_loopw [6] (fun i wr => ∃ j : Nat, j ≤ d.length ∧ i = .int .i64 j ∧ Hid (∀ i, i < j → spF (fiS s) l.length (d.getD i Sp.none) = true) ∧ Below wq.heap.size wq wr) (fun i _ => d.length - (intOf i).toNat)
    case atStart => exact ⟨0, Nat.zero_le _, rfl, (fun j hj => by omega), Below.refl _ _⟩
    case round =>
      obtain ⟨j, hj, rfl, HOJ, hC⟩ := hrel
      have c0 := HC0.out wr (hC.mono HB.out.size)
      have hB : Below W.heap.size W wr := HB.out.trans (hC.mono HB.out.size)
      have hBw : Below w.heap.size w wr := HBW.out.trans (hB.mono HBW.out.size)
      by_cases hjn : j < d.length
      rotate_left
      · have g4 : ¬ (j : Int) < (d.length : Int) := by omega
        have HOK2 : Hid (∀ i, i < k + 1 → drF (fiS s) l.length (l.getD i []) = true) := fun i hi => by
          rcases Nat.lt_or_ge i k with h1 | h1
          · exact HOK.out i h1
          · rw [show i = k by omega, HDD.out]
            exact drF_iff.2 ⟨by omega, fun i hi => HOJ.out i (by omega)⟩
        clear HOK HOJ HBad HDD hC hBw
        go_wp2
        go_roundw
        case rel => exact ⟨k + 1, by omega, by go_num, HOK2, hB⟩
        case measure => simp [intOf]; omega
      obtain ⟨b2, of2, a2, c2, ea2, hb2, hI, d0, d1, hsl, hsl2⟩ := HD.out.sp hC j hjn
      have HBad2 : Hid (spF (fiS s) l.length (d.getD j Sp.none) = false → foD (fiS s) l = false) := fun h => HBad.out (drF_no2 hjn h)
      obtain ⟨x, hx⟩ : ∃ x, d.getD j Sp.none = x := ⟨_, rfl⟩
      have HXX : Hid (d.getD j Sp.none = x) := hx
      rw [hx] at hI d0 d1 hsl hsl2 HBad2
      subst ea2
      clear hx
      have i3 : (0 : Int) ≤ (j : Int) := by omega
      have i4 : (j : Int) < (d.length : Int) := by omega
      have hX1 := HX1.out.below hB
      obtain ⟨x0, x1, -⟩ := hX1.two
      go_upto_region 11 with fail
      refine wp_region_held_drew (S := fun w9 => w9.cell? ⟨b1, off + k, none⟩ = some (.slice (some ⟨b2, of2, none⟩) d.length c1) ∧ (w9.cell? ⟨b2, of2 + j * 2, none⟩ = some (.int .i64 x.d) ∧ w9.cell? ⟨b2, of2 + j * 2 + 1, none⟩ = some (.slice a2 x.ar.length c2)) ∧ w9.cell? ⟨w.heap.size, 0, none⟩ = some (.slice ga s.rg.length gc) ∧ w9.cell? ⟨w.heap.size, 1, none⟩ = some (.slice ma s.rw.length mc)) (by kernel_rfl) ?_ (fun hHeld => ?_)
      · (try dsimp only)
        go_keep
      have hdr : Below wr.heap.size wr wr.drew := Below.drew1
      generalize wr.drew = Z6 at hdr hHeld ⊢
      replace hsl := hsl.below hdr
      replace hC := hC.trans (hdr.mono hC.size)
      replace hBw := hBw.trans (hdr.mono hBw.size)
      have hst := sstepD_any S l.length ga gc ma mc s a2 c2 x Z6 kl k2 k3 hI hsl
      have HCL : Hid (∀ U, Below Z6.heap.size Z6 U → U.cell? ⟨b1, off + k, none⟩ = some (.slice (some ⟨b2, of2, none⟩) d.length c1) ∧ (U.cell? ⟨b2, of2 + j * 2, none⟩ = some (.int .i64 x.d) ∧ U.cell? ⟨b2, of2 + j * 2 + 1, none⟩ = some (.slice a2 x.ar.length c2)) ∧ U.cell? ⟨w.heap.size, 0, none⟩ = some (.slice ga s.rg.length gc) ∧ U.cell? ⟨w.heap.size, 1, none⟩ = some (.slice ma s.rw.length mc)) := fun U hU => by
        have l1 : w.heap.size < Z6.heap.size := Nat.lt_of_lt_of_le hX1.lt hdr.size
        have l2 : b2 < Z6.heap.size := Nat.lt_of_lt_of_le hb2 hC.size
        have l3 : b1 < Z6.heap.size := Nat.lt_of_lt_of_le hb1 (Nat.le_trans hB.size hdr.size)
        exact ⟨(hU.cell (p := ⟨b1, off + k, none⟩) l3).trans hHeld.1, ⟨(hU.cell (p := ⟨b2, of2 + j * 2, none⟩) l2).trans hHeld.2.1.1, (hU.cell (p := ⟨b2, of2 + j * 2 + 1, none⟩) l2).trans hHeld.2.1.2⟩, (hU.cell (p := ⟨w.heap.size, 0, none⟩) l1).trans hHeld.2.2.1, (hU.cell (p := ⟨w.heap.size, 1, none⟩) l1).trans hHeld.2.2.2⟩
      clear hdr c0 d0 d1 x0 x1 hX1 hB
      refine hT 0 hHeld ?_
      refine hT 1 hHeld ?_
      refine hT 2 hHeld ?_
      refine hT 3 hHeld ?_
      refine hT 4 hHeld ?_
      refine hT 5 hHeld ?_
      refine hT 6 hHeld ?_
      refine hT 7 hHeld ?_
      refine hT 8 hHeld ?_
      refine hT 9 hHeld ?_
      cases hf3 : spF (fiS s) l.length x with
      | false =>
        rw [hf3] at hst
        have HF : Hid (foD (fiS s) l = false) := HBad2.out hf3
        clear hf3 HBad2 HBad HOJ
        refine hCall (i := 10) rfl (by kernel_rfl) (by rfl) (fun K hK => ?_)
        go_simp
        refine (hst).mono ?_
        rintro e u4 ⟨rfl, hb⟩
        go_wp2_with fail
        refine hK.out _ _ ?_ (fun hHeld => ?_)
        · (try dsimp only)
          exact HCL.out _ hb
        clear hK K
        try simp only [Act.put, List.setIfInBounds_toArray, List.set_cons_zero, List.set_cons_succ]
        replace hBw := hBw.trans (hb.mono hBw.size)
        refine hT 11 hHeld ?_
        refine wpAnyH_done (by kernel_rfl) ?_ _
        clear hHeld hst hb
        go_wp2
        go_ret
        exact ⟨rt_bool HF.out.symm, hBw⟩
      | true =>
      rw [hf3] at hst
      have HOJ2 : Hid (∀ i, i < j + 1 → spF (fiS s) l.length (d.getD i Sp.none) = true) := fun i hi => by
        rcases Nat.lt_or_ge i j with h1 | h1
        · exact HOJ.out i h1
        · rw [show i = j by omega, HXX.out, hf3]
      clear hf3 HBad2 HOJ HXX
      refine hCall (i := 10) rfl (by kernel_rfl) (by rfl) (fun K hK => ?_)
      go_simp
      refine (hst).mono ?_
      rintro e u4 ⟨rfl, hb⟩
      go_wp2_with fail
      refine hK.out _ _ ?_ (fun hHeld => ?_)
      · (try dsimp only)
        exact HCL.out _ hb
      clear hK K
      try simp only [Act.put, List.setIfInBounds_toArray, List.set_cons_zero, List.set_cons_succ]
      replace hC := hC.trans (hb.mono hC.size)
      refine hT 11 hHeld ?_
      refine wpAnyH_done (by kernel_rfl) ?_ _
      clear hHeld hst hb hBw hsl HCL
      go_wp2
      go_roundw
      case rel => exact ⟨j + 1, by omega, by go_num, HOJ2, hC⟩
      case measure => simp [intOf]; omega

end Go.Proofs.YtkbbdkecillnpaaGreat

namespace Go.Proofs.YtkbbdkecillnpaaGreat
open Go.RowKit Go.Maps
set_option linter.unusedSimpArgs false
set_option linter.unusedVariables false

theorem info_b8 : (Tryz.prog.info? 5).map (fun i => (i.zero, i.size, i.bytes)) = some (some (.int .u8 0), 1, 1) := by kernel_rfl
def Bo (base : Nat) (w : World) (v : Value) (ys : List Nat) : Prop := Byt ys ∧ w.ownsRow base 5 1 v ys.length (ys.map Y)
theorem Bo.nil (base : Nat) (w : World) : Bo base w (.slice none 0 0) [] := ⟨Byt.nil, World.ownsRow_nil w base _ 1⟩
theorem Bo.slice {base : Nat} {w : World} {v : Value} {ys : List Nat} (h : Bo base w v ys) : ∃ a cap, v = .slice a ys.length cap ∧ Rb w a cap ys := by
  have h3 := h.2
  rcases h3.2 with ⟨e, h0⟩ | ⟨g, cap, cur, e, hb, hg, hc1, hc2, hc3, ht⟩
  · have : ys = [] := List.length_eq_zero_iff.1 h0
    subst this
    exact ⟨none, 0, e, Rb.nil _ _ _ (Nat.zero_le _) (fun _ => rfl)⟩
  · subst e
    exact ⟨_, _, rfl, Rw.rd (e := 5) (base := base) ⟨h.1, h3⟩⟩
theorem Bo.below {base : Nat} {w w' : World} {v : Value} {ys : List Nat} (h : Bo base w v ys) (hb : Below w.heap.size w w') : Bo base w' v ys := by
  obtain ⟨h1, h3⟩ := h
  refine ⟨h1, h3.1, ?_⟩
  rcases h3.2 with h0 | ⟨g, cap', cur, k1, k2, k3, k4⟩
  · exact .inl h0
  · exact .inr ⟨g, cap', cur, k1, k2, (hb.block g (Array.getElem?_eq_some_iff.1 k3).1).trans k3, k4⟩
theorem Bo.lo {base : Nat} {w : World} {v : Value} {ys : List Nat} (h : Bo base w v ys) {g : Nat} (hg : v.ownBlock = some g) : base ≤ g ∧ g < w.heap.size := World.ownsRow.lt h.2 g hg
/-- 'append(b, x)': x is laid in a block of its own first. -/
theorem wpList_append_b1 {w : World} {ops : Array Oper} {rest : List Oper} {o : Oper} {a : Act} {Q : Exit → Act → World → Prop}
    (hgd : o.guard = none) (s x : Operand) (ho : o.op = .call { callee := .builtin .append, args := #[s, x], argTypes := #[42, 42] })
    (base : Nat) (v : Value) (ys : List Nat) (hs : a.eval s = v) (hown : Bo base w v ys) (g : Nat) (z : Nat) (hx : a.eval x = .slice (some ⟨g, 0, none⟩) 1 1)
    (c0 : w.cell? ⟨g, 0, none⟩ = some (.int .u8 (z : Int))) (hz : z < 256) (hlen : ys.length + 1 ≤ 1000000) (hbase : base ≤ w.heap.size)
    (h : ∀ v' w', Bo base w' v' (ys ++ [z]) → w.grownBy w' v.ownBlock → wpList Tryz.prog ops Q rest (a.put o.dst v') w') : wpList Tryz.prog ops Q (o :: rest) a w := by
  obtain ⟨i0, hi, hz0, hz1, hz2⟩ := info_parts info_b8
  refine wpList_append_oneB hgd s x 42 ho base 5 i0 Tryz.underlying42 hi hz0 hz1 hz2 v ys.length ys hs hown.2 g z hx c0 (by omega) hbase ?_
  intro v' w' k1 k2 _
  exact h v' w' ⟨hown.1.append (fun y hy => by rw [List.mem_singleton.1 hy]; exact hz), by rw [List.length_append]; exact k1⟩ k2
/-- 'append(b, more...)'. -/
theorem wpList_append_bs {w : World} {ops : Array Oper} {rest : List Oper} {o : Oper} {a : Act} {Q : Exit → Act → World → Prop}
    (hgd : o.guard = none) (s x : Operand) (ho : o.op = .call { callee := .builtin .append, args := #[s, x], argTypes := #[42, 42] })
    (base : Nat) (v : Value) (ys : List Nat) (hs : a.eval s = v) (hown : Bo base w v ys) (ad : Option Addr) (c m : Nat) (zs : List Nat) (hm : m = zs.length) (hx : a.eval x = .slice ad m c)
    (hrd : Rb w ad c zs) (hlen : ys.length + zs.length ≤ 1000000) (hbase : base ≤ w.heap.size)
    (h : ∀ v' w', Bo base w' v' (ys ++ zs) → w.grownBy w' v.ownBlock → wpList Tryz.prog ops Q rest (a.put o.dst v') w') : wpList Tryz.prog ops Q (o :: rest) a w := by
  obtain ⟨i0, hi, hz0, hz1, hz2⟩ := info_parts info_b8
  refine wpList_append_rb hgd s x 42 ho base 5 i0 Tryz.underlying42 hi hz0 hz1 hz2 v ys.length ys hs hown.2 ad c m zs hx hm hrd (by omega) hbase ?_
  intro v' w' k1 k2 _
  exact h v' w' ⟨hown.1.append hrd.lim, by rw [List.length_append]; exact k1⟩ k2

end Go.Proofs.YtkbbdkecillnpaaGreat
