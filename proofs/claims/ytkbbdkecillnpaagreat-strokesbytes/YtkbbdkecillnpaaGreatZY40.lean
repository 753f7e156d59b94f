/-
  foundryref18.Read: the walk.
  foundryref18.Same of two alike, foundryref15.SameContours of two alike: the walks (written by mk_dsm.py).
-/
import Derived.Test.YtkbbdkecillnpaaGreatZY31
import Derived.Test.YtkbbdkecillnpaaGreatZY39
import Derived.Test.YtkbbdkecillnpaaGreatZY30
import Derived.Test.YtkbbdkecillnpaaGreatZY8
import Derived.Test.YtkbbdkecillnpaaGreatZY25
import Derived.Test.YtkbbdkecillnpaaGreatZY18
import Derived.Deep.CutBlock
import Derived.Deep.CutRange
import Derived.BigQuiet
import Derived.Deep.QuietTactic
import Derived.WalkSmall
import Derived.Outline
namespace Go.Proofs.YtkbbdkecillnpaaGreat
open Go.RowKit Go.Maps
set_option linter.unusedSimpArgs false
set_option linter.unusedVariables false

theorem nD_le (b : List Nat) : nD b ≤ 20 := by unfold nD; split <;> omega
theorem mD_le (b : List Nat) : mD b ≤ 60 := by unfold mD; split <;> omega
/-- How a loop over a count that may be too great goes on, and ends. -/
theorem cut_on {k n N M : Nat} (hN : N = if n ≤ M then n else 0) (h : k < N) : k < n ∧ n ≤ M := by
  rw [hN] at h
  by_cases hm : n ≤ M
  · rw [if_pos hm] at h; exact ⟨h, hm⟩
  · rw [if_neg hm] at h; omega
theorem cut_off {k n N M : Nat} (hN : N = if n ≤ M then n else 0) (hk : k ≤ N) (h : ¬ k < N) : k = N ∧ (¬ k < n ∨ (k < n ∧ ¬ n ≤ M)) := by
  rw [hN] at hk h ⊢
  by_cases hm : n ≤ M
  · rw [if_pos hm] at hk h ⊢; omega
  · rw [if_neg hm] at hk h ⊢; omega

set_option maxHeartbeats 8000000 in
set_option maxRecDepth 100000 in
theorem sreadD_any (ba : Option Addr) (bc : Nat) (xs : List Nat) (ga : Option Addr) (gc : Nat) (ma : Option Addr) (mc : Nat) (s : Sr) (w : World) (hx : Rb w ba bc xs) (k2 : s.rw.length ≤ 9223372036854775807) (k3 : s.rg.length ≤ 9223372036854775807) :
    Calls Tryz.prog 19 #[.slice ba xs.length bc, .agg #[.slice ga s.rg.length gc, .slice ma s.rw.length mc]] w fun e w' => ∃ a' c', e = .returned (.tuple #[.slice a' (rdDL (fiS s) xs).length c', .int .i64 (rdDE (fiS s) xs)]) ∧ Gr SpE.row (fun k => w.heap.size ≤ k) w' a' c' (rdDL (fiS s) xs) ∧ Below w.heap.size w w' := by
  have kx := hx.le
  have kx2 := hx.cap
  unfold maxLen at kx2
  have hn16 := hd2_lt hx.lim 0
  rw [List.drop_zero] at hn16
  obtain ⟨W, hW, X1, hbW⟩ : ∃ W, W = w.alloc (.cells #[.slice ga s.rg.length gc, .slice ma s.rw.length mc] 26) ∧ Bk 26 W w.heap.size [.slice ga s.rg.length gc, .slice ma s.rw.length mc] ∧ Below w.heap.size w W := ⟨_, rfl, Bk.new _ _ _, bl1 _⟩
  have hu := su16_any ba bc xs 0 W (hx.below hbW) ⟨by decide, by decide⟩
  rw [show (0 : Int) = ((0 : Nat) : Int) from rfl, nmV_hd2, List.drop_zero, show ((0 : Nat) : Int) = 0 from rfl] at hu
  generalize inB xs.length 0 2 = th0 at hu
  have HRC : Hid (rdDc xs = rdDws (nD xs) (xs.drop 2)) := rfl
  have HND : Hid (nD xs = if hd2 xs ≤ 20 then hd2 xs else 0) := rfl
  have HN20 : Hid (nD xs ≤ 20) := nD_le xs
  have HNO : Hid (rdDOk (fiS s) xs = false → rdDL (fiS s) xs = [] ∧ rdDE (fiS s) xs = 2) := rdD_no
  have HYE : Hid (rdDOk (fiS s) xs = true → rdDL (fiS s) xs = rdDc xs ∧ rdDE (fiS s) xs = 0) := rdD_yes
  have HOK : Hid (rdDOk (fiS s) xs = (foD (fiS s) (rdDc xs) && decide (dsE (rdDc xs) = xs))) := rfl
  rw [HRC.out] at HYE HOK
  have HX : Hid (Rb W ba bc xs) := hx.below hbW
  have HBY : Hid (Byt xs) := hx.lim
  have HBW : Hid (Below w.heap.size w W) := hbW
  have HX1 : Hid (Bk 26 W w.heap.size [.slice ga s.rg.length gc, .slice ma s.rw.length mc]) := X1
  generalize hd2 xs = n at *
  generalize nD xs = ND at *
  obtain ⟨g, hgg⟩ : ∃ g, W.heap.size = g := ⟨_, rfl⟩
  have HG : Hid (W.heap.size = g) := hgg
  clear hx hbW X1
  go_enter Tryz.func19, Tryz.ntmps19
  go_upto_region 1 with fail
  rw [← hW]
  clear hW hgg
  go_wp2_with fail
  refine hu.mono ?_
  rintro e u0 ⟨rfl, rfl⟩
  clear hu
  go_wp2
  go_loopw [8, 9, 10] (fun av v i wr => ∃ (k : Nat), k ≤ ND ∧ i = .int .i64 (k : Int) ∧ av = .int .i64 ((2 + usWs k (xs.drop 2) : Nat) : Int) ∧ Gw SpE.row 52 g (fun q => g ≤ q) wr v (rdDws k (xs.drop 2)) ∧ Below W.heap.size W wr) (fun _ _ i _ => ND - (intOf i).toNat)
  case atStart => exact ⟨0, Nat.zero_le _, rfl, rfl, Gw.nil _ _ _ _ _, Below.refl _ _⟩
  case round =>
    obtain ⟨k, hk, rfl, rfl, hGw, hB⟩ := hrel
    obtain ⟨a7, c7, e7, hgr7, hb7⟩ := hGw.slice
    subst e7
    rw [rdDws_len] at hGw ⊢
    have hND20 := HN20.out
    by_cases hkN : k < ND
    rotate_left
    · obtain ⟨hke, hex⟩ := cut_off HND.out hk hkN
      subst hke
      have hwr := swriteD_any _ a7 c7 (rdDws k (xs.drop 2)) ga gc ma mc s wr hgr7 k2 k3
      have HGR : Hid (Gr SpE.row (fun q => g ≤ q) wr a7 c7 (rdDws k (xs.drop 2))) := hgr7
      have HLN : Hid ((rdDws k (xs.drop 2)).length = k) := rdDws_len _ _
      rw [HLN.out] at hwr
      obtain ⟨tl, htl⟩ : ∃ t, rdDws k (xs.drop 2) = t := ⟨_, rfl⟩
      rw [htl] at hwr HGR HLN HYE HOK
      have hX1 := HX1.out.below hB
      obtain ⟨x0, x1, -⟩ := hX1.two
      have hBw : Below w.heap.size w wr := HBW.out.trans (hB.mono HBW.out.size)
      have HSZ : Hid (w.heap.size ≤ g) := by show _ ≤ _; have h1 := HBW.out.size; have h2 := HG.out; omega
      have HXR : Hid (Rb wr ba bc xs) := HX.out.below hB
      have HFW : Hid (foD (fiS s) tl = false → wrDB (fiS s) tl = [] ∧ wrDE (fiS s) tl = 1) := wrD_no
      have HFY : Hid (foD (fiS s) tl = true → wrDB (fiS s) tl = dsE tl ∧ wrDE (fiS s) tl = 0) := wrD_yes
      clear hGw hgr7 hb7 htl hkN hk
      have hg123 : (decide ((k : Int) < (n : Int)) = false ∧ decide (k < n) = false) ∨ (decide ((k : Int) < (n : Int)) = true ∧ decide (k < n) = true ∧ decide ((n : Int) ≤ 20) = false) := by
        rcases hex with h | ⟨h, h2⟩
        · exact .inl ⟨decide_eq_false (by omega), decide_eq_false h⟩
        · exact .inr ⟨decide_eq_true (by omega), decide_eq_true h, decide_eq_false (by omega)⟩
      clear hex
      cases hfo : foD (fiS s) tl with
      | false =>
        obtain ⟨f1, f2⟩ := HFW.out hfo
        rw [f1, f2] at hwr
        have HN : Hid (_) := HNO.out (by rw [HOK.out, hfo]; rfl)
        clear HFW HFY f1 f2 hfo HNO HYE HOK
        rcases hg123 with ⟨g1, g2⟩ | ⟨g1, g2, g3⟩
        all_goals
          go_wp2_with fail
          refine hwr.mono ?_
          rintro e u3 ⟨a9, c9, rfl, -, hb3⟩
          have HFIN : Hid (_) := hBw.trans (hb3.mono hBw.size)
          clear hwr hb3
          go_wp2
          go_ret2
          exact ⟨none, 0, by rw [HN.out.1, HN.out.2]; rfl, by rw [HN.out.1]; exact Gr.nil _ _ _ _ _ (Nat.zero_le _) (fun _ => rfl), HFIN.out⟩
      | true =>
        obtain ⟨f1, f2⟩ := HFY.out hfo
        rw [f1, f2] at hwr
        have hdl : (dsE tl).length ≤ 30042 := dsE_len hfo
        rw [hfo, Bool.true_and] at HOK
        clear HFW HFY f1 f2 hfo
        rcases hg123 with ⟨g1, g2⟩ | ⟨g1, g2, g3⟩
        all_goals
          go_wp2_with fail
          refine hwr.mono ?_
          rintro e u3 ⟨a9, c9, rfl, hr9, hb3⟩
          have hB3 := hBw.trans (hb3.mono hBw.size)
          have hsm := same8g_any ba a9 bc c9 xs (dsE tl) u3 (HXR.out.below hb3) hr9.rd
          have HGU : Hid (Gr SpE.row (fun q => g ≤ q) u3 a7 c7 tl) := HGR.out.below hb3
          have HDC : Hid (decide (xs = dsE tl) = decide (dsE tl = xs)) := by
            show _ = _
            congr 1
            apply propext
            exact ⟨Eq.symm, Eq.symm⟩
          rw [HDC.out] at hsm
          generalize (dsE tl).length = dl at *
          clear hwr hb3 hr9
          cases hq : decide (dsE tl = xs) with
          | false =>
            rw [hq] at hsm
            have HN : Hid (_) := HNO.out (HOK.out.trans hq)
            clear hq HNO HYE HOK HDC
            go_wp2_with fail
            refine hsm.mono ?_
            rintro e u5 ⟨rfl, hb5⟩
            have HFIN : Hid (_) := hB3.trans (hb5.mono hB3.size)
            clear hsm hb5
            go_wp2
            go_ret2
            exact ⟨none, 0, by rw [HN.out.1, HN.out.2]; rfl, by rw [HN.out.1]; exact Gr.nil _ _ _ _ _ (Nat.zero_le _) (fun _ => rfl), HFIN.out⟩
          | true =>
            rw [hq] at hsm
            have HY : Hid (_) := HYE.out (HOK.out.trans hq)
            clear hq HNO HYE HOK HDC
            go_wp2_with fail
            refine hsm.mono ?_
            rintro e u5 ⟨rfl, hb5⟩
            have HFIN : Hid (_) := hB3.trans (hb5.mono hB3.size)
            have HGF : Hid (Gr SpE.row (fun q => w.heap.size ≤ q) u5 a7 c7 tl) := (HGU.out.below hb5).wide (fun q h1 _ => Nat.le_trans HSZ.out h1)
            clear hsm hb5
            go_wp2
            go_ret2
            exact ⟨a7, c7, by rw [HY.out.1, HY.out.2, HLN.out]; rfl, by rw [HY.out.1]; exact HGF.out, HFIN.out⟩
    obtain ⟨hkn, hn20⟩ := cut_on HND.out hkN
    have g1 : decide ((k : Int) < (n : Int)) = true := decide_eq_true (by omega)
    have g2 : decide (k < n) = true := decide_eq_true hkn
    have g3 : decide ((n : Int) ≤ 20) = true := decide_eq_true (by omega)
    have hpk : 2 + usWs k (xs.drop 2) ≤ 40000 := by have := usWs_le k (xs.drop 2); omega
    obtain ⟨hs1, hs2⟩ := rdDws_succ k (xs.drop 2)
    rw [List.drop_drop] at hs1 hs2
    have HS1 : Hid (_) := hs1
    have HS2 : Hid (2 + usWs (k + 1) (xs.drop 2) = 2 + usWs k (xs.drop 2) + usW (xs.drop (2 + usWs k (xs.drop 2)))) := by show _ = _; rw [hs2]; omega
    have HLM : Hid ((rdDws k (xs.drop 2)).length = k) := rdDws_len _ _
    have HOW : Hid (∀ q, (Value.slice a7 k c7).ownBlock = some q → g ≤ q ∧ q < wr.heap.size) := fun q e => hGw.lo e
    obtain ⟨p, hp⟩ : ∃ p, 2 + usWs k (xs.drop 2) = p := ⟨_, rfl⟩
    rw [hp] at HS1 HS2 hpk ⊢
    have HRD : Hid (rdDw (xs.drop p) = rdSps (mD (xs.drop p)) (xs.drop (p + 2))) := by show _ = _; unfold rdDw; rw [List.drop_drop]
    have HUW : Hid (usW (xs.drop p) = 2 + usPs (mD (xs.drop p)) (xs.drop (p + 2))) := by show _ = _; unfold usW; rw [List.drop_drop]
    have HMD : Hid (mD (xs.drop p) = if hd2 (xs.drop p) ≤ 60 then hd2 (xs.drop p) else 0) := rfl
    have HM60 : Hid (mD (xs.drop p) ≤ 60) := mD_le _
    rw [HRD.out] at HS1
    rw [HUW.out] at HS2
    obtain ⟨ML, hML⟩ : ∃ M, rdDws k (xs.drop 2) = M := ⟨_, rfl⟩
    rw [hML] at hGw HS1 HLM
    have hu := su16_any ba bc xs (p : Int) wr (HX.out.below hB) ⟨by omega, by omega⟩
    rw [nmV_hd2] at hu
    generalize inB xs.length (p : Int) 2 = th1 at hu
    have hm16 := hd2_lt HBY.out p
    generalize hd2 (xs.drop p) = m at *
    generalize mD (xs.drop p) = MD at *
    have HGW : Hid (Gw SpE.row 52 g (fun q => g ≤ q) wr (.slice a7 k c7) ML) := hGw
    have HB : Hid (Below W.heap.size W wr) := hB
    obtain ⟨wq, hwq⟩ : ∃ u, u = wr := ⟨_, rfl⟩
    rw [← hwq] at HOW HGW HB hu ⊢
    obtain ⟨gq, hgq⟩ : ∃ n, wq.heap.size = n := ⟨_, rfl⟩
    have HGQ : Hid (wq.heap.size = gq) := hgq
    have hggq : g ≤ gq := by have h1 := HB.out.size; have h2 := HG.out; omega
    clear hs1 hs2 hgr7 hb7 hp hML hGw hB hwq hgq HRD HUW
    go_wp2_with fail
    refine hu.mono ?_
    rintro e u1 ⟨rfl, rfl⟩
    clear hu
    go_wp2
    clear g1 g2 g3
    go_loopw [8, 13, 14] (fun av v i wr => ∃ (j : Nat), j ≤ MD ∧ i = .int .i64 (j : Int) ∧ av = .int .i64 ((p + 2 + usPs j (xs.drop (p + 2)) : Nat) : Int) ∧ Gw SpE 50 gq (fun q => gq ≤ q) wr v (rdSps j (xs.drop (p + 2))) ∧ Below wq.heap.size wq wr) (fun _ _ i _ => MD - (intOf i).toNat)
    case atStart => exact ⟨0, Nat.zero_le _, rfl, congrArg (Value.int .i64) (by show (p : Int) + 2 = ((p + 2 + 0 : Nat) : Int); omega), Gw.nil _ _ _ _ _, Below.refl _ _⟩
    case round =>
      obtain ⟨j, hj, rfl, rfl, hGj, hC⟩ := hrel
      obtain ⟨a6, c6', e6, hgr6, hb6⟩ := hGj.slice
      subst e6
      rw [rdSps_len] at hGj ⊢
      have hM60 := HM60.out
      have hqs : gq ≤ wr.heap.size := by have h1 := hC.size; have h2 := HGQ.out; omega
      by_cases hjN : j < MD
      rotate_left
      · obtain ⟨hje, hex⟩ := cut_off HMD.out hj hjN
        subst hje
        have hg123 : (decide ((j : Int) < (m : Int)) = false ∧ decide (j < m) = false) ∨ (decide ((j : Int) < (m : Int)) = true ∧ decide (j < m) = true ∧ decide ((m : Int) ≤ 60) = false) := by
          rcases hex with h | ⟨h, h2⟩
          · exact .inl ⟨decide_eq_false (by omega), decide_eq_false h⟩
          · exact .inr ⟨decide_eq_true (by omega), decide_eq_true h, decide_eq_false (by omega)⟩
        clear hex
        obtain ⟨V9, hV9, Y9, hb9⟩ : ∃ V, V = wr.alloc (.cells #[.slice a6 j c6'] 52) ∧ Bk 52 V wr.heap.size [.slice a6 j c6'] ∧ Below wr.heap.size wr V := ⟨_, rfl, Bk.new _ _ _, bl1 _⟩
        have hGb := HGW.out.below (hC.trans (hb9.mono hC.size))
        have hrep : SpE.row.rep (fun q => g ≤ q ∧ (Value.slice a7 k c7).ownBlock ≠ some q) V9 [.slice a6 j c6'] (rdSps j (xs.drop (p + 2))) := by
          have hS : ∀ q, gq ≤ q → g ≤ q ∧ (Value.slice a7 k c7).ownBlock ≠ some q := fun q h1 => ⟨by omega, fun e => by have h2 := (HOW.out q e).2; have h3 := HGQ.out; omega⟩
          refine ⟨a6, c6', by rw [rdSps_len], fun b o e _ => hS b (hb6 b o e).1, (hgr6.below hb9).wide (fun q h1 _ => hS q h1), by rw [rdSps_len]; omega⟩
        have hone := Gr.one (E := SpE.row) hrep Y9.lt (fun j hj => Y9.cell j hj)
        have hBb : Below W.heap.size W V9 := HB.out.trans ((hC.trans (hb9.mono hC.size)).mono HB.out.size)
        have hbs : g ≤ V9.heap.size := by have := hb9.size; omega
        have hll : ML.length + 1 ≤ 1000000 := by rw [HLM.out]; omega
        have HAT : Hid (((p + 2 + usPs j (xs.drop (p + 2)) : Nat) : Int) = ((2 + usWs (k + 1) (xs.drop 2) : Nat) : Int)) := by show _ = _; rw [HS2.out]; omega
        have HBP : Hid (p + 2 + usPs j (xs.drop (p + 2)) ≤ 100000) := by show _ ≤ _; have := usPs_le j (xs.drop (p + 2)); omega
        clear hrep hGj hgr6 hb6 hC hjN
        obtain ⟨at9, hat9⟩ : ∃ z, p + 2 + usPs j (xs.drop (p + 2)) = z := ⟨_, rfl⟩
        rw [hat9] at HAT HBP ⊢
        clear hat9
        rcases hg123 with ⟨g1, g2⟩ | ⟨g1, g2, g3⟩
        all_goals
          go_wp2_with (at_builtin; rw [← hV9]; refine wpList_append_el (E := SpE.row) 22 52 Tryz.underlying22 info_ssD rfl (by decide) (by decide) rfl _ _ rfl g (fun q => g ≤ q) _ ML rfl hGb (some ⟨wr.heap.size, 0, none⟩) 1 1 [rdSps j (xs.drop (p + 2))] rfl rfl hone hll hbs ?_)
          intro v9 w9 hT9 hgrow _
          rw [← hV9] at hgrow
          rw [← HS1.out] at hT9
          have hB9 : Below W.heap.size W w9 := hBb.grown hgrow hBb.size (fun q hq => by have := (HOW.out q hq).1; have := HG.out; omega)
          clear hgrow hGb hone hbs hll hBb hV9 Y9 hb9
          go_wp2
          rw [HAT.out]
          go_roundw
          case rel => exact ⟨k + 1, by omega, by go_num, rfl, hT9, hB9⟩
          case measure => simp [intOf]; omega
      obtain ⟨hjn, hm60⟩ := cut_on HMD.out hjN
      have g1 : decide ((j : Int) < (m : Int)) = true := decide_eq_true (by omega)
      have g2 : decide (j < m) = true := decide_eq_true hjn
      have g3 : decide ((m : Int) ≤ 60) = true := decide_eq_true (by omega)
      obtain ⟨hs1, hs2⟩ := rdSps_succ j (xs.drop (p + 2))
      rw [List.drop_drop] at hs1 hs2
      have HT1 : Hid (_) := hs1
      have HT2 : Hid (p + 2 + usPs (j + 1) (xs.drop (p + 2)) = p + 2 + usPs j (xs.drop (p + 2)) + usP (xs.drop (p + 2 + usPs j (xs.drop (p + 2))))) := by show _ = _; rw [hs2]; omega
      have HLJ : Hid ((rdSps j (xs.drop (p + 2))).length = j) := rdSps_len _ _
      have HOJ : Hid (∀ q, (Value.slice a6 j c6').ownBlock = some q → gq ≤ q ∧ q < wr.heap.size) := fun q e => hGj.lo e
      have hqk : p + 2 + usPs j (xs.drop (p + 2)) ≤ 60000 := by have := usPs_le j (xs.drop (p + 2)); omega
      obtain ⟨q, hq⟩ : ∃ q, p + 2 + usPs j (xs.drop (p + 2)) = q := ⟨_, rfl⟩
      rw [hq] at HT1 HT2 hqk ⊢
      obtain ⟨D, hD⟩ : ∃ D, rdSps j (xs.drop (p + 2)) = D := ⟨_, rfl⟩
      rw [hD] at hGj HT1 HLJ
      have HRP : Hid (rdSp (xs.drop q) = ⟨((hd1 (xs.drop q) : Nat) : Int), rdSls (arD ((hd1 (xs.drop q) : Nat) : Int)).toNat (xs.drop (q + 1))⟩) := by show _ = _; unfold rdSp; rw [List.drop_drop]
      have HUP : Hid (usP (xs.drop q) = 1 + 4 * (arD ((hd1 (xs.drop q) : Nat) : Int)).toNat) := rfl
      rw [HRP.out] at HT1
      rw [HUP.out] at HT2
      have hu := su8_any ba bc xs (q : Int) wr ((HX.out.below HB.out).below hC) ⟨by omega, by omega⟩
      rw [nmV_hd1] at hu
      generalize inB xs.length (q : Int) 1 = th2 at hu
      have hd256 := hd1_lt HBY.out q
      generalize hd1 (xs.drop q) = dn at *
      have HA6 : Hid ((arD (dn : Int)).toNat ≤ 6) := arD_le _
      have HAR : Hid (arD (dn : Int) = -1 ∨ ((1 ≤ (dn : Int) ∧ (dn : Int) ≤ 4) ∧ 1 ≤ arD (dn : Int) ∧ arD (dn : Int) ≤ 6)) := arD_in _
      have hag := fun U => sArgs_any (dn : Int) U ⟨by omega, by omega⟩
      have HGJ : Hid (Gw SpE 50 gq (fun q => gq ≤ q) wr (.slice a6 j c6') D) := hGj
      have HC : Hid (Below wq.heap.size wq wr) := hC
      clear hs1 hs2 hgr6 hb6 hq hD hGj hC HRP HUP
      go_wp2_with fail
      refine hu.mono ?_
      rintro e u2 ⟨rfl, rfl⟩
      clear hu
      obtain ⟨U, hU, XX, hbU⟩ : ∃ U, U = wr.alloc (.cells #[.int .i64 (dn : Int), .slice none 0 0] 50) ∧ Bk 50 U wr.heap.size [.int .i64 (dn : Int), .slice none 0 0] ∧ Below wr.heap.size wr U := ⟨_, rfl, Bk.new _ _ _, bl1 _⟩
      obtain ⟨gx, hgx⟩ : ∃ n, wr.heap.size = n := ⟨_, rfl⟩
      have HGX : Hid (wr.heap.size = gx) := hgx
      rw [hgx] at XX
      have HUS : Hid (U.heap.size = gx + 1) := by show _ = _; rw [hU, ← hgx]; simp
      have HBU : Hid (Below wr.heap.size wr U) := hbU
      go_upto_region 16 with fail
      rw [← hU]
      try rw [hgx]
      clear hU hgx hbU
      go_wp2
      clear g1 g2 g3
      obtain ⟨AN, hAN⟩ : ∃ A, (arD (dn : Int)).toNat = A := ⟨_, rfl⟩
      have HAN : Hid ((arD (dn : Int)).toNat = AN) := hAN
      rw [hAN] at HT1 HT2 HA6
      clear hAN
      go_loopw [8, 18] (fun av i wr => ∃ (mm : Nat) (va : Value), mm ≤ AN ∧ i = .int .i64 (mm : Int) ∧ av = .int .i64 ((q + 1 + 4 * mm : Nat) : Int) ∧ Bk 50 wr gx [.int .i64 (dn : Int), va] ∧ Gw SlE 79 (gx + 1) (fun _ => False) wr va (rdSls mm (xs.drop (q + 1))) ∧ Kp gx U wr) (fun _ i _ => AN - (intOf i).toNat)
      case atStart => exact ⟨0, _, Nat.zero_le _, rfl, congrArg (Value.int .i64) (by show (q : Int) + 1 = ((q + 1 + 4 * 0 : Nat) : Int); omega), XX, Gw.nil _ _ _ _ _, Kp.refl _ _⟩
      case round =>
        clear XX
        obtain ⟨mm, va, hmm, rfl, rfl, hX, hGs, hKx⟩ := hrel
        obtain ⟨a5, c5, e5, hgr5, hb5⟩ := hGs.slice
        subst e5
        rw [rdSls_len] at hGs hX
        have hbl : Below gx U wr := hKx.below (by have := HUS.out; omega) (Nat.le_refl _)
        have hxs := hKx.size
        have hA6 := HA6.out
        obtain ⟨x0, x1, f0, f1⟩ := hX.two
        have hag2 := hag wr
        by_cases hmn : mm < AN
        rotate_left
        · have hme : mm = AN := by omega
          subst hme
          have g5 : ¬ (mm : Int) < arD (dn : Int) := by have h1 := HAR.out; have h2 := HAN.out; omega
          have hrep5 : SpE.rep (fun z => gq ≤ z ∧ (Value.slice a6 j c6').ownBlock ≠ some z) wr [.int .i64 (dn : Int), .slice a5 mm c5] ⟨(dn : Int), rdSls mm (xs.drop (q + 1))⟩ := by
            have hS : ∀ z, gx + 1 ≤ z → gq ≤ z ∧ (Value.slice a6 j c6').ownBlock ≠ some z := fun z h1 => ⟨by have := HGX.out; omega, fun e => by have h2 := (HOJ.out z e).2; have h3 := HGX.out; omega⟩
            refine SpE_rep.2 ⟨a5, c5, by rw [rdSls_len], ⟨by show _ ≤ (dn : Int); omega, by show (dn : Int) ≤ _; omega⟩, ⟨a5, c5, by rw [rdSls_len], fun b o e _ => hS b (hb5 b o e).1, hgr5.wide (fun z h1 _ => h1.elim), by show (rdSls mm _).length ≤ _; rw [rdSls_len]; omega⟩⟩
          obtain ⟨V9, hV9, Y9, hb9⟩ : ∃ V, V = wr.alloc (.cells #[.int .i64 (dn : Int), .slice a5 mm c5] 50) ∧ Bk 50 V wr.heap.size [.int .i64 (dn : Int), .slice a5 mm c5] ∧ Below wr.heap.size wr V := ⟨_, rfl, Bk.new _ _ _, bl1 _⟩
          have hone := Gr.one (E := SpE) (SpE.stay hrep5 hb9.size (fun k hk hl => ⟨hk, hb9.block k hl⟩)) Y9.lt (fun j hj => Y9.cell j hj)
          have hGU : Gw SpE 50 gq (fun z => gq ≤ z ∧ z < gx) U (.slice a6 j c6') D := HGJ.out.stay HBU.out.size (fun z h1 _ h3 => ⟨⟨h1, by have := HGX.out; omega⟩, HBU.out.block z h3⟩) (fun z hv => HBU.out.block z (HGJ.out.lo hv).2)
          have hGb : Gw SpE 50 gq (fun z => gq ≤ z) V9 (.slice a6 j c6') D := (hGU.bel hbl (fun z hz => by have h1 := (HOJ.out z hz).2; have h2 := HGX.out; omega)).below hb9
          have hCU : Below wq.heap.size wq U := HC.out.trans (HBU.out.mono HC.out.size)
          have hCr : Below wq.heap.size wq wr := hCU.trans (hbl.mono (by have h1 := HC.out.size; have h2 := HGX.out; omega))
          have hCb := hCr.trans (hb9.mono hCr.size)
          have hs9 := hb9.size
          have hbs : gq ≤ V9.heap.size := by have h1 := HUS.out; have h2 := HGX.out; omega
          have hll : D.length + 1 ≤ 1000000 := by rw [HLJ.out]; omega
          have HAT : Hid (((q + 1 + 4 * mm : Nat) : Int) = ((p + 2 + usPs (j + 1) (xs.drop (p + 2)) : Nat) : Int)) := by show _ = _; rw [HT2.out]; omega
          clear hrep5 hX hKx hbl hmn hGs hgr5 hb5 f0 f1 hGU hCU hCr
          obtain ⟨at9, hat9⟩ : ∃ z, q + 1 + 4 * mm = z := ⟨_, rfl⟩
          rw [hat9] at HAT ⊢
          clear hat9
          go_wp2_with fail
          refine hag2.mono ?_
          rintro e u7 ⟨rfl, rfl⟩
          clear hag2
          go_wp2_with (at_builtin; rw [← hV9]; refine wpList_append_el (E := SpE) 52 50 Tryz.underlying52 info_stD rfl (by decide) (by decide) rfl _ _ rfl gq (fun z => gq ≤ z) _ D rfl hGb (some ⟨wr.heap.size, 0, none⟩) 1 1 [⟨(dn : Int), rdSls mm (xs.drop (q + 1))⟩] rfl rfl hone hll hbs ?_)
          intro v9 w9 hT9 hgrow _
          rw [← hV9] at hgrow
          rw [← HT1.out] at hT9
          have hC9 : Below wq.heap.size wq w9 := hCb.grown hgrow hCb.size (fun z hz => by have h1 := (HOJ.out z hz).1; have h2 := HGQ.out; omega)
          clear hgrow hGb hone hbs hll hV9 Y9 hb9 hCb hs9 x0 x1
          go_wp2
          rw [HAT.out]
          go_roundw
          case rel => exact ⟨j + 1, by omega, by go_num, rfl, hT9, hC9⟩
          case measure => simp [intOf]; omega
        have g5 : (mm : Int) < arD (dn : Int) := by have h1 := HAR.out; have h2 := HAN.out; omega
        have HSC : Hid (_) := rdSls_succ mm (xs.drop (q + 1))
        rw [drop_two, show (xs.drop (q + 1)).drop (4 * mm + 2) = xs.drop (q + 1 + 4 * mm + 2) by rw [List.drop_drop]; congr 1] at HSC
        have hXb : Rb wr ba bc xs := by
          have h1 := ((HX.out.below HB.out).below HC.out).below HBU.out
          exact h1.keep' hxs (fun b o hlt e hne => hbl.block b (by
            have h2 := (((HX.out.below HB.out).below HC.out).blkD hne e)
            have h3 := HGX.out
            omega))
        have HPQ : Hid (q + 1 + 4 * mm + 4 = q + 1 + 4 * (mm + 1)) := by show _ = _; omega
        obtain ⟨r, hr⟩ : ∃ r, q + 1 + 4 * mm = r := ⟨_, rfl⟩
        have hr6 : r ≤ 70000 := by omega
        rw [hr] at HSC HPQ ⊢
        have hi1 := si16_any ba bc xs (r : Int) wr hXb ⟨by omega, by omega⟩
        have hi2 := si16_any ba bc xs ((r + 2 : Nat) : Int) wr hXb ⟨by omega, by omega⟩
        have hv1 := sx16_i64D (nmV_lt HBY.out (r : Int) 2)
        have hv2 := sx16_i64D (nmV_lt HBY.out ((r + 2 : Nat) : Int) 2)
        rw [nmV_hd2] at hi1 hi2 hv1 hv2
        generalize sx16 (hd2 (xs.drop r)) = v1 at *
        generalize sx16 (hd2 (xs.drop (r + 2))) = v2 at *
        generalize inB xs.length (r : Int) 2 = th3 at *
        generalize inB xs.length ((r + 2 : Nat) : Int) 2 = th4 at *
        have hr2 : (r : Int) + 2 = ((r + 2 : Nat) : Int) := by omega
        rw [← hr2] at hi2
        have HOA : Hid (∀ z, (Value.slice a5 mm c5).ownBlock = some z → gx + 1 ≤ z ∧ z < wr.heap.size) := fun z e => hGs.lo e
        obtain ⟨A, hA⟩ : ∃ A, rdSls mm (xs.drop (q + 1)) = A := ⟨_, rfl⟩
        have hAl : A.length = mm := by rw [← hA, rdSls_len]
        have HAL : Hid (A.length = mm) := hAl
        rw [hA] at hGs HSC
        clear hgr5 hb5 hr hA hAl hbl hXb hr2
        go_wp2_with fail
        refine hag2.mono ?_
        rintro e u7 ⟨rfl, rfl⟩
        clear hag2
        go_wp2_with fail
        refine hi1.mono ?_
        rintro e u8 ⟨rfl, rfl⟩
        clear hi1
        go_wp2_with fail
        refine hi2.mono ?_
        rintro e u9 ⟨rfl, rfl⟩
        clear hi2
        obtain ⟨V9, hV9, Y9, hb9⟩ : ∃ V, V = wr.alloc (.cells #[.int .i64 v1, .int .i64 v2] 79) ∧ Bk 79 V wr.heap.size [.int .i64 v1, .int .i64 v2] ∧ Below wr.heap.size wr V := ⟨_, rfl, Bk.new _ _ _, bl1 _⟩
        have hGb := hGs.below hb9
        have hXV := hX.below hb9
        have hKV := hKx.trans (Kp.of hb9)
        have hrep : SlE.rep (fun z => False ∧ (Value.slice a5 mm c5).ownBlock ≠ some z) V9 [.int .i64 v1, .int .i64 v2] (v1, v2) := SlE_rep.2 ⟨rfl, hv1, hv2⟩
        have hone := Gr.one (E := SlE) hrep Y9.lt (fun j hj => Y9.cell j hj)
        have hvs := hb9.size
        have hbs : gx + 1 ≤ V9.heap.size := by have := HUS.out; omega
        have hll : A.length + 1 ≤ 1000000 := by rw [HAL.out]; omega
        have hgx9 : (Value.slice a5 mm c5).ownBlock ≠ some gx := fun e => by have := (HOA.out gx e).1; omega
        clear hGs hX hKx hrep
        go_wp2_with (at_builtin; rw [← hV9]; refine wpList_append_el (E := SlE) 48 79 Tryz.underlying48 info_slD rfl (by decide) (by decide) rfl _ _ rfl (gx + 1) (fun _ => False) _ A rfl hGb (some ⟨wr.heap.size, 0, none⟩) 1 1 [(v1, v2)] rfl rfl hone hll hbs ?_)
        intro v9 w9 hT9 hgrow _
        rw [← hV9] at hgrow
        rw [← HSC.out] at hT9
        have hX9 := hXV.grown hgrow hgx9
        have hK9 := hKV.grown hgrow (fun z hz => by have h1 := (HOA.out z hz).1; have h2 := HUS.out; omega)
        obtain ⟨va', vc', e9, -, -⟩ := hT9.slice
        obtain ⟨W9, hW9, hXW, hGW9, hKW⟩ : ∃ W, W = w9.setCell ⟨gx, 1, none⟩ v9 ∧ Bk 50 W gx [.int .i64 (dn : Int), v9] ∧ Gw SlE 79 (gx + 1) (fun _ => False) W v9 (rdSls (mm + 1) (xs.drop (q + 1))) ∧ Kp gx U W :=
          ⟨_, rfl, hX9.set 1 _, hT9.kp hX9 (by decide) ((Kp.refl gx w9).setCell 1 _), hK9.setCell 1 _⟩
        clear x0 x1 f0 f1
        obtain ⟨x0, x1, f0, f1⟩ := hX9.two
        rw [e9] at hW9 hXW hGW9 ⊢
        rw [rdSls_len] at hW9 hXW hGW9
        try rw [rdSls_len]
        clear hgrow hGb hone hbs hll hV9 Y9 hb9 hT9 e9 hX9 hK9 hXV hKV
        go_wp2
        rw [← hW9]
        try rw [show (r : Int) + 4 = ((r + 4 : Nat) : Int) by omega]
        rw [HPQ.out]
        clear hW9
        go_roundw
        case rel => exact ⟨mm + 1, _, by omega, by go_num, rfl, hXW, hGW9, hKW⟩
        case measure => simp [intOf]; omega

end Go.Proofs.YtkbbdkecillnpaaGreat

namespace Go.Proofs.YtkbbdkecillnpaaGreat
open Go.RowKit Go.Maps
set_option linter.unusedSimpArgs false
set_option linter.unusedVariables false

set_option maxHeartbeats 2000000 in
set_option maxRecDepth 100000 in
theorem ssameC18_any (S S2 : Nat → Prop) (a : Option Addr) (ca : Nat) (b : Option Addr) (cb : Nat) (cs : List (List Pn)) (w : World) (ha : Gr PnE.row S w a ca cs) (hb : Gr PnE.row S2 w b cb cs) :
    Calls Tryz.prog 10 #[.slice a cs.length ca, .slice b cs.length cb] w fun e w' => e = .returned (.bool true) ∧ Below w.heap.size w w' := by
  have h := ssameO_any S S2 a ca none 0 b cb none 0 ⟨cs, []⟩ w ha (Gr.nil _ _ _ _ _ (Nat.zero_le _) (fun _ => rfl)) hb (Gr.nil _ _ _ _ _ (Nat.zero_le _) (fun _ => rfl))
  go_enter Tryz.func10, Tryz.ntmps10
  go_wp2_with fail
  refine h.mono ?_
  rintro e u ⟨rfl, hb⟩
  clear h
  go_wp2
  go_ret
  exact ⟨rfl, hb⟩

set_option maxHeartbeats 8000000 in
set_option maxRecDepth 100000 in
theorem ssameD_any (S S2 : Nat → Prop) (a : Option Addr) (ca : Nat) (b : Option Addr) (cb : Nat) (l : List (List Sp)) (w : World) (ha : Gr SpE.row S w a ca l) (hb : Gr SpE.row S2 w b cb l) :
    Calls Tryz.prog 15 #[.slice a l.length ca, .slice b l.length cb] w fun e w' => e = .returned (.bool true) ∧ Below w.heap.size w w' := by
  have kl := ha.lenB
  have HA : Hid (Gr SpE.row S w a ca l) := ha
  have HB : Hid (Gr SpE.row S2 w b cb l) := hb
  clear ha hb
  go_enter Tryz.func15, Tryz.ntmps15
  go_wp2
  go_loopw [5] (fun i wr => ∃ k : Nat, k ≤ l.length ∧ i = .int .i64 k ∧ Below w.heap.size w wr) (fun i _ => l.length - (intOf i).toNat)
  case atStart => exact ⟨0, Nat.zero_le _, rfl, Below.refl _ _⟩
  case round =>
    obtain ⟨k, hk, rfl, hB⟩ := hrel
    by_cases hkn : k < l.length
    rotate_left
    · have g4 : ¬ (k : Int) < (l.length : Int) := by omega
      go_wp2
      go_ret
      exact ⟨rfl, hB⟩
    obtain ⟨b1, o1, a1, c1, ea, hb1, c0, hd1, hdl, -⟩ := HA.out.rw hB k hkn
    obtain ⟨b2, o2, a2, c2, eb, hb2, e0, hd2, -, -⟩ := HB.out.rw hB k hkn
    generalize l.getD k [] = d at *
    subst ea eb
    have HD1 : Hid (Gr SpE S wr a1 c1 d) := hd1
    have HD2 : Hid (Gr SpE S2 wr a2 c2 d) := hd2
    have HBW : Hid (Below w.heap.size w wr) := hB
    have hws := hB.size
    have kd := hd1.lenB
    have i1 : (0 : Int) ≤ (k : Int) := by omega
    have i2 : (k : Int) < (l.length : Int) := by omega
    clear hd1 hd2 hB
    obtain ⟨wq, hwq⟩ : ∃ u, u = wr := ⟨_, rfl⟩
    rw [← hwq] at HD1 HD2 HBW hws c0 e0 ⊢
    clear hwq
    go_upto_region 6 with fail
    refine wp_region_held_drew (S := fun w9 => w9.cell? ⟨b1, o1 + k, none⟩ = some (.slice a1 d.length c1) ∧ w9.cell? ⟨b2, o2 + k, none⟩ = some (.slice a2 d.length c2)) (by kernel_rfl) ?_ (fun hHeld => ?_)
    · (try dsimp only)
      go_keep
    have hdr : Below wq.heap.size wq wq.drew := Below.drew1
    generalize wq.drew = Z0 at hdr hHeld ⊢
    replace c0 := (hdr.cell (p := ⟨b1, o1 + k, none⟩) (by show b1 < _; omega)).trans c0
    replace e0 := (hdr.cell (p := ⟨b2, o2 + k, none⟩) (by show b2 < _; omega)).trans e0
    refine hT 0 hHeld ?_
    refine hT 1 hHeld ?_
    refine hT 2 hHeld ?_
    refine hT 3 hHeld ?_
    refine hT 4 hHeld ?_
    refine hT 5 hHeld ?_
    refine hT 6 hHeld ?_
    refine hT 7 hHeld ?_
    refine hT 8 hHeld ?_
    refine hT 9 hHeld ?_
    refine hT 10 hHeld ?_
    refine wpAnyH_done (by kernel_rfl) ?_ _
    clear hHeld
    have HD1' : Hid (Gr SpE S Z0 a1 c1 d) := HD1.out.below hdr
    have HD2' : Hid (Gr SpE S2 Z0 a2 c2 d) := HD2.out.below hdr
    have HBZ : Hid (Below w.heap.size w Z0) := HBW.out.trans (hdr.mono hws)
    have hwz : w.heap.size ≤ Z0.heap.size := Nat.le_trans hws hdr.size
    clear HD1 HD2 HBW hdr hws
    go_wp2
    go_loopw [6] (fun i wr => ∃ j : Nat, j ≤ d.length ∧ i = .int .i64 j ∧ Below Z0.heap.size Z0 wr) (fun i _ => d.length - (intOf i).toNat)
    case atStart => exact ⟨0, Nat.zero_le _, rfl, Below.refl _ _⟩
    case round =>
      obtain ⟨j, hj, rfl, hC⟩ := hrel
      have hcs := hC.size
      replace c0 := (hC.cell (p := ⟨b1, o1 + k, none⟩) (by show b1 < _; omega)).trans c0
      replace e0 := (hC.cell (p := ⟨b2, o2 + k, none⟩) (by show b2 < _; omega)).trans e0
      by_cases hjn : j < d.length
      rotate_left
      · have g4 : ¬ (j : Int) < (d.length : Int) := by omega
        have hBf := HBZ.out.trans (hC.mono hwz)
        go_wp2
        go_roundw
        case rel => exact ⟨k + 1, by omega, by go_num, hBf⟩
        case measure => simp [intOf]; omega
      obtain ⟨b3, o3, a3, c3, e3, hb3, hI, d0, d1, hs1, hsl⟩ := HD1'.out.sp hC j hjn
      obtain ⟨b4, o4, a4, c4, e4, hb4, -, f0, f1, hs2, -⟩ := HD2'.out.sp hC j hjn
      generalize d.getD j Sp.none = x at *
      subst e3 e4
      have g3 : (j : Int) < (d.length : Int) := by omega
      have i3 : (0 : Int) ≤ (j : Int) := by omega
      have kx := hs1.lenB
      go_upto_region 11 with fail
      refine wp_region_held_drew (S := fun w9 => w9.cell? ⟨b1, o1 + k, none⟩ = some (.slice (some ⟨b3, o3, none⟩) d.length c1) ∧ w9.cell? ⟨b2, o2 + k, none⟩ = some (.slice (some ⟨b4, o4, none⟩) d.length c2) ∧ w9.cell? ⟨b3, o3 + j * 2, none⟩ = some (.int .i64 x.d) ∧ w9.cell? ⟨b3, o3 + j * 2 + 1, none⟩ = some (.slice a3 x.ar.length c3) ∧ w9.cell? ⟨b4, o4 + j * 2, none⟩ = some (.int .i64 x.d) ∧ w9.cell? ⟨b4, o4 + j * 2 + 1, none⟩ = some (.slice a4 x.ar.length c4)) (by kernel_rfl) ?_ (fun hHeld => ?_)
      · (try dsimp only)
        go_keep
      have hdr : Below wr.heap.size wr wr.drew := Below.drew1
      generalize wr.drew = Z at hdr hHeld ⊢
      replace c0 := (hdr.cell (p := ⟨b1, o1 + k, none⟩) (by show b1 < _; omega)).trans c0
      replace e0 := (hdr.cell (p := ⟨b2, o2 + k, none⟩) (by show b2 < _; omega)).trans e0
      replace d0 := (hdr.cell (p := ⟨b3, o3 + j * 2, none⟩) (by show b3 < _; omega)).trans d0
      replace d1 := (hdr.cell (p := ⟨b3, o3 + j * 2 + 1, none⟩) (by show b3 < _; omega)).trans d1
      replace f0 := (hdr.cell (p := ⟨b4, o4 + j * 2, none⟩) (by show b4 < _; omega)).trans f0
      replace f1 := (hdr.cell (p := ⟨b4, o4 + j * 2 + 1, none⟩) (by show b4 < _; omega)).trans f1
      replace hs1 := hs1.below hdr
      replace hs2 := hs2.below hdr
      have hCZ := hC.trans (hdr.mono hcs)
      have hzs := hdr.size
      have HCL : Hid (∀ U, Below Z.heap.size Z U → U.cell? ⟨b1, o1 + k, none⟩ = some (.slice (some ⟨b3, o3, none⟩) d.length c1) ∧ U.cell? ⟨b2, o2 + k, none⟩ = some (.slice (some ⟨b4, o4, none⟩) d.length c2) ∧ U.cell? ⟨b3, o3 + j * 2, none⟩ = some (.int .i64 x.d) ∧ U.cell? ⟨b3, o3 + j * 2 + 1, none⟩ = some (.slice a3 x.ar.length c3) ∧ U.cell? ⟨b4, o4 + j * 2, none⟩ = some (.int .i64 x.d) ∧ U.cell? ⟨b4, o4 + j * 2 + 1, none⟩ = some (.slice a4 x.ar.length c4)) := fun U hU => ⟨(hU.cell (p := ⟨b1, o1 + k, none⟩) (by show b1 < _; omega)).trans c0, (hU.cell (p := ⟨b2, o2 + k, none⟩) (by show b2 < _; omega)).trans e0, (hU.cell (p := ⟨b3, o3 + j * 2, none⟩) (by show b3 < _; omega)).trans d0, (hU.cell (p := ⟨b3, o3 + j * 2 + 1, none⟩) (by show b3 < _; omega)).trans d1, (hU.cell (p := ⟨b4, o4 + j * 2, none⟩) (by show b4 < _; omega)).trans f0, (hU.cell (p := ⟨b4, o4 + j * 2 + 1, none⟩) (by show b4 < _; omega)).trans f1⟩
      have HS1 : Hid (Gr SlE S Z a3 c3 x.ar) := hs1
      have HS2 : Hid (Gr SlE S2 Z a4 c4 x.ar) := hs2
      have HCZ : Hid (Below Z0.heap.size Z0 Z) := hCZ
      clear hdr hC hs1 hs2 hCZ
      refine hT 0 hHeld ?_
      refine hT 1 hHeld ?_
      refine hT 2 hHeld ?_
      refine hT 3 hHeld ?_
      refine hT 4 hHeld ?_
      refine hT 5 hHeld ?_
      refine hT 6 hHeld ?_
      refine hT 7 hHeld ?_
      refine hT 8 hHeld ?_
      refine hT 9 hHeld ?_
      refine hT 10 hHeld ?_
      refine hT 11 hHeld ?_
      refine hT 12 hHeld ?_
      refine hT 13 hHeld ?_
      refine wpAnyH_ready (rs := [14, 15]) (by kernel_rfl) (by simp) (hCons (i := 14) rfl (by rfl) (fun K hK => ?_) (hCons (i := 15) rfl (by rfl) (fun K hK => ?_) AllReadyH.nil))
      have hq1 := bl1 (w := Z) (.cells #[.int .i64 0, .slice none 0 0] 50)
      go_simp
      refine hK.out _ _ ?_ (fun hHeld => ?_)
      · (try dsimp only)
        exact HCL.out _ hq1
      clear hK K
      try simp only [Act.put, List.setIfInBounds_toArray, List.set_cons_zero, List.set_cons_succ]
      refine hCall (i := 15) rfl (by kernel_rfl) (by rfl) (fun K hK => ?_)
      have hq2 := bl2 (w := Z) (.cells #[.int .i64 0, .slice none 0 0] 50) (.cells #[.int .i64 0, .slice none 0 0] 50)
      go_simp
      refine hK.out _ _ ?_ (fun hHeld => ?_)
      · (try dsimp only)
        exact HCL.out _ hq2
      clear hK K
      try simp only [Act.put, List.setIfInBounds_toArray, List.set_cons_zero, List.set_cons_succ]
      obtain ⟨U, hU, X0, Y0⟩ : ∃ U, U = (Z.alloc (.cells #[.int .i64 0, .slice none 0 0] 50)).alloc (.cells #[.int .i64 0, .slice none 0 0] 50) ∧ Bk 50 U Z.heap.size [.int .i64 0, .slice none 0 0] ∧ Bk 50 U (Z.heap.size + 1) [.int .i64 0, .slice none 0 0] := ⟨_, rfl, (Bk.new _ _ _).below (bl1 _), Bk.new1 _ _ _ _⟩
      rw [← hU] at hq2
      try rw [← hU]
      clear hU hq1
      obtain ⟨gx, hgx⟩ : ∃ g, g = Z.heap.size := ⟨_, rfl⟩
      obtain ⟨gy, hgy⟩ : ∃ g, g = (Z.heap.size + 1) := ⟨_, rfl⟩
      have hxy : gx ≠ gy ∧ Z.heap.size ≤ gx ∧ Z.heap.size ≤ gy := by omega
      rw [← hgx] at X0
      rw [← hgy] at Y0
      try rw [show Z.heap.size + 1 = gy by omega]
      try rw [show Z.heap.size = gx by omega]
      clear hgx hgy
      obtain ⟨t0, t1, s0, s1⟩ := X0.two
      obtain ⟨U2, hU2, X2, Y2, hq3⟩ : ∃ V, V = (U.setCell ⟨gx, 0, none⟩ (.int .i64 x.d)).setCell ⟨gx, 1, none⟩ (.slice a3 x.ar.length c3) ∧ Bk 50 V gx [.int .i64 x.d, .slice a3 x.ar.length c3] ∧ Bk 50 V gy [.int .i64 0, .slice none 0 0] ∧ Below Z.heap.size Z V := ⟨_, rfl, (X0.set 0 _).set 1 _, (Y0.other 0 _ (by omega)).other 1 _ (by omega), (hq2.setCell (p := ⟨gx, 0, none⟩) hxy.2.1 _).setCell (p := ⟨gx, 1, none⟩) hxy.2.1 _⟩
      refine hCall (i := 16) rfl (by kernel_rfl) (by rfl) (fun K hK => ?_)
      go_simp
      rw [← hU2]
      clear hU2 t0 t1 s0 s1
      refine hK.out _ _ ?_ (fun hHeld => ?_)
      · (try dsimp only)
        exact HCL.out _ hq3
      clear hK K X0 Y0 hq2
      try simp only [Act.put, List.setIfInBounds_toArray, List.set_cons_zero, List.set_cons_succ]
      obtain ⟨t0, t1, s0, s1⟩ := Y2.two
      obtain ⟨U3, hU3, X3, Y3, hq4⟩ : ∃ V, V = (U2.setCell ⟨gy, 0, none⟩ (.int .i64 x.d)).setCell ⟨gy, 1, none⟩ (.slice a4 x.ar.length c4) ∧ Bk 50 V gx [.int .i64 x.d, .slice a3 x.ar.length c3] ∧ Bk 50 V gy [.int .i64 x.d, .slice a4 x.ar.length c4] ∧ Below Z.heap.size Z V := ⟨_, rfl, (X2.other 0 _ (by omega)).other 1 _ (by omega), (Y2.set 0 _).set 1 _, (hq3.setCell (p := ⟨gy, 0, none⟩) hxy.2.2 _).setCell (p := ⟨gy, 1, none⟩) hxy.2.2 _⟩
      refine hCall (i := 17) rfl (by kernel_rfl) (by rfl) (fun K hK => ?_)
      go_simp
      rw [← hU3]
      clear hU3 t0 t1 s0 s1
      refine hK.out _ _ ?_ (fun hHeld => ?_)
      · (try dsimp only)
        exact HCL.out _ hq4
      clear hK K X2 Y2 hq3
      try simp only [Act.put, List.setIfInBounds_toArray, List.set_cons_zero, List.set_cons_succ]
      refine wpAnyH_done (by kernel_rfl) ?_ _
      clear hHeld
      rotate_left
      have hq1 := bl1 (w := Z) (.cells #[.int .i64 0, .slice none 0 0] 50)
      go_simp
      refine hK.out _ _ ?_ (fun hHeld => ?_)
      · (try dsimp only)
        exact HCL.out _ hq1
      clear hK K
      try simp only [Act.put, List.setIfInBounds_toArray, List.set_cons_zero, List.set_cons_succ]
      refine hCall (i := 14) rfl (by kernel_rfl) (by rfl) (fun K hK => ?_)
      have hq2 := bl2 (w := Z) (.cells #[.int .i64 0, .slice none 0 0] 50) (.cells #[.int .i64 0, .slice none 0 0] 50)
      go_simp
      refine hK.out _ _ ?_ (fun hHeld => ?_)
      · (try dsimp only)
        exact HCL.out _ hq2
      clear hK K
      try simp only [Act.put, List.setIfInBounds_toArray, List.set_cons_zero, List.set_cons_succ]
      obtain ⟨U, hU, X0, Y0⟩ : ∃ U, U = (Z.alloc (.cells #[.int .i64 0, .slice none 0 0] 50)).alloc (.cells #[.int .i64 0, .slice none 0 0] 50) ∧ Bk 50 U Z.heap.size [.int .i64 0, .slice none 0 0] ∧ Bk 50 U (Z.heap.size + 1) [.int .i64 0, .slice none 0 0] := ⟨_, rfl, (Bk.new _ _ _).below (bl1 _), Bk.new1 _ _ _ _⟩
      obtain ⟨X0, Y0⟩ := And.intro Y0 X0
      rw [← hU] at hq2
      try rw [← hU]
      clear hU hq1
      obtain ⟨gx, hgx⟩ : ∃ g, g = (Z.heap.size + 1) := ⟨_, rfl⟩
      obtain ⟨gy, hgy⟩ : ∃ g, g = Z.heap.size := ⟨_, rfl⟩
      have hxy : gx ≠ gy ∧ Z.heap.size ≤ gx ∧ Z.heap.size ≤ gy := by omega
      rw [← hgx] at X0
      rw [← hgy] at Y0
      try rw [show Z.heap.size + 1 = gx by omega]
      try rw [show Z.heap.size = gy by omega]
      clear hgx hgy
      obtain ⟨t0, t1, s0, s1⟩ := X0.two
      obtain ⟨U2, hU2, X2, Y2, hq3⟩ : ∃ V, V = (U.setCell ⟨gx, 0, none⟩ (.int .i64 x.d)).setCell ⟨gx, 1, none⟩ (.slice a3 x.ar.length c3) ∧ Bk 50 V gx [.int .i64 x.d, .slice a3 x.ar.length c3] ∧ Bk 50 V gy [.int .i64 0, .slice none 0 0] ∧ Below Z.heap.size Z V := ⟨_, rfl, (X0.set 0 _).set 1 _, (Y0.other 0 _ (by omega)).other 1 _ (by omega), (hq2.setCell (p := ⟨gx, 0, none⟩) hxy.2.1 _).setCell (p := ⟨gx, 1, none⟩) hxy.2.1 _⟩
      refine hCall (i := 16) rfl (by kernel_rfl) (by rfl) (fun K hK => ?_)
      go_simp
      rw [← hU2]
      clear hU2 t0 t1 s0 s1
      refine hK.out _ _ ?_ (fun hHeld => ?_)
      · (try dsimp only)
        exact HCL.out _ hq3
      clear hK K X0 Y0 hq2
      try simp only [Act.put, List.setIfInBounds_toArray, List.set_cons_zero, List.set_cons_succ]
      obtain ⟨t0, t1, s0, s1⟩ := Y2.two
      obtain ⟨U3, hU3, X3, Y3, hq4⟩ : ∃ V, V = (U2.setCell ⟨gy, 0, none⟩ (.int .i64 x.d)).setCell ⟨gy, 1, none⟩ (.slice a4 x.ar.length c4) ∧ Bk 50 V gx [.int .i64 x.d, .slice a3 x.ar.length c3] ∧ Bk 50 V gy [.int .i64 x.d, .slice a4 x.ar.length c4] ∧ Below Z.heap.size Z V := ⟨_, rfl, (X2.other 0 _ (by omega)).other 1 _ (by omega), (Y2.set 0 _).set 1 _, (hq3.setCell (p := ⟨gy, 0, none⟩) hxy.2.2 _).setCell (p := ⟨gy, 1, none⟩) hxy.2.2 _⟩
      refine hCall (i := 17) rfl (by kernel_rfl) (by rfl) (fun K hK => ?_)
      go_simp
      rw [← hU3]
      clear hU3 t0 t1 s0 s1
      refine hK.out _ _ ?_ (fun hHeld => ?_)
      · (try dsimp only)
        exact HCL.out _ hq4
      clear hK K X2 Y2 hq3
      try simp only [Act.put, List.setIfInBounds_toArray, List.set_cons_zero, List.set_cons_succ]
      refine wpAnyH_done (by kernel_rfl) ?_ _
      clear hHeld
      all_goals
        obtain ⟨t0, t1, -⟩ := X3.two
        obtain ⟨s0, s1, -⟩ := Y3.two
        have hgxl := X3.lt
        have hgyl := Y3.lt
        have HUF : Hid (Below Z0.heap.size Z0 U3) := HCZ.out.trans (hq4.mono HCZ.out.size)
        have HR1 : Hid (Gr SlE S U3 a3 c3 x.ar) := HS1.out.below hq4
        have HR2 : Hid (Gr SlE S2 U3 a4 c4 x.ar) := HS2.out.below hq4
        clear HS1 HS2 HCL d0 d1 f0 f1 c0 e0 X3 Y3
        go_wp2
        go_loopw [9] (fun i wr => ∃ m : Nat, m ≤ x.ar.length ∧ i = .int .i64 m ∧ Below U3.heap.size U3 wr) (fun i _ => x.ar.length - (intOf i).toNat)
        case atStart => exact ⟨0, Nat.zero_le _, rfl, Below.refl _ _⟩
        case round =>
          obtain ⟨m, hm, rfl, hE⟩ := hrel
          have hes := hE.size
          replace t1 := (hE.cell (p := ⟨gx, 1, none⟩) hgxl).trans t1
          replace s1 := (hE.cell (p := ⟨gy, 1, none⟩) hgyl).trans s1
          by_cases hmn : m < x.ar.length
          rotate_left
          · have g5 : ¬ (m : Int) < (x.ar.length : Int) := by omega
            have hBf := HUF.out.trans (hE.mono HUF.out.size)
            go_wp2
            go_roundw
            case rel => exact ⟨j + 1, by omega, by go_num, hBf⟩
            case measure => simp [intOf]; omega
          obtain ⟨b5, o5, e5, hb5, ⟨m1, m2⟩, r0, r1⟩ := HR1.out.sl hE m hmn
          obtain ⟨b6, o6, e6, hb6, -, p0, p1⟩ := HR2.out.sl hE m hmn
          generalize x.ar.getD m (0, 0) = y at *
          subst e5 e6
          have g5 : (m : Int) < (x.ar.length : Int) := by omega
          have i5 : (0 : Int) ≤ (m : Int) := by omega
          go_upto_region 17 with fail
          refine wp_region_held_drew (S := fun w9 => w9.cell? ⟨gx, 1, none⟩ = some (.slice (some ⟨b5, o5, none⟩) x.ar.length c3) ∧ w9.cell? ⟨gy, 1, none⟩ = some (.slice (some ⟨b6, o6, none⟩) x.ar.length c4) ∧ w9.cell? ⟨b5, o5 + m * 2, none⟩ = some (.int .i64 y.1) ∧ w9.cell? ⟨b5, o5 + m * 2 + 1, none⟩ = some (.int .i64 y.2) ∧ w9.cell? ⟨b6, o6 + m * 2, none⟩ = some (.int .i64 y.1) ∧ w9.cell? ⟨b6, o6 + m * 2 + 1, none⟩ = some (.int .i64 y.2)) (by kernel_rfl) ?_ (fun hHeld => ?_)
          · (try dsimp only)
            go_keep
          have hdr : Below wr.heap.size wr wr.drew := Below.drew1
          generalize wr.drew = Z9 at hdr hHeld ⊢
          have hE9 := hE.trans (hdr.mono hes)
          clear hdr r0 r1 p0 p1 t1 s1
          refine hT 0 hHeld ?_
          refine hT 1 hHeld ?_
          refine hT 2 hHeld ?_
          refine hT 3 hHeld ?_
          refine hT 4 hHeld ?_
          refine hT 5 hHeld ?_
          refine hT 6 hHeld ?_
          refine hT 7 hHeld ?_
          refine hT 8 hHeld ?_
          refine hT 9 hHeld ?_
          refine hT 10 hHeld ?_
          refine wpAnyH_done (by kernel_rfl) ?_ _
          clear hHeld
          go_wp2
          go_roundw
          case rel => exact ⟨m + 1, by omega, by go_num, hE9⟩
          case measure => simp [intOf]; omega

end Go.Proofs.YtkbbdkecillnpaaGreat
