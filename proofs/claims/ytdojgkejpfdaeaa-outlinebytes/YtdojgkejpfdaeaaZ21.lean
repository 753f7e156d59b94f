/-
  foundryref12.Write: the walk.
  foundryref04.Same of any two: the walk.
  foundrylaw12.OutlineBytes: the walk, the reference's Read being given.
  What a law is told of a slice of bytes, or of int32, that came in.
-/
import Derived.Test.YtdojgkejpfdaeaaZ20
import Derived.Test.YtdojgkejpfdaeaaZ4
import Derived.Test.YtdojgkejpfdaeaaZ17
import Derived.Test.YtdojgkejpfdaeaaZ18
import Derived.Test.YtdojgkejpfdaeaaZ7
import Derived.Test.YtdojgkejpfdaeaaZ1
import Derived.ProofKit
namespace Go.Proofs.Ytdojgkejpfdaeaa
open Go.RowKit Go.Maps
set_option linter.unusedSimpArgs false
set_option linter.unusedVariables false

theorem pa_flat {l : List Pa} {k : Nat} {p : Pa} (hk : k < l.length) (hp : l.getD k Pa.none = p) : (l.take (k + 1)).flatMap paE = (l.take k).flatMap paE ++ be2 p.g ++ be2 p.dx ++ be2 p.dy := by
  rw [take_snoc (d := Pa.none) hk, hp, List.flatMap_append]
  simp [paE]
theorem pa_len (l : List Pa) : (l.flatMap paE).length = 6 * l.length := by
  induction l with
  | nil => rfl
  | cons p t ih => rw [List.flatMap_cons, List.length_append, ih, List.length_cons]; simp [paE, be2]; omega

set_option maxHeartbeats 2000000 in
set_option maxRecDepth 100000 in
theorem swriteO_any (S : Nat → Prop) (a : Option Addr) (ca : Nat) (b : Option Addr) (cb : Nat) (o : Ol) (w : World) (hc : Gr PnE.row S w a ca o.cs) (hp : Gr PaE S w b cb o.ps) (hl : o.cs.flatten.length ≤ 100000) :
    Calls Try.prog 7 #[.agg #[.slice a o.cs.length ca, .slice b o.ps.length cb]] w fun e w' => ∃ a' c', e = .returned (.tuple #[.slice a' (wrOB o).length c', .int .i64 (wrOE o)]) ∧ Rb w' a' c' (wrOB o) ∧ Below w.heap.size w w' := by
  obtain ⟨W, hW, X1, hbW⟩ : ∃ W, W = w.alloc (.cells #[.slice a o.cs.length ca, .slice b o.ps.length cb] 25) ∧ Bk 25 W w.heap.size [.slice a o.cs.length ca, .slice b o.ps.length cb] ∧ Below w.heap.size w W := ⟨_, rfl, Bk.new _ _ _, bl1 _⟩
  replace hc := hc.below hbW
  replace hp := hp.below hbW
  have hfo := sformO_any S a ca b cb o W hc hp hl
  obtain ⟨x0, x1, _⟩ := X1.two
  cases hf : foB o with
  | false =>
    have HE : Hid (wrOE o = 1 ∧ wrOB o = []) := by unfold wrOE wrOB; rw [hf]; exact ⟨rfl, rfl⟩
    rw [hf] at hfo
    clear hf hc hp
    go_enter Try.func7, Try.ntmps7
    go_wp2_with fail
    rw [← hW]
    clear hW
    refine hfo.mono ?_
    rintro e y1 ⟨rfl, hb1⟩
    replace hbW : Below w.heap.size w y1 := hbW.trans (hb1.mono hbW.size)
    go_wp2
    go_ret2
    exact ⟨none, 0, by rw [HE.out.1, HE.out.2]; rfl, by rw [HE.out.2]; exact Rb.nil _ _ _ (Nat.zero_le _) (fun _ => rfl), hbW⟩
  | true =>
    obtain ⟨f1, f2, f3, f4, f5, f6, f7⟩ := foB_iff.1 hf
    rw [hf] at hfo
    by_cases h0 : o.ps.length = 0
    · have HE : Hid (wrOE o = (if diB o.cs.flatten then 0 else 4) ∧ wrOB o = (if diB o.cs.flatten then coB o.cs else [])) := by unfold wrOE wrOB; rw [hf, if_pos rfl, if_pos rfl, if_pos h0, if_pos h0]; exact ⟨rfl, rfl⟩
      have hco := fun U h1 => sconts_any S a ca (.slice b o.ps.length cb) o.cs U h1 rfl f5 f2 f4 f6
      have HRD : Hid (diB o.cs.flatten = false → (if diB o.cs.flatten then coB o.cs else []) = []) := fun h => by rw [h]; rfl
      generalize diB o.cs.flatten = D at *
      generalize (if D then coB o.cs else []) = R at *
      have HPS : Hid (o.ps.length = 0) := h0
      clear hf f1 f3 f4 f5 f6 f7 h0 hl
      have g1 : ((o.ps.length : Int) == 0) = true := by rw [HPS.out]; rfl
      generalize o.ps.length = np at *
      obtain rfl : np = 0 := HPS.out
      go_enter Try.func7, Try.ntmps7
      go_wp2_with fail
      rw [← hW]
      clear hW
      refine hfo.mono ?_
      rintro e y1 ⟨rfl, hb1⟩
      replace hbW : Below w.heap.size w y1 := hbW.trans (hb1.mono hbW.size)
      replace hc := hc.below hb1
      replace X1 := X1.below hb1
      clear hb1 hfo x0 x1
      obtain ⟨x0, x1, _⟩ := X1.two
      go_wp2_with fail
      refine (hco _ hc).mono ?_
      rintro e y2 ⟨a2, c2, rfl, hr, hb2⟩
      replace hbW : Below w.heap.size w y2 := hbW.trans (hb2.mono hbW.size)
      clear hco hb2
      cases D with
      | true =>
        go_wp2
        go_ret2
        exact ⟨a2, c2, by rw [HE.out.1, HE.out.2]; rfl, by rw [HE.out.2]; exact hr, hbW⟩
      | false =>
        have HR0 : Hid (R = []) := HRD.out rfl
        clear HRD hr
        go_wp2
        go_ret2
        exact ⟨none, 0, by rw [HE.out.1, HE.out.2, HR0.out]; rfl, by rw [HE.out.2, HR0.out]; exact Rb.nil _ _ _ (Nat.zero_le _) (fun _ => rfl), hbW⟩
    · have HE : Hid (wrOE o = 0 ∧ wrOB o = paB o.ps) := by unfold wrOE wrOB; rw [hf, if_pos rfl, if_pos rfl, if_neg h0, if_neg h0]; exact ⟨rfl, rfl⟩
      have g0 : ((o.ps.length : Int) == 0) = false := by simp; intro h; rw [h] at h0; exact h0 rfl
      have g1 : ¬ (o.ps.length : Int) = 0 := by omega
      have HPF : Hid (∀ k, k < o.ps.length → PaF (o.ps.getD k Pa.none)) := fun k hk => f7 _ (get_mem hk)
      have hbg0 := fun U => big2_any (o.ps.length : Int) U (by omega) (by omega)
      have HPA : Hid (paB o.ps = [255, 255] ++ be2 (o.ps.length : Int) ++ o.ps.flatMap paE) := by show _ = _; unfold paB; simp only [List.append_assoc]
      have HPL : Hid (∀ k, ((o.ps.take k).flatMap paE).length ≤ 36) := fun k => by rw [pa_len, List.length_take]; omega
      clear hf f1 f2 f4 f5 f6 f7 hl h0
      go_enter Try.func7, Try.ntmps7
      go_wp2_with fail
      rw [← hW]
      clear hW
      refine hfo.mono ?_
      rintro e y1 ⟨rfl, hb1⟩
      replace hbW : Below w.heap.size w y1 := hbW.trans (hb1.mono hbW.size)
      replace hp := hp.below hb1
      replace X1 := X1.below hb1
      clear hb1 hfo x0 x1 hc
      obtain ⟨V, hV, hT, hbV⟩ : ∃ V, V = y1.alloc (.cells #[.int .u8 255, .int .u8 255] 5) ∧ Bo y1.heap.size V (.slice (some ⟨y1.heap.size, 0, none⟩) 2 2) [255, 255] ∧ Below y1.heap.size y1 V := ⟨_, rfl, bo_new y1 [255, 255] _ rfl (by intro x hx; simp at hx; omega) (by simp [maxLen]), bl1 _⟩
      obtain ⟨p0, p1, _⟩ := X1.two
      obtain ⟨x0, x1, _⟩ := (X1.below hbV).two
      have HP : Hid (Gr PaE S y1 b cb o.ps) := hp
      have HX : Hid (Bk 25 y1 w.heap.size [.slice a o.cs.length ca, .slice b o.ps.length cb]) := X1
      have HBW : Hid (Below w.heap.size w y1) := hbW
      clear hp X1 hbW
      go_upto_region 9 with fail
      rw [← hV]
      clear hV p0 p1
      go_wp2_with fail
      refine (hbg0 _).mono ?_
      rintro e w2 ⟨ab, cb2, rfl, hrb, hb2⟩
      have hT5 := hT.below hb2
      have hB2 := hbV.trans (hb2.mono hbV.size)
      have hbs := hB2.size
      have hll : ([255, 255] : List Nat).length + (be2 (o.ps.length : Int)).length ≤ 1000000 := by show 2 + 2 ≤ 1000000; decide
      clear hbg0 x0 x1
      go_wp2_with (at_builtin; refine wpList_append_bs rfl _ _ rfl y1.heap.size (.slice (some ⟨y1.heap.size, 0, none⟩) 2 2) [255, 255] rfl hT5 _ _ _ (be2 (o.ps.length : Int)) rfl rfl hrb hll hbs ?_)
      intro v' w9 hT9 hgrow
      have hB9 : Below y1.heap.size y1 w9 := hB2.grown hgrow hbs (fun k hk => (hT5.lo hk).1)
      obtain ⟨BC, hBC⟩ : ∃ l, [255, 255] ++ be2 (o.ps.length : Int) = l := ⟨_, rfl⟩
      have hBl : BC.length ≤ 4 := by rw [← hBC]; exact Nat.le_refl _
      replace hT9 : Bo y1.heap.size w9 v' ([255, 255] ++ be2 (o.ps.length : Int)) := hT9
      rw [hBC] at HPA hT9
      have HT9 : Hid (Bo y1.heap.size w9 v' BC) := hT9
      have HB9 : Hid (Below y1.heap.size y1 w9) := hB9
      clear hgrow hT9 hB9 hT5 hbs hll hrb hB2 hb2 hbV hT hBC
      go_wp2
      go_loopw [6, 7] (fun v i wr => ∃ k : Nat, k ≤ o.ps.length ∧ i = .int .i64 k ∧ Bo y1.heap.size wr v (BC ++ (o.ps.take k).flatMap paE) ∧ Below y1.heap.size y1 wr) (fun _ i _ => o.ps.length - (intOf i).toNat)
      case atStart => exact ⟨0, Nat.zero_le _, rfl, by rw [List.take_zero, List.flatMap_nil, List.append_nil]; exact HT9.out, HB9.out⟩
      case round =>
        clear HT9 HB9
        obtain ⟨k, hk, rfl, hT, hB⟩ := hrel
        have hpl := HPL.out k
        by_cases hkn : k < o.ps.length
        · have HS : Hid (_) := pa_flat (l := o.ps) hkn rfl
          have hpf := HPF.out k hkn
          obtain ⟨Y0, hY0⟩ : ∃ l, BC ++ (o.ps.take k).flatMap paE = l := ⟨_, rfl⟩
          have hyl : Y0.length ≤ 40 := by rw [← hY0, List.length_append]; omega
          have HS2 : Hid (BC ++ (o.ps.take (k + 1)).flatMap paE = Y0 ++ be2 (o.ps.getD k Pa.none).g ++ be2 (o.ps.getD k Pa.none).dx ++ be2 (o.ps.getD k Pa.none).dy) := by show _ = _; rw [HS.out, ← hY0]; simp only [List.append_assoc]
          rw [hY0] at hT
          clear hY0 HS hpl
          obtain ⟨av, cv, rfl, _⟩ := hT.slice
          have HPQ : Hid (∀ wx, Below y1.heap.size y1 wx → ∃ b1 o1, b = some ⟨b1, o1, none⟩ ∧ wx.cell? ⟨b1, o1 + k * 3, none⟩ = some (.int .i64 (o.ps.getD k Pa.none).g) ∧ wx.cell? ⟨b1, o1 + k * 3 + 1, none⟩ = some (.int .i64 (o.ps.getD k Pa.none).dx) ∧ wx.cell? ⟨b1, o1 + k * 3 + 2, none⟩ = some (.int .i64 (o.ps.getD k Pa.none).dy)) := fun wx hx => by
            obtain ⟨b1, o1, e1, _, _, c0, c1, c2⟩ := HP.out.pa hx k hkn
            exact ⟨b1, o1, e1, c0, c1, c2⟩
          generalize o.ps.getD k Pa.none = p at *
          obtain ⟨gg, x, y⟩ := p
          dsimp only at HPQ HS2
          unfold PaF at hpf
          dsimp only at hpf
          have i1 : (0 : Int) ≤ (k : Int) := by omega
          have i2 : (k : Int) < (o.ps.length : Int) := by omega
          obtain ⟨b1, o1, e1, _, _, _⟩ := HPQ.out wr hB
          subst e1
          obtain ⟨_, _, e1, d0, d1, d2⟩ := HPQ.out _ hB
          cases e1
          obtain ⟨x0, x1, _⟩ := (HX.out.below hB).two
          have hbg0 := fun U => big2_any gg U (by omega) (by omega)
          go_upto_region 13 with fail
          go_wp2_with fail
          refine (hbg0 _).mono ?_
          rintro e wa0 ⟨ab0, cb0, rfl, hrb0, hb0⟩
          clear hbg0 d0 d1 d2 x0 x1
          have hTa0 := hT.below hb0
          have hBa0 := hB.trans (hb0.mono hB.size)
          have hbs0 := hBa0.size
          have hll0 : Y0.length + (be2 gg).length ≤ 1000000 := by rw [show (be2 gg).length = 2 from rfl]; omega
          go_wp2_with (at_builtin; refine wpList_append_bs rfl _ _ rfl y1.heap.size (.slice av Y0.length cv) Y0 rfl hTa0 _ _ _ (be2 gg) rfl rfl hrb0 hll0 hbs0 ?_)
          intro v0 wb0 hTb0 hgrow0
          have hBb0 : Below y1.heap.size y1 wb0 := hBa0.grown hgrow0 hbs0 (fun k hk => (hTa0.lo hk).1)
          clear hgrow0 hTa0 hbs0 hll0 hrb0 hBa0 hb0 hT hB
          obtain ⟨Y1, hY1⟩ : ∃ l, Y0 ++ be2 gg = l := ⟨_, rfl⟩
          have hyl1 : Y1.length ≤ 42 := by rw [← hY1, List.length_append, show (be2 gg).length = 2 from rfl]; omega
          rw [hY1] at HS2 hTb0
          clear hY1
          obtain ⟨av0, cv0, rfl, _⟩ := hTb0.slice
          obtain ⟨_, _, e1, d0, d1, d2⟩ := HPQ.out _ hBb0
          cases e1
          obtain ⟨x0, x1, _⟩ := (HX.out.below hBb0).two
          have hz1 : 0 ≤ x + 65536 := by omega
          obtain ⟨z1, hzz1⟩ : ∃ z, z = (x + 65536) % 65536 := ⟨_, rfl⟩
          have hm1 : (x + 65536).tmod 65536 = z1 := by rw [tmod_nnQ hz1, hzz1]
          have hbg1 := fun U => big2_any z1 U (by omega) (by omega)
          rw [show be2 z1 = be2 x by rw [hzz1, be2_65536Q]] at hbg1
          clear hzz1
          go_upto_region 14 with fail
          go_wp2_with fail
          refine (hbg1 _).mono ?_
          rintro e wa1 ⟨ab1, cb1, rfl, hrb1, hb1⟩
          clear hbg1 d0 d1 d2 x0 x1
          have hTa1 := hTb0.below hb1
          have hBa1 := hBb0.trans (hb1.mono hBb0.size)
          have hbs1 := hBa1.size
          have hll1 : Y1.length + (be2 x).length ≤ 1000000 := by rw [show (be2 x).length = 2 from rfl]; omega
          go_wp2_with (at_builtin; refine wpList_append_bs rfl _ _ rfl y1.heap.size (.slice av0 Y1.length cv0) Y1 rfl hTa1 _ _ _ (be2 x) rfl rfl hrb1 hll1 hbs1 ?_)
          intro v1 wb1 hTb1 hgrow1
          have hBb1 : Below y1.heap.size y1 wb1 := hBa1.grown hgrow1 hbs1 (fun k hk => (hTa1.lo hk).1)
          clear hgrow1 hTa1 hbs1 hll1 hrb1 hBa1 hb1 hTb0 hBb0
          obtain ⟨Y2, hY2⟩ : ∃ l, Y1 ++ be2 x = l := ⟨_, rfl⟩
          have hyl2 : Y2.length ≤ 44 := by rw [← hY2, List.length_append, show (be2 x).length = 2 from rfl]; omega
          rw [hY2] at HS2 hTb1
          clear hY2
          obtain ⟨av1, cv1, rfl, _⟩ := hTb1.slice
          obtain ⟨_, _, e1, d0, d1, d2⟩ := HPQ.out _ hBb1
          cases e1
          obtain ⟨x0, x1, _⟩ := (HX.out.below hBb1).two
          have hz2 : 0 ≤ y + 65536 := by omega
          obtain ⟨z2, hzz2⟩ : ∃ z, z = (y + 65536) % 65536 := ⟨_, rfl⟩
          have hm2 : (y + 65536).tmod 65536 = z2 := by rw [tmod_nnQ hz2, hzz2]
          have hbg2 := fun U => big2_any z2 U (by omega) (by omega)
          rw [show be2 z2 = be2 y by rw [hzz2, be2_65536Q]] at hbg2
          clear hzz2
          go_upto_region 15 with fail
          go_wp2_with fail
          refine (hbg2 _).mono ?_
          rintro e wa2 ⟨ab2, cb2, rfl, hrb2, hb2⟩
          clear hbg2 d0 d1 d2 x0 x1
          have hTa2 := hTb1.below hb2
          have hBa2 := hBb1.trans (hb2.mono hBb1.size)
          have hbs2 := hBa2.size
          have hll2 : Y2.length + (be2 y).length ≤ 1000000 := by rw [show (be2 y).length = 2 from rfl]; omega
          go_wp2_with (at_builtin; refine wpList_append_bs rfl _ _ rfl y1.heap.size (.slice av1 Y2.length cv1) Y2 rfl hTa2 _ _ _ (be2 y) rfl rfl hrb2 hll2 hbs2 ?_)
          intro v2 wb2 hTb2 hgrow2
          have hBb2 : Below y1.heap.size y1 wb2 := hBa2.grown hgrow2 hbs2 (fun k hk => (hTa2.lo hk).1)
          clear hgrow2 hTa2 hbs2 hll2 hrb2 hBa2 hb2 hTb1 hBb1
          obtain ⟨Y3, hY3⟩ : ∃ l, Y2 ++ be2 y = l := ⟨_, rfl⟩
          have hyl3 : Y3.length ≤ 46 := by rw [← hY3, List.length_append, show (be2 y).length = 2 from rfl]; omega
          rw [hY3] at HS2 hTb2
          clear hY3
          obtain ⟨av2, cv2, rfl, _⟩ := hTb2.slice
          have HR : Hid (Bo y1.heap.size wb2 (.slice av2 Y3.length cv2) (BC ++ (o.ps.take (k + 1)).flatMap paE) ∧ Below y1.heap.size y1 wb2) := ⟨by rw [HS2.out]; exact hTb2, hBb2⟩
          clear hTb2 hBb2
          go_wp2
          go_roundw
          case rel => exact ⟨k + 1, by omega, by go_num, HR.out.1, HR.out.2⟩
          case measure => simp [intOf]; omega
        · obtain rfl : k = o.ps.length := by omega
          rw [List.take_length] at hT
          obtain ⟨Y0, hY0⟩ : ∃ l, BC ++ o.ps.flatMap paE = l := ⟨_, rfl⟩
          rw [hY0] at hT HPA
          clear hY0 hpl
          obtain ⟨av, cv, rfl, hrb⟩ := hT.slice
          have hbW : Below w.heap.size w wr := HBW.out.trans (hB.mono HBW.out.size)
          obtain ⟨x0, x1, _⟩ := (HX.out.below hB).two
          have g2 : ¬ (o.ps.length : Int) < (o.ps.length : Int) := by omega
          go_wp2
          go_ret2
          exact ⟨av, cv, by rw [HE.out.1, HE.out.2, HPA.out]; rfl, by rw [HE.out.2, HPA.out]; exact hrb, hbW⟩

end Go.Proofs.Ytdojgkejpfdaeaa

namespace Go.Proofs.Ytdojgkejpfdaeaa
open Go.RowKit Go.Maps
set_option linter.unusedSimpArgs false
set_option linter.unusedVariables false

theorem list_diff {xs ys : List Nat} (hl : xs.length = ys.length) (h : ∀ k, k < xs.length → xs.getD k 0 = ys.getD k 0) : xs = ys := by
  apply List.ext_getElem hl
  intro i h1 h2
  have := h i h1
  simpa [List.getD, h1, h2] using this

set_option maxHeartbeats 1000000 in
set_option maxRecDepth 100000 in
theorem same8g_any (a b : Option Addr) (ca cb : Nat) (xs ys : List Nat) (w : World) (ha : Rb w a ca xs) (hb : Rb w b cb ys) :
    Calls Try.prog 10 #[.slice a xs.length ca, .slice b ys.length cb] w fun e w' => e = .returned (.bool (decide (xs = ys))) ∧ Below w.heap.size w w' := by
  by_cases hl : xs.length = ys.length
  rotate_left
  · have hne : ((xs.length : Int) != (ys.length : Int)) = true := by simp; omega
    have hd : decide (xs = ys) = false := decide_eq_false (fun e => hl (by rw [e]))
    rw [hd]
    go_enter Try.func10, Try.ntmps10
    go_wp2
    go_ret
    exact ⟨rfl, Below.refl _ _⟩
  have k1 := ha.le
  have k2 := ha.cap
  unfold maxLen at k2
  have fa := ha.fm
  have fb := hb.fm
  clear ha hb
  have HL : Hid (xs.length = ys.length) := hl
  have hne : ((xs.length : Int) != (ys.length : Int)) = false := by simp; omega
  obtain ⟨ly, hly⟩ : ∃ ly, ys.length = ly := ⟨_, rfl⟩
  rw [hly] at hl hne ⊢
  have HLY : Hid (ys.length = ly) := hly
  subst hl
  clear hly
  have HD : Hid (∀ B : Bool, decide (xs = ys) = B → decide (xs = ys) = B) := fun _ h => h
  generalize hD : decide (xs = ys) = D at *
  have HDD : Hid (decide (xs = ys) = D) := hD
  clear hD HD
  go_enter Try.func10, Try.ntmps10
  go_wp2
  go_loopw [5] (fun i wr => ∃ k : Nat, k ≤ xs.length ∧ i = .int .i64 k ∧ (∀ j, j < k → xs.getD j 0 = ys.getD j 0) ∧ Below w.heap.size w wr) (fun i _ => xs.length - (intOf i).toNat)
  case atStart => exact ⟨0, Nat.zero_le _, rfl, fun j hj => by omega, Below.refl _ _⟩
  case round =>
    obtain ⟨k, hk, rfl, hall, hnx⟩ := hrel
    have HALL : Hid (∀ j, j < k → xs.getD j 0 = ys.getD j 0) := hall
    clear hall
    by_cases hkn : k < xs.length
    · obtain ⟨b1, o1, rfl, _, c1⟩ := fa.at hnx k hkn
      obtain ⟨b2, o2, rfl, _, c2⟩ := fb.at hnx k (by rw [HLY.out]; exact hkn)
      obtain ⟨x, hx⟩ : ∃ x, xs.getD k 0 = x := ⟨_, rfl⟩
      obtain ⟨y, hy⟩ : ∃ y, ys.getD k 0 = y := ⟨_, rfl⟩
      rw [hx] at c1
      rw [hy] at c2
      have HX : Hid (xs.getD k 0 = x) := hx
      have HY : Hid (ys.getD k 0 = y) := hy
      clear hx hy
      have i1 : (0 : Int) ≤ (k : Int) := by omega
      have i2 : (k : Int) < (xs.length : Int) := by omega
      by_cases hxy : x = y
      · subst hxy
        have hxx : ((x : Int) != (x : Int)) = false := by simp
        go_wp2_with fail
        go_quiet (fail)
        go_wp2
        go_roundw
        case rel =>
          refine ⟨k + 1, by omega, by go_num, fun j hj => ?_, below_drewN hnx _⟩
          rcases Nat.lt_or_ge j k with h1 | h1
          · exact HALL.out j h1
          · rw [show j = k by omega, HX.out, HY.out]
        case measure => simp [intOf]; omega
      · have hxx : ((x : Int) != (y : Int)) = true := by simp; omega
        have hDf : D = false := by
          rw [← HDD.out]
          refine decide_eq_false (fun e => ?_)
          have h1 := HX.out
          rw [e, HY.out] at h1
          exact hxy h1.symm
        clear hxy
        go_wp2_with fail
        go_quiet (fail)
        go_wp2
        go_ret
        exact ⟨rt_bool (by rw [hDf]), below_drewN hnx _⟩
    · obtain rfl : k = xs.length := by omega
      have hDt : D = true := by
        rw [← HDD.out]
        exact decide_eq_true (list_diff (by rw [HLY.out]) HALL.out)
      go_wp2
      go_ret
      exact ⟨rt_bool (by rw [hDt]), hnx⟩

end Go.Proofs.Ytdojgkejpfdaeaa

namespace Go.Proofs.Ytdojgkejpfdaeaa
open Go.RowKit Go.Maps
set_option linter.unusedSimpArgs false
set_option linter.unusedVariables false

set_option maxHeartbeats 1000000 in
set_option maxRecDepth 100000 in
theorem outlineBytes_of (hRd : ∀ (pa : Option Addr) (pc : Nat) (xs : List Nat) (U : World), Rb U pa pc xs → xs.length ≤ 4000 → Calls Try.prog 9 #[.slice pa xs.length pc] U fun e w' => ∃ a ca b cb, e = .returned (.tuple #[.agg #[.slice a (rdOL xs).cs.length ca, .slice b (rdOL xs).ps.length cb], .int .i64 (rdOE xs)]) ∧ Gr PnE.row (fun _ => True) w' a ca (rdOL xs).cs ∧ Gr PaE (fun _ => True) w' b cb (rdOL xs).ps ∧ Below U.heap.size U w') (S : Nat → Prop) (a : Option Addr) (ca : Nat) (b : Option Addr) (cb : Nat) (o : Ol) (pa : Option Addr) (pc : Nat) (xs : List Nat) (w : World) (hg : Gr PnE.row S w a ca o.cs) (hm : Gr PaE S w b cb o.ps) (hr : Rb w pa pc xs) :
    Calls Try.prog 3 #[.agg #[.slice a o.cs.length ca, .slice b o.ps.length cb], .slice pa xs.length pc] w fun e w' => e = .returned (.bool true) ∧ Below w.heap.size w w' := by
  have k1 := hg.lenB
  have k2 := hm.lenB
  obtain ⟨W, hW, X1, hbW⟩ : ∃ W, W = w.alloc (.cells #[.slice a o.cs.length ca, .slice b o.ps.length cb] 25) ∧ Bk 25 W w.heap.size [.slice a o.cs.length ca, .slice b o.ps.length cb] ∧ Below w.heap.size w W := ⟨_, rfl, Bk.new _ _ _, bl1 _⟩
  replace hg := hg.below hbW
  replace hm := hm.below hbW
  go_enter Try.func3, Try.ntmps3
  go_wp2_with fail
  rw [← hW]
  clear hW
  refine (awake12_any _).mono ?_
  rintro e t1 ⟨rfl, hb1⟩
  replace hg := hg.below hb1
  replace hm := hm.below hb1
  replace X1 := X1.below hb1
  replace hbW : Below w.heap.size w t1 := hbW.trans (hb1.mono hbW.size)
  clear hb1 
  obtain ⟨p0, p1, _⟩ := X1.two
  go_wp2_with fail
  refine (sfewO_any S a ca b cb o _ hg hm).mono ?_
  rintro e t2 ⟨rfl, hb2⟩
  replace hg := hg.below hb2
  replace hm := hm.below hb2
  replace X1 := X1.below hb2
  replace hbW : Below w.heap.size w t2 := hbW.trans (hb2.mono hbW.size)
  clear hb2 p0 p1
  obtain ⟨p0, p1, _⟩ := X1.two
  cases hq : fewB o with
  | false =>
    clear hq
    go_wp2_with fail
    refine (awake12_any _).mono ?_
    rintro e v9 ⟨rfl, hb9⟩
    replace hbW := hbW.trans (hb9.mono hbW.size)
    clear hb9
    go_wp2
    go_ret
    exact ⟨rfl, hbW⟩
  | true =>
  obtain ⟨q1, q2, q3⟩ := fewB_of hq
  clear hq
  have kr := hr.le
  have kr2 := hr.cap
  unfold maxLen at kr2
  by_cases hx : 4000 < xs.length
  · have hx1 : (4000 : Int) < (xs.length : Int) := by omega
    go_wp2_with fail
    refine (awake12_any _).mono ?_
    rintro e v9 ⟨rfl, hb9⟩
    replace hbW := hbW.trans (hb9.mono hbW.size)
    clear hb9
    go_wp2
    go_ret
    exact ⟨rfl, hbW⟩
  have hx1 : ¬ (4000 : Int) < (xs.length : Int) := by omega
  replace hr := hr.below hbW
  have hwc := fun U h1 h2 => cwriteO_any S a ca b cb o U h1 h2
  have hws := fun U h1 h2 => swriteO_any S a ca b cb o U h1 h2 (by omega)
  have hrc := fun U h => creadO_any pa pc xs U h
  have hrs := fun U h => hRd pa pc xs U h (by omega)
  have hfc := fun U h1 h2 => cformO_any S a ca b cb o U h1 h2
  have hfs := fun U h1 h2 => sformO_any S a ca b cb o U h1 h2 (by omega)
  have hsm := fun p q c d U h1 h2 => same8g_any p q c d (wrOB o) (wrOB o) U h1 h2
  simp only [decide_true] at hsm
  clear hRd
  generalize wrOB o = fb at *
  generalize wrOE o = we at *
  generalize rdOL xs = t at *
  generalize rdOE xs = re at *
  generalize foB o = fo at *
  go_wp2_with fail
  refine (hwc _ hg hm).mono ?_
  rintro e t3 ⟨a1, c1, rfl, r1, hb3⟩
  replace hg := hg.below hb3
  replace hm := hm.below hb3
  replace X1 := X1.below hb3
  replace hr := hr.below hb3
  replace hbW : Below w.heap.size w t3 := hbW.trans (hb3.mono hbW.size)
  clear hb3 p0 p1 hwc
  obtain ⟨p0, p1, _⟩ := X1.two
  go_wp2_with fail
  refine (hws _ hg hm).mono ?_
  rintro e t4 ⟨a2, c2, rfl, r2, hb4⟩
  replace hg := hg.below hb4
  replace hm := hm.below hb4
  replace X1 := X1.below hb4
  replace hr := hr.below hb4
  replace r1 := r1.below hb4
  replace hbW : Below w.heap.size w t4 := hbW.trans (hb4.mono hbW.size)
  clear hb4 p0 p1 hws
  go_wp2_with fail
  refine (hrc _ hr).mono ?_
  rintro e t5 ⟨a3, c3, b3, d3, rfl, g3, m3, hb5⟩
  replace hg := hg.below hb5
  replace hm := hm.below hb5
  replace X1 := X1.below hb5
  replace hr := hr.below hb5
  replace r1 := r1.below hb5
  replace r2 := r2.below hb5
  replace hbW : Below w.heap.size w t5 := hbW.trans (hb5.mono hbW.size)
  clear hb5 hrc
  obtain ⟨V0, hV, Y0, hbV⟩ : ∃ V, V = t5.alloc (.cells #[.slice a3 t.cs.length c3, .slice b3 t.ps.length d3] 25) ∧ Bk 25 V t5.heap.size [.slice a3 t.cs.length c3, .slice b3 t.ps.length d3] ∧ Below t5.heap.size t5 V := ⟨_, rfl, Bk.new _ _ _, bl1 _⟩
  replace hg := hg.below hbV
  replace hm := hm.below hbV
  replace X1 := X1.below hbV
  replace hr := hr.below hbV
  replace r1 := r1.below hbV
  replace r2 := r2.below hbV
  replace g3 := g3.below hbV
  replace m3 := m3.below hbV
  replace hbW : Below w.heap.size w V0 := hbW.trans (hbV.mono hbW.size)
  clear hbV
  go_upto_region 6 with fail
  rw [← hV]
  clear hV
  go_wp2_with fail
  refine (hrs _ hr).mono ?_
  rintro e t6 ⟨a4, c4, b4, d4, rfl, g4, m4, hb6⟩
  replace hg := hg.below hb6
  replace hm := hm.below hb6
  replace X1 := X1.below hb6
  replace hr := hr.below hb6
  replace r1 := r1.below hb6
  replace r2 := r2.below hb6
  replace g3 := g3.below hb6
  replace m3 := m3.below hb6
  replace Y0 := Y0.below hb6
  replace hbW : Below w.heap.size w t6 := hbW.trans (hb6.mono hbW.size)
  clear hb6 hrs
  obtain ⟨V1, hV, Y1, hbV⟩ : ∃ V, V = t6.alloc (.cells #[.slice a4 t.cs.length c4, .slice b4 t.ps.length d4] 25) ∧ Bk 25 V t6.heap.size [.slice a4 t.cs.length c4, .slice b4 t.ps.length d4] ∧ Below t6.heap.size t6 V := ⟨_, rfl, Bk.new _ _ _, bl1 _⟩
  replace hg := hg.below hbV
  replace hm := hm.below hbV
  replace X1 := X1.below hbV
  replace hr := hr.below hbV
  replace r1 := r1.below hbV
  replace r2 := r2.below hbV
  replace g3 := g3.below hbV
  replace m3 := m3.below hbV
  replace Y0 := Y0.below hbV
  replace g4 := g4.below hbV
  replace m4 := m4.below hbV
  replace hbW : Below w.heap.size w V1 := hbW.trans (hbV.mono hbW.size)
  clear hbV
  go_upto_region 7 with fail
  rw [← hV]
  clear hV
  obtain ⟨k00, k01, _⟩ := X1.two
  obtain ⟨k10, k11, _⟩ := Y0.two
  obtain ⟨k20, k21, _⟩ := Y1.two
  refine wp_region_held_drew (S := fun w9 => w9.cell? ⟨w.heap.size, 0, none⟩ = some (.slice a o.cs.length ca) ∧ w9.cell? ⟨w.heap.size, 1, none⟩ = some (.slice b o.ps.length cb) ∧ w9.cell? ⟨t5.heap.size, 0, none⟩ = some (.slice a3 t.cs.length c3) ∧ w9.cell? ⟨t5.heap.size, 1, none⟩ = some (.slice b3 t.ps.length d3) ∧ w9.cell? ⟨t6.heap.size, 0, none⟩ = some (.slice a4 t.cs.length c4) ∧ w9.cell? ⟨t6.heap.size, 1, none⟩ = some (.slice b4 t.ps.length d4)) (by kernel_rfl) ?_ (fun hHeld => ?_)
  · (try dsimp only)
    go_keep
  have hdr : Below V1.heap.size V1 V1.drew := Below.drew1
  generalize V1.drew = t7 at hdr hHeld ⊢
  replace hg := hg.below hdr
  replace hm := hm.below hdr
  replace X1 := X1.below hdr
  replace hr := hr.below hdr
  replace r1 := r1.below hdr
  replace r2 := r2.below hdr
  replace g3 := g3.below hdr
  replace m3 := m3.below hdr
  replace Y0 := Y0.below hdr
  replace g4 := g4.below hdr
  replace m4 := m4.below hdr
  replace Y1 := Y1.below hdr
  replace hbW : Below w.heap.size w t7 := hbW.trans (hdr.mono hbW.size)
  clear hdr k00 k01 k10 k11 k20 k21
  refine hT 0 hHeld ?_
  refine hT 1 hHeld ?_
  refine hT 2 hHeld ?_
  refine hT 3 hHeld ?_
  refine hT 4 hHeld ?_
  refine hT 5 hHeld ?_
  refine hCall (i := 6) rfl (by kernel_rfl) (by rfl) (fun K hK => ?_)
  go_simp
  refine (hsm _ _ _ _ _ r1 r2).mono ?_
  rintro e t8 ⟨rfl, hb8⟩
  replace hg := hg.below hb8
  replace hm := hm.below hb8
  replace X1 := X1.below hb8
  replace hr := hr.below hb8
  replace r1 := r1.below hb8
  replace r2 := r2.below hb8
  replace g3 := g3.below hb8
  replace m3 := m3.below hb8
  replace Y0 := Y0.below hb8
  replace g4 := g4.below hb8
  replace m4 := m4.below hb8
  replace Y1 := Y1.below hb8
  replace hbW : Below w.heap.size w t8 := hbW.trans (hb8.mono hbW.size)
  clear hb8 
  obtain ⟨k00, k01, _⟩ := X1.two
  obtain ⟨k10, k11, _⟩ := Y0.two
  obtain ⟨k20, k21, _⟩ := Y1.two
  go_wp2_with fail
  refine hK.out _ _ ?_ (fun hHeld => ?_)
  · (try dsimp only)
    exact ⟨k00, k01, k10, k11, k20, k21⟩
  clear hK K k00 k01 k10 k11 k20 k21
  try simp only [Act.put, List.setIfInBounds_toArray, List.set_cons_zero, List.set_cons_succ]
  refine hT 7 hHeld ?_
  refine hT 8 hHeld ?_
  refine hT 9 hHeld ?_
  refine hT 10 hHeld ?_
  refine hT 11 hHeld ?_
  refine hT 12 hHeld ?_
  refine hT 13 hHeld ?_
  refine hT 14 hHeld ?_
  refine hT 15 hHeld ?_
  refine hCall (i := 16) rfl (by kernel_rfl) (by rfl) (fun K hK => ?_)
  go_simp
  refine (ssameO_any _ _ a3 c3 b3 d3 a4 c4 b4 d4 t _ g3 m3 g4 m4).mono ?_
  rintro e t9 ⟨rfl, hb9⟩
  replace hg := hg.below hb9
  replace hm := hm.below hb9
  replace X1 := X1.below hb9
  replace hr := hr.below hb9
  replace r1 := r1.below hb9
  replace r2 := r2.below hb9
  replace g3 := g3.below hb9
  replace m3 := m3.below hb9
  replace Y0 := Y0.below hb9
  replace g4 := g4.below hb9
  replace m4 := m4.below hb9
  replace Y1 := Y1.below hb9
  replace hbW : Below w.heap.size w t9 := hbW.trans (hb9.mono hbW.size)
  clear hb9 
  obtain ⟨k00, k01, _⟩ := X1.two
  obtain ⟨k10, k11, _⟩ := Y0.two
  obtain ⟨k20, k21, _⟩ := Y1.two
  go_wp2_with fail
  refine hK.out _ _ ?_ (fun hHeld => ?_)
  · (try dsimp only)
    exact ⟨k00, k01, k10, k11, k20, k21⟩
  clear hK K k00 k01 k10 k11 k20 k21
  try simp only [Act.put, List.setIfInBounds_toArray, List.set_cons_zero, List.set_cons_succ]
  refine hT 17 hHeld ?_
  refine hT 18 hHeld ?_
  refine hT 19 hHeld ?_
  refine hT 21 hHeld ?_
  refine hCall (i := 20) rfl (by kernel_rfl) (by rfl) (fun K hK => ?_)
  go_simp
  refine (hfc _ hg hm).mono ?_
  rintro e t10 ⟨rfl, hb10⟩
  replace hg := hg.below hb10
  replace hm := hm.below hb10
  replace X1 := X1.below hb10
  replace hr := hr.below hb10
  replace r1 := r1.below hb10
  replace r2 := r2.below hb10
  replace g3 := g3.below hb10
  replace m3 := m3.below hb10
  replace Y0 := Y0.below hb10
  replace g4 := g4.below hb10
  replace m4 := m4.below hb10
  replace Y1 := Y1.below hb10
  replace hbW : Below w.heap.size w t10 := hbW.trans (hb10.mono hbW.size)
  clear hb10 
  obtain ⟨k00, k01, _⟩ := X1.two
  obtain ⟨k10, k11, _⟩ := Y0.two
  obtain ⟨k20, k21, _⟩ := Y1.two
  go_wp2_with fail
  refine hK.out _ _ ?_ (fun hHeld => ?_)
  · (try dsimp only)
    exact ⟨k00, k01, k10, k11, k20, k21⟩
  clear hK K k00 k01 k10 k11 k20 k21
  try simp only [Act.put, List.setIfInBounds_toArray, List.set_cons_zero, List.set_cons_succ]
  refine hCall (i := 22) rfl (by kernel_rfl) (by rfl) (fun K hK => ?_)
  go_simp
  refine (hfs _ hg hm).mono ?_
  rintro e t11 ⟨rfl, hb11⟩
  replace hg := hg.below hb11
  replace hm := hm.below hb11
  replace X1 := X1.below hb11
  replace hr := hr.below hb11
  replace r1 := r1.below hb11
  replace r2 := r2.below hb11
  replace g3 := g3.below hb11
  replace m3 := m3.below hb11
  replace Y0 := Y0.below hb11
  replace g4 := g4.below hb11
  replace m4 := m4.below hb11
  replace Y1 := Y1.below hb11
  replace hbW : Below w.heap.size w t11 := hbW.trans (hb11.mono hbW.size)
  clear hb11 
  obtain ⟨k00, k01, _⟩ := X1.two
  obtain ⟨k10, k11, _⟩ := Y0.two
  obtain ⟨k20, k21, _⟩ := Y1.two
  go_wp2_with fail
  refine hK.out _ _ ?_ (fun hHeld => ?_)
  · (try dsimp only)
    exact ⟨k00, k01, k10, k11, k20, k21⟩
  clear hK K k00 k01 k10 k11 k20 k21
  try simp only [Act.put, List.setIfInBounds_toArray, List.set_cons_zero, List.set_cons_succ]
  refine hT 23 hHeld ?_
  refine hT 24 hHeld ?_
  refine hT 25 hHeld ?_
  refine wpAnyH_done (by kernel_rfl) ?_ _
  clear hHeld
  go_wp2
  go_ret
  exact ⟨rfl, hbW⟩

end Go.Proofs.Ytdojgkejpfdaeaa

namespace Go.Proofs.Ytdojgkejpfdaeaa
open Go.RowKit
set_option linter.unusedSimpArgs false
set_option linter.unusedVariables false

/-- A slice of integers that came in: it is nil; or it leads to a row of 'cap' cells, the numbers 'zs' (the first 'len' are its elements), each fitting its kind. -/
def IsRowK (k : IntKind) (w : World) (a : Option Addr) (len cap : Nat) (zs : List Int) : Prop :=
  (a = none ∧ len = 0 ∧ cap = 0 ∧ zs = []) ∨
  ∃ x, a = some x ∧ len ≤ cap ∧ cap ≤ maxLen ∧ zs.length = cap ∧ (∀ i, i < zs.length → w.cell? (x.add i) = some (.int k (zs.getD i 0))) ∧ ∀ n ∈ zs, (Lit.int k n).wf = true

theorem wfo_u8_bounds {n : Int} (h : (Lit.int .u8 n).wf = true) : 0 ≤ n ∧ n < 256 := by
  simp [Lit.wf, IntKind.min, IntKind.max, IntKind.bits, IntKind.signed] at h
  omega
theorem wfo_i32_bounds {n : Int} (h : (Lit.int .i32 n).wf = true) : -2147483648 ≤ n ∧ n ≤ 2147483647 := by
  simp [Lit.wf, IntKind.min, IntKind.max, IntKind.bits, IntKind.signed] at h
  omega
theorem wfo_i64_bounds {n : Int} (h : (Lit.int .i64 n).wf = true) : -9223372036854775808 ≤ n ∧ n ≤ 9223372036854775807 := by
  simp [Lit.wf, IntKind.min, IntKind.max, IntKind.bits, IntKind.signed] at h
  omega

theorem IsRowK.cells {k : IntKind} {w : World} {a : Option Addr} {len cap : Nat} {zs : List Int} (h : IsRowK k w a len cap zs) :
    ∃ ys : List Int, len = ys.length ∧ (∀ y ∈ ys, (Lit.int k y).wf = true) ∧ ys.length ≤ cap ∧ cap ≤ maxLen ∧ (a = none → cap = 0) ∧
      (ys = [] ∨ ∃ b off, a = some ⟨b, off, none⟩ ∧ b < w.heap.size ∧ ∀ i, i < ys.length → w.cell? ⟨b, off + i, none⟩ = some (.int k (ys.getD i 0))) := by
  rcases h with ⟨rfl, rfl, rfl, rfl⟩ | ⟨x, rfl, h1, h2, h3, hc, hw⟩
  · exact ⟨[], rfl, (fun y hy => by cases hy), Nat.le_refl _, Nat.zero_le _, fun _ => rfl, .inl rfl⟩
  · refine ⟨zs.take len, by simp; omega, fun y hy => hw y (List.mem_of_mem_take hy), by simp; omega, h2, (by simp), ?_⟩
    by_cases h0 : len = 0
    · exact .inl (by simp [h0])
    · obtain ⟨b, off, spot⟩ := x
      have c0 := hc 0 (by omega)
      have hspot : spot = none := by simpa [Addr.add] using World.cell?_spot c0
      subst hspot
      refine .inr ⟨b, off, rfl, ?_, fun i hi => ?_⟩
      · have := World.block_lt_of_cell? w _ c0
        simpa [Addr.add] using this
      · simp at hi
        have hadd : (⟨b, off, none⟩ : Addr).add i = ⟨b, off + i, none⟩ := by unfold Addr.add; split <;> simp_all
        have hci := hc i (by omega)
        rw [hadd] at hci
        rw [hci]
        simp [List.getD, show i < len by omega]

theorem IsRowK.rb {w : World} {a : Option Addr} {len cap : Nat} {zs : List Int} (h : IsRowK .u8 w a len cap zs) : ∃ xs : List Nat, len = xs.length ∧ Rb w a cap xs := by
  obtain ⟨ys, h1, h2, h3, h4, h5, h6⟩ := h.cells
  have hb : ∀ y ∈ ys, 0 ≤ y ∧ y < 256 := fun y hy => wfo_u8_bounds (h2 y hy)
  refine ⟨ys.map Int.toNat, by simp [h1], ?_, by simpa using h3, h4, h5, ?_⟩
  · intro x hx
    obtain ⟨y, hy, rfl⟩ := List.mem_map.1 hx
    have := hb y hy
    omega
  · rcases h6 with rfl | ⟨b, off, e, hlt, hc⟩
    · exact .inl rfl
    · refine .inr ⟨b, off, e, hlt, fun i hi => ?_⟩
      simp at hi
      rw [hc i hi]
      have h0 : ys.getD i 0 = ys[i] := by simp [List.getD, hi]
      have hy := hb ys[i] (List.getElem_mem hi)
      rw [h0]
      simp [List.getD, hi]
      omega

end Go.Proofs.Ytdojgkejpfdaeaa
