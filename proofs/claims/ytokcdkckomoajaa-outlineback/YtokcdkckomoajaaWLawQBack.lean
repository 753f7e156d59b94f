/-
  foundrylaw12.OutlineBack: the walk.
-/
import Derived.Test.YtokcdkckomoajaaZ12
import Derived.Test.YtokcdkckomoajaaZ15
import Derived.Test.YtokcdkckomoajaaZ9
namespace Go.Proofs.Ytokcdkckomoajaa
open Go.RowKit Go.Maps
set_option linter.unusedSimpArgs false
set_option linter.unusedVariables false

theorem wrapi64o {z : Int} (h1 : -9223372036854775808 ≤ z) (h2 : z ≤ 9223372036854775807) : IntKind.i64.wrap z = z := by
  simp [IntKind.wrap, IntKind.bits, IntKind.signed]
  omega

set_option maxHeartbeats 1000000 in
set_option maxRecDepth 100000 in
theorem outlineBack_any (S : Nat → Prop) (a : Option Addr) (ca : Nat) (b : Option Addr) (cb : Nat) (o : Ol) (w : World) (hg : Gr PnE.row S w a ca o.cs) (hm : Gr PaE S w b cb o.ps) :
    Calls Try.prog 5 #[.agg #[.slice a o.cs.length ca, .slice b o.ps.length cb]] w fun e w' => e = .returned (.bool true) ∧ Below w.heap.size w w' := by
  have k1 := hg.lenB
  have k2 := hm.lenB
  obtain ⟨W, hW, X1, hbW⟩ : ∃ W, W = w.alloc (.cells #[.slice a o.cs.length ca, .slice b o.ps.length cb] 25) ∧ Bk 25 W w.heap.size [.slice a o.cs.length ca, .slice b o.ps.length cb] ∧ Below w.heap.size w W := ⟨_, rfl, Bk.new _ _ _, bl1 _⟩
  replace hg := hg.below hbW
  replace hm := hm.below hbW
  go_enter Try.func5, Try.ntmps5
  go_wp2_with fail
  rw [← hW]
  clear hW
  refine (awake12_any _).mono ?_
  rintro e t1 ⟨rfl, hb1⟩
  replace hg := hg.below hb1
  replace hm := hm.below hb1
  replace X1 := X1.below hb1
  replace hbW : Below w.heap.size w t1 := hbW.trans (hb1.mono hbW.size)
  clear hb1 
  obtain ⟨p0, p1, _⟩ := X1.two
  go_wp2_with fail
  refine (sfewO_any S a ca b cb o _ hg hm).mono ?_
  rintro e t2 ⟨rfl, hb2⟩
  replace hg := hg.below hb2
  replace hm := hm.below hb2
  replace X1 := X1.below hb2
  replace hbW : Below w.heap.size w t2 := hbW.trans (hb2.mono hbW.size)
  clear hb2 p0 p1
  obtain ⟨p0, p1, _⟩ := X1.two
  cases hq : fewB o with
  | false =>
    clear hq
    go_wp2_with fail
    refine (awake12_any _).mono ?_
    rintro e v9 ⟨rfl, hb9⟩
    replace hbW := hbW.trans (hb9.mono hbW.size)
    clear hb9
    go_wp2
    go_ret
    exact ⟨rfl, hbW⟩
  | true =>
  obtain ⟨q1, q2, q3⟩ := fewB_of hq
  clear hq
  have HST : Hid (foB o = true → diB o.cs.flatten = false → _) := fun h1 h2 => step_out h1 h2
  have HPF : Hid (foB o = true → ∀ k, k < o.cs.flatten.length → PnF (o.cs.flatten.getD k Pn.none)) := fun hf k hk => (foB_iff.1 hf).2.2.2.2.2.1 _ (get_mem hk)
  have hfo := fun U h1 h2 => cformO_any S a ca b cb o U h1 h2
  have hpt := fun U h1 => cpointsO_any S a ca (.slice b o.ps.length cb) o.cs U h1 (by omega) rfl
  have hwr := fun U h1 h2 => cwriteO_any S a ca b cb o U h1 h2
  have hrc := wrOE_cases o
  have HBK : Hid (wrOE o = 0 → rdOE (wrOB o) = 0 ∧ rdOL (wrOB o) = o) := fun h => by
    obtain ⟨r1, r2⟩ := rdO_back h
    exact ⟨by rw [rdOE, if_pos r1], by rw [rdOL, if_pos r1, r2]⟩
  rcases hrc with ⟨h0, hf⟩ | ⟨h0, hf, hbn⟩ | ⟨h0, hf, hps, hd, hbn⟩
  · obtain ⟨r1, r2⟩ := HBK.out h0
    have hrd := fun p d U h => creadO_any p d (wrOB o) U h
    simp only [r1, r2] at hrd
    simp only [h0] at hwr
    clear h0 HBK HST HPF r1 r2 hf hfo hpt
    generalize wrOB o = fb at *
    go_wp2_with fail
    refine (hwr _ hg hm).mono ?_
    rintro e t3 ⟨a1, c1, rfl, hr1, hb3⟩
    replace hg := hg.below hb3
    replace hm := hm.below hb3
    replace X1 := X1.below hb3
    replace hbW : Below w.heap.size w t3 := hbW.trans (hb3.mono hbW.size)
    clear hb3 p0 p1
    go_wp2_with fail
    refine (hrd _ _ _ hr1).mono ?_
    rintro e t4 ⟨a2, c2, b2, d2, rfl, hg2, hm2, hb4⟩
    replace hg := hg.below hb4
    replace hm := hm.below hb4
    replace X1 := X1.below hb4
    replace hr1 := hr1.below hb4
    replace hbW : Below w.heap.size w t4 := hbW.trans (hb4.mono hbW.size)
    clear hb4 
    obtain ⟨V, hV, Y1, hbV⟩ : ∃ V, V = t4.alloc (.cells #[.slice a2 o.cs.length c2, .slice b2 o.ps.length d2] 25) ∧ Bk 25 V t4.heap.size [.slice a2 o.cs.length c2, .slice b2 o.ps.length d2] ∧ Below t4.heap.size t4 V := ⟨_, rfl, Bk.new _ _ _, bl1 _⟩
    replace hg := hg.below hbV
    replace hm := hm.below hbV
    replace X1 := X1.below hbV
    replace hr1 := hr1.below hbV
    replace hg2 := hg2.below hbV
    replace hm2 := hm2.below hbV
    replace hbW : Below w.heap.size w V := hbW.trans (hbV.mono hbW.size)
    clear hbV
    obtain ⟨p0, p1, _⟩ := X1.two
    obtain ⟨y0, y1, _⟩ := Y1.two
    go_upto_region 16 with fail
    rw [← hV]
    clear hV
    go_wp2_with fail
    refine (ssameO_any _ _ a ca b cb a2 c2 b2 d2 o _ hg hm hg2 hm2).mono ?_
    rintro e t5 ⟨rfl, hb5⟩
    replace hg := hg.below hb5
    replace hm := hm.below hb5
    replace X1 := X1.below hb5
    replace hr1 := hr1.below hb5
    replace hg2 := hg2.below hb5
    replace hm2 := hm2.below hb5
    replace hbW : Below w.heap.size w t5 := hbW.trans (hb5.mono hbW.size)
    clear hb5 
    go_wp2
    go_ret
    exact ⟨rfl, hbW⟩
  · simp only [h0, hbn] at hwr
    simp only [hf] at hfo
    clear h0 HBK HST HPF hf hpt hbn
    go_wp2_with fail
    refine (hwr _ hg hm).mono ?_
    rintro e t3 ⟨a1, c1, rfl, hr1, hb3⟩
    replace hg := hg.below hb3
    replace hm := hm.below hb3
    replace X1 := X1.below hb3
    replace hbW : Below w.heap.size w t3 := hbW.trans (hb3.mono hbW.size)
    clear hb3 p0 p1
    obtain ⟨p0, p1, _⟩ := X1.two
    go_wp2_with fail
    refine (hfo _ hg hm).mono ?_
    rintro e t4 ⟨rfl, hb4⟩
    replace hg := hg.below hb4
    replace hm := hm.below hb4
    replace X1 := X1.below hb4
    replace hr1 := hr1.below hb4
    replace hbW : Below w.heap.size w t4 := hbW.trans (hb4.mono hbW.size)
    clear hb4 
    go_wp2
    go_ret
    exact ⟨rfl, hbW⟩
  · obtain ⟨i0, hi1, hi2, hi3⟩ := HST.out hf hd
    have HI : Hid (_) := hi3
    have HPF : Hid (_) := HPF.out hf
    simp only [h0, hbn] at hwr
    simp only [hf] at hfo
    clear h0 HBK HST hf hbn hd hi3 hps
    generalize o.cs.flatten = L at *
    go_wp2_with fail
    refine (hwr _ hg hm).mono ?_
    rintro e t3 ⟨a1, c1, rfl, hr1, hb3⟩
    replace hg := hg.below hb3
    replace hm := hm.below hb3
    replace X1 := X1.below hb3
    replace hbW : Below w.heap.size w t3 := hbW.trans (hb3.mono hbW.size)
    clear hb3 p0 p1 hr1
    obtain ⟨p0, p1, _⟩ := X1.two
    go_wp2_with fail
    refine (hpt _ hg).mono ?_
    rintro e t4 ⟨a2, c2, rfl, hp2, _, hb4⟩
    replace hg := hg.below hb4
    replace hm := hm.below hb4
    replace X1 := X1.below hb4
    replace hbW : Below w.heap.size w t4 := hbW.trans (hb4.mono hbW.size)
    clear hb4 p0 p1
    have HG : Hid (Gr PnE.row S t4 a ca o.cs) := hg
    have HM : Hid (Gr PaE S t4 b cb o.ps) := hm
    have HX : Hid (Bk 25 t4 w.heap.size [.slice a o.cs.length ca, .slice b o.ps.length cb]) := X1
    have HP2 : Hid (Gr PnE (fun _ => True) t4 a2 c2 L) := hp2
    have HB : Hid (Below w.heap.size w t4) := hbW
    clear hg hm X1 hp2 hbW hwr hpt
    go_wp2
    go_loopw [6] (fun i wr => ∃ k : Nat, 1 ≤ k ∧ k ≤ i0 ∧ i = .int .i64 k ∧ Below t4.heap.size t4 wr) (fun i _ => L.length - (intOf i).toNat)
    case atStart => exact ⟨1, by omega, hi1, rfl, Below.refl _ _⟩
    case round =>
      obtain ⟨k, hk1, hk2, rfl, hnx⟩ := hrel
      obtain ⟨b1, o1, ea, _, ⟨w0, w1⟩, c0, c1', c2'⟩ := HP2.out.pn hnx k (by omega)
      obtain ⟨b2, o2, eb, _, ⟨w2, w3⟩, d0, d1, d2⟩ := HP2.out.pn hnx (k - 1) (by omega)
      rw [ea] at eb
      cases eb
      subst ea
      have hF1 := HPF.out k (by omega)
      have hF2 := HPF.out (k - 1) (by omega)
      have HI2 : Hid (k = i0 → ¬ ((-32768 ≤ (L.getD k Pn.none).x - (L.getD (k - 1) Pn.none).x ∧ (L.getD k Pn.none).x - (L.getD (k - 1) Pn.none).x ≤ 32767) ∧ (-32768 ≤ (L.getD k Pn.none).y - (L.getD (k - 1) Pn.none).y ∧ (L.getD k Pn.none).y - (L.getD (k - 1) Pn.none).y ≤ 32767))) := fun e => by rw [e]; exact HI.out
      generalize L.getD k Pn.none = P1 at *
      obtain ⟨j, hj⟩ : ∃ j, k - 1 = j := ⟨_, rfl⟩
      rw [hj] at d0 d1 d2 hF2 HI2 w2 w3
      have hkj : (k : Int) - 1 = (j : Int) := by omega
      have hjl : (j : Int) < (L.length : Int) := by omega
      have hj0 : (0 : Int) ≤ (j : Int) := by omega
      clear hj
      generalize L.getD j Pn.none = P2 at *
      obtain ⟨x, y, on⟩ := P1
      obtain ⟨x', y', on'⟩ := P2
      unfold PnF at hF1 hF2
      dsimp only at w0 w1 w2 w3 c0 c1' c2' d0 d1 d2 hF1 hF2 HI2
      obtain ⟨dx, hdx⟩ : ∃ d, x - x' = d := ⟨_, rfl⟩
      obtain ⟨dy, hdy⟩ : ∃ d, y - y' = d := ⟨_, rfl⟩
      rw [hdx, hdy] at HI2
      have hwx : IntKind.i64.wrap dx = dx := wrapi64o (by omega) (by omega)
      have hwy : IntKind.i64.wrap dy = dy := wrapi64o (by omega) (by omega)
      have hwj : IntKind.i64.wrap (j : Int) = (j : Int) := wrapi64o (by omega) (by omega)
      have hwk : IntKind.i64.wrap ((k : Int) - 1) = (j : Int) := by rw [hkj]; exact hwj
      have i1 : (0 : Int) ≤ (k : Int) := by omega
      have i2 : (k : Int) < (L.length : Int) := by omega
      clear hF1 hF2 w0 w1 w2 w3 hi2
      go_wp2_with fail
      go_quiet (fail)
      have hny := below_drewN hnx nq
      generalize wr.drewN nq = wd at hny ⊢
      have hB := HB.out.trans (hny.mono HB.out.size)
      obtain ⟨p0, p1, _⟩ := (HX.out.below hny).two
      clear c0 c1' c2' d0 d1 d2 hnx hwx hwy hwj hwk hkj
      by_cases hg1 : dx < -32768
      · have g1 : decide (dx < -32768) = true := decide_eq_true hg1
        go_wp2_with fail
        refine (hfo _ (HG.out.below hny) (HM.out.below hny)).mono ?_
        rintro e v9 ⟨rfl, hb9⟩
        replace hB := hB.trans (hb9.mono hB.size)
        clear hb9
        go_wp2
        go_ret
        exact ⟨rfl, hB⟩
      have g1 : decide (dx < -32768) = false := decide_eq_false hg1
      by_cases hg2 : 32767 < dx
      · have g2 : decide (32767 < dx) = true := decide_eq_true hg2
        go_wp2_with fail
        refine (hfo _ (HG.out.below hny) (HM.out.below hny)).mono ?_
        rintro e v9 ⟨rfl, hb9⟩
        replace hB := hB.trans (hb9.mono hB.size)
        clear hb9
        go_wp2
        go_ret
        exact ⟨rfl, hB⟩
      have g2 : decide (32767 < dx) = false := decide_eq_false hg2
      by_cases hg3 : dy < -32768
      · have g3 : decide (dy < -32768) = true := decide_eq_true hg3
        go_wp2_with fail
        refine (hfo _ (HG.out.below hny) (HM.out.below hny)).mono ?_
        rintro e v9 ⟨rfl, hb9⟩
        replace hB := hB.trans (hb9.mono hB.size)
        clear hb9
        go_wp2
        go_ret
        exact ⟨rfl, hB⟩
      have g3 : decide (dy < -32768) = false := decide_eq_false hg3
      by_cases hg4 : 32767 < dy
      · have g4 : decide (32767 < dy) = true := decide_eq_true hg4
        go_wp2_with fail
        refine (hfo _ (HG.out.below hny) (HM.out.below hny)).mono ?_
        rintro e v9 ⟨rfl, hb9⟩
        replace hB := hB.trans (hb9.mono hB.size)
        clear hb9
        go_wp2
        go_ret
        exact ⟨rfl, hB⟩
      have g4 : decide (32767 < dy) = false := decide_eq_false hg4
      have hki : k ≠ i0 := fun e => HI2.out e (by omega)
      have HK : Hid (k + 1 ≤ i0) := by show _ ≤ _; omega
      clear HI2 hki
      go_wp2
      go_roundw
      case rel => exact ⟨k + 1, by omega, HK.out, by go_num, hny⟩
      case measure => simp [intOf]; omega

end Go.Proofs.Ytokcdkckomoajaa
