/-
  foundrylaw15: the walk of a law.
-/
import Derived.Test.YtkmcodofnckdmaaGreatZV31
set_option maxHeartbeats 8000000
set_option maxRecDepth 100000
set_option linter.unusedSimpArgs false
set_option linter.unusedVariables false
namespace Go.Proofs.YtkmcodofnckdmaaGreat
open Go.RowKit Go.Maps
theorem glyphsWhole_any (S : Nat → Prop) (a : Option Addr) (ca : Nat) (l : List Gl) (ga : Option Addr) (gc : Nat) (ma : Option Addr) (mc : Nat) (s : Sr) (ax : Int) (g : Int) (pa : Option Addr) (pc : Nat) (cs : List Int) (w : World) (hl : Gr GlE S w a ca l) (hg : Tzz w ga gc s.rg) (hm : Rii w ma mc s.rw) (hi : I64 ax) (hcs : Ri w pa pc cs) (hgb : -9223372036854775808 ≤ g ∧ g ≤ 9223372036854775807) :
    Calls Tryz.prog 7 #[.agg #[.slice a l.length ca, .slice ga s.rg.length gc, .slice ma s.rw.length mc, .int .i64 ax], .int .i64 g, .slice pa cs.length pc] w fun e w' => e = .returned (.bool true) ∧ Below w.heap.size w w' := by
 have kl := hl.lenB
 have kg := hg.lenB
 have km := hm.lenB
 have kc := hcs.lenB
 obtain ⟨W, hW, X1, hbW⟩ : ∃ W, W = w.alloc (.cells #[.slice a l.length ca, .slice ga s.rg.length gc, .slice ma s.rw.length mc, .int .i64 ax] 28) ∧ Bk 28 W w.heap.size [.slice a l.length ca, .slice ga s.rg.length gc, .slice ma s.rw.length mc, .int .i64 ax] ∧ Below w.heap.size w W := ⟨_, rfl, Bk.new _ _ _, bl1 _⟩
 replace hl := hl.below hbW; replace hg := hg.below hbW; replace hm := hm.below hbW; replace hcs := hcs.below hbW
 go_enter Tryz.func7, Tryz.ntmps7
 go_upto_region 1 with fail
 rw [← hW]; clear hW
 go_wp2_with fail
 refine (awake15_any _).mono ?_
 rintro e y1 ⟨rfl, hb1⟩; replace hl := hl.below hb1; replace hg := hg.below hb1; replace hm := hm.below hb1; replace X1 := X1.below hb1
 replace hbW := hbW.trans (hb1.mono hbW.size)
 replace hcs := hcs.below hb1; obtain ⟨p0, p1, p2, p3, -⟩ := X1.four; clear hb1
 go_wp2_with fail
 refine (few15_any S a ca l ga gc ma mc s ax pa cs.length pc _ hl hg hm kc).mono ?_
 rintro e y2 ⟨⟨q, rfl, HQ⟩, hb1⟩
 replace HQ : Hid (q = true → FewG l ∧ s.rg.length ≤ 20 ∧ (∀ l ∈ s.rg, l.length ≤ 8) ∧ cs.length ≤ 20) := HQ
 clear p0 p1 p2 p3; replace hl := hl.below hb1; replace hg := hg.below hb1; replace hm := hm.below hb1; replace X1 := X1.below hb1
 replace hbW := hbW.trans (hb1.mono hbW.size)
 replace hcs := hcs.below hb1; obtain ⟨p0, p1, p2, p3, -⟩ := X1.four; clear hb1
 cases q with
 | false =>
  go_wp2_with fail
  refine (awake15_any _).mono ?_
  rintro e uz ⟨rfl, hbz⟩
  have hfin := hbW.trans (hbz.mono hbW.size)
  clear hbz; go_wp2
  go_ret
  exact ⟨rfl, hfin⟩
 | true =>
 have HQ2 : Hid (FewG l ∧ s.rg.length ≤ 20 ∧ (∀ l ∈ s.rg, l.length ≤ 8) ∧ cs.length ≤ 20) := HQ.out rfl
 clear HQ
 have hfo := gform_any S a ca l ga gc ma mc s ax _ hl HQ2.out.1.ps hg hm hi
 cases hf : foG l s ax with
 | false =>
  rw [hf] at hfo; clear hf
  go_wp2_with fail
  refine hfo.mono ?_
  rintro e y3 ⟨rfl, hb1⟩
  replace hbW := hbW.trans (hb1.mono hbW.size)
  clear hfo hb1 p0 p1 p2 p3
  go_wp2_with fail
  refine (awake15_any _).mono ?_
  rintro e uz ⟨rfl, hbz⟩
  have hfin := hbW.trans (hbz.mono hbW.size)
  clear hbz; go_wp2
  go_ret
  exact ⟨rfl, hfin⟩
 | true =>
 rw [hf] at hfo
 have HF : Hid (foG l s ax = true) := hf
 clear hf
 go_wp2_with fail
 refine hfo.mono ?_
 rintro e y3 ⟨rfl, hb1⟩; clear hfo p0 p1 p2 p3; replace hl := hl.below hb1; replace hg := hg.below hb1; replace hm := hm.below hb1; replace X1 := X1.below hb1
 replace hbW := hbW.trans (hb1.mono hbW.size)
 replace hcs := hcs.below hb1; obtain ⟨p0, p1, p2, p3, -⟩ := X1.four; clear hb1
 by_cases hax : (cs.length : Int) = ax
 rotate_left
 · have g1 : ((cs.length : Int) != ax) = true := bne_iff_ne.2 hax
   go_wp2_with fail
   refine (awake15_any _).mono ?_
   rintro e uz ⟨rfl, hbz⟩
   have hfin := hbW.trans (hbz.mono hbW.size)
   clear hbz; go_wp2
   go_ret
   exact ⟨rfl, hfin⟩
 have g1 : ((cs.length : Int) != ax) = false := by rw [hax]; simp
 by_cases hg0 : g < 0
 · have g2 : decide (g < 0) = true := decide_eq_true hg0
   go_wp2_with fail
   refine (awake15_any _).mono ?_
   rintro e uz ⟨rfl, hbz⟩
   have hfin := hbW.trans (hbz.mono hbW.size)
   clear hbz; go_wp2
   go_ret
   exact ⟨rfl, hfin⟩
 have g2 : decide (g < 0) = false := decide_eq_false hg0
 by_cases hg1 : (l.length : Int) ≤ g
 · have g3 : decide ((l.length : Int) ≤ g) = true := decide_eq_true hg1
   go_wp2_with fail
   refine (awake15_any _).mono ?_
   rintro e uz ⟨rfl, hbz⟩
   have hfin := hbW.trans (hbz.mono hbW.size)
   clear hbz; go_wp2
   go_ret
   exact ⟨rfl, hfin⟩
 have g3 : decide ((l.length : Int) ≤ g) = false := decide_eq_false hg1
 obtain ⟨k, rfl⟩ : ∃ k : Nat, g = (k : Int) := ⟨g.toNat, by omega⟩
 have g3b : decide (l.length ≤ k) = false := decide_eq_false (by omega)
 have hkl : k < l.length := by omega
 have hgi : I64 (k : Int) := ⟨hgb.1, hgb.2⟩
 have HGW : Hid (_) := gl_whole (l := l) (s := s) (cs := cs) (k := k) (by rw [hax]; exact HF.out) hkl
 have HAV : Hid (avE l s (k : Int) cs = 0 ∨ avE l s (k : Int) cs = 4) := by
  have h1 := (foGx_iff.1 ((foG_iff.1 HF.out).2.2 k hkl)).2.2.2
  have h2 := (av_some (s := s) (cs := cs) (gAt_get hkl)).2
  show _ ∨ _
  rw [h2]
  unfold roE
  rw [if_pos h1]
  unfold fldE
  split
  · exact .inl rfl
  · exact .inr rfl
 clear hax HF
 have hsm := small15_any S a ca l (.slice ga s.rg.length gc) (.slice ma s.rw.length mc) ax (k : Int) _ hl HQ2.out.1 hgi rfl rfl
 by_cases hsz : szG l (k : Int) ≤ 600
 rotate_left
 · rw [decide_eq_false hsz] at hsm
   clear hsz HGW HAV
   go_wp2_with fail
   refine hsm.mono ?_
   rintro e y4 ⟨rfl, hb1⟩
   replace hbW := hbW.trans (hb1.mono hbW.size)
   clear hsm hb1 p0 p1 p2 p3
   go_wp2_with fail
   refine (awake15_any _).mono ?_
   rintro e uz ⟨rfl, hbz⟩
   have hfin := hbW.trans (hbz.mono hbW.size)
   clear hbz; go_wp2
   go_ret
   exact ⟨rfl, hfin⟩
 rw [decide_eq_true hsz] at hsm
 go_wp2_with fail
 refine hsm.mono ?_
 rintro e y4 ⟨rfl, hb1⟩; clear hsm p0 p1 p2 p3 g1 g2 g3 g3b; replace hl := hl.below hb1; replace hg := hg.below hb1; replace hm := hm.below hb1; replace X1 := X1.below hb1
 replace hbW := hbW.trans (hb1.mono hbW.size)
 replace hcs := hcs.below hb1; obtain ⟨p0, p1, p2, p3, -⟩ := X1.four; clear hb1
 have hat := gat_any S a ca l (k : Int) pa pc cs _ hl HQ2.out.1.ps hcs hgi
 go_wp2_with fail
 refine hat.mono ?_
 rintro e y5 ⟨a1, c1, rfl, L, hGL, hLs, -, hb1⟩
 have hgr := hGL.rows
 rw [hLs] at hgr
 replace hgr := hgr.gr
 clear hat hGL hLs p0 p1 p2 p3; replace hl := hl.below hb1; replace hg := hg.below hb1; replace hm := hm.below hb1; replace X1 := X1.below hb1
 replace hbW := hbW.trans (hb1.mono hbW.size)
 replace hcs := hcs.below hb1; obtain ⟨p0, p1, p2, p3, -⟩ := X1.four; clear hb1
 by_cases he : glE l (k : Int) cs = 0
 rotate_left
 · obtain ⟨e4, e5⟩ := HGW.out.2 he
   rw [e4, e5]; clear HGW HAV he hgr e4 e5; go_wp2
   go_ret
   exact ⟨rfl, hbW⟩
 have HFL : Hid ((glC l (k : Int) cs).flatten.length = szG l (k : Int)) := HGW.out.1 he
 rw [he]; clear HGW he
 have hflb : (glC l (k : Int) cs).flatten.length ≤ 600 := by rw [HFL.out]; exact hsz
 obtain ⟨cc, hcc⟩ : ∃ c, glC l (k : Int) cs = c := ⟨_, rfl⟩
 rw [hcc] at hgr HFL hflb; rw [hcc]
 have kcc := hgr.lenB
 have HGR : Hid (Gr PnE.row _ y5 a1 c1 cc) := hgr
 have HL : Hid (Gr GlE S y5 a ca l) := hl
 have HG : Hid (Tzz y5 ga gc s.rg) := hg
 have HM : Hid (Rii y5 ma mc s.rw) := hm
 have HCS : Hid (Ri y5 pa pc cs) := hcs
 have HX1 : Hid (Bk 28 y5 w.heap.size [.slice a l.length ca, .slice ga s.rg.length gc, .slice ma s.rw.length mc, .int .i64 ax]) := X1
 have HBW : Hid (Below w.heap.size w y5) := hbW
 clear hcc hl hg hm hcs X1 hbW hgr p0 p1 p2 p3; go_wp2
 go_loopw [9, 10] (fun nv i wr => ∃ j : Nat, j ≤ cc.length ∧ i = .int .i64 j ∧ nv = .int .i64 (((cc.take j).flatten.length : Nat) : Int) ∧ y5 = wr) (fun _ i _ => cc.length - (intOf i).toNat)
 case atStart => exact ⟨0, Nat.zero_le _, rfl, rfl, rfl⟩
 case round =>
  obtain ⟨j, hj, rfl, rfl, rfl⟩ := hrel
  by_cases hjn : j < cc.length
  · obtain ⟨b0, off, a8, c8, ea, hb, d0, hrow, hlb, _⟩ := HGR.out.rw (Below.refl _ _) j hjn
    subst ea
    have hst := flat_take_succ hjn
    have hle := flat_take_le cc (j + 1)
    obtain ⟨m, hm⟩ : ∃ m, (cc.getD j []).length = m := ⟨_, rfl⟩
    rw [hm] at d0 hst
    obtain ⟨x, hx⟩ : ∃ x, (cc.take j).flatten.length = x := ⟨_, rfl⟩
    obtain ⟨y, hy⟩ : ∃ x, (cc.take (j + 1)).flatten.length = x := ⟨_, rfl⟩
    have HY : Hid ((cc.take (j + 1)).flatten.length = y) := hy
    rw [hx, hy] at hst; rw [hy] at hle; rw [hx]
    have i1 : (0 : Int) ≤ (j : Int) := by omega
    have i2 : (j : Int) < (cc.length : Int) := by omega
    have hs : (x : Int) + (m : Int) = (y : Int) := by omega
    have hyb : y ≤ 600 := by omega
    clear hm hx hy hrow hlb hst hle; go_wp2
    go_roundw
    case rel => exact ⟨j + 1, by omega, by go_num, by rw [HY.out], trivial⟩
    case measure => simp [intOf]; omega
  · have ej : j = cc.length := by omega
    have g4 : ¬ (j : Int) < (cc.length : Int) := by omega
    rw [show (cc.take j).flatten.length = szG l (k : Int) by rw [ej, List.take_length]; exact HFL.out]
    obtain ⟨p0, p1, p2, p3, -⟩ := HX1.out.four
    have had := gadvance_any S a ca l ga gc ma mc s (k : Int) pa pc cs _ HL.out HG.out HM.out HCS.out hgi (by have := HQ2.out.2.1; omega) HQ2.out.2.2.1
    have hsi := fun U (hU : Below y5.heap.size y5 U) => gsize_any S a ca l (k : Int) U (HL.out.below hU) HQ2.out.1.ps hgi
    clear ej
    go_wp2_with fail
    refine had.mono ?_
    rintro e y6 ⟨rfl, hb1⟩
    have hX := HX1.out.below hb1
    clear p0 p1 p2 p3 had; obtain ⟨p0, p1, p2, p3, -⟩ := hX.four
    have hBf := HBW.out.trans (hb1.mono HBW.out.size)
    go_wp2_with fail
    refine (hsi _ hb1).mono ?_
    rintro e y7 ⟨rfl, hb2⟩
    replace hBf := hBf.trans (hb2.mono hBf.size)
    clear hsi hb1 hb2 hX p0 p1 p2 p3
    generalize szG l (k : Int) = sz at *
    rcases HAV.out with h9 | h9
    · rw [h9]
      clear h9 HAV; go_wp2
      go_ret
      exact ⟨rfl, hBf⟩
    · rw [h9]
      clear h9 HAV; go_wp2
      go_ret
      exact ⟨rfl, hBf⟩
end Go.Proofs.YtkmcodofnckdmaaGreat
