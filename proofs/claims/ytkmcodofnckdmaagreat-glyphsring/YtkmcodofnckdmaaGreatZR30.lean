/-
  glyphs.Formed: the walk.
  What a law is told of a slice of bytes, or of int32, that came in.
  What a law is told of things that came in, one for all (Opens).
  What a law is told of an outline that came in.
  Rows of int16 that are read.
  What a law of layer 13 is told of what came in: rows of ints, int16 and bools; structs of them.
  What a law of layer 14 is told of what came in: an outline and its tuples.
  What a law of layer 15 is told of what came in: glyphs, a store and a number of axes.
-/
import Derived.Test.YtkmcodofnckdmaaGreatZR27
import Derived.Test.YtkmcodofnckdmaaGreatZR6
import Derived.ProofKit
import Derived.Test.YtkmcodofnckdmaaGreatZR10
import Derived.Deep.Strs
import Derived.OpenShut
import Derived.SizedLaws
import Derived.Lib.SmallJoins
import Derived.Test.YtkmcodofnckdmaaGreatZR14
import Derived.Test.YtkmcodofnckdmaaGreatZR13
import Derived.Test.YtkmcodofnckdmaaGreatZR26
set_option maxHeartbeats 8000000
set_option maxRecDepth 100000
set_option linter.unusedSimpArgs false
set_option linter.unusedVariables false
namespace Go.Proofs.YtkmcodofnckdmaaGreat
open Go.RowKit Go.Maps
theorem foG_no1 {l : List Gl} {s : Sr} {ax : Int} (h : ¬ (1 ≤ l.length ∧ l.length ≤ 100)) : foG l s ax = false := by unfold foG; rw [decide_eq_false h]; rfl
theorem foG_no2 {l : List Gl} {s : Sr} {ax : Int} (h : stB s ax = false) : foG l s ax = false := by unfold foG; rw [h]; simp
theorem foG_no3 {l : List Gl} {s : Sr} {ax : Int} {k : Nat} (hk : k < l.length) (h : foGx l s ax k = false) : foG l s ax = false := by
 cases hf : foG l s ax with
 | false => rfl
 | true =>
  have := (foG_iff.1 hf).2.2 k hk
  rw [h] at this
  cases this
theorem gform_any (S : Nat → Prop) (a : Option Addr) (ca : Nat) (l : List Gl) (ga : Option Addr) (gc : Nat) (ma : Option Addr) (mc : Nat) (s : Sr) (ax : Int) (w : World) (hl : Gr GlE S w a ca l) (hps : ∀ x ∈ l, x.o.ps.length ≤ 12) (hg : Tzz w ga gc s.rg) (hm : Rii w ma mc s.rw) (hi : I64 ax) :
    Calls Tryz.prog 27 #[.slice a l.length ca, .agg #[.slice ga s.rg.length gc, .slice ma s.rw.length mc], .int .i64 ax] w fun e w' => e = .returned (.bool (foG l s ax)) ∧ Below w.heap.size w w' := by
 have kl := hl.lenB
 have k2 := hm.lenB
 obtain ⟨W, hW, X1, hbW⟩ : ∃ W, W = w.alloc (.cells #[.slice ga s.rg.length gc, .slice ma s.rw.length mc] 26) ∧ Bk 26 W w.heap.size [.slice ga s.rg.length gc, .slice ma s.rw.length mc] ∧ Below w.heap.size w W := ⟨_, rfl, Bk.new _ _ _, bl1 _⟩
 obtain ⟨x0, x1, _⟩ := X1.two
 by_cases hn0 : l.length < 1
 · have HF : Hid (foG l s ax = false) := foG_no1 (by omega)
   have g1 : decide ((l.length : Int) < 1) = true := decide_eq_true (by omega)
   have g2 : (l.length : Int) < 1 := by omega
   go_enter Tryz.func27, Tryz.ntmps27
   go_upto_region 1 with fail
   rw [← hW]; clear hW; go_wp2
   go_ret
   exact ⟨rt_bool HF.out.symm, hbW⟩
 have g1 : decide ((l.length : Int) < 1) = false := decide_eq_false (by omega)
 by_cases hn1 : 100 < l.length
 · have HF : Hid (foG l s ax = false) := foG_no1 (by omega)
   have g2 : decide ((100 : Int) < (l.length : Int)) = true := decide_eq_true (by omega)
   go_enter Tryz.func27, Tryz.ntmps27
   go_upto_region 1 with fail
   rw [← hW]; clear hW; go_wp2
   go_ret
   exact ⟨rt_bool HF.out.symm, hbW⟩
 have g2 : decide ((100 : Int) < (l.length : Int)) = false := decide_eq_false (by omega)
 have hsf := cformS_any ga gc ma mc s ax W (hg.below hbW) (hm.below hbW)
 cases hst : stB s ax with
 | false =>
  rw [hst] at hsf
  have HF : Hid (foG l s ax = false) := foG_no2 hst
  clear hst
  go_enter Tryz.func27, Tryz.ntmps27
  go_upto_region 1 with fail
  rw [← hW]; clear hW
  go_wp2_with fail
  refine hsf.mono ?_
  rintro e u ⟨rfl, hb⟩
  replace hbW := hbW.trans (hb.mono hbW.size)
  clear hsf hb; go_wp2
  go_ret
  exact ⟨rt_bool HF.out.symm, hbW⟩
 | true =>
 rw [hst] at hsf
 have HST : Hid (stB s ax = true) := hst
 clear hst
 go_enter Tryz.func27, Tryz.ntmps27
 go_upto_region 1 with fail
 rw [← hW]; clear hW
 go_wp2_with fail
 refine hsf.mono ?_
 rintro e u1 ⟨rfl, hb⟩
 replace hl := (hl.below hbW).below hb
 replace X1 := X1.below hb
 replace hbW := hbW.trans (hb.mono hbW.size)
 clear hsf hb x0 x1 hg hm g1 g2
 go_wp2_with fail
 refine (gsurvey_any a l.length ca u1).mono ?_
 rintro e V ⟨rfl, hSv, hMp, hbV⟩
 have HL : Hid (Gr GlE S u1 a ca l) := hl
 have HX1 : Hid (Bk 26 u1 w.heap.size [.slice ga s.rg.length gc, .slice ma s.rw.length mc]) := X1
 have HBW : Hid (Below w.heap.size w u1) := hbW
 have HPS : Hid (∀ x ∈ l, x.o.ps.length ≤ 12) := hps
 clear hl X1 hbW hps; go_wp2
 go_loopw [30] (fun i wr => ∃ (k n' : Nat) (F' : Int → Option Value), k ≤ l.length ∧ i = .int .i64 k ∧ Hid (∀ j, j < k → foGx l s ax j = true) ∧ Bk 119 wr (u1.heap.size + 1) [.slice a l.length ca, .map (some u1.heap.size)] ∧ Mp wr u1.heap.size n' F' ∧ Hid (KnG l F') ∧ Hid (n' ≤ k * 4000000) ∧ Below u1.heap.size u1 wr) (fun i _ => l.length - (intOf i).toNat)
 case atStart => exact ⟨0, 0, _, Nat.zero_le _, rfl, (fun j hj => by omega), hSv, hMp, KnG.nil l, Nat.zero_le _, hbV⟩
 case round =>
  clear hSv hMp hbV; obtain ⟨k, n1, F1, hk, rfl, HOK, hSv, hMp, HKN, HN, hB⟩ := hrel
  have hBw : Below w.heap.size w wr := HBW.out.trans (hB.mono HBW.out.size)
  by_cases hkn : k < l.length
  · obtain ⟨b1, off, xa, xc, pa, pc, ta, tc, ea, hb1, hGC, c0, c1, c2, c3, c4, c5⟩ := HL.out.gl hB k hkn
    subst ea
    have hBad : ∀ q : Bool, foGx l s ax k = false → foG l s ax = false := fun _ h => foG_no3 hkn h
    have HBad : Hid (foGx l s ax k = false → foG l s ax = false) := foG_no3 hkn
    have HX : Hid (foGx l s ax k = ((dq l 6 (k : Int)).isSome && (decide (szG l (k : Int) ≤ 2000) && (foT (l.getD k Gl.none).o (l.getD k Gl.none).ts ax && fiS s (l.getD k Gl.none).ab (l.getD k Gl.none).ar)))) := rfl
    clear hBad
    obtain ⟨x, hx⟩ : ∃ x, l.getD k Gl.none = x := ⟨_, rfl⟩
    rw [hx] at hGC c0 c1 c2 c3 c4 c5 HX
    have i1 : (0 : Int) ≤ (k : Int) := by omega
    have i2 : (k : Int) < (l.length : Int) := by omega
    have kcs := hGC.cs.lenB
    have kps := hGC.ps.lenB
    have kts := hGC.ts.lenB
    obtain ⟨U, hU, XG, hbU⟩ : ∃ U, U = wr.alloc (.cells #[.slice xa x.o.cs.length xc, .slice pa x.o.ps.length pc, .slice ta x.ts.length tc, .int .i64 x.ab, .int .i64 x.ar, .bool x.mr] 62) ∧ Bk 62 U wr.heap.size [.slice xa x.o.cs.length xc, .slice pa x.o.ps.length pc, .slice ta x.ts.length tc, .int .i64 x.ab, .int .i64 x.ar, .bool x.mr] ∧ Below wr.heap.size wr U := ⟨_, rfl, Bk.new _ _ _, bl1 _⟩
    have hG2 := hGC.below hbU
    have hto := cformU_any S xa xc pa pc x.o S ta tc x.ts ax U hG2.cs hG2.ps hG2.ts hi
    replace hSv := hSv.below hbU; replace hMp := hMp.below hbU
    replace hB := hB.trans (hbU.mono hB.size)
    replace hBw := hBw.trans (hbU.mono hBw.size)
    obtain ⟨q0, q1, q2, q3, q4, q5, _⟩ := XG.six
    go_upto_region 7 with fail
    rw [← hU]; clear hU c0 c1 c2 c3 c4 c5 hx
    cases hf1 : foT x.o x.ts ax with
    | false =>
     rw [hf1] at hto
     have HF : Hid (foG l s ax = false) := HBad.out (by rw [HX.out, hf1]; simp)
     clear hf1 HX HBad
     go_wp2_with fail
     refine hto.mono ?_
     rintro e u2 ⟨rfl, hb⟩
     replace hBw := hBw.trans (hb.mono hBw.size)
     clear hto hb; go_wp2
     go_ret
     exact ⟨rt_bool HF.out.symm, hBw⟩
    | true =>
    rw [hf1] at hto
    replace HX : Hid (foGx l s ax k = ((dq l 6 (k : Int)).isSome && (decide (szG l (k : Int) ≤ 2000) && fiS s x.ab x.ar))) := by show _ = _; rw [HX.out, hf1, Bool.true_and]
    clear hf1
    go_wp2_with fail
    refine hto.mono ?_
    rintro e u2 ⟨rfl, hb⟩; replace hSv := hSv.below hb; replace hMp := hMp.below hb; replace XG := XG.below hb
    replace hB := hB.trans (hb.mono hB.size)
    replace hBw := hBw.trans (hb.mono hBw.size)
    have hX1 := HX1.out.below hB
    obtain ⟨x0, x1, _⟩ := hX1.two; clear q0 q1 q2 q3 q4 q5 hto hb; obtain ⟨q0, q1, q2, q3, q4, q5, _⟩ := XG.six
    have hfi := cfits_any ga gc ma mc s x.ab x.ar u2 k2 hGC.2.2.2.1 hGC.2.2.2.2
    cases hf2 : fiS s x.ab x.ar with
    | false =>
     rw [hf2] at hfi
     have HF : Hid (foG l s ax = false) := HBad.out (by rw [HX.out, hf2]; simp)
     clear hf2 HX HBad
     go_wp2_with fail
     refine hfi.mono ?_
     rintro e u3 ⟨rfl, hb⟩
     replace hBw := hBw.trans (hb.mono hBw.size)
     clear hfi hb; go_wp2
     go_ret
     exact ⟨rt_bool HF.out.symm, hBw⟩
    | true =>
    rw [hf2] at hfi
    replace HX : Hid (foGx l s ax k = ((dq l 6 (k : Int)).isSome && decide (szG l (k : Int) ≤ 2000))) := by show _ = _; rw [HX.out, hf2, Bool.and_true]
    clear hf2
    go_wp2_with fail
    refine hfi.mono ?_
    rintro e u3 ⟨rfl, hb⟩; replace hSv := hSv.below hb; replace hMp := hMp.below hb
    replace hB := hB.trans (hb.mono hB.size)
    replace hBw := hBw.trans (hb.mono hBw.size)
    clear q0 q1 q2 q3 q4 q5 hfi hb x0 x1 hX1 XG hGC hG2 hbU
    have hof := gof_any u1 S _ ca l HL.out HPS.out (u1.heap.size + 1) u1.heap.size (Nat.le_refl _) (by omega) 7 0 rfl (k : Int) n1 F1 u3 ⟨by omega, by omega⟩ (by
     have h1 := tk_le (Nat.le_refl 7)
     have h2 := HN.out
     omega) hB hSv hMp HKN.out
    rw [show ((0 : Nat) : Int) = 0 from rfl] at hof
    go_wp2_with fail
    refine hof.mono ?_
    rintro e u4 ⟨hans, ⟨n2, F2, hMp2, hKN2, hn2⟩, hKp⟩
    replace hSv := hSv.kp hKp (by omega)
    have hb4 := hKp.below hB.size (Nat.le_refl _)
    replace hB := hB.trans hb4
    replace hBw := hBw.trans (hb4.mono HBW.out.size)
    have HN2 : Hid (n2 ≤ (k + 1) * 4000000) := by
     have h1 := tk_le (Nat.le_refl 7)
     have h2 := HN.out
     show _ ≤ _
     omega
    have HKN2 : Hid (KnG l F2) := hKN2
    clear hof hb4 hKp hMp hKN2 HN HKN hn2
    rcases hans with ⟨dk, hdk, rfl⟩ | ⟨hbad, rfl⟩
    · obtain ⟨sz, hsz⟩ : ∃ z, szG l (k : Int) = z := ⟨_, rfl⟩
      rw [hsz, hdk] at HX; rw [hsz]
      obtain ⟨U2, hU2, XE, hbU2⟩ : ∃ U, U = u4.alloc (.cells #[.int .i64 (dk : Int), .int .i64 (sz : Int)] 71) ∧ Bk 71 U u4.heap.size [.int .i64 (dk : Int), .int .i64 (sz : Int)] ∧ Below u4.heap.size u4 U := ⟨_, rfl, Bk.new _ _ _, bl1 _⟩
      replace hSv := hSv.below hbU2; replace hMp2 := hMp2.below hbU2
      replace hB := hB.trans (hbU2.mono hB.size)
      replace hBw := hBw.trans (hbU2.mono hBw.size)
      obtain ⟨e0, e1, _⟩ := XE.two
      go_upto_region 10 with fail
      rw [← hU2]; clear hU2 hdk hsz hbU2
      by_cases hs2 : sz ≤ 2000
      · have g5 : decide ((2000 : Int) < (sz : Int)) = false := decide_eq_false (by omega)
        have HOK2 : Hid (∀ j, j < k + 1 → foGx l s ax j = true) := fun j hj => by
         rcases Nat.lt_or_ge j k with h1 | h1
         · exact HOK.out j h1
         · rw [show j = k by omega, HX.out, decide_eq_true hs2]; rfl
        clear HX HBad HOK XE; go_wp2
        go_roundw
        case rel => exact ⟨k + 1, n2, F2, by omega, by go_num, HOK2, hSv, hMp2, HKN2, HN2, hB⟩
        case measure => simp [intOf]; omega
      · have g5 : decide ((2000 : Int) < (sz : Int)) = true := decide_eq_true (by omega)
        have HF : Hid (foG l s ax = false) := HBad.out (by rw [HX.out, decide_eq_false hs2]; rfl)
        clear HX HBad HOK XE hSv hMp2; go_wp2
        go_ret
        exact ⟨rt_bool HF.out.symm, hBw⟩
    · have HF : Hid (foG l s ax = false) := HBad.out (by rw [HX.out, of_none hbad]; rfl)
      have hBf : Below w.heap.size w (u4.alloc (.cells #[.int .i64 0, .int .i64 0] 71)) := hBw.trans ((bl1 _).mono hBw.size)
      clear HX HBad HOK hSv hMp2 hbad hBw; go_wp2
      go_ret
      exact ⟨rt_bool HF.out.symm, hBf⟩
  · have ek : k = l.length := by omega
    have HF : Hid (foG l s ax = true) := foG_iff.2 ⟨⟨by omega, by omega⟩, HST.out, fun j hj => HOK.out j (by omega)⟩
    have g4 : ¬ (k : Int) < (l.length : Int) := by omega
    clear HOK hSv hMp; go_wp2
    go_ret
    exact ⟨rt_bool HF.out.symm, hBw⟩
open Go.ChangeShapes Go.WideShapes Go.Joins Go.Deep
end Go.Proofs.YtkmcodofnckdmaaGreat
