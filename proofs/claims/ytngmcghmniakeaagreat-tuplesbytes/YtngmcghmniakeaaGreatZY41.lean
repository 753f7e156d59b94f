/-
  foundryref14.Read: the walk.
  What a law is told of a slice of bytes, or of int32, that came in.
  What a law is told of things that came in, one for all (Opens).
  What a law is told of an outline that came in.
  Rows of int16 that are read.
  What a law of layer 13 is told of what came in: rows of ints, int16 and bools; structs of them.
  What a law of layer 14 is told of what came in: an outline and its tuples.
-/
import Derived.Test.YtngmcghmniakeaaGreatZY40
import Derived.Test.YtngmcghmniakeaaGreatZY31
import Derived.Test.YtngmcghmniakeaaGreatZY6
import Derived.ProofKit
import Derived.Test.YtngmcghmniakeaaGreatZY8
import Derived.Deep.Strs
import Derived.OpenShut
import Derived.SizedLaws
import Derived.Lib.SmallJoins
import Derived.Test.YtngmcghmniakeaaGreatZY13
import Derived.Test.YtngmcghmniakeaaGreatZY14
set_option maxHeartbeats 8000000
set_option maxRecDepth 100000
set_option linter.unusedSimpArgs false
set_option linter.unusedVariables false
namespace Go.Proofs.YtngmcghmniakeaaGreat
open Go.RowKit Go.Maps
theorem rdT_short {b : List Nat} {o : Ol} {ax : Int} (h : b.length < 2) : rdTOk b o ax = false := by
 cases hk : rdTOk b o ax with
 | false => rfl
 | true =>
  have h1 := congrArg List.length (rdT_of hk).2
  unfold tuBt at h1
  rw [List.length_append] at h1
  have : (be2 ((rdTL b o ax).length : Int)).length = 2 := rfl
  omega
theorem rdT_same {o : Ol} {ax : Int} {A N : Nat} (hA : A = (min ax 4).toNat) (hN : N = min (cntO o) 2000) (h : foT o [] ax = true) : ax.toNat = A ∧ cntO o = N := by
 obtain ⟨h1, h2, _⟩ := foT_iff.1 h
 have := cnt_le h1
 omega
theorem sreadU_any (ba : Option Addr) (bc : Nat) (xs : List Nat) (S : Nat → Prop) (a : Option Addr) (ca : Nat) (b : Option Addr) (cb : Nat) (o : Ol) (ax : Int) (w : World) (hx : Rb w ba bc xs) (hc : Gr PnE.row S w a ca o.cs) (hp : Gr PaE S w b cb o.ps) (hfl : o.cs.flatten.length ≤ 100000) (hpl : o.ps.length ≤ 100000) (hi : I64 ax) (hxl : xs.length ≤ 100000) :
    Calls Tryz.prog 18 #[.slice ba xs.length bc, .agg #[.slice a o.cs.length ca, .slice b o.ps.length cb], .int .i64 ax] w fun e w' => ∃ a' c', e = .returned (.tuple #[.slice a' (rdTL xs o ax).length c', .int .i64 (rdTE xs o ax)]) ∧ Gr TuE (fun _ => True) w' a' c' (rdTL xs o ax) ∧ Below w.heap.size w w' := by
 have kc := hc.lenB
 have kp := hp.lenB
 have hpc := hx.le
 have hpm := hx.cap
 unfold maxLen at hpm
 obtain ⟨W, hW, X1, hbW⟩ : ∃ W, W = w.alloc (.cells #[.slice a o.cs.length ca, .slice b o.ps.length cb] 25) ∧ Bk 25 W w.heap.size [.slice a o.cs.length ca, .slice b o.ps.length cb] ∧ Below w.heap.size w W := ⟨_, rfl, Bk.new _ _ _, bl1 _⟩
 replace hc := hc.below hbW; replace hp := hp.below hbW; replace hx := hx.below hbW
 have hu := su16_any ba bc xs 0 W hx ⟨by decide, by decide⟩
 have hnl := nmV_lt hx.lim 0 2
 obtain ⟨A, hA⟩ : ∃ A, A = (min ax 4).toNat := ⟨_, rfl⟩
 obtain ⟨N, hN⟩ : ∃ N, N = min (cntO o) 2000 := ⟨_, rfl⟩
 have hA4 : A ≤ 4 := by omega
 have hN2 : N ≤ 2000 := by omega
 have HCO : Hid (cntO o ≤ 200000) := by show _ ≤ _; unfold cntO; omega
 have HSM : Hid (foT o [] ax = true → ax.toNat = A ∧ cntO o = N) := fun h => rdT_same hA hN h
 have HAM : Hid (A = (min ax 4).toNat) := hA
 have HNM : Hid (N = min (cntO o) 2000) := hN
 have HNO0 : Hid (rdTOk xs o ax = false → rdTL xs o ax = [] ∧ rdTE xs o ax = 2) := rdT_no
 have HB3 : Hid (∀ k, rdK xs A N k = none → k ≤ nmV xs 0 2 → rdTOk xs o ax = false) := fun k h1 h2 => by
  cases hf : foT o [] ax with
  | false => exact rdT_bad1 hf
  | true =>
   obtain ⟨e1, e2⟩ := rdT_same hA hN hf
   rw [← e1, ← e2] at h1
   exact rdT_bad3 h1 h2
 have HB2 : Hid (¬ nmV xs 0 2 ≤ 40 → rdTOk xs o ax = false) := rdT_bad2
 have HB4 : Hid (∀ l p, rdK xs A N (nmV xs 0 2) = some (l, p) → (foT o l ax = false ∨ tuBt l ≠ xs) → rdTOk xs o ax = false) := fun l p h1 h2 => by
  cases hf : foT o [] ax with
  | false => exact rdT_bad1 hf
  | true =>
   obtain ⟨e1, e2⟩ := rdT_same hA hN hf
   rw [← e1, ← e2] at h1
   exact rdT_bad4 h1 h2
 have HGD : Hid (∀ l p, rdK xs A N (nmV xs 0 2) = some (l, p) → foT o l ax = true → tuBt l = xs → rdTL xs o ax = l ∧ rdTE xs o ax = 0) := fun l p h1 h2 h3 => by
  obtain ⟨e1, e2⟩ := rdT_same hA hN (foT_nil h2)
  rw [← e1, ← e2] at h1
  exact rdT_good h1 h2 h3
 have HZ0 : Hid (tuBt [] = xs → nmV xs 0 2 = 0) := fun h => by rw [← h]; exact nmV_tus (l := []) (by simp)
 have HIN : Hid (inB xs.length 0 2 = decide (2 ≤ xs.length)) := by show _ = _; rw [Bool.eq_iff_iff]; simp [inB]; omega
 rw [HIN.out] at hu
 obtain ⟨n, hn⟩ : ∃ n, nmV xs 0 2 = n := ⟨_, rfl⟩
 rw [hn] at hu hnl HB3 HB2 HB4 HGD HZ0
 have hn6 : n < 65536 := hnl
 clear hnl hn hA hN HIN
 have HX1 : Hid (Bk 25 W w.heap.size [.slice a o.cs.length ca, .slice b o.ps.length cb]) := X1
 have HC : Hid (Gr PnE.row S W a ca o.cs) := hc
 have HP : Hid (Gr PaE S W b cb o.ps) := hp
 have HX : Hid (Rb W ba bc xs) := hx
 have HBW : Hid (Below w.heap.size w W) := hbW
 obtain ⟨g, hg⟩ : ∃ g, W.heap.size = g := ⟨_, rfl⟩
 have HG : Hid (W.heap.size = g) := hg
 go_enter Tryz.func18, Tryz.ntmps18
 go_upto_region 1 with fail
 rw [← hW]; clear hW X1 hc hp hx hbW hg
 go_wp2_with fail
 refine hu.mono ?_
 rintro e u0 ⟨rfl, rfl⟩; clear hu; go_wp2
 go_loopw [9, 10, 11, 12] (fun okv pp v i wr => ((∃ (k q : Nat) (tl : List Tu), okv = .bool true ∧ pp = .int .i64 (q : Int) ∧ i = .int .i64 (k : Int) ∧ k ≤ n ∧ (k = 0 ∨ n ≤ 40) ∧ rdK xs A N k = some (tl, q) ∧ q ≤ xs.length ∧ Gw TuE 60 g (fun k => g ≤ k) wr v tl) ∨ (∃ (z : Int) (j : Nat) (tl : List Tu), okv = .bool false ∧ pp = .int .i64 z ∧ i = .int .i64 (j : Int) ∧ rdTOk xs o ax = false ∧ Gw TuE 60 g (fun k => g ≤ k) wr v tl)) ∧ g ≤ wr.heap.size ∧ Below W.heap.size W wr) (fun _ _ _ i _ => n - (intOf i).toNat)
 case atStart =>
  by_cases h2 : 2 ≤ xs.length
  · exact ⟨.inl ⟨0, 2, [], by rw [decide_eq_true h2], rfl, rfl, Nat.zero_le _, .inl rfl, rfl, h2, Gw.nil _ _ _ _ _⟩, by rw [HG.out]; exact Nat.le_refl _, Below.refl _ _⟩
  · exact ⟨.inr ⟨2, 0, [], by rw [decide_eq_false h2], rfl, rfl, rdT_short (by omega), Gw.nil _ _ _ _ _⟩, by rw [HG.out]; exact Nat.le_refl _, Below.refl _ _⟩
 case round =>
  obtain ⟨hst, hgs, hB⟩ := hrel
  have hX1 := HX1.out.below hB
  obtain ⟨p0, p1, _⟩ := hX1.two
  have hfin0 := HBW.out.trans (hB.mono HBW.out.size)
  rcases hst with ⟨k, q, tl, rfl, rfl, rfl, hk, hk4, hrk, hqx, hGw⟩ | ⟨z, j, tl, rfl, rfl, rfl, hbad, hGw⟩
  rotate_left
  · have HNO : Hid (_) := HNO0.out hbad
    obtain ⟨a6, c6, rfl, hgr, -⟩ := hGw.slice
    have hwr := swriteU_any S a ca b cb o _ a6 c6 tl ax wr (HC.out.below hB) (HP.out.below hB) hgr hfl hpl hi
    generalize wrTB o tl ax = bb at hwr
    generalize wrTE o tl ax = be at hwr
    have klt := hgr.lenB
    clear hbad hGw hgr HB2 HB3 HB4 HGD
    by_cases hj : (j : Int) < (n : Int)
    · go_wp2_with fail
      refine hwr.mono ?_
      rintro e u1 ⟨a1, c1, rfl, -, hb1⟩
      have hfin := hfin0.trans (hb1.mono hfin0.size)
      clear hwr hb1; go_wp2
      go_ret2
      exact ⟨none, 0, by rw [HNO.out.1, HNO.out.2]; rfl, by rw [HNO.out.1]; exact Gr.nil _ _ _ _ _ (Nat.zero_le _) (fun _ => rfl), hfin⟩
    · go_wp2_with fail
      refine hwr.mono ?_
      rintro e u1 ⟨a1, c1, rfl, -, hb1⟩
      have hfin := hfin0.trans (hb1.mono hfin0.size)
      clear hwr hb1; go_wp2
      go_ret2
      exact ⟨none, 0, by rw [HNO.out.1, HNO.out.2]; rfl, by rw [HNO.out.1]; exact Gr.nil _ _ _ _ _ (Nat.zero_le _) (fun _ => rfl), hfin⟩
  have hlk := rdK_len hrk
  by_cases hgo : k < n ∧ n ≤ 40
  · obtain ⟨hkn, hn4⟩ := hgo
    have g2 : (k : Int) < (n : Int) := by omega
    have g3 : (n : Int) ≤ 40 := by omega
    have hcc := scount13_any S a ca b cb o wr (HC.out.below hB) hfl hpl
    obtain ⟨cn, hcn⟩ : ∃ x, cntO o = x := ⟨_, rfl⟩
    have hcn2 : cn ≤ 200000 := by rw [← hcn]; exact HCO.out
    have hmn : min (cn : Int) 2000 = (N : Int) := by rw [← hcn]; have := HNM.out; omega
    rw [hcn] at hcc; obtain ⟨a6, c6, rfl, -, -⟩ := hGw.slice; rw [hlk] at hGw ⊢; clear hcn
    go_wp2_with fail
    refine hcc.mono ?_
    rintro e u1 ⟨rfl, hb1⟩; replace hGw := hGw.below hb1
    replace hB := hB.trans (hb1.mono hB.size)
    replace hgs := Nat.le_trans hgs hb1.size
    have HOW : Hid (∀ q, (Value.slice a6 k c6).ownBlock = some q → g ≤ q ∧ q < u1.heap.size) := fun q e => hGw.lo e
    clear hcc hb1 p0 p1 hX1
    obtain ⟨axm, hxm⟩ : ∃ z, min ax 4 = z := ⟨_, rfl⟩
    have htu := stuple_any ba bc xs q A N axm u1 (HX.out.below hB) hqx hxl (by rw [← hxm]; exact HAM.out) (by omega) (by omega) ⟨by have := hi.1; omega, by omega⟩
    go_wp2_with fail
    refine htu.mono ?_
    rintro e u2 ⟨htr, hb2⟩; replace hGw := hGw.below hb2
    replace hB := hB.trans (hb2.mono hB.size)
    have hs2 := hb2.size
    clear htu hb2 hxm
    cases hrd : rdTu xs A N q with
    | none =>
     rw [hrd] at htr; obtain ⟨t, ra, rc, p2, p3, xa, xc, ya, yc, rfl, hTC⟩ := htr
     have HBAD : Hid (rdTOk xs o ax = false) := HB3.out (k + 1) (rdK_stop hrk hrd) hkn
     clear hrd hrk hfin0 hmn
     obtain ⟨U, hU, XU, hbU⟩ : ∃ U, U = u2.alloc (.cells #[.slice ra t.rg.length rc, .bool t.al, .slice p2 t.pts.length p3, .slice xa t.dx.length xc, .slice ya t.dy.length yc] 60) ∧ Bk 60 U u2.heap.size [.slice ra t.rg.length rc, .bool t.al, .slice p2 t.pts.length p3, .slice xa t.dx.length xc, .slice ya t.dy.length yc] ∧ Below u2.heap.size u2 U := ⟨_, rfl, Bk.new _ _ _, bl1 _⟩
     obtain ⟨l1, l2, l3, l4⟩ := hTC.len
     go_upto_region 8 with fail
     rw [← hU]; clear hU; replace hGw := hGw.below hbU; replace hTC := hTC.below hbU
     replace hB := hB.trans (hbU.mono hB.size)
     have hs3 := hbU.size
     clear hbU
     obtain ⟨V9, hV9, Y9, hb9⟩ : ∃ V, V = U.alloc (.cells #[.slice ra t.rg.length rc, .bool t.al, .slice p2 t.pts.length p3, .slice xa t.dx.length xc, .slice ya t.dy.length yc] 60) ∧ Bk 60 V U.heap.size [.slice ra t.rg.length rc, .bool t.al, .slice p2 t.pts.length p3, .slice xa t.dx.length xc, .slice ya t.dy.length yc] ∧ Below U.heap.size U V := ⟨_, rfl, Bk.new _ _ _, bl1 _⟩
     obtain ⟨y0, y1, y2, y3, y4, -⟩ := XU.five
     have hGb := hGw.below hb9
     have hrep : TuE.rep (fun q => g ≤ q ∧ (Value.slice a6 k c6).ownBlock ≠ some q) V9 [.slice ra t.rg.length rc, .bool t.al, .slice p2 t.pts.length p3, .slice xa t.dx.length xc, .slice ya t.dy.length yc] t := TuE.stay (TuE_rep.2 ⟨ra, rc, p2, p3, xa, xc, ya, yc, rfl, hTC.below hb9⟩) (Nat.le_refl _) (fun q h1 _ => ⟨⟨by omega, fun e => by have := (HOW.out q e).2; omega⟩, rfl⟩)
     have hone := Gr.one (E := TuE) hrep Y9.lt (fun j hj => Y9.cell j hj)
     have hBb : Below W.heap.size W V9 := hB.trans (hb9.mono hB.size)
     have hs9 := hb9.size
     have hbs : g ≤ V9.heap.size := by omega
     have hll : tl.length + 1 ≤ 1000000 := by omega
     clear hrep hGw hTC hB
     go_wp2_with (at_builtin; rw [← hV9]; refine wpList_append_el 26 60 Tryz.underlying26 info_tuB rfl (by decide) (by decide) rfl _ _ rfl g (fun k => g ≤ k) _ tl rfl hGb (some ⟨U.heap.size, 0, none⟩) 1 1 [t] rfl rfl hone hll hbs ?_)
     intro v9 w9 hT9 hgrow _
     rw [← hV9] at hgrow
     have hB9 : Below W.heap.size W w9 := hBb.grown hgrow hBb.size (fun q hq => by have := (HOW.out q hq).1; have := HG.out; omega)
     have hs10 : g ≤ w9.heap.size := Nat.le_trans hbs hgrow.size
     clear hgrow hGb hone hbs hll hBb hV9 Y9 y0 y1 y2 y3 y4 XU hb9; go_wp2
     go_roundw
     case rel => exact ⟨.inr ⟨_, k + 1, tl ++ [t], rfl, rfl, by go_num, HBAD.out, hT9⟩, hs10, hB9⟩
     case measure => simp [intOf]; omega
    | some r =>
     obtain ⟨t, q2⟩ := r; rw [hrd] at htr; obtain ⟨ra, rc, p2, p3, xa, xc, ya, yc, rfl, hTC, hlt, hq2⟩ := htr
     have HRK : Hid (rdK xs A N (k + 1) = some (tl ++ [t], q2)) := rdK_succ hrk hrd
     obtain ⟨sz, hsz⟩ : ∃ z : Int, (q2 : Int) - (q : Int) = z := ⟨_, rfl⟩
     have gsz : 0 < sz := by omega
     have hqs : (q : Int) + sz = (q2 : Int) := by omega
     rw [hsz]
     have hszb : sz ≤ 1000000 := by omega
     clear hrd hrk hfin0 hmn hsz hlt
     obtain ⟨U, hU, XU, hbU⟩ : ∃ U, U = u2.alloc (.cells #[.slice ra t.rg.length rc, .bool t.al, .slice p2 t.pts.length p3, .slice xa t.dx.length xc, .slice ya t.dy.length yc] 60) ∧ Bk 60 U u2.heap.size [.slice ra t.rg.length rc, .bool t.al, .slice p2 t.pts.length p3, .slice xa t.dx.length xc, .slice ya t.dy.length yc] ∧ Below u2.heap.size u2 U := ⟨_, rfl, Bk.new _ _ _, bl1 _⟩
     obtain ⟨l1, l2, l3, l4⟩ := hTC.len
     go_upto_region 8 with fail
     rw [← hU]; clear hU; replace hGw := hGw.below hbU; replace hTC := hTC.below hbU
     replace hB := hB.trans (hbU.mono hB.size)
     have hs3 := hbU.size
     clear hbU
     obtain ⟨V9, hV9, Y9, hb9⟩ : ∃ V, V = U.alloc (.cells #[.slice ra t.rg.length rc, .bool t.al, .slice p2 t.pts.length p3, .slice xa t.dx.length xc, .slice ya t.dy.length yc] 60) ∧ Bk 60 V U.heap.size [.slice ra t.rg.length rc, .bool t.al, .slice p2 t.pts.length p3, .slice xa t.dx.length xc, .slice ya t.dy.length yc] ∧ Below U.heap.size U V := ⟨_, rfl, Bk.new _ _ _, bl1 _⟩
     obtain ⟨y0, y1, y2, y3, y4, -⟩ := XU.five
     have hGb := hGw.below hb9
     have hrep : TuE.rep (fun q => g ≤ q ∧ (Value.slice a6 k c6).ownBlock ≠ some q) V9 [.slice ra t.rg.length rc, .bool t.al, .slice p2 t.pts.length p3, .slice xa t.dx.length xc, .slice ya t.dy.length yc] t := TuE.stay (TuE_rep.2 ⟨ra, rc, p2, p3, xa, xc, ya, yc, rfl, hTC.below hb9⟩) (Nat.le_refl _) (fun q h1 _ => ⟨⟨by omega, fun e => by have := (HOW.out q e).2; omega⟩, rfl⟩)
     have hone := Gr.one (E := TuE) hrep Y9.lt (fun j hj => Y9.cell j hj)
     have hBb : Below W.heap.size W V9 := hB.trans (hb9.mono hB.size)
     have hs9 := hb9.size
     have hbs : g ≤ V9.heap.size := by omega
     have hll : tl.length + 1 ≤ 1000000 := by omega
     clear hrep hGw hTC hB
     go_wp2_with (at_builtin; rw [← hV9]; refine wpList_append_el 26 60 Tryz.underlying26 info_tuB rfl (by decide) (by decide) rfl _ _ rfl g (fun k => g ≤ k) _ tl rfl hGb (some ⟨U.heap.size, 0, none⟩) 1 1 [t] rfl rfl hone hll hbs ?_)
     intro v9 w9 hT9 hgrow _
     rw [← hV9] at hgrow
     have hB9 : Below W.heap.size W w9 := hBb.grown hgrow hBb.size (fun q hq => by have := (HOW.out q hq).1; have := HG.out; omega)
     have hs10 : g ≤ w9.heap.size := Nat.le_trans hbs hgrow.size
     clear hgrow hGb hone hbs hll hBb hV9 Y9 y0 y1 y2 y3 y4 XU hb9; go_wp2
     go_roundw
     case rel => exact ⟨.inl ⟨k + 1, q2, tl ++ [t], rfl, rfl, by go_num, by omega, .inr hn4, HRK.out, hq2, hT9⟩, hs10, hB9⟩
     case measure => simp [intOf]; omega
  obtain ⟨a6, c6, rfl, hgr, -⟩ := hGw.slice
  have hwr := swriteU_any S a ca b cb o _ a6 c6 tl ax wr (HC.out.below hB) (HP.out.below hB) hgr hfl hpl hi
  have hrx := HX.out.below hB
  have klt := hgr.lenB
  by_cases hn4 : n ≤ 40
  · have ek : k = n := by omega
    rw [ek] at hrk ⊢
    have g2 : ¬ (n : Int) < (n : Int) := by omega
    have HRK : Hid (rdK xs A N n = some (tl, q)) := hrk
    clear ek hk hk4 hgo hrk hGw hlk
    cases hfo : foT o tl ax with
    | false =>
     have HNO : Hid (_) := HNO0.out (HB4.out tl q HRK.out (.inl hfo))
     rw [(wrT_no hfo).1, (wrT_no hfo).2] at hwr
     clear hfo HB2 HB3 HB4 HGD hgr
     go_wp2_with fail
     refine hwr.mono ?_
     rintro e u1 ⟨a1, c1, rfl, -, hb1⟩
     have hfin := hfin0.trans (hb1.mono hfin0.size)
     clear hwr hb1; go_wp2
     go_ret2
     exact ⟨none, 0, by rw [HNO.out.1, HNO.out.2]; rfl, by rw [HNO.out.1]; exact Gr.nil _ _ _ _ _ (Nat.zero_le _) (fun _ => rfl), hfin⟩
    | true =>
     have HFO : Hid (foT o tl ax = true) := hfo
     rw [(wrT_yes hfo).1, (wrT_yes hfo).2] at hwr
     clear hfo
     go_wp2_with fail
     refine hwr.mono ?_
     rintro e u1 ⟨a1, c1, rfl, hr1, hb1⟩
     have hfin := hfin0.trans (hb1.mono hfin0.size)
     have heq := same8g_any ba a1 bc c1 xs (tuBt tl) u1 (hrx.below hb1) hr1
     replace hgr := (hgr.below hb1).wide (S' := fun _ => True) (fun _ _ _ => trivial)
     have hl1 := hr1.le
     clear hwr hb1 p0 p1 hX1
     by_cases he : tuBt tl = xs
     · have HG2 : Hid (_) := HGD.out tl q HRK.out HFO.out he
       rw [decide_eq_true he.symm] at heq; clear he HB2 HB3 HB4 HGD HNO0 HRK hr1
       go_wp2_with fail
       refine heq.mono ?_
       rintro e u2 ⟨rfl, hb1⟩
       have hfin2 := hfin.trans (hb1.mono hfin.size)
       replace hgr := hgr.below hb1; clear heq hb1; go_wp2
       go_ret2
       exact ⟨a6, c6, by rw [HG2.out.1, HG2.out.2]; rfl, by rw [HG2.out.1]; exact hgr, hfin2⟩
     · have HNO : Hid (_) := HNO0.out (HB4.out tl q HRK.out (.inr he))
       rw [decide_eq_false (fun e => he e.symm)] at heq
       clear he HB2 HB3 HB4 HGD HNO0 HRK hr1
       go_wp2_with fail
       refine heq.mono ?_
       rintro e u2 ⟨rfl, hb1⟩
       replace hfin := hfin.trans (hb1.mono hfin.size)
       clear heq hb1; go_wp2
       go_ret2
       exact ⟨none, 0, by rw [HNO.out.1, HNO.out.2]; rfl, by rw [HNO.out.1]; exact Gr.nil _ _ _ _ _ (Nat.zero_le _) (fun _ => rfl), hfin⟩
  · have ek : k = 0 := by omega
    rw [ek] at hrk ⊢
    have etl : tl = [] := by rw [rdK] at hrk; injection hrk with h; injection h with h1 h2; exact h1.symm
    have g2 : (0 : Int) < (n : Int) := by omega
    have g3 : ¬ (n : Int) ≤ 40 := by omega
    have HBAD : Hid (rdTOk xs o ax = false) := HB2.out hn4
    have HNE : Hid (tuBt tl ≠ xs) := fun h => by rw [etl] at h; have := HZ0.out h; omega
    clear ek hk hk4 hgo hrk hGw hlk etl
    cases hfo : foT o tl ax with
    | false =>
     have HNO : Hid (_) := HNO0.out HBAD.out
     rw [(wrT_no hfo).1, (wrT_no hfo).2] at hwr
     clear hfo HB2 HB3 HB4 HGD hgr
     go_wp2_with fail
     refine hwr.mono ?_
     rintro e u1 ⟨a1, c1, rfl, -, hb1⟩
     have hfin := hfin0.trans (hb1.mono hfin0.size)
     clear hwr hb1; go_wp2
     go_ret2
     exact ⟨none, 0, by rw [HNO.out.1, HNO.out.2]; rfl, by rw [HNO.out.1]; exact Gr.nil _ _ _ _ _ (Nat.zero_le _) (fun _ => rfl), hfin⟩
    | true =>
     have HFO : Hid (foT o tl ax = true) := hfo
     rw [(wrT_yes hfo).1, (wrT_yes hfo).2] at hwr
     clear hfo
     go_wp2_with fail
     refine hwr.mono ?_
     rintro e u1 ⟨a1, c1, rfl, hr1, hb1⟩
     have hfin := hfin0.trans (hb1.mono hfin0.size)
     have heq := same8g_any ba a1 bc c1 xs (tuBt tl) u1 (hrx.below hb1) hr1
     replace hgr := (hgr.below hb1).wide (S' := fun _ => True) (fun _ _ _ => trivial)
     have hl1 := hr1.le
     clear hwr hb1 p0 p1 hX1
     have HNO : Hid (_) := HNO0.out HBAD.out
     rw [decide_eq_false (fun e => HNE.out e.symm)] at heq
     clear HB2 HB3 HB4 HGD HNO0 hr1
     go_wp2_with fail
     refine heq.mono ?_
     rintro e u2 ⟨rfl, hb1⟩
     replace hfin := hfin.trans (hb1.mono hfin.size)
     clear heq hb1; go_wp2
     go_ret2
     exact ⟨none, 0, by rw [HNO.out.1, HNO.out.2]; rfl, by rw [HNO.out.1]; exact Gr.nil _ _ _ _ _ (Nat.zero_le _) (fun _ => rfl), hfin⟩
def IsRowK (k : IntKind) (w : World) (a : Option Addr) (len cap : Nat) (zs : List Int) : Prop :=
 (a = none ∧ len = 0 ∧ cap = 0 ∧ zs = []) ∨
 ∃ x, a = some x ∧ len ≤ cap ∧ cap ≤ maxLen ∧ zs.length = cap ∧ (∀ i, i < zs.length → w.cell? (x.add i) = some (.int k (zs.getD i 0))) ∧ ∀ n ∈ zs, (Lit.int k n).wf = true
theorem wfo_u8_bounds {n : Int} (h : (Lit.int .u8 n).wf = true) : 0 ≤ n ∧ n < 256 := by
 simp [Lit.wf, IntKind.min, IntKind.max, IntKind.bits, IntKind.signed] at h
 omega
theorem wfo_i64_bounds {n : Int} (h : (Lit.int .i64 n).wf = true) : -9223372036854775808 ≤ n ∧ n ≤ 9223372036854775807 := by
 simp [Lit.wf, IntKind.min, IntKind.max, IntKind.bits, IntKind.signed] at h
 omega
theorem IsRowK.cells {k : IntKind} {w : World} {a : Option Addr} {len cap : Nat} {zs : List Int} (h : IsRowK k w a len cap zs) :
    ∃ ys : List Int, len = ys.length ∧ (∀ y ∈ ys, (Lit.int k y).wf = true) ∧ ys.length ≤ cap ∧ cap ≤ maxLen ∧ (a = none → cap = 0) ∧
     (ys = [] ∨ ∃ b off, a = some ⟨b, off, none⟩ ∧ b < w.heap.size ∧ ∀ i, i < ys.length → w.cell? ⟨b, off + i, none⟩ = some (.int k (ys.getD i 0))) := by
 rcases h with ⟨rfl, rfl, rfl, rfl⟩ | ⟨x, rfl, h1, h2, h3, hc, hw⟩
 · exact ⟨[], rfl, (fun y hy => by cases hy), Nat.le_refl _, Nat.zero_le _, fun _ => rfl, .inl rfl⟩
 · refine ⟨zs.take len, by simp; omega, fun y hy => hw y (List.mem_of_mem_take hy), by simp; omega, h2, (by simp), ?_⟩
   by_cases h0 : len = 0
   · exact .inl (by simp [h0])
   · obtain ⟨b, off, spot⟩ := x
     have c0 := hc 0 (by omega)
     have hspot : spot = none := by simpa [Addr.add] using World.cell?_spot c0
     subst hspot
     refine .inr ⟨b, off, rfl, ?_, fun i hi => ?_⟩
     · have := World.block_lt_of_cell? w _ c0
       simpa [Addr.add] using this
     · simp at hi
       have hadd : (⟨b, off, none⟩ : Addr).add i = ⟨b, off + i, none⟩ := by unfold Addr.add; split <;> simp_all
       have hci := hc i (by omega)
       rw [hadd] at hci; rw [hci]
       simp [List.getD, show i < len by omega]
theorem IsRowK.rb {w : World} {a : Option Addr} {len cap : Nat} {zs : List Int} (h : IsRowK .u8 w a len cap zs) : ∃ xs : List Nat, len = xs.length ∧ Rb w a cap xs := by
 obtain ⟨ys, h1, h2, h3, h4, h5, h6⟩ := h.cells
 have hb : ∀ y ∈ ys, 0 ≤ y ∧ y < 256 := fun y hy => wfo_u8_bounds (h2 y hy)
 refine ⟨ys.map Int.toNat, by simp [h1], ?_, by simpa using h3, h4, h5, ?_⟩
 · intro x hx
   obtain ⟨y, hy, rfl⟩ := List.mem_map.1 hx
   have := hb y hy
   omega
 · rcases h6 with rfl | ⟨b, off, e, hlt, hc⟩
   · exact .inl rfl
   · refine .inr ⟨b, off, e, hlt, fun i hi => ?_⟩
     simp at hi
     rw [hc i hi]
     have h0 : ys.getD i 0 = ys[i] := by simp [List.getD, hi]
     have hy := hb ys[i] (List.getElem_mem hi)
     rw [h0]
     simp [List.getD, hi]
     omega
open Go.ChangeShapes Go.WideShapes Go.Joins Go.Deep
def Opens {α : Type} (E : El α) (t : TypeId) : Prop :=
 Tryz.prog.cellsOf t = E.sz ∧ ∀ (H : Type) (enc : TypeId × Value → H) (W : World) (held : Bool) (fuel : Nat) (cs : List Value) (x : DataW H × List MemPlace),
  DataW.trod enc Tryz.prog W 0 (fun _ => true) held fuel t cs = some x → (∀ n ∈ x.1.weights Tryz.prog t, n ≤ reachBytes) → ∃ y : α, E.rep (fun k => k < W.heap.size) W cs y
theorem Opens.num {t : TypeId} {k : IntKind} {lo hi : Int} (ht : Tryz.prog.underlying t = some (.int k)) (hc : Tryz.prog.cellsOf t = 1) (hb : ∀ z, (Lit.int k z).wf = true → lo ≤ z ∧ z ≤ hi) : Opens (El.num k lo hi) t :=
 ⟨hc, fun H enc W held fuel cs x h hz => by
  obtain ⟨z, e, _, hw⟩ := DataW.trod_int ht h
  exact ⟨z, e, hb z hw⟩⟩
theorem Opens.int {t : TypeId} (ht : Tryz.prog.underlying t = some (.int .i64)) (hc : Tryz.prog.cellsOf t = 1) : Opens El.int t := Opens.num ht hc (fun z hw => wfo_i64_bounds hw)
theorem Opens.bool {t : TypeId} (ht : Tryz.prog.underlying t = some .bool) (hc : Tryz.prog.cellsOf t = 1) : Opens El.bool t :=
 ⟨hc, fun H enc W held fuel cs x h hz => by
  obtain ⟨z, e, _⟩ := DataW.trod_bool ht h
  exact ⟨z, e⟩⟩
theorem Opens.via {α β : Type} {E : El α} {t : TypeId} (h : Opens E t) {f : β → α} {d : β} (hf : ∀ x, ∃ y, f y = x) : Opens (E.via f d) t :=
 ⟨h.1, fun H enc W held fuel cs x h1 hz => by
  obtain ⟨z, hz⟩ := h.2 H enc W held fuel cs x h1 hz
  obtain ⟨y, rfl⟩ := hf z
  exact ⟨y, hz⟩⟩
theorem list_of_ltG {α : Type} {d : α} {p : Nat → α → Prop} : ∀ n, (∀ i, i < n → ∃ o, p i o) → ∃ os : List α, os.length = n ∧ ∀ i, i < n → p i (os.getD i d) := by
 intro n
 induction n with
 | zero => exact fun _ => ⟨[], rfl, fun i hi => by omega⟩
 | succ n ih =>
  intro h
  obtain ⟨os, hl, ho⟩ := ih (fun i hi => h i (by omega))
  obtain ⟨o, h1⟩ := h n (by omega)
  refine ⟨os ++ [o], by simp [hl], fun i hi => ?_⟩
  by_cases hi' : i < n
  · have e : (os ++ [o]).getD i d = os.getD i d := by simp [List.getD, List.getElem?_append_left (show i < os.length by omega)]
    rw [e]
    exact ho i hi'
  · have e : i = n := by omega
    subst e
    have e : (os ++ [o]).getD i d = o := by simp [List.getD, ← hl]
    rw [e]
    exact h1
theorem weights_all {H : Type} {P : Program} {e : TypeId} {d : DataW H} : ∀ {l : List (DataW H)}, d ∈ l → ∀ {n : Nat}, n ∈ d.weights P e → n ∈ DataW.weightsAll P e l
 | c :: l, h, n, hn => by
  rw [DataW.weightsAll, List.mem_append]
  rcases List.mem_cons.1 h with h | h
  · exact .inl (by rw [← h]; exact hn)
  · exact .inr (weights_all h hn)
theorem Opens.row {α : Type} {E : El α} {t e : TypeId} (h : Opens E e) (ht : Tryz.prog.underlying t = some (.slice e)) (hc : Tryz.prog.cellsOf t = 1) (hsz : 0 < E.sz) (hby : 1 ≤ Tryz.prog.bytesOf e) : Opens E.row t :=
 ⟨hc, fun H enc W held fuel cs x hf hz => by
  rcases open_slice ht hf with ⟨hcs, _⟩ | ⟨ad, len, cap, m, n, D, Pl, hcs, _, hl, hm, hmm, hx, hel⟩
  · exact ⟨[], none, 0, hcs, (fun b o e1 => by cases e1), Gr.nil _ _ _ _ _ (Nat.zero_le _) (fun _ => rfl), Nat.zero_le _⟩
  · have hle : len ≤ m := by rw [hmm]; split <;> omega
    subst hx
    have hzm : ∀ i, i < len → ∀ k ∈ (D i).weights Tryz.prog e, k ≤ reachBytes := by
     intro i hi k hk
     refine hz k ?_
     simp only [DataW.weights, ht, List.mem_cons, List.mem_append]
     exact .inr (.inl (weights_all (List.mem_map.2 ⟨i, List.mem_range.2 hi, rfl⟩) hk))
    have hzl : len ≤ 140737488351232 := by
     have h1 := hz ((((List.range len).map D).length + ((List.range (m - len)).map fun j => D (len + j)).length) * Tryz.prog.bytesOf e) (by simp only [DataW.weights, ht]; exact List.mem_cons_self)
     rw [List.length_map, List.length_map, List.length_range, List.length_range] at h1
     have h2 : (len + (m - len)) * 1 ≤ (len + (m - len)) * Tryz.prog.bytesOf e := Nat.mul_le_mul_left _ hby
     have h3 : reachBytes = 140737488351232 := rfl
     omega
    have hone : ∀ i, i < len → ∃ o : α, ∃ vs, E.rep (fun k => k < W.heap.size) W vs o ∧ ∀ j, j < E.sz → W.cell? ((ad.add (i * E.sz)).add j) = vs[j]? := by
     intro i hi
     obtain ⟨cs', hc', ht'⟩ := hel i (by omega)
     rw [h.1] at hc'
     obtain ⟨hlen, _, hcell⟩ := World.cells?_some hc'
     obtain ⟨o, ho⟩ := h.2 H enc W held n cs' _ ht' (hzm i hi)
     refine ⟨o, cs', ho, fun j hj => ?_⟩
     have := hcell j (by omega)
     rw [this, List.getElem?_eq_getElem (by omega)]
    obtain ⟨os, hol, ho⟩ := list_of_ltG (d := E.dfl) len hone
    have key : ∀ i, i < len → ∃ b off vs, ad = ⟨b, off, none⟩ ∧ b < W.heap.size ∧ E.rep (fun k => k < W.heap.size) W vs (os.getD i E.dfl) ∧ ∀ j, j < E.sz → W.cell? ⟨b, off + i * E.sz + j, none⟩ = vs[j]? := by
     intro i hi
     obtain ⟨vs, h1, h2⟩ := ho i hi
     obtain ⟨b, off, spot⟩ := ad
     have h0 := h2 0 hsz
     have hv : 0 < vs.length := by rw [E.len h1]; exact hsz
     rw [List.getElem?_eq_getElem hv] at h0
     have hspot : spot = none := by
      obtain ⟨vs', h1', h2'⟩ := ho 0 (by omega)
      have h0' := h2' 0 hsz
      rw [List.getElem?_eq_getElem (by rw [E.len h1']; exact hsz)] at h0'
      have := World.cell?_spot h0'
      simpa [Addr.add] using this
     subst hspot
     have hadd : ∀ i, (⟨b, off, none⟩ : Addr).add i = ⟨b, off + i, none⟩ := by intro i; unfold Addr.add; split <;> simp_all
     have hadd2 : ∀ i j, ((⟨b, off, none⟩ : Addr).add i).add j = ⟨b, off + i + j, none⟩ := by intro i j; rw [hadd]; unfold Addr.add; split <;> simp_all
     have hlt := World.block_lt_of_cell? W _ h0
     rw [hadd2] at hlt
     exact ⟨b, off, vs, rfl, hlt, h1, fun j hj => by rw [← hadd2]; exact h2 j hj⟩
    refine ⟨os, some ad, cap, by rw [hcs, hol], fun b o e1 hne => ?_, ⟨by omega, hm, (fun e => by cases e), fun i hi => ?_⟩, by rw [hol]; exact hzl⟩
    · obtain ⟨b', off', _, e2, hb', _⟩ := key 0 (by have := List.length_pos_iff.2 hne; omega)
      rw [e2] at e1
      cases e1
      exact hb'
    · obtain ⟨b, off, vs, e2, hb, h1, h2⟩ := key i (by omega)
      exact ⟨b, off, vs, by rw [e2], hb, h1, h2⟩⟩
def OpensF {α : Type} (E : El α) (fs : List Field) (off : Nat) : Prop :=
 ∀ (H : Type) (enc : TypeId × Value → H) (W : World) (held : Bool) (n : Nat) (cs : List Value), (∀ f ∈ fs, ∃ y, DataW.trod enc Tryz.prog W 0 (fun _ => true) held n f.type ((cs.drop f.offset).take (Tryz.prog.cellsOf f.type)) = some y ∧ ∀ k ∈ y.1.weights Tryz.prog f.type, k ≤ reachBytes) →
  ∃ x : α, E.rep (fun k => k < W.heap.size) W ((cs.drop off).take E.sz) x
theorem OpensF.last {α : Type} {E : El α} {f : Field} {off : Nat} (h : Opens E f.type) (ho : f.offset = off) : OpensF E [f] off := by
 intro H enc W held n cs hy
 obtain ⟨y, hy, hz⟩ := hy f (by simp)
 rw [h.1, ho] at hy
 exact h.2 H enc W held n _ y hy hz
theorem OpensF.more {α β : Type} {E : El α} {F : El β} {f : Field} {fs : List Field} {off : Nat} (h : Opens E f.type) (ho : f.offset = off) (hs : OpensF F fs (off + E.sz)) : OpensF (E.cat F) (f :: fs) off := by
 intro H enc W held n cs hy
 obtain ⟨y, hy0, hz0⟩ := hy f (by simp)
 rw [h.1, ho] at hy0
 obtain ⟨x, hx⟩ := h.2 H enc W held n _ y hy0 hz0
 obtain ⟨z, hz⟩ := hs H enc W held n cs (fun g hg => hy g (by simp [hg]))
 refine ⟨(x, z), (cs.drop off).take E.sz, (cs.drop (off + E.sz)).take F.sz, ?_, hx, hz⟩
 show (cs.drop off).take (E.sz + F.sz) = _
 rw [List.take_add, List.drop_drop]
theorem Opens.struct {α : Type} {E : El α} {t : TypeId} {fs : Array Field} (ht : Tryz.prog.underlying t = some (.struct fs)) (hc : Tryz.prog.cellsOf t = E.sz) (h : OpensF E fs.toList 0) : Opens E t :=
 ⟨hc, fun H enc W held fuel cs x hf hz => by
  obtain ⟨xs, n, _, hx, hl, hlen, hff⟩ := DataW.trod_struct ht hf
  subst hx
  obtain ⟨y, hy⟩ := h H enc W held n cs (fun f hf' => by
   obtain ⟨i, hi, e⟩ := List.getElem_of_mem hf'
   have := hff i f (by rw [← e]; simp)
   have hix : i < xs.length := by simpa [hlen] using hi
   rw [this]
   refine ⟨xs[i]'hix, by rw [List.getElem?_eq_getElem], fun k hk => hz k ?_⟩
   simp only [DataW.weights, ht]
   refine DataW.weights_mem_each (j := i) (t := f.type) (d := (xs[i]'hix).1) ?_ ?_ k hk
   · rw [List.getElem?_map, List.getElem?_eq_getElem hi, e]
     rfl
   · rw [List.getElem?_map, List.getElem?_eq_getElem hix]
     rfl)
  rw [List.drop_zero, List.take_of_length_le (by rw [hl, hc]; exact Nat.le_refl _)] at hy
  exact ⟨y, hy⟩⟩
theorem Opens.agg {α : Type} {E : El α} {t : TypeId} (h : Opens E t) {fs : Array Field} (ht : Tryz.prog.underlying t = some (.struct fs)) {H : Type} {enc : TypeId × Value → H} {W : World} {held : Bool} {r : Reach} {b0 : Nat} {v : Value} {d : DataW H} {p : List MemPlace}
    (hv : Value.okWide Tryz.prog W r b0 t v) (hd : DataW.Trod enc Tryz.prog W 0 (fun _ => true) held t v d p) (hz : ∀ n ∈ d.weights Tryz.prog t, n ≤ reachBytes) : ∃ (cs : Array Value) (y : α), v = .agg cs ∧ E.rep (fun k => k < W.heap.size) W cs.toList y := by
 obtain ⟨cs, rfl, hsz⟩ := okWide_struct ht hv
 obtain ⟨fuel, hf⟩ := hd
 obtain ⟨y, hy⟩ := h.2 H enc W held fuel _ _ hf hz
 exact ⟨cs, y, rfl, by simpa [Value.cells] using hy⟩
theorem opens_int : Opens El.int 3 := Opens.int Tryz.underlying3 (by kernel_rfl)
theorem opens_bool : Opens El.bool 4 := Opens.bool Tryz.underlying4 (by kernel_rfl)
theorem opens_pn : Opens PnE 54 :=
 (Opens.struct (E := El.int.cat (El.int.cat El.bool)) Tryz.underlying54 (by kernel_rfl) (OpensF.more opens_int rfl (OpensF.more opens_int rfl (OpensF.last opens_bool rfl)))).via (fun x => ⟨⟨x.1, x.2.1, x.2.2⟩, rfl⟩)
theorem opens_pa : Opens PaE 91 :=
 (Opens.struct (E := El.int.cat (El.int.cat El.int)) Tryz.underlying91 (by kernel_rfl) (OpensF.more opens_int rfl (OpensF.more opens_int rfl (OpensF.last opens_int rfl)))).via (fun x => ⟨⟨x.1, x.2.1, x.2.2⟩, rfl⟩)
theorem opens_pns : Opens PnE.row 55 := Opens.row opens_pn Tryz.underlying55 (by kernel_rfl) (by decide) (of_decide_eq_true (by kernel_rfl))
theorem opens_pnss : Opens PnE.row.row 22 := Opens.row opens_pns Tryz.underlying22 (by kernel_rfl) Nat.one_pos (of_decide_eq_true (by kernel_rfl))
theorem opens_pas : Opens PaE.row 23 := Opens.row opens_pa Tryz.underlying23 (by kernel_rfl) (by decide) (of_decide_eq_true (by kernel_rfl))
theorem opens_outline : Opens (PnE.row.row.cat PaE.row) 25 :=
 Opens.struct Tryz.underlying25 (by kernel_rfl) (OpensF.more opens_pnss rfl (OpensF.last opens_pas rfl))
theorem opens_is : Opens El.int.row 29 := Opens.row opens_int Tryz.underlying29 (by kernel_rfl) Nat.one_pos (of_decide_eq_true (by kernel_rfl))
theorem opens_te : Opens TeE 57 :=
 (Opens.struct (E := El.int.cat (El.int.cat El.int)) Tryz.underlying57 (by kernel_rfl) (OpensF.more opens_int rfl (OpensF.more opens_int rfl (OpensF.last opens_int rfl)))).via (fun x => ⟨⟨x.1, x.2.1, x.2.2⟩, rfl⟩)
theorem opens_tes : Opens TeE.row 58 := Opens.row opens_te Tryz.underlying58 (by kernel_rfl) (by decide) (of_decide_eq_true (by kernel_rfl))
theorem opens_tu : Opens TuE 60 :=
 (Opens.struct (E := TeE.row.cat (El.bool.cat (El.int.row.cat (El.int.row.cat El.int.row)))) Tryz.underlying60 (by kernel_rfl) (OpensF.more opens_tes rfl (OpensF.more opens_bool rfl (OpensF.more opens_is rfl (OpensF.more opens_is rfl (OpensF.last opens_is rfl)))))).via (fun x => ⟨⟨x.1, x.2.1, x.2.2.1, x.2.2.2.1, x.2.2.2.2⟩, rfl⟩)
theorem opens_tus : Opens TuE.row 26 := Opens.row opens_tu Tryz.underlying26 (by kernel_rfl) (by decide) (of_decide_eq_true (by kernel_rfl))
theorem opens_shape : Opens ((PnE.row.row.cat PaE.row).cat TuE.row) 28 :=
 Opens.struct Tryz.underlying28 (by kernel_rfl) (OpensF.more opens_outline rfl (OpensF.last opens_tus rfl))
theorem open_shape {H : Type} {enc : TypeId × Value → H} {W : World} {held : Bool} {r : Reach} {b0 : Nat} {v : Value} {d : DataW H} {p : List MemPlace}
    (hv : Value.okWide Tryz.prog W r b0 28 v) (hd : DataW.Trod enc Tryz.prog W 0 (fun _ => true) held 28 v d p) (hz : ∀ n ∈ d.weights Tryz.prog 28, n ≤ reachBytes) :
    ∃ a ca b cb, ∃ o : Ol, ∃ la lc, ∃ l : List Tu, v = .agg #[.slice a o.cs.length ca, .slice b o.ps.length cb, .slice la l.length lc] ∧ Gr PnE.row (fun k => k < W.heap.size) W a ca o.cs ∧ Gr PaE (fun k => k < W.heap.size) W b cb o.ps ∧ Gr TuE (fun k => k < W.heap.size) W la lc l := by
 obtain ⟨cs, ⟨⟨l, m⟩, n⟩, rfl, us, ts, e, ⟨us1, ts1, e1, ⟨a, ca, h1, _, h2, _⟩, b, cb, h3, _, h4, _⟩, c, cc, h5, _, h6, _⟩ := opens_shape.agg Tryz.underlying28 hv hd hz
 subst h1 h3 h5
 refine ⟨a, ca, b, cb, ⟨l, m⟩, c, cc, n, ?_, h2, h4, h6⟩
 congr 1
 apply Array.ext'
 rw [e, e1]
 rfl
end Go.Proofs.YtngmcghmniakeaaGreat
