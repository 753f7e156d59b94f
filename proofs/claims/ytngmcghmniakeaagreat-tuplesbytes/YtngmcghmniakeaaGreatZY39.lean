/-
  foundryref14.Write: the walk.
-/
import Derived.Test.YtngmcghmniakeaaGreatZY37
import Derived.Test.YtngmcghmniakeaaGreatZY28
import Derived.Test.YtngmcghmniakeaaGreatZY38
set_option maxHeartbeats 8000000
set_option maxRecDepth 100000
set_option linter.unusedSimpArgs false
set_option linter.unusedVariables false
namespace Go.Proofs.YtngmcghmniakeaaGreat
open Go.RowKit Go.Maps
theorem bo_ne_bk {base : Nat} {w : World} {v : Value} {ys : List Nat} {t : TypeId} {g : Nat} {cs : List Value} (h : Bo base w v ys) (hb : Bk t w g cs) (ht : t ≠ 5) : v.ownBlock ≠ some g := by
 intro e
 rcases h.2.2 with ⟨e0, _⟩ | ⟨g', cap, cur, k1, k2, k3, k4⟩
 · rw [e0] at e; cases e
 · rw [k1] at e
   cases e
   rw [hb] at k3
   simp at k3
   exact ht k3.2
theorem apt_new {base b2 n : Nat} {w w' : World} {v u : Value} {ys zs : List Nat} (h : Bo base w v ys) (hu : Bo n w' u zs) (hn : w.heap.size ≤ n) : Apt v u := fun k h1 h2 => by
 have := (h.lo h1).2
 have := (hu.lo h2).1
 omega
theorem z65 {z : Int} (h : -16384 ≤ z ∧ z ≤ 16384) : ∃ y, (z + 65536).tmod 65536 = y ∧ 0 ≤ y ∧ y ≤ 9223372036854775807 ∧ be2 y = be2 z := by
 refine ⟨(z + 65536) % 65536, tmod_nn (by omega), by omega, by omega, be2_65536⟩
theorem swriteU_any (S : Nat → Prop) (a : Option Addr) (ca : Nat) (b : Option Addr) (cb : Nat) (o : Ol) (S2 : Nat → Prop) (la : Option Addr) (lc : Nat) (l : List Tu) (ax : Int) (w : World) (hc : Gr PnE.row S w a ca o.cs) (hp : Gr PaE S w b cb o.ps) (hl : Gr TuE S2 w la lc l) (hfl : o.cs.flatten.length ≤ 100000) (hpl : o.ps.length ≤ 100000) (hi : I64 ax) :
    Calls Tryz.prog 16 #[.agg #[.slice a o.cs.length ca, .slice b o.ps.length cb], .slice la l.length lc, .int .i64 ax] w fun e w' => ∃ a' c', e = .returned (.tuple #[.slice a' (wrTB o l ax).length c', .int .i64 (wrTE o l ax)]) ∧ Rb w' a' c' (wrTB o l ax) ∧ Below w.heap.size w w' := by
 have kl := hl.lenB
 have kc := hc.lenB
 obtain ⟨W, hW, X1, hbW⟩ : ∃ W, W = w.alloc (.cells #[.slice a o.cs.length ca, .slice b o.ps.length cb] 25) ∧ Bk 25 W w.heap.size [.slice a o.cs.length ca, .slice b o.ps.length cb] ∧ Below w.heap.size w W := ⟨_, rfl, Bk.new _ _ _, bl1 _⟩
 replace hc := hc.below hbW; replace hp := hp.below hbW; replace hl := hl.below hbW; obtain ⟨p0, p1, _⟩ := X1.two
 have hfo := sformU_any S a ca b cb o S2 la lc l ax W hc hp hl hfl hpl hi
 go_enter Tryz.func16, Tryz.ntmps16
 go_upto_region 1 with fail
 rw [← hW]; clear hW
 cases hf : foT o l ax with
 | false =>
  rw [hf] at hfo
  have HE : Hid (_) := wrT_no hf
  clear hf
  go_wp2_with fail
  refine hfo.mono ?_
  rintro e m1 ⟨rfl, hb1⟩
  replace hbW := hbW.trans (hb1.mono hbW.size)
  clear hb1 hfo; go_wp2
  go_ret2
  exact ⟨none, 0, by rw [HE.out.1, HE.out.2]; rfl, by rw [HE.out.1]; exact Rb.nil _ _ _ (Nat.zero_le _) (fun _ => rfl), hbW⟩
 | true =>
 rw [hf] at hfo
 have HE : Hid (_) := wrT_yes hf
 obtain ⟨hF1, hF2, hF3, hF4⟩ := foT_iff.1 hf
 have HTB : Hid (∀ k, k < l.length → tuB (l.getD k Tu.none) (cntO o) ax = true) := hF4
 have HCN : Hid (cntO o ≤ 86) := cnt_le hF1
 have HTK : Hid (∀ k, (tusE (l.take k)).length ≤ 33000) := fun k => by
  have h1 := tuBt_le hf
  have h2 : tusE l = tusE (l.take k) ++ tusE (l.drop k) := by rw [← tusE_append, List.take_append_drop]
  unfold tuBt at h1
  rw [List.length_append, h2, List.length_append] at h1
  omega
 have HTE : Hid (tuBt l = be2 ((l.length : Nat) : Int) ++ tusE l) := rfl
 obtain ⟨A, rfl⟩ : ∃ A : Nat, ax = (A : Int) := ⟨ax.toNat, by omega⟩
 clear hF1 hF4 hf
 go_wp2_with fail
 refine hfo.mono ?_
 rintro e u ⟨rfl, hb1⟩
 have HL : Hid (Gr TuE S2 u la lc l) := hl.below hb1
 have HBW : Hid (Below w.heap.size w u) := hbW.trans (hb1.mono hbW.size)
 clear hc hp hl hfo hb1 X1 hbW p0 p1
 go_wp2_with fail
 refine (big2_own (l.length : Int) u (by omega) (by omega)).mono ?_
 rintro e u1 ⟨v0, rfl, hBo0, hB0⟩
 obtain ⟨Q, hQ⟩ : ∃ Q, be2 ((l.length : Nat) : Int) = Q := ⟨_, rfl⟩
 have HQL : Hid (Q.length = 2) := by show _ = _; rw [← hQ]; rfl
 rw [hQ] at hBo0 HTE
 have hI : Bo u.heap.size u1 v0 (Q ++ tusE (l.take 0)) := by
  rw [List.take_zero, tusE, List.append_nil]
  exact hBo0
 obtain ⟨B, hBB⟩ : ∃ g, u.heap.size = g := ⟨_, rfl⟩
 have HBB : Hid (u.heap.size = B) := hBB
 have HBS : Hid (∀ U, Below B u U → B ≤ U.heap.size) := fun U h => by rw [← HBB.out]; exact h.size
 rw [hBB] at hI hB0; clear hBo0 hQ hBB; go_wp2
 go_loopw [8, 9] (fun v i wr => ∃ k : Nat, k ≤ l.length ∧ i = .int .i64 k ∧ Bo B wr v (Q ++ tusE (l.take k)) ∧ Below B u wr) (fun _ i _ => l.length - (intOf i).toNat)
 case atStart => exact ⟨0, Nat.zero_le _, rfl, hI, hB0⟩
 case round =>
  clear hI hB0; obtain ⟨k, hk, rfl, hBo, hB⟩ := hrel
  by_cases hkn : k < l.length
  · obtain ⟨b0, off, ra, rc, pa, pc, xa, xc, ya, yc, ea, hb, ht, c0, c1, c2, c3, c4⟩ := HL.out.tu (Below.refl _ _) k hkn
    have hBu : Below u.heap.size u wr := by rw [HBB.out]; exact hB
    replace c0 := (hBu.cell (p := ⟨b0, off + k * 5, none⟩) hb).trans c0
    replace c1 := (hBu.cell (p := ⟨b0, off + k * 5 + 1, none⟩) hb).trans c1
    replace c2 := (hBu.cell (p := ⟨b0, off + k * 5 + 2, none⟩) hb).trans c2
    replace c3 := (hBu.cell (p := ⟨b0, off + k * 5 + 3, none⟩) hb).trans c3
    replace c4 := (hBu.cell (p := ⟨b0, off + k * 5 + 4, none⟩) hb).trans c4
    obtain ⟨n1, n2, n3, n4⟩ := ht.len; obtain ⟨a6, c6, e6, -⟩ := hBo.slice; subst e6
    have hfk := HTB.out k hkn
    have HSJ : Hid (_) := tus_snoc hkn Q
    have HLK : Hid ((Q ++ tusE (l.take k)).length ≤ 33002) := by show _ ≤ _; rw [List.length_append, HQL.out]; have := HTK.out k; omega
    obtain ⟨t, htt⟩ : ∃ t, l.getD k Tu.none = t := ⟨_, rfl⟩
    rw [htt] at ht c0 c1 c2 c3 c4 hfk HSJ n1 n2 n3 n4
    obtain ⟨b2, hb2⟩ : ∃ b2, Q ++ tusE (l.take k) = b2 := ⟨_, rfl⟩
    rw [hb2] at hBo HSJ HLK ⊢
    obtain ⟨p1, p2, -⟩ := tu_pts hfk (by have := HCN.out; omega)
    obtain ⟨q1, q2, -, -, c5, c7⟩ := tu_chs hfk (by have := HCN.out; omega)
    obtain ⟨g1, g2⟩ := rg_len (tuB_iff.1 hfk).1
    have HLP : Hid ((ppB t.pts).length ≤ 260 ∧ (pcB t.dx).length ≤ 258 ∧ (pcB t.dy).length ≤ 258) := by
     have h0 := HCN.out
     exact ⟨by have := pp_short' p1; omega, by have := pc_short q1; omega, by have := pc_short q2; omega⟩
    have HTF : Hid (∀ k, k < t.rg.length → tfB (t.rg.getD k Te.none) = true) := fun k hk => List.all_eq_true.1 g2 _ (getT_mem hk)
    have hgA : t.rg.length = A := by omega
    have HGA : Hid (t.rg.length = A) := hgA
    have HEE : Hid (tuE t = tesE t.rg ++ (ppB t.pts ++ (pcB t.dx ++ pcB t.dy))) := rfl
    have HTC : Hid (∀ U, Below B u U → TuC S2 U ra rc pa pc xa xc ya yc t) := fun U hU => ht.below (by rw [HBB.out]; exact hU)
    subst ea
    have i1 : (0 : Int) ≤ (k : Int) := by omega
    have i2 : (k : Int) < (l.length : Int) := by omega
    have hA4 : A ≤ 4 := by omega
    obtain ⟨V, hV, XT, hbV⟩ : ∃ V, V = wr.alloc (.cells #[.slice ra t.rg.length rc, .bool t.al, .slice pa t.pts.length pc, .slice xa t.dx.length xc, .slice ya t.dy.length yc] 60) ∧ Bk 60 V wr.heap.size [.slice ra t.rg.length rc, .bool t.al, .slice pa t.pts.length pc, .slice xa t.dx.length xc, .slice ya t.dy.length yc] ∧ Below wr.heap.size wr V := ⟨_, rfl, Bk.new _ _ _, bl1 _⟩
    clear htt hb2 hfk p1 p2 q1 q2 g1 g2 c5 c7 ht hgA hBu
    go_upto_region 8 with fail
    rw [← hV]; clear hV c0 c1 c2 c3 c4
    have hI2 : Bo B V (.slice a6 b2.length c6) (b2 ++ tesE (t.rg.take 0)) := by
     rw [List.take_zero, tesE, List.append_nil]
     exact hBo.below hbV
    have hB2 : Below B u V := hB.trans (hbV.mono (HBS.out _ hB))
    obtain ⟨gt, hgt⟩ : ∃ g, wr.heap.size = g := ⟨_, rfl⟩
    rw [hgt] at XT; rw [hgt]; clear hbV hBo hB hgt; go_wp2
    go_loopw [8, 11] (fun v i wr2 => ∃ j : Nat, j ≤ A ∧ i = .int .i64 j ∧ Bo B wr2 v (b2 ++ tesE (t.rg.take j)) ∧ Bk 60 wr2 gt [.slice ra t.rg.length rc, .bool t.al, .slice pa t.pts.length pc, .slice xa t.dx.length xc, .slice ya t.dy.length yc] ∧ Below B u wr2) (fun _ i _ => A - (intOf i).toNat)
    case atStart => exact ⟨0, Nat.zero_le _, rfl, hI2, XT, hB2⟩
    case round =>
     clear hI2 XT hB2; obtain ⟨j, hj, rfl, hBo, hXT, hB⟩ := hrel
     by_cases hjn : j < A
     · have hjr : j < t.rg.length := by rw [HGA.out]; exact hjn
       obtain ⟨b9, o9, ea, hb9, d0, d1, d2⟩ := (HTC.out u (Below.refl _ _)).tz.at (Below.refl _ _) j hjr
       have htf := tf_fd (HTF.out j hjr)
       have HSI : Hid (_) := tes_snoc hjr b2
       have HLJ : Hid ((b2 ++ tesE (t.rg.take j)).length ≤ 33100) := by show _ ≤ _; rw [List.length_append]; have := tes_len_take t.rg j; have := HLK.out; have := HGA.out; omega
       obtain ⟨te, hte⟩ : ∃ x, t.rg.getD j Te.none = x := ⟨_, rfl⟩
       rw [hte] at d0 d1 d2 htf HSI; obtain ⟨tst, tpk, ten⟩ := te; dsimp only at d0 d1 d2 htf HSI
       obtain ⟨e1, gz1, ge10, ge11, he1⟩ := z65 htf.1
       obtain ⟨e2, gz2, ge20, ge21, he2⟩ := z65 htf.2.1
       obtain ⟨e3, gz3, ge30, ge31, he3⟩ := z65 htf.2.2
       have ge1 := And.intro ge10 ge11
       have ge2 := And.intro ge20 ge21
       have ge3 := And.intro ge30 ge31
       rw [← he1, ← he2, ← he3] at HSI
       obtain ⟨b3, hb3⟩ : ∃ b, b2 ++ tesE (t.rg.take j) = b := ⟨_, rfl⟩
       rw [hb3] at hBo HSI HLJ
       have HAT : Hid (∀ U, Below B u U → U.cell? ⟨b9, o9 + j * 3, none⟩ = some (.int .i64 tst) ∧ U.cell? ⟨b9, o9 + j * 3 + 1, none⟩ = some (.int .i64 tpk) ∧ U.cell? ⟨b9, o9 + j * 3 + 2, none⟩ = some (.int .i64 ten)) := fun U hU => by
        rw [← HBB.out] at hU
        exact ⟨(hU.cell (p := ⟨b9, o9 + j * 3, none⟩) hb9).trans d0, (hU.cell (p := ⟨b9, o9 + j * 3 + 1, none⟩) hb9).trans d1, (hU.cell (p := ⟨b9, o9 + j * 3 + 2, none⟩) hb9).trans d2⟩
       subst ea
       have j1 : (0 : Int) ≤ (j : Int) := by omega
       have j2 : (j : Int) < (A : Int) := by omega
       have j3 : (j : Int) < (t.rg.length : Int) := by omega
       clear d0 d1 d2 hte hb3 he1 he2 he3 hjr
       obtain ⟨d0, d1, d2⟩ := HAT.out wr hB
       obtain ⟨y0, -⟩ := hXT.five; obtain ⟨av, cv, ev, -⟩ := hBo.slice; subst ev
       go_wp2_with fail
       refine (big2_any e1 _ ge1.1 ge1.2).mono ?_
       rintro e u5 ⟨ab, cb, rfl, hrb, hb⟩; replace hBo := hBo.below hb; replace hXT := hXT.below hb
       replace hB := hB.trans (hb.mono (HBS.out _ hB))
       clear hb d0 d1 d2 y0
       have hbs : B ≤ u5.heap.size := HBS.out _ hB
       have hll : b3.length + (be2 e1).length ≤ 1000000 := by rw [show (be2 e1).length = 2 from rfl]; have := HLJ.out; omega
       go_wp2_with (at_builtin; refine wpList_append_bs3 rfl _ _ rfl B _ b3 rfl hBo _ _ _ (be2 e1) rfl rfl hrb hll hbs ?_)
       intro v1 w5 hBo1 hgrow _
       have hB1 := hB.grown hgrow hbs (fun q hq => (hBo.lo hq).1)
       have hXT1 := hXT.grown hgrow (bo_ne_bk hBo hXT (by decide))
       clear hBo hB hXT hrb hll hbs hgrow
       obtain ⟨s1, hs1⟩ : ∃ s, b3 ++ be2 e1 = s := ⟨_, rfl⟩
       have HS1 : Hid (b3 ++ be2 e1 = s1) := hs1
       have HLS1 : Hid (s1.length ≤ 33100 + 2) := by show _ ≤ _; rw [← hs1, List.length_append, show (be2 e1).length = 2 from rfl]; have := HLJ.out; omega
       rw [hs1] at hBo1; clear hs1
       have hBo := hBo1
       have hB := hB1
       have hXT := hXT1
       clear hBo1 hB1 hXT1
       obtain ⟨d0, d1, d2⟩ := HAT.out w5 hB
       obtain ⟨y0, -⟩ := hXT.five; obtain ⟨av, cv, ev, -⟩ := hBo.slice; subst ev
       go_wp2_with fail
       refine (big2_any e2 _ ge2.1 ge2.2).mono ?_
       rintro e u6 ⟨ab, cb, rfl, hrb, hb⟩; replace hBo := hBo.below hb; replace hXT := hXT.below hb
       replace hB := hB.trans (hb.mono (HBS.out _ hB))
       clear hb d0 d1 d2 y0
       have hbs : B ≤ u6.heap.size := HBS.out _ hB
       have hll : s1.length + (be2 e2).length ≤ 1000000 := by rw [show (be2 e2).length = 2 from rfl]; have := HLS1.out; omega
       go_wp2_with (at_builtin; refine wpList_append_bs3 rfl _ _ rfl B _ s1 rfl hBo _ _ _ (be2 e2) rfl rfl hrb hll hbs ?_)
       intro v2 w6 hBo2 hgrow _
       have hB2 := hB.grown hgrow hbs (fun q hq => (hBo.lo hq).1)
       have hXT2 := hXT.grown hgrow (bo_ne_bk hBo hXT (by decide))
       clear hBo hB hXT hrb hll hbs hgrow
       obtain ⟨s2, hs2⟩ : ∃ s, s1 ++ be2 e2 = s := ⟨_, rfl⟩
       have HS2 : Hid (s1 ++ be2 e2 = s2) := hs2
       have HLS2 : Hid (s2.length ≤ 33100 + 4) := by show _ ≤ _; rw [← hs2, List.length_append, show (be2 e2).length = 2 from rfl]; have := HLS1.out; omega
       rw [hs2] at hBo2; clear hs2
       have hBo := hBo2
       have hB := hB2
       have hXT := hXT2
       clear hBo2 hB2 hXT2
       obtain ⟨d0, d1, d2⟩ := HAT.out w6 hB
       obtain ⟨y0, -⟩ := hXT.five; obtain ⟨av, cv, ev, -⟩ := hBo.slice; subst ev
       go_wp2_with fail
       refine (big2_any e3 _ ge3.1 ge3.2).mono ?_
       rintro e u7 ⟨ab, cb, rfl, hrb, hb⟩; replace hBo := hBo.below hb; replace hXT := hXT.below hb
       replace hB := hB.trans (hb.mono (HBS.out _ hB))
       clear hb d0 d1 d2 y0
       have hbs : B ≤ u7.heap.size := HBS.out _ hB
       have hll : s2.length + (be2 e3).length ≤ 1000000 := by rw [show (be2 e3).length = 2 from rfl]; have := HLS2.out; omega
       go_wp2_with (at_builtin; refine wpList_append_bs3 rfl _ _ rfl B _ s2 rfl hBo _ _ _ (be2 e3) rfl rfl hrb hll hbs ?_)
       intro v3 w7 hBo3 hgrow _
       have hB3 := hB.grown hgrow hbs (fun q hq => (hBo.lo hq).1)
       have hXT3 := hXT.grown hgrow (bo_ne_bk hBo hXT (by decide))
       clear hBo hB hXT hrb hll hbs hgrow
       obtain ⟨s3, hs3⟩ : ∃ s, s2 ++ be2 e3 = s := ⟨_, rfl⟩
       have HS3 : Hid (s2 ++ be2 e3 = s3) := hs3
       have HLS3 : Hid (s3.length ≤ 33100 + 6) := by show _ ≤ _; rw [← hs3, List.length_append, show (be2 e3).length = 2 from rfl]; have := HLS2.out; omega
       rw [hs3] at hBo3; clear hs3
       have hBo := hBo3
       have hB := hB3
       have hXT := hXT3
       clear hBo3 hB3 hXT3; rw [HS1.out, HS2.out, HS3.out] at HSI; rw [← HSI.out] at hBo; go_wp2
       go_roundw
       case rel => exact ⟨j + 1, by omega, by go_num, hBo, hXT, hB⟩
       case measure => simp [intOf]; omega
     · have ej : j = A := by omega
       rw [ej] at hBo ⊢
       have j4 : ¬ (A : Int) < (A : Int) := by omega
       rw [show t.rg.take A = t.rg from (by rw [← HGA.out]; exact List.take_length)] at hBo
       have HLJ : Hid ((b2 ++ tesE t.rg).length ≤ 33100) := by show _ ≤ _; rw [List.length_append, tesE_len]; have := HLK.out; have := HGA.out; omega
       obtain ⟨b3, hb3⟩ : ∃ b, b2 ++ tesE t.rg = b := ⟨_, rfl⟩
       have HB3 : Hid (b2 ++ tesE t.rg = b3) := hb3
       rw [hb3] at hBo HLJ; obtain ⟨av, cv, ev, -⟩ := hBo.slice; subst ev
       obtain ⟨vv, hvv⟩ : ∃ v, v = Value.slice av b3.length cv := ⟨_, rfl⟩
       clear ej hj hjn hb3; rw [← hvv] at hBo
       have HVV : Hid (vv = Value.slice av b3.length cv) := hvv
       clear hvv; obtain ⟨y0, y1, y2, y3, y4, -⟩ := hXT.five
       go_wp2_with fail
       refine (sPointsB_any _ _ _ wr (HTC.out wr hB).pts).mono ?_
       rintro e u8 ⟨vp, rfl, hOvp, hb⟩
       have hAvp : Apt vv vp := apt_new (b2 := 0) hBo hOvp (Nat.le_refl _)
       replace hBo := hBo.below hb; replace hXT := hXT.below hb
       replace hB := hB.trans (hb.mono (HBS.out _ hB))
       clear hb y0 y1 y2 y3 y4; obtain ⟨y0, y1, y2, y3, y4, -⟩ := hXT.five
       go_wp2_with fail
       refine (sChangesB_any _ _ _ u8 (HTC.out u8 hB).dx).mono ?_
       rintro e u9 ⟨vx, rfl, hOvx, hb⟩
       have hAvx : Apt vv vx := apt_new (b2 := 0) hBo hOvx (Nat.le_refl _)
       replace hBo := hBo.below hb; replace hXT := hXT.below hb; replace hOvp := hOvp.below hb
       replace hB := hB.trans (hb.mono (HBS.out _ hB))
       clear hb y0 y1 y2 y3 y4; obtain ⟨y0, y1, y2, y3, y4, -⟩ := hXT.five
       go_wp2_with fail
       refine (sChangesB_any _ _ _ u9 (HTC.out u9 hB).dy).mono ?_
       rintro e u10 ⟨vy, rfl, hOvy, hb⟩
       have hAvy : Apt vv vy := apt_new (b2 := 0) hBo hOvy (Nat.le_refl _)
       replace hBo := hBo.below hb; replace hXT := hXT.below hb; replace hOvp := hOvp.below hb; replace hOvx := hOvx.below hb
       replace hB := hB.trans (hb.mono (HBS.out _ hB))
       clear hb y0 y1 y2 y3 y4; rw [HVV.out] at hBo hAvp hAvx hAvy; clear hXT; obtain ⟨avp, cvp, evp, hRvp⟩ := hOvp.slice; subst evp
       have hbs : B ≤ u10.heap.size := HBS.out _ hB
       have hll : b3.length + (ppB t.pts).length ≤ 1000000 := by have := HLJ.out; have := HLP.out; omega
       go_wp2_with (at_builtin; refine wpList_append_bs3 rfl _ _ rfl B _ b3 rfl hBo _ _ _ (ppB t.pts) rfl rfl hRvp hll hbs ?_)
       intro q1 w1 hBo1 hgrow hfr
       have hB1 := hB.grown hgrow hbs (fun q hq => (hBo.lo hq).1)
       have hAvx' := hAvx.of hOvx hfr
       replace hOvx := hOvx.grownA hgrow hAvx
       replace hAvx := hAvx'
       clear hAvx'
       have hAvy' := hAvy.of hOvy hfr
       replace hOvy := hOvy.grownA hgrow hAvy
       replace hAvy := hAvy'
       clear hAvy'; clear hBo hB hRvp hll hbs hgrow hfr hOvp hAvp
       obtain ⟨r1, hr1⟩ : ∃ s, b3 ++ ppB t.pts = s := ⟨_, rfl⟩
       have HR1 : Hid (b3 ++ ppB t.pts = r1) := hr1
       have HLR1 : Hid (r1.length ≤ 33100 + 260) := by show _ ≤ _; rw [← hr1, List.length_append]; have := HLP.out; have := HLJ.out; omega
       rw [hr1] at hBo1; clear hr1
       have hBo := hBo1
       have hB := hB1
       clear hBo1 hB1; obtain ⟨aq2, cq2, eq2, -⟩ := hBo.slice; subst eq2; obtain ⟨avx, cvx, evx, hRvx⟩ := hOvx.slice; subst evx
       have hbs : B ≤ w1.heap.size := HBS.out _ hB
       have hll : r1.length + (pcB t.dx).length ≤ 1000000 := by have := HLR1.out; have := HLP.out; omega
       go_wp2_with (at_builtin; refine wpList_append_bs3 rfl _ _ rfl B _ r1 rfl hBo _ _ _ (pcB t.dx) rfl rfl hRvx hll hbs ?_)
       intro q2 w2 hBo2 hgrow hfr
       have hB2 := hB.grown hgrow hbs (fun q hq => (hBo.lo hq).1)
       have hAvy' := hAvy.of hOvy hfr
       replace hOvy := hOvy.grownA hgrow hAvy
       replace hAvy := hAvy'
       clear hAvy'; clear hBo hB hRvx hll hbs hgrow hfr hOvx hAvx
       obtain ⟨r2, hr2⟩ : ∃ s, r1 ++ pcB t.dx = s := ⟨_, rfl⟩
       have HR2 : Hid (r1 ++ pcB t.dx = r2) := hr2
       have HLR2 : Hid (r2.length ≤ 33100 + 520) := by show _ ≤ _; rw [← hr2, List.length_append]; have := HLP.out; have := HLR1.out; omega
       rw [hr2] at hBo2; clear hr2
       have hBo := hBo2
       have hB := hB2
       clear hBo2 hB2; obtain ⟨aq3, cq3, eq3, -⟩ := hBo.slice; subst eq3; obtain ⟨avy, cvy, evy, hRvy⟩ := hOvy.slice; subst evy
       have hbs : B ≤ w2.heap.size := HBS.out _ hB
       have hll : r2.length + (pcB t.dy).length ≤ 1000000 := by have := HLR2.out; have := HLP.out; omega
       go_wp2_with (at_builtin; refine wpList_append_bs3 rfl _ _ rfl B _ r2 rfl hBo _ _ _ (pcB t.dy) rfl rfl hRvy hll hbs ?_)
       intro q3 w3 hBo3 hgrow hfr
       have hB3 := hB.grown hgrow hbs (fun q hq => (hBo.lo hq).1)
       clear hBo hB hRvy hll hbs hgrow hfr hOvy hAvy
       obtain ⟨r3, hr3⟩ : ∃ s, r2 ++ pcB t.dy = s := ⟨_, rfl⟩
       have HR3 : Hid (r2 ++ pcB t.dy = r3) := hr3
       have HLR3 : Hid (r3.length ≤ 33100 + 780) := by show _ ≤ _; rw [← hr3, List.length_append]; have := HLP.out; have := HLR2.out; omega
       rw [hr3] at hBo3; clear hr3
       have hBo := hBo3
       have hB := hB3
       clear hBo3 hB3
       have hBF : Bo B w3 q3 (Q ++ tusE (l.take (k + 1))) := by
        rw [HSJ.out, HEE.out, ← List.append_assoc, HB3.out, ← List.append_assoc, ← List.append_assoc, HR1.out, HR2.out, HR3.out]
        exact hBo
       clear hBo; go_wp2
       go_roundw
       case rel => exact ⟨k + 1, by omega, by go_num, hBF, hB⟩
       case measure => simp [intOf]; omega
  · have ek : k = l.length := by omega
    rw [ek] at hBo ⊢
    have g1 : ¬ (l.length : Int) < (l.length : Int) := by omega
    rw [List.take_length, ← HTE.out] at hBo; obtain ⟨a9, c9, e9, hr9⟩ := hBo.slice; subst e9
    have hbw := HBW.out.size
    have hBw : Below w.heap.size w wr := HBW.out.trans (hB.mono (by rw [← HBB.out]; exact hbw))
    clear hBo ek hk hkn; go_wp2
    go_ret2
    exact ⟨a9, c9, by rw [HE.out.1, HE.out.2]; rfl, by rw [HE.out.1]; exact hr9, hBw⟩
end Go.Proofs.YtngmcghmniakeaaGreat
