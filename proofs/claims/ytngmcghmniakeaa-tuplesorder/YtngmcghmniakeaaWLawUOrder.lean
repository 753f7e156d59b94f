/-
  foundrylaw14.TuplesOrder: the walk.
-/
import Derived.Test.YtngmcghmniakeaaZ32
namespace Go.Proofs.Ytngmcghmniakeaa
open Go.RowKit Go.Maps
set_option linter.unusedSimpArgs false
set_option linter.unusedVariables false

theorem exA_rev (f : Pn → Int) (g : Pa → Int) (tl : Tu → List Int) (o : Ol) (l : List Tu) (cs : List Int) : exA f g tl o l.reverse cs = exA f g tl o l cs := by
  unfold exA
  rw [foT_rev, exL_rev]
theorem exE_rev (o : Ol) (l : List Tu) (cs : List Int) : exE o l.reverse cs = exE o l cs := by
  unfold exE
  rw [foT_rev]
theorem exA_lens (o : Ol) (l : List Tu) (cs : List Int) : (exA Pn.y Pa.dy Tu.dy o l cs).length = (exA Pn.x Pa.dx Tu.dx o l cs).length ∧ ((exA Pn.x Pa.dx Tu.dx o l cs).length ≤ 86) := by
  unfold exA
  cases h : foT o l (cs.length : Int) with
  | false =>
    rw [if_neg (by decide), if_neg (by decide)]
    exact ⟨rfl, Nat.zero_le _⟩
  | true =>
    rw [if_pos rfl, if_pos rfl, exL_len, exL_len]
    exact ⟨rfl, cnt_le (foT_iff.1 h).1⟩
theorem info_tu : (Try.prog.info? 36).map (fun i => (i.zero, i.size, i.bytes)) = some (some (.agg #[.slice none 0 0, .bool false, .slice none 0 0, .slice none 0 0, .slice none 0 0]), 5, 104) := by kernel_rfl
theorem rev_take {l : List Tu} {k : Nat} (hk : k < l.length) : l.reverse.take (k + 1) = l.reverse.take k ++ [l.getD (l.length - 1 - k) Tu.none] := by
  rw [take_snoc (d := Tu.none) (by rw [List.length_reverse]; exact hk)]
  congr 2
  rw [List.getD_eq_getElem?_getD, List.getD_eq_getElem?_getD, List.getElem?_reverse hk]
theorem sgn_same (q : Rat) : sgnQ (q - q) = 0 := by
  rw [Rat.sub_self]
  rfl

set_option maxHeartbeats 8000000 in
set_option maxRecDepth 100000 in
theorem tuplesOrder_any (S : Nat → Prop) (a : Option Addr) (ca : Nat) (b : Option Addr) (cb : Nat) (o : Ol) (la : Option Addr) (lc : Nat) (l : List Tu) (ga : Option Addr) (gc : Nat) (cs : List Int) (w : World) (hc : Gr PnE.row S w a ca o.cs) (hp : Gr PaE S w b cb o.ps) (hl : Gr TuE S w la lc l) (hg : Ri w ga gc cs) :
    Calls Try.prog 4 #[.agg #[.slice a o.cs.length ca, .slice b o.ps.length cb, .slice la l.length lc], .slice ga cs.length gc] w fun e w' => e = .returned (.bool true) ∧ Below w.heap.size w w' := by
  have kl := hl.lenB
  have kg := hg.lenB
  obtain ⟨W, hW, X1, hbW⟩ : ∃ W, W = w.alloc (.cells #[.slice a o.cs.length ca, .slice b o.ps.length cb, .slice la l.length lc] 28) ∧ Bk 28 W w.heap.size [.slice a o.cs.length ca, .slice b o.ps.length cb, .slice la l.length lc] ∧ Below w.heap.size w W := ⟨_, rfl, Bk.new _ _ _, bl1 _⟩
  obtain ⟨p0, p1, p2, _⟩ := X1.three
  replace hc := hc.below hbW
  replace hp := hp.below hbW
  replace hl := hl.below hbW
  replace hg := hg.below hbW
  go_enter Try.func4, Try.ntmps4
  go_upto_region 1 with fail
  rw [← hW]
  clear hW
  go_wp2_with fail
  refine (awake14_any _).mono ?_
  rintro e m1 ⟨rfl, hb1⟩
  replace hc := hc.below hb1
  replace hp := hp.below hb1
  replace hl := hl.below hb1
  replace hg := hg.below hb1
  replace X1 := X1.below hb1
  replace hbW := hbW.trans (hb1.mono hbW.size)
  clear hb1 p0 p1 p2
  obtain ⟨p0, p1, p2, _⟩ := X1.three
  have cf := few14_any S a ca b cb o la lc l ga cs.length gc m1 hc hp hl kg
  cases hq : (fewB o && (fewT l && decide (cs.length ≤ 20))) with
  | false =>
    rw [hq] at cf
    clear hq
    go_wp2_with fail
    refine cf.mono ?_
    rintro e m2 ⟨rfl, hb2⟩
    replace hbW := hbW.trans (hb2.mono hbW.size)
    clear hb2 cf
    go_wp2_with fail
    refine (awake14_any _).mono ?_
    rintro e v9 ⟨rfl, hb9⟩
    replace hbW := hbW.trans (hb9.mono hbW.size)
    clear hb9
    go_wp2
    go_ret
    exact ⟨rfl, hbW⟩
  | true =>
  rw [hq] at cf
  rw [Bool.and_eq_true, Bool.and_eq_true] at hq
  obtain ⟨f1, f2, f3⟩ := fewB_of hq.1
  obtain ⟨f4, f5⟩ := fewT_of hq.2.1
  clear hq
  go_wp2_with fail
  refine cf.mono ?_
  rintro e m2 ⟨rfl, hb2⟩
  replace hc := hc.below hb2
  replace hp := hp.below hb2
  replace hl := hl.below hb2
  replace hg := hg.below hb2
  replace X1 := X1.below hb2
  replace hbW := hbW.trans (hb2.mono hbW.size)
  clear hb2 cf p0 p1 p2
  obtain ⟨p0, p1, p2, _⟩ := X1.three

  have HX1 : Hid (Bk 28 m2 w.heap.size [.slice a o.cs.length ca, .slice b o.ps.length cb, .slice la l.length lc]) := X1
  have HC : Hid (Gr PnE.row S m2 a ca o.cs) := hc
  have HP : Hid (Gr PaE S m2 b cb o.ps) := hp
  have HL : Hid (Gr TuE (fun k => k < m2.heap.size) m2 la lc l) := hl.wide (fun k _ h => h)
  have HG : Hid (Ri m2 ga gc cs) := hg
  have HBW : Hid (Below w.heap.size w m2) := hbW
  have HRE : Hid (_ ∧ _ ∧ _) := ⟨exA_rev Pn.x Pa.dx Tu.dx o l cs, exA_rev Pn.y Pa.dy Tu.dy o l cs, exE_rev o l cs⟩
  have HLS : Hid (_) := exA_lens o l cs
  have HRT : Hid (∀ k, k < l.length → l.reverse.take (k + 1) = l.reverse.take k ++ [l.getD (l.length - 1 - k) Tu.none]) := fun k hk => rev_take hk
  have HRA : Hid (l.reverse.take l.length = l.reverse) := List.take_of_length_le (by rw [List.length_reverse]; exact Nat.le_refl _)
  have HRL : Hid (l.reverse.length = l.length) := List.length_reverse
  clear hc hp hl hg hbW X1
  obtain ⟨n, hn⟩ : ∃ n, l.length = n := ⟨_, rfl⟩
  have HN : Hid (l.length = n) := hn
  rw [hn] at HX1 HRT HRA HRL f4 p2 ⊢
  clear hn kl
  go_wp2
  clear p0 p1 p2
  go_loopw [5, 6] (fun v i wr => ∃ k : Nat, k ≤ n ∧ i = .int .i64 ((n : Int) - 1 - (k : Int)) ∧ Gw TuE 36 m2.heap.size (fun q => q < m2.heap.size) wr v (l.reverse.take k) ∧ Below m2.heap.size m2 wr) (fun _ i _ => (intOf i + 1).toNat)
  case atStart => exact ⟨0, Nat.zero_le _, by exact congrArg (Value.int .i64) (by omega), Gw.nil _ _ _ _ _, Below.refl _ _⟩
  case round =>
    obtain ⟨k, hk, rfl, hG, hB⟩ := hrel
    have hX1 := HX1.out.below hB
    obtain ⟨p0, p1, p2, _⟩ := hX1.three
    by_cases hkn : k < n
    · obtain ⟨i, hi⟩ : ∃ i : Nat, n - 1 - k = i := ⟨_, rfl⟩
      have hii : (n : Int) - 1 - (k : Int) = (i : Int) := by omega
      have HII : Hid ((n : Int) - 1 - ((k + 1 : Nat) : Int) = (i : Int) - 1) := by show _ = _; omega
      have hin : i < n := by omega
      rw [hii]
      obtain ⟨b0, off, ra, rc, pa, pc, xa, xc, ya, yc, ea, hb, ht, d0, d1, d2, d3, d4⟩ := HL.out.tu hB i (by rw [HN.out]; exact hin)
      subst ea
      have HS : Hid (l.reverse.take (k + 1) = l.reverse.take k ++ [l.getD i Tu.none]) := by show _ = _; rw [HRT.out k hkn, hi]
      have hll : (l.reverse.take k).length + 1 ≤ 1000000 := by rw [List.length_take]; omega
      obtain ⟨t, htt⟩ : ∃ t, l.getD i Tu.none = t := ⟨_, rfl⟩
      rw [htt] at ht d0 d1 d2 d3 d4 HS
      generalize l.reverse.take k = L at *
      obtain ⟨a5, c5, rfl, -, -⟩ := hG.slice
      obtain ⟨V, hV, X0, hb0⟩ : ∃ V, V = wr.alloc (.cells #[.slice ra t.rg.length rc, .bool t.al, .slice pa t.pts.length pc, .slice xa t.dx.length xc, .slice ya t.dy.length yc] 36) ∧ Bk 36 V wr.heap.size [.slice ra t.rg.length rc, .bool t.al, .slice pa t.pts.length pc, .slice xa t.dx.length xc, .slice ya t.dy.length yc] ∧ Below wr.heap.size wr V := ⟨_, rfl, Bk.new _ _ _, bl1 _⟩
      have hGb := hG.below hb0
      have hrep : TuE.rep (fun q => (q < m2.heap.size) ∧ (Value.slice a5 L.length c5).ownBlock ≠ some q) V [.slice ra t.rg.length rc, .bool t.al, .slice pa t.pts.length pc, .slice xa t.dx.length xc, .slice ya t.dy.length yc] t := TuE.stay (TuE_rep.2 ⟨ra, rc, pa, pc, xa, xc, ya, yc, rfl, ht⟩) hb0.size (fun q hq hlt => ⟨⟨hq, fun e => by have := (hG.lo e).1; omega⟩, hb0.block q hlt⟩)
      have hone := Gr.one (E := TuE) hrep X0.lt (fun j hj => X0.cell j hj)
      have hBb := hB.trans (hb0.mono hB.size)
      have hbs := hBb.size
      have i1 : (0 : Int) ≤ (i : Int) := by omega
      have i2 : (i : Int) < (n : Int) := by omega
      have i3 : (i : Int) ≥ 0 := i1
      clear hi hii htt ht hrep hX1 hb0
      go_wp2_with (at_builtin; rw [← hV]; refine wpList_append_el 26 36 Try.underlying26 info_tu rfl (by decide) (by decide) rfl _ _ rfl m2.heap.size (fun q => q < m2.heap.size) _ L rfl hGb (some ⟨wr.heap.size, 0, none⟩) 1 1 [t] rfl rfl hone hll hbs ?_)
      intro v9 w9 hT9 hgrow _
      rw [← hV] at hgrow
      have hB9 : Below m2.heap.size m2 w9 := hBb.grown hgrow hbs (fun q hq => (hGb.lo hq).1)
      rw [← HS.out] at hT9
      clear hgrow hGb hone hbs hll HS hBb hG hV X0 d0 d1 d2 d3 d4 p0 p1 p2
      go_wp2
      go_roundw
      case rel => exact ⟨k + 1, by omega, by rw [HII.out], hT9, hB9⟩
      case measure => simp [intOf] <;> omega
    · obtain rfl : k = n := by omega
      have g1 : ¬ (k : Int) - 1 - (k : Int) ≥ 0 := by omega
      have g2 : (k : Int) - 1 - (k : Int) = -1 := by omega
      rw [g2]
      rw [HRA.out] at hG
      obtain ⟨a5, c5, rfl, hgr, -⟩ := hG.slice
      rw [HRL.out]
      have hc := HC.out.below hB
      have hp := HP.out.below hB
      have hl := HL.out.below hB
      have hg := HG.out.below hB
      have hbW := HBW.out.trans (hB.mono HBW.out.size)
      have he1 := uexact_any S a ca b cb o _ la lc l ga gc cs wr hc hp hl hg
      have he2 := fun U (hb : Below wr.heap.size wr U) => uexact_any S a ca b cb o _ a5 c5 l.reverse ga gc cs U (hc.below hb) (hp.below hb) (hgr.below hb) (hg.below hb)
      simp only [HRE.out.1, HRE.out.2.1, HRE.out.2.2, HRL.out] at he2
      rw [HN.out] at he1
      obtain ⟨h86, h87⟩ := HLS.out
      have HNY : Hid ((exA Pn.y Pa.dy Tu.dy o l cs).length = (exA Pn.x Pa.dx Tu.dx o l cs).length) := h86
      clear HRE HLS h86 hG g1 g2
      generalize exA Pn.x Pa.dx Tu.dx o l cs = EX at *
      generalize exA Pn.y Pa.dy Tu.dy o l cs = EY at *
      generalize exE o l cs = EE at *
      rw [HNY.out] at he1 he2
      obtain ⟨N, hN⟩ : ∃ n, EX.length = n := ⟨_, rfl⟩
      have HN0 : Hid (EX.length = N) := hN
      have HN1 : Hid (EX.length = N) := hN
      have HN2 : Hid (EY.length = N) := by show _ = _; rw [HNY.out]; exact hN
      have HN3 : Hid (EY.length = N) := HN2
      rw [hN] at he1 he2 h87
      clear hN HNY
      go_wp2_with fail
      refine he1.mono ?_
      rintro e m5 ⟨x1, y1, x2, y2, rfl, hZ0, hZ2, hb1⟩
      have hX2 := hX1.below hb1
      clear p0 p1 p2
      obtain ⟨p0, p1, p2, _⟩ := hX2.three
      go_wp2_with fail
      refine (he2 _ hb1).mono ?_
      rintro e m6 ⟨x3, y3, x4, y4, rfl, hZ1, hZ3, hb2⟩
      have HZ0 : Hid (Rf m6 x1 y1 900 EX) := (hZ0.below hb2).1
      have HZ2 : Hid (Rf m6 x2 y2 900 EY) := (hZ2.below hb2).1
      have HZ1 : Hid (Rf m6 x3 y3 900 EX) := hZ1.1
      have HZ3 : Hid (Rf m6 x4 y4 900 EY) := hZ3.1
      have HBF : Hid (Below w.heap.size w m6) := (hbW.trans (hb1.mono hbW.size)).trans (hb2.mono (Nat.le_trans hbW.size hb1.size))
      clear he1 he2 hZ0 hZ1 hZ2 hZ3 hb1 hb2 hbW hc hp hl hg hgr p0 p1 p2 hX1 hX2 hB
      go_wp2
      go_loopw [13] (fun i wr => ∃ j : Nat, j ≤ N ∧ i = .int .i64 j ∧ Below m6.heap.size m6 wr) (fun i _ => N - (intOf i).toNat)
      case atStart => exact ⟨0, Nat.zero_le _, rfl, Below.refl _ _⟩
      case round =>
        obtain ⟨j, hj, rfl, hB⟩ := hrel
        by_cases hjn : j < N
        · obtain ⟨b0, o0, r0, s0, t0, ea0, hb0, d00, d01, d02, hF0⟩ := HZ0.out.1.at hB j (by rw [HN0.out]; exact hjn)
          subst ea0
          obtain ⟨n0, e01, e02, e03, e04, e05, e06, e9⟩ := hF0.cells3'
          simp only [Value.agg.injEq, Array.mk.injEq, List.cons.injEq, and_true] at e9
          obtain ⟨rfl, rfl, rfl⟩ := e9
          obtain ⟨b1, o1, r1, s1, t1, ea1, hb1, d10, d11, d12, hF1⟩ := HZ1.out.1.at hB j (by rw [HN1.out]; exact hjn)
          subst ea1
          obtain ⟨n1, e11, e12, e13, e14, e15, e16, e9⟩ := hF1.cells3'
          simp only [Value.agg.injEq, Array.mk.injEq, List.cons.injEq, and_true] at e9
          obtain ⟨rfl, rfl, rfl⟩ := e9
          obtain ⟨b2, o2, r2, s2, t2, ea2, hb2, d20, d21, d22, hF2⟩ := HZ2.out.1.at hB j (by rw [HN2.out]; exact hjn)
          subst ea2
          obtain ⟨n2, e21, e22, e23, e24, e25, e26, e9⟩ := hF2.cells3'
          simp only [Value.agg.injEq, Array.mk.injEq, List.cons.injEq, and_true] at e9
          obtain ⟨rfl, rfl, rfl⟩ := e9
          obtain ⟨b3, o3, r3, s3, t3, ea3, hb3, d30, d31, d32, hF3⟩ := HZ3.out.1.at hB j (by rw [HN3.out]; exact hjn)
          subst ea3
          obtain ⟨n3, e31, e32, e33, e34, e35, e36, e9⟩ := hF3.cells3'
          simp only [Value.agg.injEq, Array.mk.injEq, List.cons.injEq, and_true] at e9
          obtain ⟨rfl, rfl, rfl⟩ := e9
          generalize EX.getD j 0 = qx at *
          generalize EY.getD j 0 = qy at *
          have hs1 : sgnQ (qx - qx) = 0 := sgn_same qx
          have hs2 : sgnQ (qy - qy) = 0 := sgn_same qy
          have hc1 := fun U (h1 : Fr U _ 900 qx) (h2 : Fr U _ 900 qx) => qcmp_any 900 900 qx qx (.agg #[.bool n0, .slice e01 e02 e03, .slice e04 e05 e06]) (.agg #[.bool n1, .slice e11 e12 e13, .slice e14 e15 e16]) U h1.ct h2.ct (by decide) (by decide) (by decide) (by decide)
          have hc2 := fun U (h1 : Fr U _ 900 qy) (h2 : Fr U _ 900 qy) => qcmp_any 900 900 qy qy (.agg #[.bool n2, .slice e21 e22 e23, .slice e24 e25 e26]) (.agg #[.bool n3, .slice e31 e32 e33, .slice e34 e35 e36]) U h1.ct h2.ct (by decide) (by decide) (by decide) (by decide)
          simp only [hs1] at hc1
          simp only [hs2] at hc2
          have i1 : (0 : Int) ≤ (j : Int) := by omega
          have i2 : (j : Int) < (N : Int) := by omega
          have i3 : j < N := hjn
          clear hs1 hs2
          go_upto_region 15 with fail
          refine wp_region_held_drew (S := fun w9 => w9.cell? ⟨b0, o0 + j * 3, none⟩ = some (.bool n0) ∧ w9.cell? ⟨b0, o0 + j * 3 + 1, none⟩ = some (.slice e01 e02 e03) ∧ w9.cell? ⟨b0, o0 + j * 3 + 2, none⟩ = some (.slice e04 e05 e06) ∧ w9.cell? ⟨b1, o1 + j * 3, none⟩ = some (.bool n1) ∧ w9.cell? ⟨b1, o1 + j * 3 + 1, none⟩ = some (.slice e11 e12 e13) ∧ w9.cell? ⟨b1, o1 + j * 3 + 2, none⟩ = some (.slice e14 e15 e16) ∧ w9.cell? ⟨b2, o2 + j * 3, none⟩ = some (.bool n2) ∧ w9.cell? ⟨b2, o2 + j * 3 + 1, none⟩ = some (.slice e21 e22 e23) ∧ w9.cell? ⟨b2, o2 + j * 3 + 2, none⟩ = some (.slice e24 e25 e26) ∧ w9.cell? ⟨b3, o3 + j * 3, none⟩ = some (.bool n3) ∧ w9.cell? ⟨b3, o3 + j * 3 + 1, none⟩ = some (.slice e31 e32 e33) ∧ w9.cell? ⟨b3, o3 + j * 3 + 2, none⟩ = some (.slice e34 e35 e36)) (by kernel_rfl) ?_ (fun hHeld => ?_)
          · (try dsimp only)
            go_keep
          have hdr : Below wr.heap.size wr wr.drew := Below.drew1
          generalize wr.drew = Z at hdr hHeld ⊢
          have hl0 : b0 < wr.heap.size := Nat.lt_of_lt_of_le hb0 hB.size
          have hl1 : b1 < wr.heap.size := Nat.lt_of_lt_of_le hb1 hB.size
          have hl2 : b2 < wr.heap.size := Nat.lt_of_lt_of_le hb2 hB.size
          have hl3 : b3 < wr.heap.size := Nat.lt_of_lt_of_le hb3 hB.size
          replace hF0 := hF0.below hdr
          replace d00 := (hdr.cell (p := ⟨b0, o0 + j * 3, none⟩) hl0).trans d00
          replace d01 := (hdr.cell (p := ⟨b0, o0 + j * 3 + 1, none⟩) hl0).trans d01
          replace d02 := (hdr.cell (p := ⟨b0, o0 + j * 3 + 2, none⟩) hl0).trans d02
          replace hF1 := hF1.below hdr
          replace d10 := (hdr.cell (p := ⟨b1, o1 + j * 3, none⟩) hl1).trans d10
          replace d11 := (hdr.cell (p := ⟨b1, o1 + j * 3 + 1, none⟩) hl1).trans d11
          replace d12 := (hdr.cell (p := ⟨b1, o1 + j * 3 + 2, none⟩) hl1).trans d12
          replace hF2 := hF2.below hdr
          replace d20 := (hdr.cell (p := ⟨b2, o2 + j * 3, none⟩) hl2).trans d20
          replace d21 := (hdr.cell (p := ⟨b2, o2 + j * 3 + 1, none⟩) hl2).trans d21
          replace d22 := (hdr.cell (p := ⟨b2, o2 + j * 3 + 2, none⟩) hl2).trans d22
          replace hF3 := hF3.below hdr
          replace d30 := (hdr.cell (p := ⟨b3, o3 + j * 3, none⟩) hl3).trans d30
          replace d31 := (hdr.cell (p := ⟨b3, o3 + j * 3 + 1, none⟩) hl3).trans d31
          replace d32 := (hdr.cell (p := ⟨b3, o3 + j * 3 + 2, none⟩) hl3).trans d32
          replace hB := hB.trans (hdr.mono hB.size)
          replace hl0 := Nat.lt_of_lt_of_le hl0 hdr.size
          replace hl1 := Nat.lt_of_lt_of_le hl1 hdr.size
          replace hl2 := Nat.lt_of_lt_of_le hl2 hdr.size
          replace hl3 := Nat.lt_of_lt_of_le hl3 hdr.size
          clear hdr
          refine hT 0 hHeld ?_
          refine hT 1 hHeld ?_
          refine hT 2 hHeld ?_
          refine hT 3 hHeld ?_
          refine hT 4 hHeld ?_
          refine hT 5 hHeld ?_
          refine hT 6 hHeld ?_
          refine hT 7 hHeld ?_
          refine hCall (i := 8) rfl (by kernel_rfl) (by rfl) (fun K hK => ?_)
          go_simp
          refine (hc1 _ hF0 hF1).mono ?_
          rintro e z1 ⟨rfl, hb9⟩
          replace hF0 := hF0.below hb9
          replace d00 := (hb9.cell (p := ⟨b0, o0 + j * 3, none⟩) hl0).trans d00
          replace d01 := (hb9.cell (p := ⟨b0, o0 + j * 3 + 1, none⟩) hl0).trans d01
          replace d02 := (hb9.cell (p := ⟨b0, o0 + j * 3 + 2, none⟩) hl0).trans d02
          replace hF1 := hF1.below hb9
          replace d10 := (hb9.cell (p := ⟨b1, o1 + j * 3, none⟩) hl1).trans d10
          replace d11 := (hb9.cell (p := ⟨b1, o1 + j * 3 + 1, none⟩) hl1).trans d11
          replace d12 := (hb9.cell (p := ⟨b1, o1 + j * 3 + 2, none⟩) hl1).trans d12
          replace hF2 := hF2.below hb9
          replace d20 := (hb9.cell (p := ⟨b2, o2 + j * 3, none⟩) hl2).trans d20
          replace d21 := (hb9.cell (p := ⟨b2, o2 + j * 3 + 1, none⟩) hl2).trans d21
          replace d22 := (hb9.cell (p := ⟨b2, o2 + j * 3 + 2, none⟩) hl2).trans d22
          replace hF3 := hF3.below hb9
          replace d30 := (hb9.cell (p := ⟨b3, o3 + j * 3, none⟩) hl3).trans d30
          replace d31 := (hb9.cell (p := ⟨b3, o3 + j * 3 + 1, none⟩) hl3).trans d31
          replace d32 := (hb9.cell (p := ⟨b3, o3 + j * 3 + 2, none⟩) hl3).trans d32
          replace hB := hB.trans (hb9.mono hB.size)
          replace hl0 := Nat.lt_of_lt_of_le hl0 hb9.size
          replace hl1 := Nat.lt_of_lt_of_le hl1 hb9.size
          replace hl2 := Nat.lt_of_lt_of_le hl2 hb9.size
          replace hl3 := Nat.lt_of_lt_of_le hl3 hb9.size
          clear hb9 hc1
          go_wp2_with fail
          refine hK.out _ _ ?_ (fun hHeld => ?_)
          · (try dsimp only)
            exact ⟨d00, d01, d02, d10, d11, d12, d20, d21, d22, d30, d31, d32⟩
          clear hK K
          try simp only [Act.put, List.setIfInBounds_toArray, List.set_cons_zero, List.set_cons_succ]
          refine hT 9 hHeld ?_
          refine hT 10 hHeld ?_
          refine hT 11 hHeld ?_
          refine hT 12 hHeld ?_
          refine hT 13 hHeld ?_
          refine hT 14 hHeld ?_
          refine hT 15 hHeld ?_
          refine hT 16 hHeld ?_
          refine hT 17 hHeld ?_
          refine hT 18 hHeld ?_
          refine hCall (i := 19) rfl (by kernel_rfl) (by rfl) (fun K hK => ?_)
          go_simp
          refine (hc2 _ hF2 hF3).mono ?_
          rintro e z2 ⟨rfl, hb9⟩
          replace hF0 := hF0.below hb9
          replace d00 := (hb9.cell (p := ⟨b0, o0 + j * 3, none⟩) hl0).trans d00
          replace d01 := (hb9.cell (p := ⟨b0, o0 + j * 3 + 1, none⟩) hl0).trans d01
          replace d02 := (hb9.cell (p := ⟨b0, o0 + j * 3 + 2, none⟩) hl0).trans d02
          replace hF1 := hF1.below hb9
          replace d10 := (hb9.cell (p := ⟨b1, o1 + j * 3, none⟩) hl1).trans d10
          replace d11 := (hb9.cell (p := ⟨b1, o1 + j * 3 + 1, none⟩) hl1).trans d11
          replace d12 := (hb9.cell (p := ⟨b1, o1 + j * 3 + 2, none⟩) hl1).trans d12
          replace hF2 := hF2.below hb9
          replace d20 := (hb9.cell (p := ⟨b2, o2 + j * 3, none⟩) hl2).trans d20
          replace d21 := (hb9.cell (p := ⟨b2, o2 + j * 3 + 1, none⟩) hl2).trans d21
          replace d22 := (hb9.cell (p := ⟨b2, o2 + j * 3 + 2, none⟩) hl2).trans d22
          replace hF3 := hF3.below hb9
          replace d30 := (hb9.cell (p := ⟨b3, o3 + j * 3, none⟩) hl3).trans d30
          replace d31 := (hb9.cell (p := ⟨b3, o3 + j * 3 + 1, none⟩) hl3).trans d31
          replace d32 := (hb9.cell (p := ⟨b3, o3 + j * 3 + 2, none⟩) hl3).trans d32
          replace hB := hB.trans (hb9.mono hB.size)
          clear hb9 hc2
          go_wp2_with fail
          refine hK.out _ _ ?_ (fun hHeld => ?_)
          · (try dsimp only)
            exact ⟨d00, d01, d02, d10, d11, d12, d20, d21, d22, d30, d31, d32⟩
          clear hK K
          try simp only [Act.put, List.setIfInBounds_toArray, List.set_cons_zero, List.set_cons_succ]
          refine hT 20 hHeld ?_
          refine hT 21 hHeld ?_
          refine wpAnyH_done (by kernel_rfl) ?_ _
          clear hHeld hF0 hF1 hF2 hF3 d00 d01 d02 d10 d11 d12 d20 d21 d22 d30 d31 d32
          go_wp2
          go_roundw
          case rel => exact ⟨j + 1, by omega, by go_num, hB⟩
          case measure => simp [intOf]; omega
        · obtain rfl : j = N := by omega
          have g9 : ¬ (j : Int) < (j : Int) := by omega
          have hfin := HBF.out.trans (hB.mono HBF.out.size)
          clear hB
          go_wp2
          go_ret
          exact ⟨rfl, hfin⟩

end Go.Proofs.Ytngmcghmniakeaa
