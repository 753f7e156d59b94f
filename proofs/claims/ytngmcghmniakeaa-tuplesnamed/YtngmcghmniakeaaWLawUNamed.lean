/-
  foundrylaw14.TuplesNamed: the walk.
-/
import Derived.Test.YtngmcghmniakeaaWLawUOrder
import Derived.Test.YtngmcghmniakeaaZ30
namespace Go.Proofs.Ytngmcghmniakeaa
open Go.RowKit Go.Maps
set_option linter.unusedSimpArgs false
set_option linter.unusedVariables false

theorem nmA_take {l : List Tu} {n k : Nat} (hk : k < l.length) : (l.map (nmA n)).take (k + 1) = (l.map (nmA n)).take k ++ [nmA n (l.getD k Tu.none)] := by
  rw [take_snoc (d := Tu.none) (by rw [List.length_map]; exact hk)]
  congr 2
  simp [List.getD, hk]

set_option maxHeartbeats 8000000 in
set_option maxRecDepth 100000 in
theorem tuplesNamed_any (S : Nat → Prop) (a : Option Addr) (ca : Nat) (b : Option Addr) (cb : Nat) (o : Ol) (la : Option Addr) (lc : Nat) (l : List Tu) (ga : Option Addr) (gc : Nat) (cs : List Int) (w : World) (hc : Gr PnE.row S w a ca o.cs) (hp : Gr PaE S w b cb o.ps) (hl : Gr TuE S w la lc l) (hg : Ri w ga gc cs) :
    Calls Try.prog 5 #[.agg #[.slice a o.cs.length ca, .slice b o.ps.length cb, .slice la l.length lc], .slice ga cs.length gc] w fun e w' => e = .returned (.bool true) ∧ Below w.heap.size w w' := by
  have kl := hl.lenB
  have kg := hg.lenB
  obtain ⟨W, hW, X1, hbW⟩ : ∃ W, W = w.alloc (.cells #[.slice a o.cs.length ca, .slice b o.ps.length cb, .slice la l.length lc] 28) ∧ Bk 28 W w.heap.size [.slice a o.cs.length ca, .slice b o.ps.length cb, .slice la l.length lc] ∧ Below w.heap.size w W := ⟨_, rfl, Bk.new _ _ _, bl1 _⟩
  obtain ⟨p0, p1, p2, _⟩ := X1.three
  replace hc := hc.below hbW
  replace hp := hp.below hbW
  replace hl := hl.below hbW
  replace hg := hg.below hbW
  go_enter Try.func5, Try.ntmps5
  go_upto_region 1 with fail
  rw [← hW]
  clear hW
  go_wp2_with fail
  refine (awake14_any _).mono ?_
  rintro e m1 ⟨rfl, hb1⟩
  replace hc := hc.below hb1
  replace hp := hp.below hb1
  replace hl := hl.below hb1
  replace hg := hg.below hb1
  replace X1 := X1.below hb1
  replace hbW := hbW.trans (hb1.mono hbW.size)
  clear hb1 p0 p1 p2
  obtain ⟨p0, p1, p2, _⟩ := X1.three
  have cf := few14_any S a ca b cb o la lc l ga cs.length gc m1 hc hp hl kg
  cases hq : (fewB o && (fewT l && decide (cs.length ≤ 20))) with
  | false =>
    rw [hq] at cf
    clear hq
    go_wp2_with fail
    refine cf.mono ?_
    rintro e m2 ⟨rfl, hb2⟩
    replace hbW := hbW.trans (hb2.mono hbW.size)
    clear hb2 cf
    go_wp2_with fail
    refine (awake14_any _).mono ?_
    rintro e v9 ⟨rfl, hb9⟩
    replace hbW := hbW.trans (hb9.mono hbW.size)
    clear hb9
    go_wp2
    go_ret
    exact ⟨rfl, hbW⟩
  | true =>
  rw [hq] at cf
  rw [Bool.and_eq_true, Bool.and_eq_true] at hq
  obtain ⟨f1, f2, f3⟩ := fewB_of hq.1
  obtain ⟨f4, f5⟩ := fewT_of hq.2.1
  clear hq
  go_wp2_with fail
  refine cf.mono ?_
  rintro e m2 ⟨rfl, hb2⟩
  replace hc := hc.below hb2
  replace hp := hp.below hb2
  replace hl := hl.below hb2
  replace hg := hg.below hb2
  replace X1 := X1.below hb2
  replace hbW := hbW.trans (hb2.mono hbW.size)
  clear hb2 cf p0 p1 p2
  obtain ⟨p0, p1, p2, _⟩ := X1.three

  have cu := cformU_any S a ca b cb o S la lc l (cs.length : Int) m2 hc hp hl (by unfold I64; omega)
  cases hfo : foT o l (cs.length : Int) with
  | false =>
    rw [hfo] at cu
    clear hfo
    go_wp2_with fail
    refine cu.mono ?_
    rintro e m3 ⟨rfl, hb2⟩
    replace hbW := hbW.trans (hb2.mono hbW.size)
    clear hb2 cu
    go_wp2_with fail
    refine (awake14_any _).mono ?_
    rintro e v9 ⟨rfl, hb9⟩
    replace hbW := hbW.trans (hb9.mono hbW.size)
    clear hb9
    go_wp2
    go_ret
    exact ⟨rfl, hbW⟩
  | true =>
  rw [hfo] at cu
  have HCN : Hid (cntO o ≤ 86) := cnt_le (foT_iff.1 hfo).1
  have HX : Hid (exA Pn.x Pa.dx Tu.dx o l cs = exL Pn.x Pa.dx Tu.dx o l cs ∧ exA Pn.y Pa.dy Tu.dy o l cs = exL Pn.y Pa.dy Tu.dy o l cs ∧ exE o l cs = 0) := ⟨exA_yes hfo, exA_yes hfo, exE_yes hfo⟩
  have HXN : Hid (exA Pn.x Pa.dx Tu.dx o (l.map (nmA (cntO o))) cs = exL Pn.x Pa.dx Tu.dx o l cs ∧ exA Pn.y Pa.dy Tu.dy o (l.map (nmA (cntO o))) cs = exL Pn.y Pa.dy Tu.dy o l cs ∧ exE o (l.map (nmA (cntO o))) cs = 0) := by
    have h2 := foT_named hfo
    exact ⟨(exA_yes h2).trans (exL_named hfo (.inl rfl)), (exA_yes h2).trans (exL_named hfo (.inr rfl)), exE_yes h2⟩
  clear hfo
  go_wp2_with fail
  refine cu.mono ?_
  rintro e m3 ⟨rfl, hb2⟩
  replace hc := hc.below hb2
  replace hp := hp.below hb2
  replace hl := hl.below hb2
  replace hg := hg.below hb2
  replace X1 := X1.below hb2
  replace hbW := hbW.trans (hb2.mono hbW.size)
  clear hb2 cu p0 p1 p2
  obtain ⟨p0, p1, p2, _⟩ := X1.three
  go_wp2_with fail
  refine (ccount_any S a ca b cb o _ hc hp (by omega) (by omega)).mono ?_
  rintro e m4 ⟨rfl, hb2⟩
  replace hc := hc.below hb2
  replace hp := hp.below hb2
  replace hl := hl.below hb2
  replace hg := hg.below hb2
  replace X1 := X1.below hb2
  replace hbW := hbW.trans (hb2.mono hbW.size)
  clear hb2 p0 p1 p2
  obtain ⟨n, hn⟩ : ∃ n, cntO o = n := ⟨_, rfl⟩
  have HN : Hid (cntO o = n) := hn
  rw [hn] at HCN HXN ⊢
  have hn86 := HCN.out
  have HX1 : Hid (Bk 28 m4 w.heap.size [.slice a o.cs.length ca, .slice b o.ps.length cb, .slice la l.length lc]) := X1
  have HC : Hid (Gr PnE.row S m4 a ca o.cs) := hc
  have HP : Hid (Gr PaE S m4 b cb o.ps) := hp
  have HL : Hid (Gr TuE (fun q => q < m4.heap.size) m4 la lc l) := hl.wide (fun k _ h => h)
  have HG : Hid (Ri m4 ga gc cs) := hg
  have HBW : Hid (Below w.heap.size w m4) := hbW
  clear hc hp hl hg hbW X1 hn kl
  go_wp2
  go_loopw [6, 7] (fun v i wr => ∃ k : Nat, k ≤ l.length ∧ i = .int .i64 k ∧ Gw TuE 36 m4.heap.size (fun q => q < wr.heap.size) wr v ((l.map (nmA n)).take k) ∧ Below m4.heap.size m4 wr) (fun _ i _ => l.length - (intOf i).toNat)
  case atStart => exact ⟨0, Nat.zero_le _, rfl, Gw.nil _ _ _ _ _, Below.refl _ _⟩
  case round =>
    obtain ⟨k, hk, rfl, hG, hB⟩ := hrel
    have hX1 := HX1.out.below hB
    obtain ⟨p0, p1, p2, _⟩ := hX1.three
    by_cases hkn : k < l.length
    · obtain ⟨b0, off, ra, rc, pa, pc, xa, xc, ya, yc, ea, hb, ht, d0, d1, d2, d3, d4⟩ := HL.out.tu hB k hkn
      subst ea
      have HS0 : Hid ((l.map (nmA n)).take (k + 1) = (l.map (nmA n)).take k ++ [nmA n (l.getD k Tu.none)]) := nmA_take hkn
      have hll : ((l.map (nmA n)).take k).length + 1 ≤ 1000000 := by rw [List.length_take]; omega
      obtain ⟨t, htt⟩ : ∃ t, l.getD k Tu.none = t := ⟨_, rfl⟩
      rw [htt] at ht d0 d1 d2 d3 d4 HS0
      generalize (l.map (nmA n)).take k = L at *
      obtain ⟨a6, c6, rfl, -, -⟩ := hG.slice
      obtain ⟨V, hV, XT, hb0⟩ : ∃ V, V = wr.alloc (.cells #[.slice ra t.rg.length rc, .bool t.al, .slice pa t.pts.length pc, .slice xa t.dx.length xc, .slice ya t.dy.length yc] 36) ∧ Bk 36 V wr.heap.size [.slice ra t.rg.length rc, .bool t.al, .slice pa t.pts.length pc, .slice xa t.dx.length xc, .slice ya t.dy.length yc] ∧ Below wr.heap.size wr V := ⟨_, rfl, Bk.new _ _ _, bl1 _⟩
      have hGU := hG.below hb0
      have HGO : Hid (∀ q, (Value.slice a6 L.length c6).ownBlock = some q → q ≠ wr.heap.size) := fun q hq e => by have := (hG.lo hq).2; omega
      have hBU := hB.trans (hb0.mono hB.size)
      have hBs := hB.size
      replace ht := ht.below hb0
      have i1 : (0 : Int) ≤ (k : Int) := by omega
      have i2 : (k : Int) < (l.length : Int) := by omega
      go_upto_region 9 with fail
      rw [← hV]
      clear hV d0 d1 d2 d3 d4 htt hG p0 p1 p2
      cases hal : t.al with
      | false =>
        have HS : Hid ((l.map (nmA n)).take (k + 1) = L ++ [t]) := by show _ = _; rw [HS0.out]; unfold nmA; rw [if_neg (by rw [hal]; simp)]
        obtain ⟨q0, q1, q2, q3, q4, _⟩ := XT.five
        rw [hal] at q1
        have XT2 := XT
        rw [hal] at XT
        obtain ⟨U, hU⟩ : ∃ U, U = V := ⟨_, rfl⟩
        subst hU
        clear HS0
        obtain ⟨V9, hV9, Y9, hb9⟩ : ∃ V, V = U.alloc (.cells #[.slice ra t.rg.length rc, .bool false, .slice pa t.pts.length pc, .slice xa t.dx.length xc, .slice ya t.dy.length yc] 36) ∧ Bk 36 V U.heap.size [.slice ra t.rg.length rc, .bool false, .slice pa t.pts.length pc, .slice xa t.dx.length xc, .slice ya t.dy.length yc] ∧ Below U.heap.size U V := ⟨_, rfl, Bk.new _ _ _, bl1 _⟩
        obtain ⟨y0, y1, y2, y3, y4, _⟩ := XT.five

        have hGb := hGU.below hb9
        have hG2 : Gw TuE 36 m4.heap.size (fun q => q < V9.heap.size) V9 (.slice a6 L.length c6) L := hGb.widenU (fun q h1 h2 => h2)
        have hrep : TuE.rep (fun q => (q < V9.heap.size) ∧ (Value.slice a6 L.length c6).ownBlock ≠ some q) V9 [.slice ra t.rg.length rc, .bool false, .slice pa t.pts.length pc, .slice xa t.dx.length xc, .slice ya t.dy.length yc] t := TuE.stay (S := fun q => q < U.heap.size ∧ (Value.slice a6 L.length c6).ownBlock ≠ some q) (TuE.stay (TuE_rep.2 ⟨ra, rc, pa, pc, xa, xc, ya, yc, by rw [hal], ht⟩) (Nat.le_refl _) (fun q hq hlt => ⟨⟨hlt, fun e => by have := (hGU.lo e).1; omega⟩, rfl⟩)) hb9.size (fun q hq hlt => ⟨⟨Nat.lt_of_lt_of_le hlt hb9.size, hq.2⟩, hb9.block q hlt⟩)
        have hone := Gr.one (E := TuE) hrep Y9.lt (fun j hj => Y9.cell j hj)
        have hBb : Below m4.heap.size m4 V9 := hBU.trans (hb9.mono hBU.size)
        have hbs := hBb.size
        clear hrep hGb hGU
        go_wp2_with (at_builtin; rw [← hV9]; refine wpList_append_el 26 36 Try.underlying26 info_tu rfl (by decide) (by decide) rfl _ _ rfl m4.heap.size (fun q => q < V9.heap.size) _ L rfl hG2 (some ⟨U.heap.size, 0, none⟩) 1 1 [t] rfl rfl hone hll hbs ?_)
        intro v9 w9 hT9 hgrow _
        rw [← hV9] at hgrow
        have hB9 : Below m4.heap.size m4 w9 := hBb.grown hgrow hbs (fun q hq => (hG2.lo hq).1)
        have hT9 := hT9.widenU (S' := fun q => q < w9.heap.size) (fun q h1 h2 => h2)
        rw [← HS.out] at hT9
        clear hgrow hG2 hone hbs hll HS hBb hV9 Y9 y0 y1 y2 y3 y4 XT hb9
        go_wp2
        go_roundw
        case rel => exact ⟨k + 1, by omega, by go_num, hT9, hB9⟩
        case measure => simp [intOf]; omega
      | true =>
        by_cases hn0 : 0 < n
        rotate_left
        · have HS : Hid ((l.map (nmA n)).take (k + 1) = L ++ [t]) := by show _ = _; rw [HS0.out]; unfold nmA; rw [if_neg (fun h => hn0 h.2)]
          have g5 : decide ((n : Int) > 0) = false := decide_eq_false (by omega)
          have g6 : ¬ 0 < n := hn0
          obtain ⟨q0, q1, q2, q3, q4, _⟩ := XT.five
          rw [hal] at q1
          rw [hal] at XT
          obtain ⟨U, hU⟩ : ∃ U, U = V := ⟨_, rfl⟩
          subst hU
          clear HS0
          obtain ⟨V9, hV9, Y9, hb9⟩ : ∃ V, V = U.alloc (.cells #[.slice ra t.rg.length rc, .bool true, .slice pa t.pts.length pc, .slice xa t.dx.length xc, .slice ya t.dy.length yc] 36) ∧ Bk 36 V U.heap.size [.slice ra t.rg.length rc, .bool true, .slice pa t.pts.length pc, .slice xa t.dx.length xc, .slice ya t.dy.length yc] ∧ Below U.heap.size U V := ⟨_, rfl, Bk.new _ _ _, bl1 _⟩
          obtain ⟨y0, y1, y2, y3, y4, _⟩ := XT.five

          have hGb := hGU.below hb9
          have hG2 : Gw TuE 36 m4.heap.size (fun q => q < V9.heap.size) V9 (.slice a6 L.length c6) L := hGb.widenU (fun q h1 h2 => h2)
          have hrep : TuE.rep (fun q => (q < V9.heap.size) ∧ (Value.slice a6 L.length c6).ownBlock ≠ some q) V9 [.slice ra t.rg.length rc, .bool true, .slice pa t.pts.length pc, .slice xa t.dx.length xc, .slice ya t.dy.length yc] t := TuE.stay (S := fun q => q < U.heap.size ∧ (Value.slice a6 L.length c6).ownBlock ≠ some q) (TuE.stay (TuE_rep.2 ⟨ra, rc, pa, pc, xa, xc, ya, yc, by rw [hal], ht⟩) (Nat.le_refl _) (fun q hq hlt => ⟨⟨hlt, fun e => by have := (hGU.lo e).1; omega⟩, rfl⟩)) hb9.size (fun q hq hlt => ⟨⟨Nat.lt_of_lt_of_le hlt hb9.size, hq.2⟩, hb9.block q hlt⟩)
          have hone := Gr.one (E := TuE) hrep Y9.lt (fun j hj => Y9.cell j hj)
          have hBb : Below m4.heap.size m4 V9 := hBU.trans (hb9.mono hBU.size)
          have hbs := hBb.size
          clear hrep hGb hGU
          go_wp2_with (at_builtin; rw [← hV9]; refine wpList_append_el 26 36 Try.underlying26 info_tu rfl (by decide) (by decide) rfl _ _ rfl m4.heap.size (fun q => q < V9.heap.size) _ L rfl hG2 (some ⟨U.heap.size, 0, none⟩) 1 1 [t] rfl rfl hone hll hbs ?_)
          intro v9 w9 hT9 hgrow _
          rw [← hV9] at hgrow
          have hB9 : Below m4.heap.size m4 w9 := hBb.grown hgrow hbs (fun q hq => (hG2.lo hq).1)
          have hT9 := hT9.widenU (S' := fun q => q < w9.heap.size) (fun q h1 h2 => h2)
          rw [← HS.out] at hT9
          clear hgrow hG2 hone hbs hll HS hBb hV9 Y9 y0 y1 y2 y3 y4 XT hb9
          go_wp2
          go_roundw
          case rel => exact ⟨k + 1, by omega, by go_num, hT9, hB9⟩
          case measure => simp [intOf]; omega
        · have HS : Hid ((l.map (nmA n)).take (k + 1) = L ++ [⟨t.rg, false, allI n, t.dx, t.dy⟩]) := by show _ = _; rw [HS0.out]; unfold nmA; rw [if_pos ⟨hal, hn0⟩]
          have g5 : decide ((n : Int) > 0) = true := decide_eq_true (by omega)
          obtain ⟨q0, q1, q2, q3, q4, f0, f1, f2, f3, f4⟩ := XT.five
          rw [hal] at q1
          have hltT := XT.lt
          have Y1 := (XT.set 1 (.bool false)).set 2 (.slice none 0 0)
          have hKV : Kp wr.heap.size V ((V.setCell ⟨wr.heap.size, 1, none⟩ (.bool false)).setCell ⟨wr.heap.size, 2, none⟩ (.slice none 0 0)) := ((Kp.refl _ _).setCell 1 _).setCell 2 _
          clear HS0
          go_upto_region 12 with fail
          clear q0 q1 q2 q3 q4 f0 f1 f2 f3 f4
          obtain ⟨V2, hV2⟩ : ∃ V2, (V.setCell ⟨wr.heap.size, 1, none⟩ (.bool false)).setCell ⟨wr.heap.size, 2, none⟩ (.slice none 0 0) = V2 := ⟨_, rfl⟩
          rw [hV2] at Y1 hKV ⊢
          clear hV2
          have HY1 : Hid (Bk 36 V2 wr.heap.size [.slice ra t.rg.length rc, .bool false, .slice none 0 0, .slice xa t.dx.length xc, .slice ya t.dy.length yc]) := Y1
          have HKV : Hid (Kp wr.heap.size V V2) := hKV
          have HGU : Hid (Gw TuE 36 m4.heap.size (fun q => q < wr.heap.size) V (.slice a6 L.length c6) L) := hGU
          have HBU : Hid (Below m4.heap.size m4 V) := hBU
          have HT0 : Hid (TuC (fun q => q < m4.heap.size) V ra rc pa pc xa xc ya yc t) := ht
          obtain ⟨wo, hwo⟩ : ∃ n, wr.heap.size = n := ⟨_, rfl⟩
          rw [hwo] at HY1 HKV HGU HGO hltT hBs ⊢
          have hV2s := hKV.size
          clear Y1 hKV hGU hBU ht XT hX1 hb0 hB
          go_wp2
          go_loopw [9] (fun i wr => ∃ (r : Nat) (pv : Value), r ≤ n ∧ i = .int .i64 r ∧ Bk 36 wr wo [.slice ra t.rg.length rc, .bool false, pv, .slice xa t.dx.length xc, .slice ya t.dy.length yc] ∧ Gi V2.heap.size wr pv (allI r) ∧ Kp wo V2 wr) (fun i _ => n - (intOf i).toNat)
          case atStart => exact ⟨0, .slice none 0 0, Nat.zero_le _, rfl, HY1.out, Gi.nil _ _, Kp.refl _ _⟩
          case round =>
            rename World => wi
            obtain ⟨r, pv, hr, rfl, hY, hI, hKi⟩ := hrel
            obtain ⟨a7, c7, rfl, hra7, hb7⟩ := hI.slice
            have hlen := allI_len r
            have his := hKi.size
            by_cases hrn : r < n
            · obtain ⟨q0, q1, q2, q3, q4, f0, f1, f2, f3, f4⟩ := hY.five
              have HSI : Hid (allI (r + 1) = allI r ++ [(r : Int)]) := allI_succ r
              have hll2 : (allI r).length + 1 ≤ 1000000 := by omega
              have hri : I64 (r : Int) := by unfold I64; omega
              obtain ⟨V3, hV3, c1, hbV3, hlV3⟩ : ∃ V, V = wi.alloc (.cells #[.int .i64 (r : Int)] 3) ∧ V.cell? ⟨wi.heap.size, 0, none⟩ = some (.int .i64 (r : Int)) ∧ Below wi.heap.size wi V ∧ wi.heap.size < V.heap.size := ⟨_, rfl, cell_of_row _ _ 0 _ _ (0, 0) (heap_alloc_new _ _), bl1 _, by simp⟩
              have hown := hI.below hbV3
              have hYb := hY.below hbV3
              have hKb : Kp wo V2 V3 := hKi.trans (Kp.of hbV3)
              have hbs2 := hKb.size
              have hlt2 := hYb.lt
              have hng : Value.ownBlock (.slice a7 (allI r).length c7) ≠ some wo := fun e => by have := (hI.lo e).1; omega
              have i3 : (0 : Int) ≤ (r : Int) := by omega
              have i4 : (r : Int) < (n : Int) := by omega
              generalize allI r = LP at *
              clear hlen
              go_wp2_with (at_builtin; rw [← hV3]; refine wpList_append_gi rfl _ _ rfl V2.heap.size (.slice a7 LP.length c7) LP rfl hown wi.heap.size (r : Int) rfl hlV3 c1 hri hll2 hbs2 ?_)
              intro v9 w9 hT9 hgrow _
              rw [← hV3] at hgrow
              have hK9 : Kp wo V2 w9 := hKb.grown hgrow (fun q hq => (hown.lo hq).1)
              have hY9 := hYb.grown hgrow hng
              rw [← HSI.out] at hT9
              obtain ⟨a9, c9, e9, -, -⟩ := hT9.slice
              rw [allI_len] at e9
              subst e9
              have hY10 := hY9.set 2 (.slice a9 (r + 1) c9)
              have hlt9 := hY9.lt
              have hT10 : Gi V2.heap.size (w9.setCell ⟨wo, 2, none⟩ (.slice a9 (r + 1) c9)) (.slice a9 (r + 1) c9) (allI (r + 1)) := hT9.stay (by simp [World.setCell]) (fun q hq => Below.heap_setCell _ _ _ _ (fun e => by have h2 := (hT9.lo hq).1; have h3 : q = wo := e; omega))
              have hK10 : Kp wo V2 (w9.setCell ⟨wo, 2, none⟩ (.slice a9 (r + 1) c9)) := hK9.setCell 2 _
              have HY10 : Hid (Bk 36 (w9.setCell ⟨wo, 2, none⟩ (.slice a9 (r + 1) c9)) wo [.slice ra t.rg.length rc, .bool false, .slice a9 (r + 1) c9, .slice xa t.dx.length xc, .slice ya t.dy.length yc]) := hY10
              have HT10 : Hid (_) := hT10
              have HK10 : Hid (_) := hK10
              clear q0 q1 q2 q3 q4 f0 f1 f2 f3 f4
              obtain ⟨q0, q1, q2, q3, q4, f0, f1, f2, f3, f4⟩ := hY9.five
              clear hgrow hbs2 hll2 HSI hown hV3 c1 hlV3 hT9 hT10 hK9 hK10 hKb hYb hng hY10 hY9
              go_wp2
              go_roundw
              case rel => exact ⟨r + 1, _, by omega, by go_num, HY10.out, HT10.out, HK10.out⟩
              case measure => simp [intOf]; omega
            · obtain rfl : r = n := by omega
              have g7 : ¬ (r : Int) < (r : Int) := by omega
              rw [hlen] at hY hI
              obtain ⟨U, hU⟩ : ∃ U, U = wi := ⟨_, rfl⟩
              subst hU
              have XT := hY
              have hKU : Kp wo V U := HKV.out.trans hKi
              have hGU : Gw TuE 36 m4.heap.size (fun q => q < wo) U (.slice a6 L.length c6) L := HGU.out.stay hKU.size (fun q h1 _ h2 => ⟨h1, hKU.block h2 (by omega)⟩) (fun q hq => hKU.block (HGU.out.lo hq).2 (fun e => HGO.out q hq e))
              have hBU : Below m4.heap.size m4 U := HBU.out.trans (hKU.below (Nat.le_trans HBU.out.size (Nat.le_refl _)) hBs)
              have hgi := Gw.slice hI
              obtain ⟨a8, c8, e8, hgr8, -⟩ := hgi
              rw [allI_len] at e8
              injection e8 with e81 _ e83
              subst e81 e83
              have hn7 : ∀ b o', a7 = some ⟨b, o', none⟩ → (Value.slice a6 L.length c6).ownBlock ≠ some b := fun b o' e e2 => by
                exact Gw.ne hGU hI (by decide) e2 (by rw [e]; rfl)
              have hrt := HT0.out
              have hal2 : (allI r).length ≤ 140737488351232 := by rw [hlen]; omega
              have hUV := hKU.size
              clear hlen
              obtain ⟨V9, hV9, Y9, hb9⟩ : ∃ V, V = U.alloc (.cells #[.slice ra t.rg.length rc, .bool false, .slice a7 r c7, .slice xa t.dx.length xc, .slice ya t.dy.length yc] 36) ∧ Bk 36 V U.heap.size [.slice ra t.rg.length rc, .bool false, .slice a7 r c7, .slice xa t.dx.length xc, .slice ya t.dy.length yc] ∧ Below U.heap.size U V := ⟨_, rfl, Bk.new _ _ _, bl1 _⟩
              obtain ⟨y0, y1, y2, y3, y4, _⟩ := XT.five

              have hGb := hGU.below hb9
              have hG2 : Gw TuE 36 m4.heap.size (fun q => q < V9.heap.size) V9 (.slice a6 L.length c6) L := hGb.widenU (fun q h1 h2 => h2)
              have hrep : TuE.rep (fun q => (q < V9.heap.size) ∧ (Value.slice a6 L.length c6).ownBlock ≠ some q) V9 [.slice ra t.rg.length rc, .bool false, .slice a7 r c7, .slice xa t.dx.length xc, .slice ya t.dy.length yc] ⟨t.rg, false, allI r, t.dx, t.dy⟩ := TuE.stay (S := fun q => q < U.heap.size ∧ (Value.slice a6 L.length c6).ownBlock ≠ some q) (TuE_rep.2 ⟨ra, rc, a7, c7, xa, xc, ya, yc, by rw [allI_len], TeE.row.stay hrt.1 hUV (fun q hq hlt => ⟨⟨by omega, fun e => by have := (hGU.lo e).1; omega⟩, hKU.block hlt (by omega)⟩), ⟨a7, c7, rfl, (fun b o' e _ => ⟨(hb7 b o' e).2, hn7 b o' e⟩), hgr8.wide (fun q h _ => h.elim), hal2⟩, El.int.row.stay hrt.2.2.1 hUV (fun q hq hlt => ⟨⟨by omega, fun e => by have := (hGU.lo e).1; omega⟩, hKU.block hlt (by omega)⟩), El.int.row.stay hrt.2.2.2 hUV (fun q hq hlt => ⟨⟨by omega, fun e => by have := (hGU.lo e).1; omega⟩, hKU.block hlt (by omega)⟩)⟩) hb9.size (fun q hq hlt => ⟨⟨Nat.lt_of_lt_of_le hlt hb9.size, hq.2⟩, hb9.block q hlt⟩)
              have hone := Gr.one (E := TuE) hrep Y9.lt (fun j hj => Y9.cell j hj)
              have hBb : Below m4.heap.size m4 V9 := hBU.trans (hb9.mono hBU.size)
              have hbs := hBb.size
              clear hrep hGb hGU
              go_wp2_with (at_builtin; rw [← hV9]; refine wpList_append_el 26 36 Try.underlying26 info_tu rfl (by decide) (by decide) rfl _ _ rfl m4.heap.size (fun q => q < V9.heap.size) _ L rfl hG2 (some ⟨U.heap.size, 0, none⟩) 1 1 [⟨t.rg, false, allI r, t.dx, t.dy⟩] rfl rfl hone hll hbs ?_)
              intro v9 w9 hT9 hgrow _
              rw [← hV9] at hgrow
              have hB9 : Below m4.heap.size m4 w9 := hBb.grown hgrow hbs (fun q hq => (hG2.lo hq).1)
              have hT9 := hT9.widenU (S' := fun q => q < w9.heap.size) (fun q h1 h2 => h2)
              rw [← HS.out] at hT9
              clear hgrow hG2 hone hbs hll HS hBb hV9 Y9 y0 y1 y2 y3 y4 XT hb9
              go_wp2
              go_roundw
              case rel => exact ⟨k + 1, by omega, by go_num, hT9, hB9⟩
              case measure => simp [intOf]; omega
    · obtain rfl : k = l.length := by omega
      have g1 : ¬ (l.length : Int) < (l.length : Int) := by omega
      have hml : (l.map (nmA n)).take l.length = l.map (nmA n) := List.take_of_length_le (by rw [List.length_map]; exact Nat.le_refl _)
      have HML : Hid ((l.map (nmA n)).length = l.length) := List.length_map _
      rw [hml] at hG
      obtain ⟨a5, c5, rfl, hgr, -⟩ := hG.slice
      rw [HML.out]
      have hc := HC.out.below hB
      have hp := HP.out.below hB
      have hl := HL.out.below hB
      have hg := HG.out.below hB
      have hbW := HBW.out.trans (hB.mono HBW.out.size)
      have he1 := uexact_any S a ca b cb o _ la lc l ga gc cs wr hc hp hl hg
      have he2 := fun U (hb : Below wr.heap.size wr U) => uexact_any S a ca b cb o _ a5 c5 (l.map (nmA n)) ga gc cs U (hc.below hb) (hp.below hb) (hgr.below hb) (hg.below hb)
      simp only [HXN.out.1, HXN.out.2.1, HXN.out.2.2, HML.out] at he2
      simp only [HX.out.1, HX.out.2.1, HX.out.2.2] at he1
      have HN0 : Hid ((exL Pn.x Pa.dx Tu.dx o l cs).length = n) := by show _ = _; rw [exL_len]; exact HN.out
      have HN1 : Hid ((exL Pn.x Pa.dx Tu.dx o l cs).length = n) := HN0
      have HN2 : Hid ((exL Pn.y Pa.dy Tu.dy o l cs).length = n) := by show _ = _; rw [exL_len]; exact HN.out
      have HN3 : Hid ((exL Pn.y Pa.dy Tu.dy o l cs).length = n) := HN2
      clear HX HXN hG hml
      generalize exL Pn.x Pa.dx Tu.dx o l cs = EX at *
      generalize exL Pn.y Pa.dy Tu.dy o l cs = EY at *
      simp only [HN0.out, HN2.out] at he1 he2
      go_wp2_with fail
      refine he1.mono ?_
      rintro e m5 ⟨x1, y1, x2, y2, rfl, hZ0, hZ2, hb1⟩
      have hX2 := hX1.below hb1
      clear p0 p1 p2
      obtain ⟨p0, p1, p2, _⟩ := hX2.three
      go_wp2_with fail
      refine (he2 _ hb1).mono ?_
      rintro e m6 ⟨x3, y3, x4, y4, rfl, hZ1, hZ3, hb2⟩
      have HZ0 : Hid (Rf m6 x1 y1 900 EX) := (hZ0.below hb2).1
      have HZ2 : Hid (Rf m6 x2 y2 900 EY) := (hZ2.below hb2).1
      have HZ1 : Hid (Rf m6 x3 y3 900 EX) := hZ1.1
      have HZ3 : Hid (Rf m6 x4 y4 900 EY) := hZ3.1
      have HBF : Hid (Below w.heap.size w m6) := (hbW.trans (hb1.mono hbW.size)).trans (hb2.mono (Nat.le_trans hbW.size hb1.size))
      clear he1 he2 hZ0 hZ1 hZ2 hZ3 hb1 hb2 hbW hc hp hl hg hgr p0 p1 p2 hX1 hX2 hB
      go_wp2
      go_loopw [16] (fun i wr => ∃ j : Nat, j ≤ n ∧ i = .int .i64 j ∧ Below m6.heap.size m6 wr) (fun i _ => n - (intOf i).toNat)
      case atStart => exact ⟨0, Nat.zero_le _, rfl, Below.refl _ _⟩
      case round =>
        obtain ⟨j, hj, rfl, hB⟩ := hrel
        by_cases hjn : j < n
        · obtain ⟨b0, o0, r0, s0, t0, ea0, hb0, d00, d01, d02, hF0⟩ := HZ0.out.1.at hB j (by rw [HN0.out]; exact hjn)
          subst ea0
          obtain ⟨n0, e01, e02, e03, e04, e05, e06, e9⟩ := hF0.cells3'
          simp only [Value.agg.injEq, Array.mk.injEq, List.cons.injEq, and_true] at e9
          obtain ⟨rfl, rfl, rfl⟩ := e9
          obtain ⟨b1, o1, r1, s1, t1, ea1, hb1, d10, d11, d12, hF1⟩ := HZ1.out.1.at hB j (by rw [HN1.out]; exact hjn)
          subst ea1
          obtain ⟨n1, e11, e12, e13, e14, e15, e16, e9⟩ := hF1.cells3'
          simp only [Value.agg.injEq, Array.mk.injEq, List.cons.injEq, and_true] at e9
          obtain ⟨rfl, rfl, rfl⟩ := e9
          obtain ⟨b2, o2, r2, s2, t2, ea2, hb2, d20, d21, d22, hF2⟩ := HZ2.out.1.at hB j (by rw [HN2.out]; exact hjn)
          subst ea2
          obtain ⟨n2, e21, e22, e23, e24, e25, e26, e9⟩ := hF2.cells3'
          simp only [Value.agg.injEq, Array.mk.injEq, List.cons.injEq, and_true] at e9
          obtain ⟨rfl, rfl, rfl⟩ := e9
          obtain ⟨b3, o3, r3, s3, t3, ea3, hb3, d30, d31, d32, hF3⟩ := HZ3.out.1.at hB j (by rw [HN3.out]; exact hjn)
          subst ea3
          obtain ⟨n3, e31, e32, e33, e34, e35, e36, e9⟩ := hF3.cells3'
          simp only [Value.agg.injEq, Array.mk.injEq, List.cons.injEq, and_true] at e9
          obtain ⟨rfl, rfl, rfl⟩ := e9
          generalize EX.getD j 0 = qx at *
          generalize EY.getD j 0 = qy at *
          have hs1 : sgnQ (qx - qx) = 0 := sgn_same qx
          have hs2 : sgnQ (qy - qy) = 0 := sgn_same qy
          have hc1 := fun U (h1 : Fr U _ 900 qx) (h2 : Fr U _ 900 qx) => qcmp_any 900 900 qx qx (.agg #[.bool n0, .slice e01 e02 e03, .slice e04 e05 e06]) (.agg #[.bool n1, .slice e11 e12 e13, .slice e14 e15 e16]) U h1.ct h2.ct (by decide) (by decide) (by decide) (by decide)
          have hc2 := fun U (h1 : Fr U _ 900 qy) (h2 : Fr U _ 900 qy) => qcmp_any 900 900 qy qy (.agg #[.bool n2, .slice e21 e22 e23, .slice e24 e25 e26]) (.agg #[.bool n3, .slice e31 e32 e33, .slice e34 e35 e36]) U h1.ct h2.ct (by decide) (by decide) (by decide) (by decide)
          simp only [hs1] at hc1
          simp only [hs2] at hc2
          have i1 : (0 : Int) ≤ (j : Int) := by omega
          have i2 : (j : Int) < (n : Int) := by omega
          have i3 : j < n := hjn
          clear hs1 hs2
          go_upto_region 24 with fail
          refine wp_region_held_drew (S := fun w9 => w9.cell? ⟨b0, o0 + j * 3, none⟩ = some (.bool n0) ∧ w9.cell? ⟨b0, o0 + j * 3 + 1, none⟩ = some (.slice e01 e02 e03) ∧ w9.cell? ⟨b0, o0 + j * 3 + 2, none⟩ = some (.slice e04 e05 e06) ∧ w9.cell? ⟨b1, o1 + j * 3, none⟩ = some (.bool n1) ∧ w9.cell? ⟨b1, o1 + j * 3 + 1, none⟩ = some (.slice e11 e12 e13) ∧ w9.cell? ⟨b1, o1 + j * 3 + 2, none⟩ = some (.slice e14 e15 e16) ∧ w9.cell? ⟨b2, o2 + j * 3, none⟩ = some (.bool n2) ∧ w9.cell? ⟨b2, o2 + j * 3 + 1, none⟩ = some (.slice e21 e22 e23) ∧ w9.cell? ⟨b2, o2 + j * 3 + 2, none⟩ = some (.slice e24 e25 e26) ∧ w9.cell? ⟨b3, o3 + j * 3, none⟩ = some (.bool n3) ∧ w9.cell? ⟨b3, o3 + j * 3 + 1, none⟩ = some (.slice e31 e32 e33) ∧ w9.cell? ⟨b3, o3 + j * 3 + 2, none⟩ = some (.slice e34 e35 e36)) (by kernel_rfl) ?_ (fun hHeld => ?_)
          · (try dsimp only)
            go_keep
          have hdr : Below wr.heap.size wr wr.drew := Below.drew1
          generalize wr.drew = Z at hdr hHeld ⊢
          have hl0 : b0 < wr.heap.size := Nat.lt_of_lt_of_le hb0 hB.size
          have hl1 : b1 < wr.heap.size := Nat.lt_of_lt_of_le hb1 hB.size
          have hl2 : b2 < wr.heap.size := Nat.lt_of_lt_of_le hb2 hB.size
          have hl3 : b3 < wr.heap.size := Nat.lt_of_lt_of_le hb3 hB.size
          replace hF0 := hF0.below hdr
          replace d00 := (hdr.cell (p := ⟨b0, o0 + j * 3, none⟩) hl0).trans d00
          replace d01 := (hdr.cell (p := ⟨b0, o0 + j * 3 + 1, none⟩) hl0).trans d01
          replace d02 := (hdr.cell (p := ⟨b0, o0 + j * 3 + 2, none⟩) hl0).trans d02
          replace hF1 := hF1.below hdr
          replace d10 := (hdr.cell (p := ⟨b1, o1 + j * 3, none⟩) hl1).trans d10
          replace d11 := (hdr.cell (p := ⟨b1, o1 + j * 3 + 1, none⟩) hl1).trans d11
          replace d12 := (hdr.cell (p := ⟨b1, o1 + j * 3 + 2, none⟩) hl1).trans d12
          replace hF2 := hF2.below hdr
          replace d20 := (hdr.cell (p := ⟨b2, o2 + j * 3, none⟩) hl2).trans d20
          replace d21 := (hdr.cell (p := ⟨b2, o2 + j * 3 + 1, none⟩) hl2).trans d21
          replace d22 := (hdr.cell (p := ⟨b2, o2 + j * 3 + 2, none⟩) hl2).trans d22
          replace hF3 := hF3.below hdr
          replace d30 := (hdr.cell (p := ⟨b3, o3 + j * 3, none⟩) hl3).trans d30
          replace d31 := (hdr.cell (p := ⟨b3, o3 + j * 3 + 1, none⟩) hl3).trans d31
          replace d32 := (hdr.cell (p := ⟨b3, o3 + j * 3 + 2, none⟩) hl3).trans d32
          replace hB := hB.trans (hdr.mono hB.size)
          replace hl0 := Nat.lt_of_lt_of_le hl0 hdr.size
          replace hl1 := Nat.lt_of_lt_of_le hl1 hdr.size
          replace hl2 := Nat.lt_of_lt_of_le hl2 hdr.size
          replace hl3 := Nat.lt_of_lt_of_le hl3 hdr.size
          clear hdr
          refine hT 0 hHeld ?_
          refine hT 1 hHeld ?_
          refine hT 2 hHeld ?_
          refine hT 3 hHeld ?_
          refine hT 4 hHeld ?_
          refine hT 5 hHeld ?_
          refine hT 6 hHeld ?_
          refine hT 7 hHeld ?_
          refine hCall (i := 8) rfl (by kernel_rfl) (by rfl) (fun K hK => ?_)
          go_simp
          refine (hc1 _ hF0 hF1).mono ?_
          rintro e z1 ⟨rfl, hb9⟩
          replace hF0 := hF0.below hb9
          replace d00 := (hb9.cell (p := ⟨b0, o0 + j * 3, none⟩) hl0).trans d00
          replace d01 := (hb9.cell (p := ⟨b0, o0 + j * 3 + 1, none⟩) hl0).trans d01
          replace d02 := (hb9.cell (p := ⟨b0, o0 + j * 3 + 2, none⟩) hl0).trans d02
          replace hF1 := hF1.below hb9
          replace d10 := (hb9.cell (p := ⟨b1, o1 + j * 3, none⟩) hl1).trans d10
          replace d11 := (hb9.cell (p := ⟨b1, o1 + j * 3 + 1, none⟩) hl1).trans d11
          replace d12 := (hb9.cell (p := ⟨b1, o1 + j * 3 + 2, none⟩) hl1).trans d12
          replace hF2 := hF2.below hb9
          replace d20 := (hb9.cell (p := ⟨b2, o2 + j * 3, none⟩) hl2).trans d20
          replace d21 := (hb9.cell (p := ⟨b2, o2 + j * 3 + 1, none⟩) hl2).trans d21
          replace d22 := (hb9.cell (p := ⟨b2, o2 + j * 3 + 2, none⟩) hl2).trans d22
          replace hF3 := hF3.below hb9
          replace d30 := (hb9.cell (p := ⟨b3, o3 + j * 3, none⟩) hl3).trans d30
          replace d31 := (hb9.cell (p := ⟨b3, o3 + j * 3 + 1, none⟩) hl3).trans d31
          replace d32 := (hb9.cell (p := ⟨b3, o3 + j * 3 + 2, none⟩) hl3).trans d32
          replace hB := hB.trans (hb9.mono hB.size)
          replace hl0 := Nat.lt_of_lt_of_le hl0 hb9.size
          replace hl1 := Nat.lt_of_lt_of_le hl1 hb9.size
          replace hl2 := Nat.lt_of_lt_of_le hl2 hb9.size
          replace hl3 := Nat.lt_of_lt_of_le hl3 hb9.size
          clear hb9 hc1
          go_wp2_with fail
          refine hK.out _ _ ?_ (fun hHeld => ?_)
          · (try dsimp only)
            exact ⟨d00, d01, d02, d10, d11, d12, d20, d21, d22, d30, d31, d32⟩
          clear hK K
          try simp only [Act.put, List.setIfInBounds_toArray, List.set_cons_zero, List.set_cons_succ]
          refine hT 9 hHeld ?_
          refine hT 10 hHeld ?_
          refine hT 11 hHeld ?_
          refine hT 12 hHeld ?_
          refine hT 13 hHeld ?_
          refine hT 14 hHeld ?_
          refine hT 15 hHeld ?_
          refine hT 16 hHeld ?_
          refine hT 17 hHeld ?_
          refine hT 18 hHeld ?_
          refine hCall (i := 19) rfl (by kernel_rfl) (by rfl) (fun K hK => ?_)
          go_simp
          refine (hc2 _ hF2 hF3).mono ?_
          rintro e z2 ⟨rfl, hb9⟩
          replace hF0 := hF0.below hb9
          replace d00 := (hb9.cell (p := ⟨b0, o0 + j * 3, none⟩) hl0).trans d00
          replace d01 := (hb9.cell (p := ⟨b0, o0 + j * 3 + 1, none⟩) hl0).trans d01
          replace d02 := (hb9.cell (p := ⟨b0, o0 + j * 3 + 2, none⟩) hl0).trans d02
          replace hF1 := hF1.below hb9
          replace d10 := (hb9.cell (p := ⟨b1, o1 + j * 3, none⟩) hl1).trans d10
          replace d11 := (hb9.cell (p := ⟨b1, o1 + j * 3 + 1, none⟩) hl1).trans d11
          replace d12 := (hb9.cell (p := ⟨b1, o1 + j * 3 + 2, none⟩) hl1).trans d12
          replace hF2 := hF2.below hb9
          replace d20 := (hb9.cell (p := ⟨b2, o2 + j * 3, none⟩) hl2).trans d20
          replace d21 := (hb9.cell (p := ⟨b2, o2 + j * 3 + 1, none⟩) hl2).trans d21
          replace d22 := (hb9.cell (p := ⟨b2, o2 + j * 3 + 2, none⟩) hl2).trans d22
          replace hF3 := hF3.below hb9
          replace d30 := (hb9.cell (p := ⟨b3, o3 + j * 3, none⟩) hl3).trans d30
          replace d31 := (hb9.cell (p := ⟨b3, o3 + j * 3 + 1, none⟩) hl3).trans d31
          replace d32 := (hb9.cell (p := ⟨b3, o3 + j * 3 + 2, none⟩) hl3).trans d32
          replace hB := hB.trans (hb9.mono hB.size)
          clear hb9 hc2
          go_wp2_with fail
          refine hK.out _ _ ?_ (fun hHeld => ?_)
          · (try dsimp only)
            exact ⟨d00, d01, d02, d10, d11, d12, d20, d21, d22, d30, d31, d32⟩
          clear hK K
          try simp only [Act.put, List.setIfInBounds_toArray, List.set_cons_zero, List.set_cons_succ]
          refine hT 20 hHeld ?_
          refine hT 21 hHeld ?_
          refine wpAnyH_done (by kernel_rfl) ?_ _
          clear hHeld hF0 hF1 hF2 hF3 d00 d01 d02 d10 d11 d12 d20 d21 d22 d30 d31 d32
          go_wp2
          go_roundw
          case rel => exact ⟨j + 1, by omega, by go_num, hB⟩
          case measure => simp [intOf]; omega
        · obtain rfl : j = n := by omega
          have g9 : ¬ (j : Int) < (j : Int) := by omega
          have hfin := HBF.out.trans (hB.mono HBF.out.size)
          clear hB
          go_wp2
          go_ret
          exact ⟨rfl, hfin⟩

end Go.Proofs.Ytngmcghmniakeaa
