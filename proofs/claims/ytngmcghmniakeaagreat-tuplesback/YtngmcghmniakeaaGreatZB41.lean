/-
  tuples.putPacked, tuples.putTuple, tuples.Write: the walks.
  (*tuples.source).tent, (*tuples.source).changes: the walks.
-/
import Derived.Test.YtngmcghmniakeaaGreatZB23
import Derived.Test.YtngmcghmniakeaaGreatZB33
import Derived.Test.YtngmcghmniakeaaGreatZB40
import Derived.Test.YtngmcghmniakeaaGreatZB29
namespace Go.Proofs.YtngmcghmniakeaaGreat
open Go.RowKit Go.Maps
set_option linter.unusedSimpArgs false
set_option linter.unusedVariables false

set_option maxHeartbeats 1000000 in
set_option maxRecDepth 100000 in
theorem uppP_any (B : Nat) (G : Nat → Prop) (bs : List Nat) (a : Option Addr) (cap : Nat) (l : List Int) (w : World) (h : Pc w B G ⟨bs, [], false⟩) (hr : Ri w a cap l) (hl : l.length ≤ 3000) (hok : ptB l = true) (hb : bs.length + (ppB l).length ≤ 1048576) :
    Calls Tryz.prog 93 #[pg B, .func (.func 94) #[] #[], .slice a l.length cap] w fun e w' => e = .returned (.int .i64 0) ∧ Pc w' B G ⟨bs ++ ppB l, [], false⟩ ∧ Keep G w w' := by
  have hp := codP.pts a cap l w hr hl
  rw [show ppE l = 0 by unfold ppE; rw [hok]; rfl] at hp
  have hG1 := h.1
  go_enter Tryz.func93, Tryz.ntmps93
  go_wp2_with fail
  refine hp.mono ?_
  rintro e m1 ⟨a1, c1, rfl, hrb, hb1⟩
  have hk1 : Keep G w m1 := Keep.of_below hb1 hG1
  have hP := putBytes_any B G _ a1 c1 (ppB l) m1 (h.below hb1) hrb hb
  rw [show (St.mk bs [] false).app (ppB l) = ⟨bs ++ ppB l, [], false⟩ by simp [St.app]] at hP
  clear hp hb1
  go_wp2_with fail
  refine hP.mono ?_
  rintro e m2 ⟨rfl, hP2, hk2⟩
  have hk := hk1.trans hk2
  clear hP hk1 hk2
  go_wp2
  go_ret
  exact ⟨rfl, hP2, hk⟩

set_option maxHeartbeats 1000000 in
set_option maxRecDepth 100000 in
theorem uppC_any (B : Nat) (G : Nat → Prop) (bs : List Nat) (a : Option Addr) (cap : Nat) (l : List Int) (w : World) (h : Pc w B G ⟨bs, [], false⟩) (hr : Ri w a cap l) (hl : l.length ≤ 3000) (hok : chB l = true) (hb : bs.length + (pcB l).length ≤ 1048576) :
    Calls Tryz.prog 93 #[pg B, .func (.func 95) #[] #[], .slice a l.length cap] w fun e w' => e = .returned (.int .i64 0) ∧ Pc w' B G ⟨bs ++ pcB l, [], false⟩ ∧ Keep G w w' := by
  have hp := codP.chs a cap l w hr hl
  rw [show pcE l = 0 by unfold pcE; rw [hok]; rfl] at hp
  have hG1 := h.1
  go_enter Tryz.func93, Tryz.ntmps93
  go_wp2_with fail
  refine hp.mono ?_
  rintro e m1 ⟨a1, c1, rfl, hrb, hb1⟩
  have hk1 : Keep G w m1 := Keep.of_below hb1 hG1
  have hP := putBytes_any B G _ a1 c1 (pcB l) m1 (h.below hb1) hrb hb
  rw [show (St.mk bs [] false).app (pcB l) = ⟨bs ++ pcB l, [], false⟩ by simp [St.app]] at hP
  clear hp hb1
  go_wp2_with fail
  refine hP.mono ?_
  rintro e m2 ⟨rfl, hP2, hk2⟩
  have hk := hk1.trans hk2
  clear hP hk1 hk2
  go_wp2
  go_ret
  exact ⟨rfl, hP2, hk⟩

theorem TuC.kept {S G : Nat → Prop} {w w' : World} {ra : Option Addr} {rc : Nat} {pa : Option Addr} {pc : Nat} {xa : Option Addr} {xc : Nat} {ya : Option Addr} {yc : Nat} {t : Tu} (h : TuC S w ra rc pa pc xa xc ya yc t) (hk : Keep G w w') (hS : ∀ k, S k → G k) : TuC S w' ra rc pa pc xa xc ya yc t :=
  ⟨TeE.row.stay h.1 hk.size (fun k h1 _ => ⟨h1, hk.block k (hS k h1)⟩), El.int.row.stay h.2.1 hk.size (fun k h1 _ => ⟨h1, hk.block k (hS k h1)⟩), El.int.row.stay h.2.2.1 hk.size (fun k h1 _ => ⟨h1, hk.block k (hS k h1)⟩), El.int.row.stay h.2.2.2 hk.size (fun k h1 _ => ⟨h1, hk.block k (hS k h1)⟩)⟩
theorem tes_len_take (l : List Te) (k : Nat) : (tesE (l.take k)).length ≤ 6 * l.length := by
  rw [tesE_len, List.length_take]
  omega
theorem tes_snoc {l : List Te} {k : Nat} (hk : k < l.length) (P : List Nat) : P ++ tesE (l.take (k + 1)) = P ++ tesE (l.take k) ++ be2 (l.getD k Te.none).st ++ be2 (l.getD k Te.none).pk ++ be2 (l.getD k Te.none).en := by
  rw [take_snoc (d := Te.none) hk, tesE_append]
  simp only [tesE, teE, List.append_nil, List.append_assoc]
theorem tf_fd {t : Te} (h : tfB t = true) : (-16384 ≤ t.st ∧ t.st ≤ 16384) ∧ (-16384 ≤ t.pk ∧ t.pk ≤ 16384) ∧ (-16384 ≤ t.en ∧ t.en ≤ 16384) := by
  have := tfB_iff.1 h
  unfold TfT at this
  omega

set_option maxHeartbeats 4000000 in
set_option maxRecDepth 100000 in
theorem uput_any (B : Nat) (G : Nat → Prop) (bs : List Nat) (S : Nat → Prop) (ra : Option Addr) (rc : Nat) (pa : Option Addr) (pc : Nat) (xa : Option Addr) (xc : Nat) (ya : Option Addr) (yc : Nat) (t : Tu) (n : Nat) (ax : Int) (w : World) (h : Pc w B G ⟨bs, [], false⟩) (ht : TuC S w ra rc pa pc xa xc ya yc t) (hS : ∀ k, S k → G k) (hf : tuB t n ax = true) (hn : n ≤ 86) (hax : ax ≤ 4) (hb : bs.length ≤ 100000) :
    Calls Tryz.prog 43 #[pg B, .agg #[.slice ra t.rg.length rc, .bool t.al, .slice pa t.pts.length pc, .slice xa t.dx.length xc, .slice ya t.dy.length yc]] w fun e w' => e = .returned (.int .i64 0) ∧ Pc w' B G ⟨bs ++ tuE t, [], false⟩ ∧ Keep G w w' := by
  obtain ⟨W, hW, X1, hbW⟩ : ∃ W, W = w.alloc (.cells #[.slice ra t.rg.length rc, .bool t.al, .slice pa t.pts.length pc, .slice xa t.dx.length xc, .slice ya t.dy.length yc] 60) ∧ Bk 60 W w.heap.size [.slice ra t.rg.length rc, .bool t.al, .slice pa t.pts.length pc, .slice xa t.dx.length xc, .slice ya t.dy.length yc] ∧ Below w.heap.size w W := ⟨_, rfl, Bk.new _ _ _, bl1 _⟩
  have hP0 : Pc W B (fun k => G k ∨ k = w.heap.size) ⟨bs, [], false⟩ := by rw [hW]; exact h.moreA _
  have hG1 := h.1
  have hk0 : Keep G w W := Keep.of_below hbW hG1
  obtain ⟨p1, p2, -⟩ := tu_pts hf (by omega)
  obtain ⟨c1, c2, -, -, c3, c4⟩ := tu_chs hf (by omega)
  obtain ⟨g1, g2⟩ := rg_len (tuB_iff.1 hf).1
  have HPT : Hid (ptB t.pts = true ∧ chB t.dx = true ∧ chB t.dy = true) := ⟨p1, c1, c2⟩
  have HLP : Hid ((ppB t.pts).length ≤ 260 ∧ (pcB t.dx).length ≤ 258 ∧ (pcB t.dy).length ≤ 258) := ⟨by have := pp_short' p1; omega, by have := pc_short c1; omega, by have := pc_short c2; omega⟩
  have HTF : Hid (∀ k, k < t.rg.length → tfB (t.rg.getD k Te.none) = true) := fun k hk => List.all_eq_true.1 g2 _ (getT_mem hk)
  have HEE : Hid (tuE t = tesE t.rg ++ (ppB t.pts ++ (pcB t.dx ++ pcB t.dy))) := rfl
  have HTW : Hid (TuC S W ra rc pa pc xa xc ya yc t) := ht.below hbW
  have HXW : Hid (Bk 60 W w.heap.size [.slice ra t.rg.length rc, .bool t.al, .slice pa t.pts.length pc, .slice xa t.dx.length xc, .slice ya t.dy.length yc]) := X1
  have HSG : Hid (∀ k, S k → G k ∨ k = w.heap.size) := fun k hk => .inl (hS k hk)
  have HK0 : Hid (Keep G w W) := hk0
  have hgl : t.rg.length ≤ 4 := by omega
  have hpl : t.pts.length ≤ 86 := by omega
  generalize tuE t = TE at *
  obtain ⟨gt, hgt⟩ : ∃ g, w.heap.size = g := ⟨_, rfl⟩
  have HGT : Hid (w.heap.size = gt) := hgt
  rw [hgt] at HXW hP0 HSG
  have hP1 : Pc W B (fun k => G k ∨ k = gt) ⟨bs ++ tesE (t.rg.take 0), [], false⟩ := by
    rw [List.take_zero, tesE, List.append_nil]
    exact hP0
  obtain ⟨q0, q1, q2, q3, q4, _⟩ := HXW.out.five
  clear h ht hS hf p1 p2 c1 c2 g1 g2 X1 hP0 hk0 hbW
  go_enter Tryz.func43, Tryz.ntmps43
  go_upto_region 1 with fail
  rw [← hW]
  clear hW hgt
  go_wp2
  clear q0 q1 q2 q3 q4
  go_loopw [12] (fun i wr => ∃ k : Nat, k ≤ t.rg.length ∧ i = .int .i64 k ∧ Pc wr B (fun k => G k ∨ k = gt) ⟨bs ++ tesE (t.rg.take k), [], false⟩ ∧ Keep (fun k => G k ∨ k = gt) W wr) (fun i _ => t.rg.length - (intOf i).toNat)
  case atStart => exact ⟨0, Nat.zero_le _, rfl, hP1, Keep.refl _ _⟩
  case round =>
    clear hP1
    obtain ⟨k, hk, rfl, hP, hkk⟩ := hrel
    have hT := HTW.out.kept hkk HSG.out
    by_cases hkn : k < t.rg.length
    · obtain ⟨b9, o9, ea, hb9, d0, d1, d2⟩ := hT.tz.at (Below.refl _ _) k hkn
      have htf := tf_fd (HTF.out k hkn)
      have HSJ : Hid (_) := tes_snoc hkn bs
      have HLJ : Hid ((bs ++ tesE (t.rg.take k)).length ≤ 100030) := by show _ ≤ _; rw [List.length_append]; have := tes_len_take t.rg k; omega
      obtain ⟨te, hte⟩ : ∃ x, t.rg.getD k Te.none = x := ⟨_, rfl⟩
      rw [hte] at d0 d1 d2 htf HSJ
      obtain ⟨tst, tpk, ten⟩ := te
      dsimp only at d0 d1 d2 htf HSJ
      obtain ⟨b2, hb2⟩ : ∃ b2, bs ++ tesE (t.rg.take k) = b2 := ⟨_, rfl⟩
      rw [hb2] at hP HSJ HLJ
      subst ea
      have i1 : (0 : Int) ≤ (k : Int) := by omega
      have i2 : (k : Int) < (t.rg.length : Int) := by omega
      obtain ⟨V, hV, XQ1, hb0⟩ : ∃ V, V = wr.alloc (.cells #[.int .i64 tst, .int .i64 tpk, .int .i64 ten] 57) ∧ Bk 57 V wr.heap.size [.int .i64 tst, .int .i64 tpk, .int .i64 ten] ∧ Below wr.heap.size wr V := ⟨_, rfl, Bk.new _ _ _, bl1 _⟩
      have hPG := hP.1
      have hP1 : Pc V B (fun k => (G k ∨ k = gt) ∨ k = wr.heap.size) ⟨b2, [], false⟩ := by rw [hV]; exact hP.moreA _
      have kk1 : Keep (fun k => (G k ∨ k = gt) ∨ k = wr.heap.size) V V := Keep.refl _ _
      have kkb : Keep (fun k => G k ∨ k = gt) wr V := Keep.of_below hb0 hPG
      obtain ⟨q0, q1, q2, _⟩ := XQ1.three
      clear hte hb2 hT hP
      go_upto_region 4 with fail
      rw [← hV]
      clear hV d0 d1 d2 hb0
      generalize wr.heap.size = gq at *
      go_wp2_with fail
      refine (put16_any B _ _ tst _ hP1 ⟨by omega, by omega⟩ (by have := HLJ.out; simp [be2]; omega)).mono ?_
      rintro e v2 ⟨rfl, hP2, hK2⟩
      rw [put16A (by omega) (by omega)] at hP2
      have kk2 := kk1.trans hK2
      have XQ2 := XQ1.kept hK2 (.inr rfl)
      clear hP1 hK2 XQ1 q0 q1 q2 kk1
      obtain ⟨q0, q1, q2, _⟩ := XQ2.three
      go_wp2_with fail
      refine (put16_any B _ _ tpk _ hP2 ⟨by omega, by omega⟩ (by have := HLJ.out; simp [be2]; omega)).mono ?_
      rintro e v3 ⟨rfl, hP3, hK3⟩
      rw [put16A (by omega) (by omega)] at hP3
      have kk3 := kk2.trans hK3
      have XQ3 := XQ2.kept hK3 (.inr rfl)
      clear hP2 hK3 XQ2 q0 q1 q2 kk2
      obtain ⟨q0, q1, q2, _⟩ := XQ3.three
      go_wp2_with fail
      refine (put16_any B _ _ ten _ hP3 ⟨by omega, by omega⟩ (by have := HLJ.out; simp [be2]; omega)).mono ?_
      rintro e v4 ⟨rfl, hP4, hK4⟩
      rw [put16A (by omega) (by omega)] at hP4
      have kk4 := kk3.trans hK4
      have XQ4 := XQ3.kept hK4 (.inr rfl)
      clear hP3 hK4 XQ3 q0 q1 q2 kk3
      obtain ⟨q0, q1, q2, _⟩ := XQ4.three

      rw [← HSJ.out] at hP4
      have hP6 : Pc v4 B (fun k => G k ∨ k = gt) ⟨bs ++ tesE (t.rg.take (k + 1)), [], false⟩ := hP4.guard (fun k hk => ⟨hP4.1 k (.inl hk), .inl hk⟩)
      have kk6 : Keep (fun k => G k ∨ k = gt) W v4 := (hkk.trans kkb).trans (kk4.mono (fun k hk => .inl hk))
      clear hP4 XQ4 q0 q1 q2 kk4 HSJ
      go_wp2
      go_roundw
      case rel => exact ⟨k + 1, by omega, by go_num, hP6, kk6⟩
      case measure => simp [intOf]; omega
    · obtain rfl : k = t.rg.length := by omega
      have g4 : ¬ (t.rg.length : Int) < (t.rg.length : Int) := by omega
      rw [List.take_length] at hP
      have hl1 : (bs ++ tesE t.rg).length ≤ 100024 := by rw [List.length_append, tesE_len]; omega
      obtain ⟨b2, hb2⟩ : ∃ b2, bs ++ tesE t.rg = b2 := ⟨_, rfl⟩
      have HB2 : Hid (bs ++ tesE t.rg = b2) := hb2
      rw [hb2] at hP hl1
      have hXr := HXW.out.kept hkk (.inr rfl)
      obtain ⟨q0, q1, q2, q3, q4, _⟩ := hXr.five
      have hlp := HLP.out
      have hq1 := uppP_any B _ b2 pa pc t.pts wr hP hT.pts (by omega) HPT.out.1 (by omega)
      clear hb2 hP
      go_wp2_with fail
      refine hq1.mono ?_
      rintro e v1 ⟨rfl, hP1, hk1⟩
      replace hT := hT.kept hk1 HSG.out
      replace hkk := hkk.trans hk1
      replace hXr := hXr.kept hk1 (.inr rfl)
      clear q0 q1 q2 q3 q4 hq1 hk1
      obtain ⟨q0, q1, q2, q3, q4, _⟩ := hXr.five
      have hq1 := uppC_any B _ (b2 ++ ppB t.pts) xa xc t.dx v1 hP1 hT.dx (by have := (chB_iff.1 HPT.out.2.1).2; omega) HPT.out.2.1 (by rw [List.length_append]; omega)
      go_wp2_with fail
      refine hq1.mono ?_
      rintro e v2 ⟨rfl, hP2, hk1⟩
      replace hT := hT.kept hk1 HSG.out
      replace hkk := hkk.trans hk1
      replace hXr := hXr.kept hk1 (.inr rfl)
      clear q0 q1 q2 q3 q4 hq1 hk1 hP1
      obtain ⟨q0, q1, q2, q3, q4, _⟩ := hXr.five
      have hq1 := uppC_any B _ (b2 ++ ppB t.pts ++ pcB t.dx) ya yc t.dy v2 hP2 hT.dy (by have := (chB_iff.1 HPT.out.2.2).2; omega) HPT.out.2.2 (by rw [List.length_append, List.length_append]; omega)
      go_wp2_with fail
      refine hq1.mono ?_
      rintro e v3 ⟨rfl, hP3, hk1⟩
      replace hkk := hkk.trans hk1
      have HP3 : Hid (Pc v3 B G ⟨bs ++ TE, [], false⟩) := by
        have := hP3.guard (G' := G) (fun k hk => ⟨hP3.1 k (.inl hk), .inl hk⟩)
        show Pc _ _ _ _
        rw [HEE.out, ← List.append_assoc, HB2.out, ← List.append_assoc, ← List.append_assoc]
        exact this
      have HKF : Hid (Keep G w v3) := HK0.out.trans (hkk.mono (fun k hk => .inl hk))
      clear hP3 hk1 hq1 hkk hP2 q0 q1 q2 q3 q4
      go_wp2
      go_ret
      exact ⟨rfl, HP3.out, HKF.out⟩

theorem tus_snoc {l : List Tu} {k : Nat} (hk : k < l.length) (P : List Nat) : P ++ tusE (l.take (k + 1)) = P ++ tusE (l.take k) ++ tuE (l.getD k Tu.none) := by
  rw [take_snoc (d := Tu.none) hk, tusE_append, tusE_one, List.append_assoc]
theorem wrT_no {o : Ol} {l : List Tu} {ax : Int} (h : foT o l ax = false) : wrTB o l ax = [] ∧ wrTE o l ax = 1 := by unfold wrTB wrTE; rw [h]; exact ⟨rfl, rfl⟩
theorem wrT_yes {o : Ol} {l : List Tu} {ax : Int} (h : foT o l ax = true) : wrTB o l ax = tuBt l ∧ wrTE o l ax = 0 := by unfold wrTB wrTE; rw [h]; exact ⟨rfl, rfl⟩

set_option maxHeartbeats 4000000 in
set_option maxRecDepth 100000 in
theorem uwrite_any (S : Nat → Prop) (a : Option Addr) (ca : Nat) (b : Option Addr) (cb : Nat) (o : Ol) (S2 : Nat → Prop) (la : Option Addr) (lc : Nat) (l : List Tu) (ax : Int) (w : World) (hc : Gr PnE.row S w a ca o.cs) (hp : Gr PaE S w b cb o.ps) (hl : Gr TuE S2 w la lc l) (hi : I64 ax) :
    Calls Tryz.prog 15 #[.agg #[.slice a o.cs.length ca, .slice b o.ps.length cb], .slice la l.length lc, .int .i64 ax] w fun e w' => ∃ a' c', e = .returned (.tuple #[.slice a' (wrTB o l ax).length c', .int .i64 (wrTE o l ax)]) ∧ Rb w' a' c' (wrTB o l ax) ∧ Below w.heap.size w w' := by
  have kl := hl.lenB
  obtain ⟨W, hW, X1, hbW⟩ : ∃ W, W = w.alloc (.cells #[.slice a o.cs.length ca, .slice b o.ps.length cb] 25) ∧ Bk 25 W w.heap.size [.slice a o.cs.length ca, .slice b o.ps.length cb] ∧ Below w.heap.size w W := ⟨_, rfl, Bk.new _ _ _, bl1 _⟩
  replace hc := hc.below hbW
  replace hp := hp.below hbW
  replace hl := hl.below hbW
  obtain ⟨p0, p1, _⟩ := X1.two
  have hf1 := cformU_any S a ca b cb o S2 la lc l ax W hc hp hl hi
  cases hfo : foT o l ax with
  | false =>
    rw [hfo] at hf1
    rw [(wrT_no hfo).1, (wrT_no hfo).2]
    clear hfo
    go_enter Tryz.func15, Tryz.ntmps15
    go_upto_region 1 with fail
    rw [← hW]
    clear hW
    go_wp2_with fail
    refine hf1.mono ?_
    rintro e m2 ⟨rfl, hb1⟩
    have hfin := hbW.trans (hb1.mono hbW.size)
    clear hb1 hf1
    go_wp2
    go_ret2
    exact ⟨none, 0, rfl, Rb.nil _ _ _ (Nat.zero_le _) (fun _ => rfl), hfin⟩
  | true =>
  rw [hfo] at hf1
  rw [(wrT_yes hfo).1, (wrT_yes hfo).2]
  obtain ⟨hF1, hF2, hF3, hF4⟩ := foT_iff.1 hfo
  have HTB : Hid (∀ k, k < l.length → tuB (l.getD k Tu.none) (cntO o) ax = true) := hF4
  have HCN : Hid (cntO o ≤ 86) := cnt_le hF1
  have HLE : Hid ((tuBt l).length ≤ 33000) := tuBt_le hfo
  have HTE : Hid (tuBt l = be2 ((l.length : Nat) : Int) ++ tusE l) := rfl
  have HTK : Hid (∀ k, (tusE (l.take k)).length ≤ 33000) := fun k => by
    have h1 := tuBt_le hfo
    have h2 : tusE l = tusE (l.take k) ++ tusE (l.drop k) := by rw [← tusE_append, List.take_append_drop]
    unfold tuBt at h1
    rw [List.length_append, h2, List.length_append] at h1
    omega
  clear hF1 hF4 hfo
  go_enter Tryz.func15, Tryz.ntmps15
  go_upto_region 1 with fail
  rw [← hW]
  clear hW
  go_wp2_with fail
  refine hf1.mono ?_
  rintro e u ⟨rfl, hb1⟩
  have HL : Hid (Gr TuE (fun k => k < u.heap.size) u la lc l) := (hl.below hb1).wide (fun k _ h => h)
  have HBW : Hid (Below w.heap.size w u) := hbW.trans (hb1.mono hbW.size)
  have hP0 := pc_newA u (· < u.heap.size) (fun _ h => h)
  have hB0 := bl1 (w := u) (.cells #[.slice none 0 0, .int .i64 0, .map none, .bool false] 96)
  clear hc hp hl hf1 hb1 X1 hbW p0 p1
  go_wp2_with fail
  refine (put16_any u.heap.size _ _ (l.length : Int) _ hP0 ⟨by omega, by omega⟩ (by decide)).mono ?_
  rintro e u1 ⟨rfl, hP1, hK1⟩
  rw [show St.zero = ⟨[], [], false⟩ from rfl, put16A (by omega) (by omega), List.nil_append] at hP1
  have hB1 : Below u.heap.size u u1 := hB0.trans (hK1.below (fun k hk => hk))
  obtain ⟨Q, hQ⟩ : ∃ Q, be2 ((l.length : Nat) : Int) = Q := ⟨_, rfl⟩
  have HQL : Hid (Q.length = 2) := by show _ = _; rw [← hQ]; rfl
  rw [hQ] at hP1 HTE
  have hI : Pc u1 u.heap.size (· < u.heap.size) ⟨Q ++ tusE (l.take 0), [], false⟩ := by
    rw [List.take_zero, tusE, List.append_nil]
    exact hP1
  obtain ⟨B, hBB⟩ : ∃ g, u.heap.size = g := ⟨_, rfl⟩
  have HBB : Hid (u.heap.size = B) := hBB
  rw [hBB] at hI hB1 HL ⊢
  clear hP0 hK1 hB0 hP1 hQ hBB
  go_wp2
  go_loopw [25] (fun i wr => ∃ k : Nat, k ≤ l.length ∧ i = .int .i64 k ∧ Pc wr B (· < B) ⟨Q ++ tusE (l.take k), [], false⟩ ∧ Below B u wr) (fun i _ => l.length - (intOf i).toNat)
  case atStart => exact ⟨0, Nat.zero_le _, rfl, hI, hB1⟩
  case round =>
    clear hI hB1
    obtain ⟨k, hk, rfl, hP, hB⟩ := hrel
    by_cases hkn : k < l.length
    · obtain ⟨b0, off, ra, rc, pa, pc, xa, xc, ya, yc, ea, hb, ht, d0, d1, d2, d3, d4⟩ := HL.out.tu (by rw [HBB.out]; exact hB) k hkn
      have hfk := HTB.out k hkn
      have HSJ : Hid (_) := tus_snoc hkn Q
      have HLJ : Hid ((Q ++ tusE (l.take k)).length ≤ 33002) := by show _ ≤ _; rw [List.length_append, HQL.out]; have := HTK.out k; omega
      obtain ⟨t, htt⟩ : ∃ t, l.getD k Tu.none = t := ⟨_, rfl⟩
      rw [htt] at ht d0 d1 d2 d3 d4 hfk HSJ
      obtain ⟨b2, hb2⟩ : ∃ b2, Q ++ tusE (l.take k) = b2 := ⟨_, rfl⟩
      rw [hb2] at hP HSJ HLJ
      subst ea
      have i1 : (0 : Int) ≤ (k : Int) := by omega
      have i2 : (k : Int) < (l.length : Int) := by omega
      obtain ⟨V, hV, X0, hb0⟩ : ∃ V, V = wr.alloc (.cells #[.slice ra t.rg.length rc, .bool t.al, .slice pa t.pts.length pc, .slice xa t.dx.length xc, .slice ya t.dy.length yc] 60) ∧ Bk 60 V wr.heap.size [.slice ra t.rg.length rc, .bool t.al, .slice pa t.pts.length pc, .slice xa t.dx.length xc, .slice ya t.dy.length yc] ∧ Below wr.heap.size wr V := ⟨_, rfl, Bk.new _ _ _, bl1 _⟩
      have hPV := hP.below hb0
      have hBV : Below B u V := hB.trans (hb0.mono (by have := hB.size; rw [HBB.out] at this; exact this))
      have hput := uput_any B (· < B) b2 _ ra rc pa pc xa xc ya yc t _ ax V hPV (ht.below hb0) (fun k hk => hk) hfk HCN.out (by omega) (by have := HLJ.out; omega)
      rw [← HSJ.out] at hput
      obtain ⟨q0, q1, q2, q3, q4, _⟩ := X0.five
      clear htt hb2 hP hPV ht
      go_upto_region 8 with fail
      rw [← hV]
      clear hV d0 d1 d2 d3 d4 hb0
      go_wp2_with fail
      refine hput.mono ?_
      rintro e v4 ⟨rfl, hP4, hk4⟩
      have hB4 : Below B u v4 := hBV.trans (hk4.below (fun k hk => hk))
      clear hput q0 q1 q2 q3 q4 hk4 X0 HSJ hB hBV
      go_wp2
      go_roundw
      case rel => exact ⟨k + 1, by omega, by go_num, hP4, hB4⟩
      case measure => simp [intOf]; omega
    · obtain rfl : k = l.length := by omega
      have g4 : ¬ (l.length : Int) < (l.length : Int) := by omega
      rw [List.take_length, ← HTE.out] at hP
      have hall := all_any B _ _ _ hP (Nat.le_trans HLE.out (by decide))
      have ea : allB ⟨tuBt l, [], false⟩ = tuBt l := by simp [allB]
      have eb : allE ⟨tuBt l, [], false⟩ = 0 := rfl
      rw [ea, eb] at hall
      have hbw := HBW.out.size
      rw [HBB.out] at hbw
      have hBw : Below w.heap.size w wr := HBW.out.trans (hB.mono hbw)
      clear hP ea eb
      go_wp2_with fail
      refine hall.mono ?_
      rintro e u9 ⟨a9, c9, rfl, hr9, hb9⟩
      have hB9 := hBw.trans (hb9.mono hBw.size)
      clear hall
      go_wp2
      go_ret2
      exact ⟨a9, c9, rfl, hr9.rd, hB9⟩

end Go.Proofs.YtngmcghmniakeaaGreat

namespace Go.Proofs.YtngmcghmniakeaaGreat
open Go.RowKit Go.Maps
set_option linter.unusedSimpArgs false
set_option linter.unusedVariables false

theorem Rb.from {w : World} {a : Option Addr} {cap : Nat} {xs : List Nat} (h : Rb w a cap xs) (n : Nat) (hn : n ≤ xs.length) : Rb w (if cap = n then a else a.map (fun x => x.add n)) (cap - n) (xs.drop n) := by
  by_cases h0 : n < xs.length
  · have := h.le
    rw [if_neg (by omega)]
    have hc := h.cut n (xs.length - n) (by omega)
    rwa [List.take_of_length_le (by rw [List.length_drop]; exact Nat.le_refl _)] at hc
  · have e : xs.drop n = [] := List.drop_eq_nil_of_le (by omega)
    rw [e]
    refine Rb.nil _ _ _ (Nat.le_trans (Nat.sub_le _ _) h.cap) (fun e2 => ?_)
    have h4 := h.2.2.2.1
    by_cases hc : cap = n
    · omega
    · rw [if_neg hc] at e2
      have := h4 (by cases a with | none => rfl | some x => cases e2)
      omega
theorem Ri.keepU {w w' : World} {a : Option Addr} {cap : Nat} {l : List Int} (h : Ri w a cap l) (hs : w.heap.size ≤ w'.heap.size) (hb : ∀ b o, a = some ⟨b, o, none⟩ → w'.heap[b]? = w.heap[b]?) : Ri w' a cap l := by
  obtain ⟨h1, h2, h3, h4⟩ := h
  refine ⟨h1, h2, h3, ?_⟩
  rcases h4 with h4 | ⟨b, off, e, h5, h6⟩
  · exact .inl h4
  · exact .inr ⟨b, off, e, Nat.lt_of_lt_of_le h5 hs, fun i hi => (World.cell?_of_block (w := w) (a := ⟨b, off + i, none⟩) (hb b off e)).trans (h6 i hi)⟩
theorem Kp.new {g b : Nat} {a w : World} (h : Kp g a w) (hb : a.heap.size ≤ b) (j : Nat) (z : Value) : Kp g a (w.setCell ⟨b, j, none⟩ z) := Keep.setCell h (p := ⟨b, j, none⟩) (fun e => Nat.not_lt.2 hb e.1) z
theorem Rb.blk {w : World} {a : Option Addr} {cap : Nat} {xs : List Nat} (h : Rb w a cap xs) (hne : xs ≠ []) {b o : Nat} (e : a = some ⟨b, o, none⟩) : b < w.heap.size := by
  rcases h.2.2.2.2 with h0 | ⟨b', o', e', hb, _⟩
  · exact absurd h0 hne
  · rw [e] at e'
    cases e'
    exact hb
theorem Sc.of {t : TypeId} {w u : World} {g : Nat} {pa : Option Addr} {pc : Nat} {xs : List Nat} {p q : Nat} (h : Sc t w g pa pc xs p) (hk : Kp g w u) (hb : Bk t u g [.slice pa xs.length pc, .int .i64 (q : Int)]) : Sc t u g pa pc xs q :=
  ⟨hb, h.rb.keep' hk.size (fun b o hlt e hne => hk.block hlt (h.2.2 b o e hne)), h.2.2⟩
theorem Gw.setB {α : Type} {E : El α} {t u : TypeId} {base g : Nat} {w : World} {v : Value} {l : List α} {cs : List Value} (h : Gw E t base (fun _ => False) w v l) (hb : Bk u w g cs) (ht : u ≠ t) (j : Nat) (z : Value) : Gw E t base (fun _ => False) (w.setCell ⟨g, j, none⟩ z) v l := h.kp hb ht ((Kp.refl g w).setCell j z)
/-- The three numbers of a tent, as they come. -/
def nv3 (z0 z1 z2 : Int) (k : Nat) : List Value := [.int .i64 (if 0 < k then z0 else 0), .int .i64 (if 1 < k then z1 else 0), .int .i64 (if 2 < k then z2 else 0)]
def zAt (b : List Nat) (p k : Nat) : Int := sx16 (nmV b ((p + 2 * k : Nat) : Int) 2)
theorem nv3_set (b : List Nat) (p k : Nat) (hk : k < 3) : (nv3 (zAt b p 0) (zAt b p 1) (zAt b p 2) k).set k (.int .i64 (zAt b p k)) = nv3 (zAt b p 0) (zAt b p 1) (zAt b p 2) (k + 1) := by
  match k, hk with
  | 0, _ => simp [nv3]
  | 1, _ => simp [nv3]
  | 2, _ => simp [nv3]
theorem nv3_get (z0 z1 z2 : Int) (k : Nat) (hk : k < 3) (j : Nat) (hj : j < 3) : ∃ z, (nv3 z0 z1 z2 k)[j]? = some (.int .i64 z) := by
  match j, hj with
  | 0, _ => exact ⟨_, rfl⟩
  | 1, _ => exact ⟨_, rfl⟩
  | 2, _ => exact ⟨_, rfl⟩
theorem zAt_i64 {b : List Nat} (hb : Byt b) (p k : Nat) : -32768 ≤ zAt b p k ∧ zAt b p k ≤ 32767 := by
  have := nmV_lt hb ((p + 2 * k : Nat) : Int) 2
  unfold zAt sx16
  split <;> omega
theorem teAt_z (b : List Nat) (p : Nat) : teAt b p = ⟨zAt b p 0, zAt b p 1, zAt b p 2⟩ := rfl

set_option maxHeartbeats 4000000 in
set_option maxRecDepth 100000 in
theorem utent_any (g : Nat) (pa : Option Addr) (pc : Nat) (xs : List Nat) (p : Nat) (w : World) (h : Sc 106 w g pa pc xs p) (hp : p ≤ 1000000) :
    Calls Tryz.prog 102 #[pg g] w fun e w' => e = .returned (.agg #[.int .i64 (teAt xs p).st, .int .i64 (teAt xs p).pk, .int .i64 (teAt xs p).en]) ∧ Sc 106 w' g pa pc xs (p + 6) ∧ Kp g w w' := by
  have HTZ : Hid (teAt xs p = ⟨zAt xs p 0, zAt xs p 1, zAt xs p 2⟩) := teAt_z xs p
  rw [HTZ.out]
  have hglt := h.bk.lt
  obtain ⟨W, hW, XT, XN, hbW⟩ : ∃ W, W = (w.alloc (.cells #[.int .i64 0, .int .i64 0, .int .i64 0] 57)).alloc (.cells #[.int .i64 0, .int .i64 0, .int .i64 0] 192) ∧ Bk 57 W w.heap.size [.int .i64 0, .int .i64 0, .int .i64 0] ∧ Bk 192 W (w.heap.size + 1) [.int .i64 0, .int .i64 0, .int .i64 0] ∧ Below w.heap.size w W :=
    ⟨_, rfl, (Bk.new _ _ [.int .i64 0, .int .i64 0, .int .i64 0]).below (bl1 _), Bk.new1 _ _ _ [.int .i64 0, .int .i64 0, .int .i64 0], (bl1 _).alloc (by simp) _⟩
  have hN0 : Bk 192 W (w.heap.size + 1) (nv3 (zAt xs p 0) (zAt xs p 1) (zAt xs p 2) 0) := XN
  have HS0 : Hid (Sc 106 w g pa pc xs p) := h
  have hS0 : Sc 106 W g pa pc xs (p + 2 * 0) := h.below hbW
  have hK0 : Kp g w W := Kp.of hbW
  have HBY : Hid (Byt xs) := h.rb.lim
  clear h XN hbW
  obtain ⟨gt, hgt⟩ : ∃ n, w.heap.size = n := ⟨_, rfl⟩
  have HGT : Hid (w.heap.size = gt) := hgt
  rw [hgt] at XT hN0 hglt
  go_enter Tryz.func102, Tryz.ntmps102
  go_upto_region 2 with fail
  rw [← hW]
  clear hW
  go_wp2
  clear hgt
  go_loopw [5] (fun i wr => ∃ k : Nat, k ≤ 3 ∧ i = .int .i64 k ∧ Sc 106 wr g pa pc xs (p + 2 * k) ∧ Bk 192 wr (gt + 1) (nv3 (zAt xs p 0) (zAt xs p 1) (zAt xs p 2) k) ∧ Bk 57 wr gt [.int .i64 0, .int .i64 0, .int .i64 0] ∧ Kp g w wr) (fun i _ => 3 - (intOf i).toNat)
  case atStart => exact ⟨0, Nat.zero_le _, rfl, hS0, hN0, XT, hK0⟩
  case round =>
    clear hS0 hN0 XT hK0
    obtain ⟨k, hk, rfl, hS, hN, hX, hKp⟩ := hrel
    by_cases hkn : k < 3
    · have hF := fun U (hr : Rb U pa pc xs) => i16_any pa pc xs ((p + 2 * k : Nat) : Int) U hr ⟨by omega, by omega⟩
      have HZ : Hid (sx16 (nmV xs ((p + 2 * k : Nat) : Int) 2) = zAt xs p k) := rfl
      simp only [HZ.out] at hF
      have hzb := zAt_i64 HBY.out p k
      have HNX : Hid (_) := nv3_set xs p k hkn
      obtain ⟨zo, hzo⟩ := nv3_get (zAt xs p 0) (zAt xs p 1) (zAt xs p 2) k hkn k hkn
      generalize zAt xs p k = zk at *
      generalize inB xs.length ((p + 2 * k : Nat) : Int) 2 = qb at hF
      obtain ⟨q, hq⟩ : ∃ q, p + 2 * k = q := ⟨_, rfl⟩
      have HQ2 : Hid (p + 2 * (k + 1) = q + 2) := by show _ = _; omega
      have hq6 : q ≤ 1000010 := by omega
      rw [hq] at hS hF
      clear hq
      obtain ⟨x0, x1, _⟩ := hS.bk.two
      have i1 : (0 : Int) ≤ (k : Int) := by omega
      have i2 : (k : Int) < 3 := by omega
      go_upto_region 5 with fail
      refine wp_region_held_drew (S := (fun u => u.cell? ⟨g, 0, none⟩ = some (.slice pa xs.length pc) ∧ u.cell? ⟨g, 1, none⟩ = some (.int .i64 (q : Int)))) (by kernel_rfl) ?_ (fun hHeld => ?_)
      · (try dsimp only)
        go_keep
      have hdr : Below wr.heap.size wr wr.drew := Below.drew1
      replace hKp : Kp g w wr.drew := hKp.drew
      generalize wr.drew = ud at hdr hKp hHeld ⊢
      replace hS := hS.below hdr
      replace hN := hN.below hdr
      replace hX := hX.below hdr
      clear hdr x0 x1
      refine hT 0 hHeld ?_
      refine hT 1 hHeld ?_
      refine hT 2 hHeld ?_
      refine hT 3 hHeld ?_
      refine hT 4 hHeld ?_
      refine hT 5 hHeld ?_
      refine hT 6 hHeld ?_
      refine hT 7 hHeld ?_
      refine hT 8 hHeld ?_
      refine hCall (i := 9) rfl (by kernel_rfl) (by rfl) (fun K hK => ?_)
      go_simp
      refine (hF _ hS.rb).mono ?_
      rintro e u1 ⟨rfl, rfl⟩
      go_wp2_with fail
      refine hK.out _ _ ?_ (fun hHeld => ?_)
      · (try dsimp only)
        exact hHeld
      clear hK K
      try simp only [Act.put, List.setIfInBounds_toArray, List.set_cons_zero, List.set_cons_succ]
      refine hT 10 hHeld ?_
      refine hT 11 hHeld ?_
      refine hT 12 hHeld ?_
      refine hT 13 hHeld ?_
      refine hCall (i := 14) rfl (by kernel_rfl) (by rfl) (fun K hK => ?_)
      have hce := (hN.cell k (by simpa [nv3] using hkn)).trans hzo
      have hfz := hN.fz k
      go_simp
      have hN2 := hN.set k (.int .i64 zk)
      rw [HNX.out] at hN2
      have hS2 : Sc 106 (ud.setCell ⟨gt + 1, k, none⟩ (.int .i64 zk)) g pa pc xs q := HS0.out.of (hKp.new (by rw [HGT.out]; omega) k _) (hS.bk.other k _ (by omega))
      have hX2 := hX.other k (.int .i64 zk) (b := gt + 1) (by omega)
      have hK2 : Kp g w (ud.setCell ⟨gt + 1, k, none⟩ (.int .i64 zk)) := hKp.new (by rw [HGT.out]; omega) k _
      clear hN hS hX hKp hce hfz hzo HNX
      generalize ud.setCell ⟨gt + 1, k, none⟩ (.int .i64 zk) = u2 at *
      obtain ⟨x0, x1, _⟩ := hS2.bk.two
      refine hK.out _ _ ?_ (fun hHeld => ?_)
      · (try dsimp only)
        exact ⟨x0, x1⟩
      clear hK K
      try simp only [Act.put, List.setIfInBounds_toArray, List.set_cons_zero, List.set_cons_succ]
      refine wpAnyH_done (by kernel_rfl) ?_ _
      clear hHeld
      obtain ⟨-, -, f0, f1⟩ := hS2.bk.two
      have hpn : (q : Int) + 2 = ((q + 2 : Nat) : Int) := by omega
      have HS : Hid (Sc 106 (u2.setCell ⟨g, 1, none⟩ (.int .i64 ((q + 2 : Nat) : Int))) g pa pc xs (q + 2)) := hS2.step (q + 2)
      have HK2 : Hid (Kp g w (u2.setCell ⟨g, 1, none⟩ (.int .i64 ((q + 2 : Nat) : Int)))) := hK2.setCell 1 _
      have HN3 : Hid (Bk 192 (u2.setCell ⟨g, 1, none⟩ (.int .i64 ((q + 2 : Nat) : Int))) (gt + 1) (nv3 (zAt xs p 0) (zAt xs p 1) (zAt xs p 2) (k + 1))) := hN2.other 1 _ (by omega)
      have HX3 : Hid (Bk 57 (u2.setCell ⟨g, 1, none⟩ (.int .i64 ((q + 2 : Nat) : Int))) gt [.int .i64 0, .int .i64 0, .int .i64 0]) := hX2.other 1 _ (by omega)
      obtain ⟨m, hm⟩ : ∃ m : Nat, q + 2 = m := ⟨_, rfl⟩
      have hml : m ≤ 1000012 := by omega
      rw [hm] at hpn HS HK2 HN3 HX3 HQ2
      clear hm hN2 hS2 hX2 hK2
      go_wp2
      go_roundw
      case rel => exact ⟨k + 1, by omega, by go_num, by rw [HQ2.out]; exact HS.out, HN3.out, HX3.out, HK2.out⟩
      case measure => simp [intOf]; omega
    · obtain rfl : k = 3 := by omega
      obtain ⟨n0, n1, n2, _⟩ := (show Bk 192 wr (gt + 1) [.int .i64 (zAt xs p 0), .int .i64 (zAt xs p 1), .int .i64 (zAt xs p 2)] from hN).three
      obtain ⟨y0, y1, y2, f0, f1, f2⟩ := hX.three
      have bz0 := zAt_i64 HBY.out p 0
      have bz1 := zAt_i64 HBY.out p 1
      have bz2 := zAt_i64 HBY.out p 2
      have hX3 := ((hX.set 0 (.int .i64 (zAt xs p 0))).set 1 (.int .i64 (zAt xs p 1))).set 2 (.int .i64 (zAt xs p 2))
      have hk3 : Kp g w (((wr.setCell ⟨gt, 0, none⟩ (.int .i64 (zAt xs p 0))).setCell ⟨gt, 1, none⟩ (.int .i64 (zAt xs p 1))).setCell ⟨gt, 2, none⟩ (.int .i64 (zAt xs p 2))) := ((hKp.new (by rw [HGT.out]; omega) 0 _).new (by rw [HGT.out]; omega) 1 _).new (by rw [HGT.out]; omega) 2 _
      have hS3 := HS0.out.of hk3 (((hS.bk.other 0 (.int .i64 (zAt xs p 0)) (b := gt) (by omega)).other 1 (.int .i64 (zAt xs p 1)) (b := gt) (by omega)).other 2 (.int .i64 (zAt xs p 2)) (b := gt) (by omega))
      have HF : Hid (Sc 106 (((wr.setCell ⟨gt, 0, none⟩ (.int .i64 (zAt xs p 0))).setCell ⟨gt, 1, none⟩ (.int .i64 (zAt xs p 1))).setCell ⟨gt, 2, none⟩ (.int .i64 (zAt xs p 2))) g pa pc xs (p + 6) ∧ Kp g w (((wr.setCell ⟨gt, 0, none⟩ (.int .i64 (zAt xs p 0))).setCell ⟨gt, 1, none⟩ (.int .i64 (zAt xs p 1))).setCell ⟨gt, 2, none⟩ (.int .i64 (zAt xs p 2)))) := ⟨hS3, hk3⟩
      have HX3 : Hid (_) := hX3.three
      clear hS3 hk3 hS hKp hN hX3 HTZ
      go_wp2
      refine bodyPost_ret (v := .agg #[.int .i64 (zAt xs p 0), .int .i64 (zAt xs p 1), .int .i64 (zAt xs p 2)]) (by obtain ⟨r0, r1, r2, _⟩ := HX3.out; simp [results, Tryz.results102, go_sem, r0, r1, r2]) rfl ⟨rfl, HF.out.1, HF.out.2⟩

theorem rcN_nat (b : List Nat) (n : Int) : ∃ q : Nat, rcN b n = (q : Int) ∧ q ≤ b.length ∧ (rcN b n).toNat = q := by
  unfold rcN
  cases h : rcO b n with
  | none => exact ⟨0, rfl, Nat.zero_le _, rfl⟩
  | some r =>
    refine ⟨r.2, rfl, ?_, rfl⟩
    unfold rcO at h
    split at h
    · exact (rdF_len _ _ _ _ _ _ _ (show rdF RC b n.toNat 0 n.toNat = some (r.1, r.2) from h)).2.2 (Nat.zero_le _)
    · cases h
theorem rcE_ok (b : List Nat) (n : Int) : (rcE b n == 0) = (rcO b n).isSome := by
  unfold rcE
  cases rcO b n with
  | none =>
    show ((if 0 ≤ n ∧ n ≤ 2000 then (2 : Int) else 4) == 0) = false
    split <;> decide
  | some r => rfl

set_option maxHeartbeats 1000000 in
set_option maxRecDepth 100000 in
theorem uchg_any (g : Nat) (pa : Option Addr) (pc : Nat) (xs : List Nat) (p : Nat) (n : Int) (w : World) (h : Sc 106 w g pa pc xs p) (hp : p ≤ xs.length) (hl : xs.length ≤ 100000) (hn : I64 n) :
    Calls Tryz.prog 104 #[pg g, .int .i64 n] w fun e w' => ∃ a' c', e = .returned (.tuple #[.slice a' (rcL (xs.drop p) n).length c', .bool (rcO (xs.drop p) n).isSome]) ∧ Ri w' a' c' (rcL (xs.drop p) n) ∧ (∀ b o, a' = some ⟨b, o, none⟩ → w.heap.size ≤ b) ∧ (a' = none → c' = 0) ∧ Sc 106 w' g pa pc xs (p + (rcN (xs.drop p) n).toNat) ∧ Kp g w w' := by
  have HDL : Hid ((xs.drop p).length = xs.length - p) := List.length_drop ..
  have hglt := h.bk.lt
  have hF := fun U (hr : Rb U pa pc xs) => cReadChangesL_any _ _ (xs.drop p) n U (hr.from p hp) (by rw [HDL.out]; omega) hn
  rw [HDL.out] at hF
  have HPA : Hid ((if pc = p then pa else pa.map (fun x => x.add p)) = (if pc = p then pa else pa.map (fun x => x.add p))) := rfl
  obtain ⟨pa2, hpa2⟩ : ∃ x, (if pc = p then pa else pa.map (fun x => x.add p)) = x := ⟨_, rfl⟩
  rw [hpa2] at hF
  replace HPA : Hid ((if pc = p then pa else pa.map (fun x => x.add p)) = pa2) := hpa2
  obtain ⟨q, hq1, hq2, hq3⟩ := rcN_nat (xs.drop p) n
  have HE := rcE_ok (xs.drop p) n
  rw [HDL.out] at hq2
  rw [hq3]
  rw [hq1] at hF
  have hpc := h.rb.le
  have hpm := h.rb.cap
  unfold maxLen at hpm
  obtain ⟨b2, hb2⟩ : ∃ b, xs.drop p = b := ⟨_, rfl⟩
  rw [hb2] at hF HE ⊢
  rw [← HE]
  clear hb2 hq1 hq3 HE hpa2
  obtain ⟨er, her⟩ : ∃ x, rcE b2 n = x := ⟨_, rfl⟩
  rw [her] at hF ⊢
  clear her
  obtain ⟨x0, x1, _⟩ := h.bk.two
  go_enter Tryz.func104, Tryz.ntmps104
  go_upto_region 1 with fail
  refine wp_region_held_drew (S := (fun u => u.cell? ⟨g, 0, none⟩ = some (.slice pa xs.length pc) ∧ u.cell? ⟨g, 1, none⟩ = some (.int .i64 (p : Int)))) (by kernel_rfl) ?_ (fun hHeld => ?_)
  · (try dsimp only)
    go_keep
  have hdr : Below w.heap.size w w.drew := Below.drew1
  have hkp : Kp g w w.drew := (Kp.refl g w).drew
  have hsd : w.heap.size ≤ w.drew.heap.size := hdr.size
  generalize w.drew = ud at hdr hkp hHeld hsd ⊢
  replace h := h.below hdr
  clear hdr x0 x1
  refine hT 0 hHeld ?_
  refine hT 1 hHeld ?_
  refine hT 2 hHeld ?_
  refine hT 3 hHeld ?_
  refine hT 4 hHeld ?_
  refine hT 5 hHeld ?_
  refine hT 6 hHeld ?_
  refine hT 7 hHeld ?_
  refine hTake (i := 8) (v := .slice pa2 (xs.length - p) (pc - p)) rfl (by kernel_rfl) (by kernel_rfl) (by kernel_rfl) (fun _ _ _ h => h) (Or.inl ⟨by rfl, ?y1⟩) hHeld ?r1
  case y1 =>
    intro w9 hSw
    (try dsimp only at hSw)
    go_simp
    exact HPA.out
  try simp only [Act.put, List.setIfInBounds_toArray, List.set_cons_zero, List.set_cons_succ]
  refine hT 9 hHeld ?_
  refine hCall (i := 10) rfl (by kernel_rfl) (by rfl) (fun K hK => ?_)
  go_simp
  refine (hF _ h.rb).mono ?_
  rintro e u1 ⟨a1, c1, rfl, hri, hlo, hno, hb1⟩
  replace h := h.below hb1
  replace hkp := hkp.trans (Kp.of hb1)
  obtain ⟨x0, x1, _⟩ := h.bk.two
  go_wp2_with fail
  refine hK.out _ _ ?_ (fun hHeld => ?_)
  · (try dsimp only)
    exact ⟨x0, x1⟩
  clear hK K x0 x1
  try simp only [Act.put, List.setIfInBounds_toArray, List.set_cons_zero, List.set_cons_succ]
  refine hT 11 hHeld ?_
  refine hT 12 hHeld ?_
  refine hT 13 hHeld ?_
  refine hT 14 hHeld ?_
  refine hT 15 hHeld ?_
  refine hT 16 hHeld ?_
  refine hT 17 hHeld ?_
  refine wpAnyH_done (by kernel_rfl) ?_ _
  clear hHeld
  obtain ⟨x0, x1, f0, f1⟩ := h.bk.two
  have hpn : (p : Int) + (q : Int) = ((p + q : Nat) : Int) := by omega
  have HS : Hid (Sc 106 (u1.setCell ⟨g, 1, none⟩ (.int .i64 ((p + q : Nat) : Int))) g pa pc xs (p + q)) := h.step (p + q)
  have HK2 : Hid (Kp g w (u1.setCell ⟨g, 1, none⟩ (.int .i64 ((p + q : Nat) : Int)))) := hkp.setCell 1 _
  have HR2 : Hid (Ri (u1.setCell ⟨g, 1, none⟩ (.int .i64 ((p + q : Nat) : Int))) a1 c1 (rcL b2 n) ∧ (∀ b o, a1 = some ⟨b, o, none⟩ → w.heap.size ≤ b) ∧ (a1 = none → c1 = 0)) :=
    ⟨hri.keepU (by simp [World.setCell]) (fun b o e => Below.heap_setCell _ _ _ _ (fun e2 => by have := hlo b o e; have e3 : b = g := e2; omega)), fun b o e => Nat.le_trans hsd (hlo b o e), hno⟩
  have hmm : p + q ≤ 200000 := by omega
  obtain ⟨m, hm⟩ : ∃ m : Nat, p + q = m := ⟨_, rfl⟩
  rw [hm] at hpn HS HK2 HR2 hmm
  have HM : Hid (p + q = m) := hm
  clear hm h hkp hri hlo hno hb1 hF hsd
  go_wp2
  go_ret2
  exact ⟨a1, c1, rfl, HR2.out.1, HR2.out.2.1, HR2.out.2.2, by rw [HM.out]; exact HS.out, HK2.out⟩

end Go.Proofs.YtngmcghmniakeaaGreat
