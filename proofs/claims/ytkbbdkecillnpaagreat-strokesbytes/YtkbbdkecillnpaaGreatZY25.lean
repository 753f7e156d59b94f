/-
  (*strokes.pen).do: the walk, all cases at once.
  foundryref12.Same, of two alike: the walk.
  (*strokes.pen).draw: the walk.
-/
import Derived.Test.YtkbbdkecillnpaaGreatZY24
import Derived.Test.YtkbbdkecillnpaaGreatZY8
import Derived.BigQuiet
import Derived.Deep.QuietTactic
import Derived.WalkSmall
import Derived.Outline
namespace Go.Proofs.YtkbbdkecillnpaaGreat
open Go.RowKit Go.Maps
set_option linter.unusedSimpArgs false
set_option linter.unusedVariables false

theorem ro_none18 {s : Sr} {x : Int} {cs : List Int} (h : fiS s x (-1) = true) : roN s x (-1) cs = x ∧ roE s x (-1) cs = 0 := by
  have hb := (fiS_iff.1 h).1
  have hr : rwB s (-1) = false := by unfold rwB; simp
  have e : vaQ s x (-1) cs = ((x : Int) : Rat) := by rw [vaQ, chQ_no hr, Rat.add_zero]
  unfold roN roE
  rw [h, if_pos rfl, if_pos rfl, e]
  exact fld_int hb.1 hb.2
theorem F6_nuL (s : Sr) (cs : List Int) (l : List (Int × Int)) : F6 (nuL (RS s cs) l) := by
  intro k _
  by_cases hk : k < l.length
  · have e : (nuL (RS s cs) l).getD k 0 = roN s (l.getD k (0, 0)).1 (l.getD k (0, 0)).2 cs := getD_mapS (fun a : Int × Int => (RS s cs).ro a.1 a.2) (e := (0, 0)) (e' := 0) hk
    rw [e]
    exact roN_in _ _ _ _
  · rw [List.getD_eq_getElem?_getD, List.getElem?_eq_none (by rw [nuL_len]; omega)]
    exact ⟨by decide, by decide⟩
/-- All that a pen reads. -/
structure Cx where
  a : Option Addr
  ca : Nat
  l : List (List Sp)
  ga : Option Addr
  gc : Nat
  ma : Option Addr
  mc : Nat
  s : Sr
  pa : Option Addr
  pc : Nat
  cs : List Int
/-- A pen's block. -/
def PenB (c : Cx) (B : Nat) (w : World) (p : Pe) (N : List Int) (v : Value) : Prop :=
  Bk 62 w B (pC (.slice c.a c.l.length c.ca) (.slice c.ga c.s.rg.length c.gc) (.slice c.ma c.s.rw.length c.mc) (.slice c.pa c.cs.length c.pc) p.x p.y (p.st : Int) N v)
/-- What drawing comes to. -/
structure DrP (c : Cx) (B : Nat) (p : Pe) (e : Ending) (w w' : World) : Prop where
  e : e = .returned (.int .i64 p.er)
  ok : p.er = 0 → OkP p ∧ ∃ N v, PenB c B w' p N v ∧ Co (B + 1) w' v p.out
  be : Below B w w'
def DrawC (c : Cx) (B : Nat) (w0 : World) (n : Nat) : Prop :=
  ∀ (k : Nat) (p : Pe) (N : List Int) (v : Value) (w : World), k < c.l.length → OkP p → PenB c B w p N v → Co (B + 1) w v p.out → Below B w0 w →
    Calls Tryz.prog 25 #[.pointer (some ⟨B, 0, none⟩), .int .i64 (k : Int), .int .i64 (10 - (n : Int))] w fun e w' => DrP c B (drN (RS c.s c.cs) c.l n (c.l.getD k []) p) e w w'
theorem do_any (c : Cx) (B : Nat) (w0 : World) (n : Nat) (hn : n ≤ 10) (hsub : n ≠ 0 → DrawC c B w0 (n - 1)) (x : Sp) (p : Pe) (v : Value) (xa : Option Addr) (xc : Nat) (w : World) (hx : spF (fiS c.s) c.l.length x = true) (ho : OkS p) (hP : PenB c B w p (nuL (RS c.s c.cs) x.ar) v) (hC : Co (B + 1) w v p.out) (hB : Below B w0 w) :
    Calls Tryz.prog 43 #[.pointer (some ⟨B, 0, none⟩), .agg #[.int .i64 x.d, .slice xa x.ar.length xc], .int .i64 (10 - (n : Int))] w fun e w' => DrP c B (drT (RS c.s c.cs) c.l n (sbN (RS c.s c.cs) c.l n) x p) e w w' := by
  obtain ⟨s1, s2, s3⟩ := spF_iff.1 hx
  have hN := F6_nuL c.s c.cs x.ar
  have hBl : B < w.heap.size := Bk.lt hP
  have hst := ho.st
  have hs1 := ho.s1
  have hol := ho.ol
  have hlast := ho.ok.last
  have hx1 : -50000000 ≤ p.x := by have := ho.ok.1.1; omega
  have hx2 : p.x ≤ 50000000 := by have := ho.ok.1.2; omega
  have hy1 : -50000000 ≤ p.y := by have := ho.ok.2.1.1; omega
  have hy2 : p.y ≤ 50000000 := by have := ho.ok.2.1.2; omega
  have f0 := hN 0 (by omega)
  have f1 := hN 1 (by omega)
  have f2 := hN 2 (by omega)
  have f3 := hN 3 (by omega)
  have f4 := hN 4 (by omega)
  have f5 := hN 5 (by omega)
  have hd := arD_in x.d
  by_cases h4 : x.d = 4
  · rw [h4]
    have hl1 : x.ar.length = 1 := by rw [h4] at s1; have : arD 4 = 1 := rfl; omega
    rcases Nat.eq_zero_or_pos n with h0 | h0
    · subst h0
      refine (do4_deep B xa x.ar.length xc w (Nat.le_of_lt hBl)).mono ?_
      rintro e w' ⟨rfl, hb⟩
      rw [drT_deep h4]
      exact ⟨rfl, fun h => absurd h (by show ¬ (6 : Int) = 0; decide), hb⟩
    · obtain ⟨t1, t2, t3⟩ := s3 h4
      have t4 := s2 0 (by omega)
      rw [t1] at t4
      have e0 : (nuL (RS c.s c.cs) x.ar).getD 0 0 = (x.ar.getD 0 (0, 0)).1 := by
        have e : (nuL (RS c.s c.cs) x.ar).getD 0 0 = roN c.s (x.ar.getD 0 (0, 0)).1 (x.ar.getD 0 (0, 0)).2 c.cs := getD_mapS (fun a : Int × Int => (RS c.s c.cs).ro a.1 a.2) (e := (0, 0)) (e' := 0) (by omega)
        rw [e, t1]
        exact (ro_none18 t4).1
      obtain ⟨k, hk⟩ : ∃ k : Nat, (x.ar.getD 0 (0, 0)).1 = (k : Int) := ⟨(x.ar.getD 0 (0, 0)).1.toNat, by omega⟩
      obtain ⟨m, rfl⟩ : ∃ m, n = m + 1 := ⟨n - 1, by omega⟩
      have hokp : OkP p := ⟨ho.st, ho.ok.mono (by omega), by omega, ho.er⟩
      have hD := hsub (by omega)
      rw [Nat.add_sub_cancel] at hD
      rw [drT_sub h4 (by omega), e0, hk, Int.toNat_natCast]
      refine do4_any B _ _ _ _ _ _ _ _ v xa x.ar.length xc _ w hP (by omega) (by omega) _ (fun U hU => ?_)
      rw [e0, hk, show (10 : Int) - ((m + 1 : Nat) : Int) + 1 = 10 - (m : Int) by omega]
      refine (hD k p _ v U (by omega) hokp (Bk.below hP hU) (hC.below hU) (hB.trans (hU.mono (Nat.le_of_lt hBl)))).mono ?_
      rintro e w' ⟨rfl, h1, h2⟩
      exact ⟨⟨_, rfl⟩, rfl, h1, (hU.mono (Nat.le_of_lt hBl)).trans h2⟩
  by_cases h1 : x.d = 1
  · have hl1 : x.ar.length = 2 := by rw [h1] at s1; have : arD 1 = 2 := rfl; omega
    rw [h1, hl1, drT_go h1]
    refine (do1_any B _ _ _ _ p.x p.y (p.st : Int) _ v p.out xa xc _ w hP hC hN hx1 hx2 hy1 hy2 (by omega)).mono ?_
    rintro e w' ⟨rfl, ⟨v', g1, g2⟩, hb⟩
    refine ⟨by show _ = Ending.returned (.int .i64 p.er); rw [ho.er], fun _ => ⟨ho.go f0 f1, _, v', g1, g2⟩, hb⟩
  by_cases hout : p.out = []
  · have hd23 : x.d = 2 ∨ x.d = 3 := by omega
    rw [drT_none hd23 hout]
    rw [hout] at hC
    refine (do_none B _ _ _ _ p.x p.y (p.st : Int) _ v x.d xa x.ar.length xc _ w hP hC hd23).mono ?_
    rintro e w' ⟨rfl, hb⟩
    exact ⟨rfl, fun h => absurd h (by show ¬ (1 : Int) = 0; decide), hb⟩
  by_cases h2 : x.d = 2
  · have hl1 : x.ar.length = 2 := by rw [h2] at s1; have : arD 2 = 2 := rfl; omega
    rw [h2, hl1, drT_line h2 hout]
    refine (do2_any B _ _ _ _ p.x p.y (p.st : Int) _ v p.out xa xc _ w hP hC hN hx1 hx2 hy1 hy2 hout (by omega)).mono ?_
    rintro e w' ⟨rfl, ⟨v', g1, g2⟩, hb⟩
    refine ⟨by show _ = Ending.returned (.int .i64 p.er); rw [ho.er], fun _ => ⟨ho.line f0 f1, _, v', g1, g2⟩, hb⟩
  · have h3 : x.d = 3 := by omega
    have hl1 : x.ar.length = 6 := by rw [h3] at s1; have : arD 3 = 6 := rfl; omega
    rw [h3, hl1, drT_curve h3 hout]
    refine (do3_any B _ _ _ _ p.x p.y (p.st : Int) _ v p.out xa xc _ w hP hC hN hx1 hx2 hy1 hy2 hout (by omega)).mono ?_
    rintro e w' ⟨rfl, ⟨v', g1, g2⟩, hb⟩
    refine ⟨by show _ = Ending.returned (.int .i64 p.er); rw [ho.er], fun _ => ⟨ho.curve f0 f1 f2 f3 f4 f5, _, v', g1, g2⟩, hb⟩

end Go.Proofs.YtkbbdkecillnpaaGreat

namespace Go.Proofs.YtkbbdkecillnpaaGreat
open Go.RowKit Go.Maps
set_option linter.unusedSimpArgs false
set_option linter.unusedVariables false

theorem Gr.rwAt {α : Type} {E : El α} {S : Nat → Prop} {w : World} {a : Option Addr} {cap : Nat} {m : List (List α)} (h : Gr E.row S w a cap m) (k : Nat) (hk : k < m.length) :
    ∃ b off a' cap', a = some ⟨b, off, none⟩ ∧ b < w.heap.size ∧ (∀ wr, Below w.heap.size w wr → wr.cell? ⟨b, off + k, none⟩ = some (.slice a' (m.getD k []).length cap')) ∧ Gr E S w a' cap' (m.getD k []) := by
  obtain ⟨b, off, a', cap', e, hb, hc, hr, _⟩ := h.rw (Below.refl _ _) k hk
  exact ⟨b, off, a', cap', e, hb, fun wr hB => (hB.cell (p := ⟨b, off + k, none⟩) hb).trans hc, hr⟩

set_option maxHeartbeats 4000000 in
set_option maxRecDepth 100000 in
theorem ssameO_any (S S2 : Nat → Prop) (a : Option Addr) (ca : Nat) (b : Option Addr) (cb : Nat) (a' : Option Addr) (ca' : Nat) (b' : Option Addr) (cb' : Nat) (o : Ol) (w : World) (hg : Gr PnE.row S w a ca o.cs) (hm : Gr PaE S w b cb o.ps) (hg' : Gr PnE.row S2 w a' ca' o.cs) (hm' : Gr PaE S2 w b' cb' o.ps) :
    Calls Tryz.prog 27 #[.agg #[.slice a o.cs.length ca, .slice b o.ps.length cb], .agg #[.slice a' o.cs.length ca', .slice b' o.ps.length cb']] w fun e w' => e = .returned (.bool true) ∧ Below w.heap.size w w' := by
  have k1 := hg.lenB
  have k2 := hm.lenB
  have g1 : ((o.cs.length : Int) != (o.cs.length : Int)) = false := by simp
  have g2 : ((o.ps.length : Int) != (o.ps.length : Int)) = false := by simp
  obtain ⟨W, hW, X1, X2, hbW⟩ : ∃ W, W = (w.alloc (.cells #[.slice a o.cs.length ca, .slice b o.ps.length cb] 71)).alloc (.cells #[.slice a' o.cs.length ca', .slice b' o.ps.length cb'] 71) ∧
      Bk 71 W w.heap.size [.slice a o.cs.length ca, .slice b o.ps.length cb] ∧ Bk 71 W (w.heap.size + 1) [.slice a' o.cs.length ca', .slice b' o.ps.length cb'] ∧ Below w.heap.size w W := ⟨_, rfl, (Bk.new _ _ _).below (bl1 _), Bk.new1 _ _ _ _, bl2 _ _⟩
  have HA : Hid (Gr PnE.row S W a ca o.cs) := hg.below hbW
  have HB : Hid (Gr PnE.row S2 W a' ca' o.cs) := hg'.below hbW
  have HC : Hid (Gr PaE S W b cb o.ps) := hm.below hbW
  have HD : Hid (Gr PaE S2 W b' cb' o.ps) := hm'.below hbW
  have HX1 : Hid (Bk 71 W w.heap.size [.slice a o.cs.length ca, .slice b o.ps.length cb]) := X1
  have HX2 : Hid (Bk 71 W (w.heap.size + 1) [.slice a' o.cs.length ca', .slice b' o.ps.length cb']) := X2
  have HBW : Hid (Below w.heap.size w W) := hbW
  clear hg hm hg' hm' X1 X2 hbW
  go_enter Tryz.func27, Tryz.ntmps27
  go_wp2
  rw [← hW]
  clear hW g1 g2
  go_loopw [5] (fun i wr => ∃ k : Nat, k ≤ o.cs.length ∧ i = .int .i64 k ∧ Below W.heap.size W wr) (fun i _ => o.cs.length - (intOf i).toNat)
  case atStart => exact ⟨0, Nat.zero_le _, rfl, Below.refl _ _⟩
  case round =>
    obtain ⟨k, hk, rfl, hnx⟩ := hrel
    obtain ⟨x0, x1, _⟩ := (HX1.out.below hnx).two
    obtain ⟨y0, y1, _⟩ := (HX2.out.below hnx).two
    by_cases hkn : k < o.cs.length
    · obtain ⟨b1, o1, a1, c1, ea, l1, d1, p1⟩ := HA.out.rwAt k hkn
      obtain ⟨b2, o2, a2, c2, eb, l2, d2, p2⟩ := HB.out.rwAt k hkn
      obtain ⟨l, hl⟩ : ∃ l, o.cs.getD k [] = l := ⟨_, rfl⟩
      rw [hl] at d1 p1 d2 p2
      have e2 := p1.lenB
      have HD1 : Hid (∀ V, Below W.heap.size W V → V.cell? ⟨b1, o1 + k, none⟩ = some (.slice a1 l.length c1) ∧ V.cell? ⟨b2, o2 + k, none⟩ = some (.slice a2 l.length c2)) := fun V hV => ⟨d1 V hV, d2 V hV⟩
      have HP1 : Hid (Gr PnE S W a1 c1 l) := p1
      have HP2 : Hid (Gr PnE S2 W a2 c2 l) := p2
      have hll : ((l.length : Int) != (l.length : Int)) = false := by simp
      obtain ⟨q1, q2⟩ := HD1.out wr hnx
      have i1 : (0 : Int) ≤ (k : Int) := by omega
      have i2 : (k : Int) < (o.cs.length : Int) := by omega
      subst ea eb
      clear hl d1 d2 p1 p2
      go_wp2_with fail
      go_quiet (fail)
      have HNX : Hid (Below W.heap.size W wr) := hnx
      clear q1 q2 hnx x0 x1 y0 y1
      go_wp2
      go_loopw [6] (fun i wr2 => ∃ j : Nat, j ≤ l.length ∧ i = .int .i64 j ∧ Below W.heap.size W wr2) (fun i _ => l.length - (intOf i).toNat)
      case atStart => exact ⟨0, Nat.zero_le _, rfl, below_drewN HNX.out _⟩
      case round =>
        obtain ⟨j, hj, rfl, hny⟩ := hrel
        obtain ⟨q1, q2⟩ := HD1.out wr hny
        obtain ⟨x0, x1, _⟩ := (HX1.out.below hny).two
        obtain ⟨y0, y1, _⟩ := (HX2.out.below hny).two
        by_cases hjn : j < l.length
        · obtain ⟨b3, o3, ec, _, _, c0, c1', c2'⟩ := HP1.out.pn hny j hjn
          obtain ⟨b4, o4, ed, _, _, d0, d1, d2⟩ := HP2.out.pn hny j hjn
          generalize l.getD j Pn.none = t at *
          obtain ⟨x, y, z⟩ := t
          dsimp only at c0 c1' c2' d0 d1 d2
          subst ec ed
          have i3 : (0 : Int) ≤ (j : Int) := by omega
          have i4 : (j : Int) < (l.length : Int) := by omega
          go_wp2_with fail
          go_quiet (fail)
          go_wp2
          go_roundw
          case rel => exact ⟨j + 1, by omega, by go_num, below_drewN hny _⟩
          case measure => simp [intOf]; omega
        · have g1 : ¬ (j : Int) < (l.length : Int) := by omega
          go_wp2
          go_roundw
          case rel => exact ⟨k + 1, by omega, by go_num, hny⟩
          case measure => simp [intOf]; omega
    · have g1 : ¬ (k : Int) < (o.cs.length : Int) := by omega
      go_wp2
      clear x0 x1 y0 y1 hkn hk g1
      go_loopw [7] (fun i wr => ∃ k : Nat, k ≤ o.ps.length ∧ i = .int .i64 k ∧ Below W.heap.size W wr) (fun i _ => o.ps.length - (intOf i).toNat)
      case atStart => exact ⟨0, Nat.zero_le _, rfl, hnx⟩
      case round =>
        clear hnx
        obtain ⟨k, hk, rfl, hnx⟩ := hrel
        obtain ⟨x0, x1, _⟩ := (HX1.out.below hnx).two
        obtain ⟨y0, y1, _⟩ := (HX2.out.below hnx).two
        by_cases hkn : k < o.ps.length
        · obtain ⟨b3, o3, ec, _, _, c0, c1', c2'⟩ := HC.out.pa hnx k hkn
          obtain ⟨b4, o4, ed, _, _, d0, d1, d2⟩ := HD.out.pa hnx k hkn
          generalize o.ps.getD k Pa.none = t at *
          obtain ⟨x, y, z⟩ := t
          dsimp only at c0 c1' c2' d0 d1 d2
          subst ec ed
          have i3 : (0 : Int) ≤ (k : Int) := by omega
          have i4 : (k : Int) < (o.ps.length : Int) := by omega
          go_wp2_with fail
          go_quiet (fail)
          go_wp2
          go_roundw
          case rel => exact ⟨k + 1, by omega, by go_num, below_drewN hnx _⟩
          case measure => simp [intOf]; omega
        · have g1 : ¬ (k : Int) < (o.ps.length : Int) := by omega
          have hbW := HBW.out.trans (hnx.mono HBW.out.size)
          go_wp2
          go_ret
          exact ⟨rfl, hbW⟩

end Go.Proofs.YtkbbdkecillnpaaGreat

namespace Go.Proofs.YtkbbdkecillnpaaGreat
open Go.RowKit Go.Maps
set_option linter.unusedSimpArgs false
set_option linter.unusedVariables false

theorem Bk.setN {w : World} {B : Nat} {d0 d1 d2 d3 : Value} {x y st : Int} {N : List Int} {v : Value} (h : Bk 62 w B (pC d0 d1 d2 d3 x y st N v)) (M : List Int) : Bk 62 ((((((w.setCell ⟨B, 7, none⟩ (.int .i64 (M.getD 0 0))).setCell ⟨B, 8, none⟩ (.int .i64 (M.getD 1 0))).setCell ⟨B, 9, none⟩ (.int .i64 (M.getD 2 0))).setCell ⟨B, 10, none⟩ (.int .i64 (M.getD 3 0))).setCell ⟨B, 11, none⟩ (.int .i64 (M.getD 4 0))).setCell ⟨B, 12, none⟩ (.int .i64 (M.getD 5 0))) B (pC d0 d1 d2 d3 x y st M v) := (((((h.set 7 _).set 8 _).set 9 _).set 10 _).set 11 _).set 12 _
theorem below_setN {B g : Nat} {a w : World} (h : Below B a w) (hb : B ≤ g) (x' y' z' u' v' r' : Value) : Below B a ((((((w.setCell ⟨g, 7, none⟩ x').setCell ⟨g, 8, none⟩ y').setCell ⟨g, 9, none⟩ z').setCell ⟨g, 10, none⟩ u').setCell ⟨g, 11, none⟩ v').setCell ⟨g, 12, none⟩ r') :=
  (((((h.setCell (p := ⟨g, 7, none⟩) hb x').setCell (p := ⟨g, 8, none⟩) hb y').setCell (p := ⟨g, 9, none⟩) hb z').setCell (p := ⟨g, 10, none⟩) hb u').setCell (p := ⟨g, 11, none⟩) hb v').setCell (p := ⟨g, 12, none⟩) hb r'
/-- What holds round by round. -/
structure DrI (c : Cx) (B n : Nat) (w : World) (d : List Sp) (p : Pe) (wr : World) (j : Nat) (q : Pe) (N : List Int) (v : Value) : Prop where
  ok : OkP q
  bk : PenB c B wr q N v
  co : Co (B + 1) wr v q.out
  be : Below B w wr
  eq : drN (RS c.s c.cs) c.l n d p = drA (drS (RS c.s c.cs) c.l n (sbN (RS c.s c.cs) c.l n)) (d.drop j) q

set_option maxHeartbeats 8000000 in
set_option maxRecDepth 100000 in
theorem draw_step (S : Nat → Prop) (a : Option Addr) (ca : Nat) (l : List (List Sp)) (ga : Option Addr) (gc : Nat) (ma : Option Addr) (mc : Nat) (s : Sr) (pa : Option Addr) (pc : Nat) (cs : List Int) (w0 : World) (hl : Gr SpE.row S w0 a ca l) (hg : Tzz w0 ga gc s.rg) (hm : Rii w0 ma mc s.rw) (hp : Ri w0 pa pc cs) (h40 : s.rg.length ≤ 40) (h8 : ∀ l ∈ s.rg, l.length ≤ 8) (hfo : foD (fiS s) l = true) (n : Nat) (hn : n ≤ 10) (hsub : n ≠ 0 → DrawC ⟨a, ca, l, ga, gc, ma, mc, s, pa, pc, cs⟩ w0.heap.size w0 (n - 1)) : DrawC ⟨a, ca, l, ga, gc, ma, mc, s, pa, pc, cs⟩ w0.heap.size w0 n := by
  intro k p N v w hk hok hP hC hB
  dsimp only at hk
  have kl := hl.lenB
  obtain ⟨b1, off, a1, c1, ea, hb1, hc0, hd⟩ := hl.rwAt k hk
  have HDF : Hid (drF (fiS s) l.length (l.getD k []) = true) := (foD_iff.1 hfo).2 k hk
  obtain ⟨d, hdd⟩ : ∃ d, l.getD k [] = d := ⟨_, rfl⟩
  have HEQ : Hid ((⟨a, ca, l, ga, gc, ma, mc, s, pa, pc, cs⟩ : Cx).l.getD k [] = d) := hdd
  rw [hdd] at hc0 hd HDF
  have hdl := hd.lenB
  have c0 := hc0 w hB
  have HD : Hid (Gr SpE S w0 a1 c1 d) := hd
  have HG : Hid (Tzz w0 ga gc s.rg) := hg
  have HM : Hid (Rii w0 ma mc s.rw) := hm
  have HP : Hid (Ri w0 pa pc cs) := hp
  have HS : Hid (n ≠ 0 → DrawC ⟨a, ca, l, ga, gc, ma, mc, s, pa, pc, cs⟩ w0.heap.size w0 (n - 1)) := hsub
  obtain ⟨B, hBe⟩ : ∃ B, w0.heap.size = B := ⟨_, rfl⟩
  have HBE : Hid (w0.heap.size = B) := hBe
  rw [hBe] at hP hC hB HS
  have HI0 : DrI ⟨a, ca, l, ga, gc, ma, mc, s, pa, pc, cs⟩ B n w d p w 0 p N v := ⟨hok, hP, hC, Below.refl _ _, by rw [List.drop_zero]; exact drN_sb _ _ _ _ _⟩
  have HB : Hid (Below B w0 w) := hB
  have p0 : w.cell? ⟨B, 0, none⟩ = some (.slice a l.length ca) := Bk.cell hP 0 (by show 0 < 14; omega)
  have HBW : Hid (B < w.heap.size) := Bk.lt hP
  have i1 : (0 : Int) ≤ (k : Int) := by omega
  have i2 : (k : Int) < (l.length : Int) := by omega
  rw [HEQ.out, hBe]
  obtain ⟨z, hz⟩ : ∃ z, (10 : Int) - (n : Int) = z := ⟨_, rfl⟩
  have HZ : Hid ((10 : Int) - (n : Int) = z) := hz
  rw [hz]
  have hz1 : 0 ≤ z := by omega
  have hz2 : z ≤ 10 := by omega
  subst ea
  clear hc0 hd hdd hg hm hp hsub hP hC hB hok hBe hz hl
  go_enter Tryz.func25, Tryz.ntmps25
  go_wp2
  clear p0 c0 i1 i2
  go_loopw [20] (fun i wr => ∃ (j : Nat) (q : Pe) (N : List Int) (v : Value), j ≤ d.length ∧ i = .int .i64 j ∧ DrI ⟨some ⟨b1, off, none⟩, ca, l, ga, gc, ma, mc, s, pa, pc, cs⟩ B n w d p wr j q N v) (fun i _ => d.length - (intOf i).toNat)
  case atStart => exact ⟨0, p, N, v, Nat.zero_le _, rfl, HI0⟩
  case round =>
    clear HI0
    obtain ⟨j, q, N, v, hj, rfl, hI⟩ := hrel
    by_cases hjn : j < d.length
    rotate_left
    · have g4 : ¬ (j : Int) < (d.length : Int) := by omega
      have HF : Hid (drN (RS s cs) l n d p = q) := by
        have := hI.eq
        rw [drA_end _ (by omega)] at this
        exact this
      have he := hI.ok.er
      have HI2 : Hid (_) := hI
      clear hI
      go_wp2
      go_ret
      show DrP _ _ (drN (RS s cs) l n d p) _ _ _
      rw [HF.out]
      exact ⟨by rw [HI2.out.ok.er]; rfl, fun _ => ⟨HI2.out.ok, N, v, HI2.out.bk, HI2.out.co⟩, HI2.out.be⟩
    have HEQ2 : Hid (drN (RS s cs) l n d p = drA (drS (RS s cs) l n (sbN (RS s cs) l n)) (d.drop (j + 1)) (drS (RS s cs) l n (sbN (RS s cs) l n) (d.getD j Sp.none) q)) := by
      have := hI.eq
      rw [drA_at _ hjn hI.ok.er] at this
      exact this
    have hSPF : spF (fiS s) l.length (d.getD j Sp.none) = true := (drF_iff.1 HDF.out).2 j hjn
    have hBr : Below B w0 wr := HB.out.trans hI.be
    have hBr0 : Below w0.heap.size w0 wr := by rw [HBE.out]; exact hBr
    obtain ⟨b2, of2, a2, c2, ea2, hb2, hI64, e0, e1, hsl, -⟩ := HD.out.sp (Below.refl _ _) j hjn
    have d0 := (hBr0.cell (p := ⟨b2, of2 + j * 2, none⟩) hb2).trans e0
    have d1 := (hBr0.cell (p := ⟨b2, of2 + j * 2 + 1, none⟩) hb2).trans e1
    obtain ⟨x, hx⟩ : ∃ x, d.getD j Sp.none = x := ⟨_, rfl⟩
    rw [hx] at HEQ2 hSPF hI64 d0 d1 hsl
    have h6 : x.ar.length ≤ 6 := by have h1 := (spF_iff.1 hSPF).1; have h2 := arD_in x.d; omega
    have HSP : Hid (spF (fiS s) l.length x = true) := hSPF
    have HSL : Hid (Gr SlE S w0 a2 c2 x.ar) := hsl
    subst ea2
    clear hx e0 e1 hSPF hsl
    have i3 : (0 : Int) ≤ (j : Int) := by omega
    have i4 : (j : Int) < (d.length : Int) := by omega
    obtain ⟨U, hU, XG, hbU⟩ : ∃ U, U = wr.alloc (.cells #[.int .i64 x.d, .slice a2 x.ar.length c2] 50) ∧ Bk 50 U wr.heap.size [.int .i64 x.d, .slice a2 x.ar.length c2] ∧ Below wr.heap.size wr U := ⟨_, rfl, Bk.new _ _ _, bl1 _⟩
    have hBl : B < wr.heap.size := Bk.lt hI.bk
    have hPU := Bk.below hI.bk hbU
    have hCU := hI.co.below hbU
    have hBU : Below B w U := hI.be.trans (hbU.mono (Nat.le_of_lt hBl))
    have HOK : Hid (OkP q) := hI.ok
    have hst := hI.ok.st
    have s0 : U.cell? ⟨B, 6, none⟩ = some (.int .i64 (q.st : Int)) := hPU.cell 6 (by show 6 < 14; omega)
    have f6 := hPU.fz 6
    go_upto_region 4 with fail
    rw [← hU]
    clear hU d0 d1 hI hbU
    by_cases h400 : 400 ≤ q.st
    · have g4 : ((q.st : Int) == 400) = true := beq_iff_eq.2 (by omega)
      have g5 : (q.st : Int) = 400 := by omega
      have HF : Hid (drN (RS s cs) l n d p = { q with er := 3 }) := by
        show _ = _
        rw [HEQ2.out, drS_long h400, drA_stop _ _ (by show ¬ (3 : Int) = 0; decide)]
      have HPU : Hid (Below B w U) := hBU
      rw [g5] at s0
      clear g4 g5 HEQ2 hPU hCU hBU
      go_wp2
      go_ret
      show DrP _ _ (drN (RS s cs) l n d p) _ _ _
      rw [HF.out]
      exact ⟨rfl, fun h => absurd h (by show ¬ (3 : Int) = 0; decide), HPU.out⟩
    have g4 : ((q.st : Int) == 400) = false := beq_eq_false_iff_ne.2 (by omega)
    have g5 : IntKind.i64.wrap ((q.st : Int) + 1) = (q.st : Int) + 1 := wrapi64 (by omega) (by omega)
    obtain ⟨U2, hU2, hP2, hC2, XG2, hB2⟩ : ∃ U2, U2 = U.setCell ⟨B, 6, none⟩ (.int .i64 ((q.st : Int) + 1)) ∧ Bk 62 U2 B (pC (.slice (some ⟨b1, off, none⟩) l.length ca) (.slice ga s.rg.length gc) (.slice ma s.rw.length mc) (.slice pa cs.length pc) q.x q.y ((q.st : Int) + 1) N v) ∧ Co (B + 1) U2 v q.out ∧ Bk 50 U2 wr.heap.size [.int .i64 x.d, .slice a2 x.ar.length c2] ∧ Below B w U2 :=
      ⟨_, rfl, hPU.set 6 _, hCU.set (Nat.lt_succ_self _), XG.other 6 _ (by omega), hBU.setCell (p := ⟨B, 6, none⟩) (Nat.le_refl _) _⟩
    go_upto_region 7 with fail
    rw [← hU2]
    clear hU2 s0 f6 hPU hCU XG hBU g4 g5
    obtain ⟨y0, y1, -⟩ := XG2.two
    have m1 : U2.cell? ⟨B, 1, none⟩ = some (.slice ga s.rg.length gc) := hP2.cell 1 (by show 1 < 14; omega)
    have m2 : U2.cell? ⟨B, 2, none⟩ = some (.slice ma s.rw.length mc) := hP2.cell 2 (by show 2 < 14; omega)
    have m3 : U2.cell? ⟨B, 3, none⟩ = some (.slice pa cs.length pc) := hP2.cell 3 (by show 3 < 14; omega)
    have hro := fun V (hV : Below B w V) => rounded_any S a2 c2 x.ar ga gc ma mc s pa pc cs V (HSL.out.below (by rw [HBE.out]; exact HB.out.trans hV)) (HG.out.below (by rw [HBE.out]; exact HB.out.trans hV)) (HM.out.below (by rw [HBE.out]; exact HB.out.trans hV)) (HP.out.below (by rw [HBE.out]; exact HB.out.trans hV)) h40 h8 h6
    obtain ⟨M, hM⟩ : ∃ M, ru6 (RS s cs) x.ar = M := ⟨_, rfl⟩
    obtain ⟨E, hE⟩ : ∃ E, nuE (RS s cs) x.ar = E := ⟨_, rfl⟩
    rw [hM, hE] at hro
    unfold c6 at hro
    obtain ⟨n0, hn0⟩ : ∃ z, M.getD 0 0 = z := ⟨_, rfl⟩
    obtain ⟨n1, hn1⟩ : ∃ z, M.getD 1 0 = z := ⟨_, rfl⟩
    obtain ⟨n2, hn2⟩ : ∃ z, M.getD 2 0 = z := ⟨_, rfl⟩
    obtain ⟨n3, hn3⟩ : ∃ z, M.getD 3 0 = z := ⟨_, rfl⟩
    obtain ⟨n4, hn4⟩ : ∃ z, M.getD 4 0 = z := ⟨_, rfl⟩
    obtain ⟨n5, hn5⟩ : ∃ z, M.getD 5 0 = z := ⟨_, rfl⟩
    rw [hn0, hn1, hn2, hn3, hn4, hn5] at hro
    have HNN : Hid (M.getD 0 0 = n0 ∧ M.getD 1 0 = n1 ∧ M.getD 2 0 = n2 ∧ M.getD 3 0 = n3 ∧ M.getD 4 0 = n4 ∧ M.getD 5 0 = n5) := ⟨hn0, hn1, hn2, hn3, hn4, hn5⟩
    clear hn0 hn1 hn2 hn3 hn4 hn5
    have HMM : Hid (ru6 (RS s cs) x.ar = M) := hM
    have HEE : Hid (nuE (RS s cs) x.ar = E) := hE
    have hg8 : wr.heap.size < U2.heap.size := XG2.lt
    clear hM hE
    refine wp_region_held_drew (S := fun w9 => w9.cell? ⟨wr.heap.size, 1, none⟩ = some (.slice a2 x.ar.length c2) ∧ w9.cell? ⟨B, 1, none⟩ = some (.slice ga s.rg.length gc) ∧ w9.cell? ⟨B, 2, none⟩ = some (.slice ma s.rw.length mc) ∧ w9.cell? ⟨B, 3, none⟩ = some (.slice pa cs.length pc)) (by kernel_rfl) ?_ (fun hHeld => ?_)
    · (try dsimp only)
      go_keep
    have hdr : Below U2.heap.size U2 U2.drew := Below.drew1
    have hBZ := hB2.trans (hdr.mono (by omega))
    generalize U2.drew = Z at hdr hHeld hBZ ⊢
    have HC0 : Hid (∀ V, Below U2.heap.size U2 V → V.cell? ⟨wr.heap.size, 1, none⟩ = some (.slice a2 x.ar.length c2) ∧ V.cell? ⟨B, 1, none⟩ = some (.slice ga s.rg.length gc) ∧ V.cell? ⟨B, 2, none⟩ = some (.slice ma s.rw.length mc) ∧ V.cell? ⟨B, 3, none⟩ = some (.slice pa cs.length pc)) := fun V hV => ⟨(hV.cell (p := ⟨wr.heap.size, 1, none⟩) hg8).trans y1, (hV.cell (p := ⟨B, 1, none⟩) (by show B < _; omega)).trans m1, (hV.cell (p := ⟨B, 2, none⟩) (by show B < _; omega)).trans m2, (hV.cell (p := ⟨B, 3, none⟩) (by show B < _; omega)).trans m3⟩
    clear y0 y1 m1 m2 m3
    refine hT 0 hHeld ?_
    refine hT 1 hHeld ?_
    refine hT 2 hHeld ?_
    refine hT 3 hHeld ?_
    refine hT 4 hHeld ?_
    refine hT 5 hHeld ?_
    refine hT 6 hHeld ?_
    refine hT 7 hHeld ?_
    refine hT 8 hHeld ?_
    refine hT 9 hHeld ?_
    refine wpAnyH_ready (rs := [10, 14]) (by kernel_rfl) (by simp) (hCons (i := 10) rfl (by rfl) (fun K hK => ?_) (hCons (i := 14) rfl (by rfl) (fun K hK => ?_) AllReadyH.nil))
    · go_simp
      refine (hro _ hBZ).mono ?_
      rintro e u1 ⟨rfl, hb⟩
      have hBu1 := hBZ.trans (hb.mono (by have := hdr.size; omega))
      replace hdr := hdr.trans (hb.mono hdr.size)
      clear hb
      go_wp2_with fail
      refine hK.out _ _ ?_ (fun hHeld => ?_)
      · (try dsimp only)
        exact HC0.out _ hdr
      clear hK K
      try simp only [Act.put, List.setIfInBounds_toArray, List.set_cons_zero, List.set_cons_succ]
      refine hT 11 hHeld ?_
      refine hT 12 hHeld ?_
      refine hT 13 hHeld ?_
      have hgl : U2.heap.size ≤ u1.heap.size := hdr.size
      refine hCall (i := 14) rfl (by kernel_rfl) (by rfl) (fun K hK => ?_)
      go_simp
      obtain ⟨V1, hV9, Y9, hbv⟩ : ∃ V, V = u1.alloc (.cells #[.int .i64 0, .int .i64 0, .int .i64 0, .int .i64 0, .int .i64 0, .int .i64 0] 60) ∧ Bk 60 V u1.heap.size (c6 []) ∧ Below u1.heap.size u1 V := ⟨_, rfl, Bk.new _ _ _, bl1 _⟩
      rw [← hV9]
      clear hV9
      have hBV1 := hBu1.trans (hbv.mono (by have := hdr.size; omega))
      replace hdr := hdr.trans (hbv.mono hdr.size)
      clear hbv
      refine hK.out _ _ ?_ (fun hHeld => ?_)
      · (try dsimp only)
        exact HC0.out _ hdr
      clear hK K
      try simp only [Act.put, List.setIfInBounds_toArray, List.set_cons_zero, List.set_cons_succ]
      obtain ⟨g9, hg9⟩ : ∃ g, u1.heap.size = g := ⟨_, rfl⟩
      have hg9u : U2.heap.size ≤ g9 := by rw [← hg9]; exact hgl
      rw [hg9] at Y9
      try rw [hg9]
      clear hg9
      obtain ⟨⟨z0, z1, z2, z3, z4, z5⟩, f0, f1, f2, f3, f4, f5⟩ := Y9.six6
      have A9 := Y9.set6 (.int .i64 n0) (.int .i64 n1) (.int .i64 n2) (.int .i64 n3) (.int .i64 n4) (.int .i64 n5)
      have hB9 := below_set6 hBV1 (g := g9) (by omega) (.int .i64 n0) (.int .i64 n1) (.int .i64 n2) (.int .i64 n3) (.int .i64 n4) (.int .i64 n5)
      have hd9 := below_set6 hdr hg9u (.int .i64 n0) (.int .i64 n1) (.int .i64 n2) (.int .i64 n3) (.int .i64 n4) (.int .i64 n5)
      obtain ⟨X, hX⟩ : ∃ X, X = ((((((V1.setCell ⟨g9, 0, none⟩ (.int .i64 n0)).setCell ⟨g9, 1, none⟩ (.int .i64 n1)).setCell ⟨g9, 2, none⟩ (.int .i64 n2)).setCell ⟨g9, 3, none⟩ (.int .i64 n3)).setCell ⟨g9, 4, none⟩ (.int .i64 n4)).setCell ⟨g9, 5, none⟩ (.int .i64 n5)) := ⟨_, rfl⟩
      rw [← hX] at A9 hB9 hd9
      refine hCall (i := 15) rfl (by kernel_rfl) (by rfl) (fun K hK => ?_)
      go_simp
      rw [← hX]
      clear hX
      refine hK.out _ _ ?_ (fun hHeld => ?_)
      · (try dsimp only)
        exact HC0.out _ hd9
      clear hK K
      try simp only [Act.put, List.setIfInBounds_toArray, List.set_cons_zero, List.set_cons_succ]
      refine hT 16 hHeld ?_
      refine wpAnyH_done (by kernel_rfl) ?_ _
      clear hHeld z0 z1 z2 z3 z4 z5 f0 f1 f2 f3 f4 f5 Y9 hro HC0
      by_cases hE0 : E = 0
      rotate_left
      · have g6 : (E != 0) = true := bne_iff_ne.2 hE0
        have HF : Hid (drN (RS s cs) l n d p = { q with st := q.st + 1, er := E }) := by
          show _ = _
          rw [HEQ2.out, drS_err h400 (by rw [HEE.out]; exact hE0), HEE.out, drA_stop _ _ hE0]
        have HE0 : Hid (¬ E = 0) := hE0
        have HB9 : Hid (_) := hB9
        clear hE0 hP2 hC2 XG2 A9 hd9 hB9
        go_wp2
        go_ret
        show DrP _ _ (drN (RS s cs) l n d p) _ _ _
        rw [HF.out]
        exact ⟨rfl, fun h => absurd h HE0.out, HB9.out⟩
      subst hE0
      have HMN : Hid (nuL (RS s cs) x.ar = M) := by
        show _ = _
        rw [← HMM.out, ru6_yes HEE.out]
      have hPX := hP2.below hd9
      have hCX := hC2.below hd9
      have hXX := XG2.below hd9
      have hxs := hd9.size
      obtain ⟨⟨z0, z1, z2, z3, z4, z5⟩, -⟩ := A9.six6
      have f7 := hPX.fz 7
      have f8 := hPX.fz 8
      have f9 := hPX.fz 9
      have f10 := hPX.fz 10
      have f11 := hPX.fz 11
      have f12 := hPX.fz 12
      have r7 : X.cell? ⟨B, 7, none⟩ = some (.int .i64 (N.getD 0 0)) := hPX.cell 7 (by show 7 < 14; omega)
      have r8 : X.cell? ⟨B, 8, none⟩ = some (.int .i64 (N.getD 1 0)) := hPX.cell 8 (by show 8 < 14; omega)
      have r9 : X.cell? ⟨B, 9, none⟩ = some (.int .i64 (N.getD 2 0)) := hPX.cell 9 (by show 9 < 14; omega)
      have r10 : X.cell? ⟨B, 10, none⟩ = some (.int .i64 (N.getD 3 0)) := hPX.cell 10 (by show 10 < 14; omega)
      have r11 : X.cell? ⟨B, 11, none⟩ = some (.int .i64 (N.getD 4 0)) := hPX.cell 11 (by show 11 < 14; omega)
      have r12 : X.cell? ⟨B, 12, none⟩ = some (.int .i64 (N.getD 5 0)) := hPX.cell 12 (by show 12 < 14; omega)
      obtain ⟨X2, hX2, hP3, hC3, hX3, hB3⟩ : ∃ X2, X2 = ((((((X.setCell ⟨B, 7, none⟩ (.int .i64 n0)).setCell ⟨B, 8, none⟩ (.int .i64 n1)).setCell ⟨B, 9, none⟩ (.int .i64 n2)).setCell ⟨B, 10, none⟩ (.int .i64 n3)).setCell ⟨B, 11, none⟩ (.int .i64 n4)).setCell ⟨B, 12, none⟩ (.int .i64 n5)) ∧ Bk 62 X2 B (pC (.slice (some ⟨b1, off, none⟩) l.length ca) (.slice ga s.rg.length gc) (.slice ma s.rw.length mc) (.slice pa cs.length pc) q.x q.y ((q.st : Int) + 1) M v) ∧ Co (B + 1) X2 v q.out ∧ Bk 50 X2 wr.heap.size [.int .i64 x.d, .slice a2 x.ar.length c2] ∧ Below B w X2 :=
        ⟨_, rfl, by have h := hPX.setN M; rw [HNN.out.1, HNN.out.2.1, HNN.out.2.2.1, HNN.out.2.2.2.1, HNN.out.2.2.2.2.1, HNN.out.2.2.2.2.2] at h; exact h, (((((hCX.set (Nat.lt_succ_self _)).set (Nat.lt_succ_self _)).set (Nat.lt_succ_self _)).set (Nat.lt_succ_self _)).set (Nat.lt_succ_self _)).set (Nat.lt_succ_self _), (((((hXX.other 7 _ (by omega)).other 8 _ (by omega)).other 9 _ (by omega)).other 10 _ (by omega)).other 11 _ (by omega)).other 12 _ (by omega), below_setN hB9 (Nat.le_refl _) _ _ _ _ _ _⟩
      have hBl2 : B < X2.heap.size := hP3.lt
      go_upto_region 11 with fail
      rw [← hX2]
      clear hX2 f7 f8 f9 f10 f11 f12 r7 r8 r9 r10 r11 r12 z0 z1 z2 z3 z4 z5 A9 hd9 hB9 hPX hCX hXX hP2 hC2 XG2
      obtain ⟨y0, y1, -⟩ := hX3.two
      have hdo := do_any ⟨some ⟨b1, off, none⟩, ca, l, ga, gc, ma, mc, s, pa, pc, cs⟩ B w0 n hn HS.out x { q with st := q.st + 1 } v a2 c2 X2 HSP.out (HOK.out.begin (by omega)) (by rw [HMN.out]; exact hP3) hC3 (HB.out.trans hB3)
      dsimp only at hdo
      rw [HZ.out] at hdo
      have HDS : Hid (drS (RS s cs) l n (sbN (RS s cs) l n) x q = drT (RS s cs) l n (sbN (RS s cs) l n) x { q with st := q.st + 1 }) := drS_on h400 HEE.out
      rw [HDS.out] at HEQ2
      generalize drT (RS s cs) l n (sbN (RS s cs) l n) x { q with st := q.st + 1 } = q2 at *
      clear HDS hP3 hC3 hX3 HMN HMM HEE HSP HSL HOK hst h400
      go_wp2_with fail
      refine hdo.mono ?_
      rintro e u9 ⟨rfl, hok9, hb9⟩
      have HOK9 : Hid (_) := hok9
      have HB9 : Hid (_) := hB3.trans hb9
      clear hdo y0 y1 hok9 hb9 hB3
      by_cases her : q2.er = 0
      · rw [her]
        have HER : Hid (q2.er = 0) := her
        clear her
        go_wp2
        go_roundw
        case rel =>
          obtain ⟨o1, N9, v9, o2, o3⟩ := HOK9.out HER.out
          exact ⟨j + 1, q2, N9, v9, by omega, by go_num, ⟨o1, o2, o3, HB9.out, HEQ2.out⟩⟩
        case measure => simp [intOf]; omega
      · have g7 : (q2.er != 0) = true := bne_iff_ne.2 her
        have HF : Hid (drN (RS s cs) l n d p = q2) := by
          show _ = _
          rw [HEQ2.out, drA_stop _ _ her]
        have HER : Hid (¬ q2.er = 0) := her
        clear her
        go_wp2
        go_ret
        show DrP _ _ (drN (RS s cs) l n d p) _ _ _
        rw [HF.out]
        exact ⟨rfl, fun h => absurd h HER.out, HB9.out⟩
    · have hgl : U2.heap.size ≤ Z.heap.size := hdr.size
      go_simp
      obtain ⟨V1, hV9, Y9, hbv⟩ : ∃ V, V = Z.alloc (.cells #[.int .i64 0, .int .i64 0, .int .i64 0, .int .i64 0, .int .i64 0, .int .i64 0] 60) ∧ Bk 60 V Z.heap.size (c6 []) ∧ Below Z.heap.size Z V := ⟨_, rfl, Bk.new _ _ _, bl1 _⟩
      rw [← hV9]
      clear hV9
      have hBV1 := hBZ.trans (hbv.mono (by have := hdr.size; omega))
      replace hdr := hdr.trans (hbv.mono hdr.size)
      clear hbv
      refine hK.out _ _ ?_ (fun hHeld => ?_)
      · (try dsimp only)
        exact HC0.out _ hdr
      clear hK K
      try simp only [Act.put, List.setIfInBounds_toArray, List.set_cons_zero, List.set_cons_succ]
      refine hCall (i := 10) rfl (by kernel_rfl) (by rfl) (fun K hK => ?_)
      go_simp
      refine (hro _ hBV1).mono ?_
      rintro e u1 ⟨rfl, hb⟩
      have hBu1 := hBV1.trans (hb.mono (by have := hdr.size; omega))
      replace Y9 := Y9.below hb
      replace hdr := hdr.trans (hb.mono hdr.size)
      clear hb
      go_wp2_with fail
      refine hK.out _ _ ?_ (fun hHeld => ?_)
      · (try dsimp only)
        exact HC0.out _ hdr
      clear hK K
      try simp only [Act.put, List.setIfInBounds_toArray, List.set_cons_zero, List.set_cons_succ]
      refine hT 11 hHeld ?_
      refine hT 12 hHeld ?_
      refine hT 13 hHeld ?_
      obtain ⟨g9, hg9⟩ : ∃ g, Z.heap.size = g := ⟨_, rfl⟩
      have hg9u : U2.heap.size ≤ g9 := by rw [← hg9]; exact hgl
      rw [hg9] at Y9
      try rw [hg9]
      clear hg9
      obtain ⟨⟨z0, z1, z2, z3, z4, z5⟩, f0, f1, f2, f3, f4, f5⟩ := Y9.six6
      have A9 := Y9.set6 (.int .i64 n0) (.int .i64 n1) (.int .i64 n2) (.int .i64 n3) (.int .i64 n4) (.int .i64 n5)
      have hB9 := below_set6 hBu1 (g := g9) (by omega) (.int .i64 n0) (.int .i64 n1) (.int .i64 n2) (.int .i64 n3) (.int .i64 n4) (.int .i64 n5)
      have hd9 := below_set6 hdr hg9u (.int .i64 n0) (.int .i64 n1) (.int .i64 n2) (.int .i64 n3) (.int .i64 n4) (.int .i64 n5)
      obtain ⟨X, hX⟩ : ∃ X, X = ((((((u1.setCell ⟨g9, 0, none⟩ (.int .i64 n0)).setCell ⟨g9, 1, none⟩ (.int .i64 n1)).setCell ⟨g9, 2, none⟩ (.int .i64 n2)).setCell ⟨g9, 3, none⟩ (.int .i64 n3)).setCell ⟨g9, 4, none⟩ (.int .i64 n4)).setCell ⟨g9, 5, none⟩ (.int .i64 n5)) := ⟨_, rfl⟩
      rw [← hX] at A9 hB9 hd9
      refine hCall (i := 15) rfl (by kernel_rfl) (by rfl) (fun K hK => ?_)
      go_simp
      rw [← hX]
      clear hX
      refine hK.out _ _ ?_ (fun hHeld => ?_)
      · (try dsimp only)
        exact HC0.out _ hd9
      clear hK K
      try simp only [Act.put, List.setIfInBounds_toArray, List.set_cons_zero, List.set_cons_succ]
      refine hT 16 hHeld ?_
      refine wpAnyH_done (by kernel_rfl) ?_ _
      clear hHeld z0 z1 z2 z3 z4 z5 f0 f1 f2 f3 f4 f5 Y9 hro HC0
      by_cases hE0 : E = 0
      rotate_left
      · have g6 : (E != 0) = true := bne_iff_ne.2 hE0
        have HF : Hid (drN (RS s cs) l n d p = { q with st := q.st + 1, er := E }) := by
          show _ = _
          rw [HEQ2.out, drS_err h400 (by rw [HEE.out]; exact hE0), HEE.out, drA_stop _ _ hE0]
        have HE0 : Hid (¬ E = 0) := hE0
        have HB9 : Hid (_) := hB9
        clear hE0 hP2 hC2 XG2 A9 hd9 hB9
        go_wp2
        go_ret
        show DrP _ _ (drN (RS s cs) l n d p) _ _ _
        rw [HF.out]
        exact ⟨rfl, fun h => absurd h HE0.out, HB9.out⟩
      subst hE0
      have HMN : Hid (nuL (RS s cs) x.ar = M) := by
        show _ = _
        rw [← HMM.out, ru6_yes HEE.out]
      have hPX := hP2.below hd9
      have hCX := hC2.below hd9
      have hXX := XG2.below hd9
      have hxs := hd9.size
      obtain ⟨⟨z0, z1, z2, z3, z4, z5⟩, -⟩ := A9.six6
      have f7 := hPX.fz 7
      have f8 := hPX.fz 8
      have f9 := hPX.fz 9
      have f10 := hPX.fz 10
      have f11 := hPX.fz 11
      have f12 := hPX.fz 12
      have r7 : X.cell? ⟨B, 7, none⟩ = some (.int .i64 (N.getD 0 0)) := hPX.cell 7 (by show 7 < 14; omega)
      have r8 : X.cell? ⟨B, 8, none⟩ = some (.int .i64 (N.getD 1 0)) := hPX.cell 8 (by show 8 < 14; omega)
      have r9 : X.cell? ⟨B, 9, none⟩ = some (.int .i64 (N.getD 2 0)) := hPX.cell 9 (by show 9 < 14; omega)
      have r10 : X.cell? ⟨B, 10, none⟩ = some (.int .i64 (N.getD 3 0)) := hPX.cell 10 (by show 10 < 14; omega)
      have r11 : X.cell? ⟨B, 11, none⟩ = some (.int .i64 (N.getD 4 0)) := hPX.cell 11 (by show 11 < 14; omega)
      have r12 : X.cell? ⟨B, 12, none⟩ = some (.int .i64 (N.getD 5 0)) := hPX.cell 12 (by show 12 < 14; omega)
      obtain ⟨X2, hX2, hP3, hC3, hX3, hB3⟩ : ∃ X2, X2 = ((((((X.setCell ⟨B, 7, none⟩ (.int .i64 n0)).setCell ⟨B, 8, none⟩ (.int .i64 n1)).setCell ⟨B, 9, none⟩ (.int .i64 n2)).setCell ⟨B, 10, none⟩ (.int .i64 n3)).setCell ⟨B, 11, none⟩ (.int .i64 n4)).setCell ⟨B, 12, none⟩ (.int .i64 n5)) ∧ Bk 62 X2 B (pC (.slice (some ⟨b1, off, none⟩) l.length ca) (.slice ga s.rg.length gc) (.slice ma s.rw.length mc) (.slice pa cs.length pc) q.x q.y ((q.st : Int) + 1) M v) ∧ Co (B + 1) X2 v q.out ∧ Bk 50 X2 wr.heap.size [.int .i64 x.d, .slice a2 x.ar.length c2] ∧ Below B w X2 :=
        ⟨_, rfl, by have h := hPX.setN M; rw [HNN.out.1, HNN.out.2.1, HNN.out.2.2.1, HNN.out.2.2.2.1, HNN.out.2.2.2.2.1, HNN.out.2.2.2.2.2] at h; exact h, (((((hCX.set (Nat.lt_succ_self _)).set (Nat.lt_succ_self _)).set (Nat.lt_succ_self _)).set (Nat.lt_succ_self _)).set (Nat.lt_succ_self _)).set (Nat.lt_succ_self _), (((((hXX.other 7 _ (by omega)).other 8 _ (by omega)).other 9 _ (by omega)).other 10 _ (by omega)).other 11 _ (by omega)).other 12 _ (by omega), below_setN hB9 (Nat.le_refl _) _ _ _ _ _ _⟩
      have hBl2 : B < X2.heap.size := hP3.lt
      go_upto_region 11 with fail
      rw [← hX2]
      clear hX2 f7 f8 f9 f10 f11 f12 r7 r8 r9 r10 r11 r12 z0 z1 z2 z3 z4 z5 A9 hd9 hB9 hPX hCX hXX hP2 hC2 XG2
      obtain ⟨y0, y1, -⟩ := hX3.two
      have hdo := do_any ⟨some ⟨b1, off, none⟩, ca, l, ga, gc, ma, mc, s, pa, pc, cs⟩ B w0 n hn HS.out x { q with st := q.st + 1 } v a2 c2 X2 HSP.out (HOK.out.begin (by omega)) (by rw [HMN.out]; exact hP3) hC3 (HB.out.trans hB3)
      dsimp only at hdo
      rw [HZ.out] at hdo
      have HDS : Hid (drS (RS s cs) l n (sbN (RS s cs) l n) x q = drT (RS s cs) l n (sbN (RS s cs) l n) x { q with st := q.st + 1 }) := drS_on h400 HEE.out
      rw [HDS.out] at HEQ2
      generalize drT (RS s cs) l n (sbN (RS s cs) l n) x { q with st := q.st + 1 } = q2 at *
      clear HDS hP3 hC3 hX3 HMN HMM HEE HSP HSL HOK hst h400
      go_wp2_with fail
      refine hdo.mono ?_
      rintro e u9 ⟨rfl, hok9, hb9⟩
      have HOK9 : Hid (_) := hok9
      have HB9 : Hid (_) := hB3.trans hb9
      clear hdo y0 y1 hok9 hb9 hB3
      by_cases her : q2.er = 0
      · rw [her]
        have HER : Hid (q2.er = 0) := her
        clear her
        go_wp2
        go_roundw
        case rel =>
          obtain ⟨o1, N9, v9, o2, o3⟩ := HOK9.out HER.out
          exact ⟨j + 1, q2, N9, v9, by omega, by go_num, ⟨o1, o2, o3, HB9.out, HEQ2.out⟩⟩
        case measure => simp [intOf]; omega
      · have g7 : (q2.er != 0) = true := bne_iff_ne.2 her
        have HF : Hid (drN (RS s cs) l n d p = q2) := by
          show _ = _
          rw [HEQ2.out, drA_stop _ _ her]
        have HER : Hid (¬ q2.er = 0) := her
        clear her
        go_wp2
        go_ret
        show DrP _ _ (drN (RS s cs) l n d p) _ _ _
        rw [HF.out]
        exact ⟨rfl, fun h => absurd h HER.out, HB9.out⟩

theorem draw_any (S : Nat → Prop) (a : Option Addr) (ca : Nat) (l : List (List Sp)) (ga : Option Addr) (gc : Nat) (ma : Option Addr) (mc : Nat) (s : Sr) (pa : Option Addr) (pc : Nat) (cs : List Int) (w0 : World) (hl : Gr SpE.row S w0 a ca l) (hg : Tzz w0 ga gc s.rg) (hm : Rii w0 ma mc s.rw) (hp : Ri w0 pa pc cs) (h40 : s.rg.length ≤ 40) (h8 : ∀ l ∈ s.rg, l.length ≤ 8) (hfo : foD (fiS s) l = true) : ∀ n, n ≤ 10 → DrawC ⟨a, ca, l, ga, gc, ma, mc, s, pa, pc, cs⟩ w0.heap.size w0 n := by
  intro n
  induction n with
  | zero => intro hn; exact draw_step S a ca l ga gc ma mc s pa pc cs w0 hl hg hm hp h40 h8 hfo 0 hn (fun h => absurd rfl h)
  | succ n ih => intro hn; exact draw_step S a ca l ga gc ma mc s pa pc cs w0 hl hg hm hp h40 h8 hfo (n + 1) hn (fun _ => ih (by omega))

end Go.Proofs.YtkbbdkecillnpaaGreat
