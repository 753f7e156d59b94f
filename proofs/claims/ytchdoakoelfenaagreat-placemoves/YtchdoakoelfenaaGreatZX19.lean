/-
  foundryref21.Same (of two alike), foundrylaw21.small, flat, few: the walks.
  (place.mover).numbers: the walk.
-/
import Derived.Test.YtchdoakoelfenaaGreatZX5
import Derived.Test.YtchdoakoelfenaaGreatZX6
import Derived.Test.YtchdoakoelfenaaGreatZX18
import Derived.Deep.CutBlock
import Derived.Deep.CutRange
import Derived.BigQuiet
import Derived.Deep.QuietTactic
import Derived.WalkSmall
import Derived.Outline
namespace Go.Proofs.YtchdoakoelfenaaGreat
open Go.RowKit Go.Maps
set_option linter.unusedSimpArgs false
set_option linter.unusedVariables false

set_option maxHeartbeats 2000000 in
set_option maxRecDepth 100000 in
theorem ssameP_any (S S2 : Nat → Prop) (a : Option Addr) (ca : Nat) (a' : Option Addr) (ca' : Nat) (l : List Pd) (w : World) (h1 : Gr PdE S w a ca l) (h2 : Gr PdE S2 w a' ca' l) :
    Calls Tryz.prog 8 #[.slice a l.length ca, .slice a' l.length ca'] w fun e w' => e = .returned (.bool true) ∧ Below w.heap.size w w' := by
  have k1 := h1.lenB
  have g1 : ((l.length : Int) != (l.length : Int)) = false := by simp
  have HA : Hid (Gr PdE S w a ca l) := h1
  have HB : Hid (Gr PdE S2 w a' ca' l) := h2
  clear h1 h2
  go_enter Tryz.func8, Tryz.ntmps8
  go_wp2
  clear g1
  go_loopw [5] (fun i wr => ∃ k : Nat, k ≤ l.length ∧ i = .int .i64 k ∧ Below w.heap.size w wr) (fun i _ => l.length - (intOf i).toNat)
  case atStart => exact ⟨0, Nat.zero_le _, rfl, Below.refl _ _⟩
  case round =>
    obtain ⟨k, hk, rfl, hnx⟩ := hrel
    by_cases hkn : k < l.length
    · obtain ⟨b3, o3, ec, _, _, c0, c1, c2, c3⟩ := HA.out.pd hnx k hkn
      obtain ⟨b4, o4, ed, _, _, d0, d1, d2, d3⟩ := HB.out.pd hnx k hkn
      generalize l.getD k Pd.none = t at *
      obtain ⟨x, y, z, u⟩ := t
      dsimp only at c0 c1 c2 c3 d0 d1 d2 d3
      subst ec ed
      have i3 : (0 : Int) ≤ (k : Int) := by omega
      have i4 : (k : Int) < (l.length : Int) := by omega
      go_wp2_with fail
      go_quiet (fail)
      go_wp2
      go_roundw
      case rel => exact ⟨k + 1, by omega, by go_num, below_drewN hnx _⟩
      case measure => simp [intOf]; omega
    · have g1 : ¬ (k : Int) < (l.length : Int) := by omega
      go_wp2
      go_ret
      exact ⟨rfl, hnx⟩

/-- A number that can be added to others. -/
def smB (z : Int) : Bool := decide (-1099511627776 ≤ z) && decide (z ≤ 1099511627776)
set_option maxHeartbeats 1000000 in
set_option maxRecDepth 100000 in
theorem small21_any (z : Int) (w : World) (hz : I64 z) :
    Calls Tryz.prog 15 #[.int .i64 z] w fun e w' => e = .returned (.bool (smB z)) ∧ w = w' := by
  by_cases h0 : -1099511627776 ≤ z
  rotate_left
  · have HF : Hid (smB z = false) := by show _ = _; unfold smB; rw [decide_eq_false h0]; rfl
    have g0 : decide (-1099511627776 ≤ z) = false := decide_eq_false h0
    clear h0
    go_enter Tryz.func15, Tryz.ntmps15
    go_wp2
    go_ret
    exact ⟨rt_bool HF.out.symm, rfl⟩
  have g0 : decide (-1099511627776 ≤ z) = true := decide_eq_true h0
  have HF : Hid (smB z = decide (z ≤ 1099511627776)) := by show _ = _; unfold smB; rw [g0]; rfl
  obtain ⟨q, hq⟩ : ∃ q, decide (z ≤ 1099511627776) = q := ⟨_, rfl⟩
  rw [hq] at HF
  clear h0
  go_enter Tryz.func15, Tryz.ntmps15
  go_wp2
  go_ret
  exact ⟨rt_bool HF.out.symm, rfl⟩
set_option maxHeartbeats 1000000 in
set_option maxRecDepth 100000 in
theorem flat21_any (z : Int) (w : World) :
    Calls Tryz.prog 11 #[.int .i64 z] w fun e w' => e = .returned (.agg #[.int .i64 z, .int .i64 (-1)]) ∧ Below w.heap.size w w' := by
  obtain ⟨W, hW, X1, hbW⟩ : ∃ W, W = w.alloc (.cells #[.int .i64 z, .int .i64 (-1)] 45) ∧ Bk 45 W w.heap.size [.int .i64 z, .int .i64 (-1)] ∧ Below w.heap.size w W := ⟨_, rfl, Bk.new _ _ _, bl1 _⟩
  obtain ⟨x0, x1, -⟩ := X1.two
  go_enter Tryz.func11, Tryz.ntmps11
  go_wp2_with fail
  rw [← hW]
  clear hW X1
  (try simp only [Exit.inBlock, Exit.then])
  refine bodyPost_ret (v := .agg #[.int .i64 z, .int .i64 (-1)]) (by simp [results, Tryz.results11, go_sem, x0, x1]) rfl ⟨rfl, hbW⟩

/-- Few, and what follows of it. -/
structure FewJ (s : Sr) (P : List Pd) (e : Ending) : Prop where
  out : ∃ b, e = .returned (.bool b) ∧ (b = true → s.rg.length ≤ 40 ∧ (∀ l ∈ s.rg, l.length ≤ 8) ∧ P.length ≤ 120)
theorem FewJ.no {s : Sr} {P : List Pd} : FewJ s P (.returned (.bool false)) := ⟨false, rfl, fun h => by cases h⟩

set_option maxHeartbeats 4000000 in
set_option maxRecDepth 100000 in
theorem few21_any (Sl Sp : Nat → Prop) (la : Option Addr) (lc : Nat) (l : List Lk) (ga : Option Addr) (gc : Nat) (ma : Option Addr) (mc : Nat) (s : Sr) (ka : Option Addr) (kc : Nat) (ms : List Bool) (pa : Option Addr) (pc : Nat) (cs : List Int) (qa : Option Addr) (qc : Nat) (P : List Pd) (w : World)
    (hl : Gr LkE Sl w la lc l) (hg : Tzz w ga gc s.rg) (hrw : Rii w ma mc s.rw) (k3 : ms.length ≤ 9223372036854775807) (k4 : cs.length ≤ 9223372036854775807) (hP : Gr PdE Sp w qa qc P) :
    Calls Tryz.prog 5 #[.slice la l.length lc, .agg #[.slice ga s.rg.length gc, .slice ma s.rw.length mc, .slice ka ms.length kc, .slice pa cs.length pc], .slice qa P.length qc] w fun e w' => FewJ s P e ∧ Below w.heap.size w w' := by
  have kP := hP.lenB
  have k1 := hg.lenB
  obtain ⟨W, hW, X1, hbW⟩ : ∃ W, W = w.alloc (.cells #[.slice ga s.rg.length gc, .slice ma s.rw.length mc, .slice ka ms.length kc, .slice pa cs.length pc] 32) ∧ Bk 32 W w.heap.size [.slice ga s.rg.length gc, .slice ma s.rw.length mc, .slice ka ms.length kc, .slice pa cs.length pc] ∧ Below w.heap.size w W := ⟨_, rfl, Bk.new _ _ _, bl1 _⟩
  obtain ⟨x0, x1, x2, x3, -⟩ := X1.four
  have h1 := sfew20_any Sl la lc l W (hl.below hbW)
  have h2 := fun U (hU : Below W.heap.size W U) => few10_any ga gc ma mc s U ((hg.below hbW).below hU) ((hrw.below hbW).below hU)
  have HP : Hid (Gr PdE Sp W qa qc P) := hP.below hbW
  have HX : Hid (Bk 32 W w.heap.size [.slice ga s.rg.length gc, .slice ma s.rw.length mc, .slice ka ms.length kc, .slice pa cs.length pc]) := X1
  clear hl hg hrw hP X1
  go_enter Tryz.func5, Tryz.ntmps5
  go_upto_region 1 with fail
  rw [← hW]
  clear hW
  go_wp2_with fail
  refine h1.mono ?_
  rintro e u ⟨⟨b1, rfl⟩, hb⟩
  have hu := hbW.trans (hb.mono hbW.size)
  have hX := HX.out.below hb
  clear h1 x0 x1 x2 x3
  obtain ⟨x0, x1, x2, x3, -⟩ := hX.four
  have hf := h2 u hb
  clear h2
  cases b1 with
  | false =>
    clear hf
    go_wp2
    go_ret
    exact ⟨FewJ.no, hu⟩
  | true =>
  go_wp2_with fail
  refine hf.mono ?_
  rintro e u2 ⟨b2, rfl, hb2, hbu⟩
  have hu2 := hu.trans (hbu.mono hu.size)
  have hWu := hb.trans (hbu.mono hb.size)
  have hX2 := hX.below hbu
  clear hf x0 x1 x2 x3 hX
  obtain ⟨x0, x1, x2, x3, -⟩ := hX2.four
  have HP2 : Hid (Gr PdE Sp u2 qa qc P) := HP.out.below hWu
  cases b2 with
  | false =>
    clear hX2 hb2
    go_wp2
    go_ret
    exact ⟨FewJ.no, hu2⟩
  | true =>
  have HB2 : Hid (s.rg.length ≤ 20 ∧ ∀ l ∈ s.rg, l.length ≤ 8) := hb2 rfl
  clear hX2 hb2 HP HX
  by_cases n0 : 6 < s.rg.length
  · have d0 : decide ((6 : Int) < (s.rg.length : Int)) = true := decide_eq_true (by omega)
    have e0 : decide (6 < s.rg.length) = true := decide_eq_true n0
    clear n0
    go_wp2
    go_ret
    exact ⟨FewJ.no, hu2⟩
  have d0 : decide ((6 : Int) < (s.rg.length : Int)) = false := decide_eq_false (by omega)
  have e0 : decide (6 < s.rg.length) = false := decide_eq_false n0
  by_cases n1 : 1000 < ms.length
  · have d1 : decide ((1000 : Int) < (ms.length : Int)) = true := decide_eq_true (by omega)
    have e1 : decide (1000 < ms.length) = true := decide_eq_true n1
    clear n1
    go_wp2
    go_ret
    exact ⟨FewJ.no, hu2⟩
  have d1 : decide ((1000 : Int) < (ms.length : Int)) = false := decide_eq_false (by omega)
  have e1 : decide (1000 < ms.length) = false := decide_eq_false n1
  by_cases n2 : 20 < cs.length
  · have d2 : decide ((20 : Int) < (cs.length : Int)) = true := decide_eq_true (by omega)
    have e2 : decide (20 < cs.length) = true := decide_eq_true n2
    clear n2
    go_wp2
    go_ret
    exact ⟨FewJ.no, hu2⟩
  have d2 : decide ((20 : Int) < (cs.length : Int)) = false := decide_eq_false (by omega)
  have e2 : decide (20 < cs.length) = false := decide_eq_false n2
  by_cases n3 : 120 < P.length
  · have d3 : decide ((120 : Int) < (P.length : Int)) = true := decide_eq_true (by omega)
    have e3 : decide (120 < P.length) = true := decide_eq_true n3
    clear n3
    go_wp2
    go_ret
    exact ⟨FewJ.no, hu2⟩
  have d3 : decide ((120 : Int) < (P.length : Int)) = false := decide_eq_false (by omega)
  have e3 : decide (120 < P.length) = false := decide_eq_false n3
  go_wp2
  clear x0 x1 x2 x3 d0 d1 d2 d3 e0 e1 e2 e3
  go_loopw [7] (fun i wr => ∃ k : Nat, k ≤ P.length ∧ i = .int .i64 k ∧ wr = u2) (fun i _ => P.length - (intOf i).toNat)
  case atStart => exact ⟨0, Nat.zero_le _, rfl, rfl⟩
  case round =>
    obtain ⟨k, hk, rfl, rfl⟩ := hrel
    by_cases hkn : k < P.length
    · obtain ⟨b3, o3, ec, _, hw4, c0, c1, c2, c3⟩ := HP2.out.pd (Below.refl _ _) k hkn
      generalize P.getD k Pd.none = t at *
      obtain ⟨x, y, z, v⟩ := t
      dsimp only at c0 c1 c2 c3
      obtain ⟨-, j1, j2, j3⟩ := hw4
      dsimp only at j1 j2 j3
      subst ec
      have i3 : (0 : Int) ≤ (k : Int) := by omega
      have i4 : (k : Int) < (P.length : Int) := by omega
      have hs1 := small21_any y wr j1
      have hs2 := small21_any z wr j2
      have hs3 := small21_any v wr j3
      generalize smB y = s1 at hs1
      generalize smB z = s2 at hs2
      generalize smB v = s3 at hs3
      go_wp2_with fail
      refine hs1.mono ?_
      rintro e u ⟨rfl, rfl⟩
      clear hs1
      cases s1 with
      | false =>
        clear hs2 hs3
        go_wp2
        go_ret
        exact ⟨FewJ.no, hu2⟩
      | true =>
      go_wp2_with fail
      refine hs2.mono ?_
      rintro e u ⟨rfl, rfl⟩
      clear hs2
      cases s2 with
      | false =>
        clear hs3
        go_wp2
        go_ret
        exact ⟨FewJ.no, hu2⟩
      | true =>
      go_wp2_with fail
      refine hs3.mono ?_
      rintro e u ⟨rfl, rfl⟩
      clear hs3
      cases s3 with
      | false =>
        go_wp2
        go_ret
        exact ⟨FewJ.no, hu2⟩
      | true =>
      clear c0 c1 c2 c3 j1 j2 j3
      go_wp2
      go_roundw
      case rel => exact ⟨k + 1, by omega, by go_num, trivial⟩
      case measure => simp [intOf]; omega
    · have g4 : ¬ (k : Int) < (P.length : Int) := by omega
      go_wp2
      go_ret
      exact ⟨⟨_, rfl, fun _ => ⟨Nat.le_trans HB2.out.1 (by decide), HB2.out.2, by omega⟩⟩, hu2⟩

end Go.Proofs.YtchdoakoelfenaaGreat

namespace Go.Proofs.YtchdoakoelfenaaGreat
open Go.RowKit Go.Maps
set_option linter.unusedSimpArgs false
set_option linter.unusedVariables false

/-- A rule's numbers: the first error, the three. -/
def nmE (re : Int × Int → Int) (r : Ru) : Int := if re r.x = 0 then (if re r.y = 0 then re r.w else re r.y) else re r.x
def nmL (ro re : Int × Int → Int) (r : Ru) : List Int := if nmE re r = 0 then [ro r.x, ro r.y, ro r.w] else [0, 0, 0]
/-- A store's rounding. -/
def rO (s : Sr) (cs : List Int) (p : Int × Int) : Int := roN s p.1 p.2 cs
def rE (s : Sr) (cs : List Int) (p : Int × Int) : Int := roE s p.1 p.2 cs
theorem roN_i (s : Sr) (x r : Int) (cs : List Int) : -32768 ≤ roN s x r cs ∧ roN s x r cs ≤ 32767 := by
  unfold roN fldN
  repeat' split
  all_goals omega
theorem roE_fi {s : Sr} {x r : Int} {cs : List Int} (h : fiS s x r = true) : roE s x r cs = 0 ∨ roE s x r cs = 4 := by
  unfold roE
  rw [h, if_pos rfl]
  unfold fldE
  split
  · exact .inl rfl
  · exact .inr rfl
theorem ro_flat {s : Sr} {x : Int} {cs : List Int} (h : fiS s x (-1) = true) : roN s x (-1) cs = x ∧ roE s x (-1) cs = 0 := by
  have hb := (fiS_iff.1 h).1
  have hr : rwB s (-1) = false := by unfold rwB; simp
  have e : vaQ s x (-1) cs = ((x : Int) : Rat) := by rw [vaQ, chQ_no hr, Rat.add_zero]
  unfold roN roE
  rw [h, if_pos rfl, if_pos rfl, e]
  exact fld_int hb.1 hb.2
def v3 (l : List Int) : List Value := [.int .i64 (l.getD 0 0), .int .i64 (l.getD 1 0), .int .i64 (l.getD 2 0)]
theorem Bk.three3 {t : TypeId} {w : World} {g : Nat} {x y z : Value} (h : Bk t w g [x, y, z]) : (w.cell? ⟨g, 0, none⟩ = some x ∧ w.cell? ⟨g, 1, none⟩ = some y ∧ w.cell? ⟨g, 2, none⟩ = some z) ∧ (w.frozen? ⟨g, 0, none⟩ = false ∧ w.frozen? ⟨g, 1, none⟩ = false ∧ w.frozen? ⟨g, 2, none⟩ = false) :=
  ⟨⟨h.cell 0 (by simp), h.cell 1 (by simp), h.cell 2 (by simp)⟩, h.fz 0, h.fz 1, h.fz 2⟩
theorem Bk.set3 {t : TypeId} {w : World} {g : Nat} {x y z : Value} (h : Bk t w g [x, y, z]) (x' y' z' : Value) : Bk t (((w.setCell ⟨g, 0, none⟩ x').setCell ⟨g, 1, none⟩ y').setCell ⟨g, 2, none⟩ z') g [x', y', z'] := ((h.set 0 x').set 1 y').set 2 z'
theorem below_st3 {B g : Nat} {a w : World} (h : Below B a w) (hb : B ≤ g) (x' y' z' : Value) : Below B a (((w.setCell ⟨g, 0, none⟩ x').setCell ⟨g, 1, none⟩ y').setCell ⟨g, 2, none⟩ z') :=
  ((h.setCell (p := ⟨g, 0, none⟩) hb x').setCell (p := ⟨g, 1, none⟩) hb y').setCell (p := ⟨g, 2, none⟩) hb z'
theorem Bk.six21 {t : TypeId} {w : World} {g : Nat} {x y z u v r : Value} (h : Bk t w g [x, y, z, u, v, r]) : w.cell? ⟨g, 0, none⟩ = some x ∧ w.cell? ⟨g, 1, none⟩ = some y ∧ w.cell? ⟨g, 2, none⟩ = some z ∧ w.cell? ⟨g, 3, none⟩ = some u ∧ w.cell? ⟨g, 4, none⟩ = some v ∧ w.cell? ⟨g, 5, none⟩ = some r :=
  ⟨h.cell 0 (by simp), h.cell 1 (by simp), h.cell 2 (by simp), h.cell 3 (by simp), h.cell 4 (by simp), h.cell 5 (by simp)⟩
/-- How far the loop has come: the slot's numbers, its error. -/
def sl3 (r : Ru) (k : Nat) : Int × Int := if k = 0 then r.x else if k = 1 then r.y else r.w
def dn3 (ro : Int × Int → Int) (r : Ru) (k : Nat) : List Value := [.int .i64 (if 0 < k then ro r.x else 0), .int .i64 (if 1 < k then ro r.y else 0), .int .i64 (if 2 < k then ro r.w else 0)]

set_option maxHeartbeats 8000000 in
set_option maxRecDepth 100000 in
theorem numbers_any (ga : Option Addr) (gc : Nat) (ma : Option Addr) (mc : Nat) (s : Sr) (ka : Option Addr) (kc : Nat) (ms : List Bool) (pa : Option Addr) (pc : Nat) (cs : List Int) (la : Option Addr) (pn lc : Nat) (na : Option Addr) (nn nc : Nat)
    (a1 : Option Addr) (c1 : Nat) (a2 : Option Addr) (c2 : Nat) (inn out : List Int) (ap lk x1 x2 y1 y2 w1 w2 : Int) (w : World) (hg : Tzz w ga gc s.rg) (hm : Rii w ma mc s.rw) (hp : Ri w pa pc cs) (h40 : s.rg.length ≤ 40) (h8 : ∀ l ∈ s.rg, l.length ≤ 8)
    (hx : I64 x1 ∧ I64 x2) (hy : I64 y1 ∧ I64 y2) (hw : I64 w1 ∧ I64 w2) :
    Calls Tryz.prog 34 #[.agg #[.slice ga s.rg.length gc, .slice ma s.rw.length mc, .slice ka ms.length kc, .slice pa cs.length pc, .slice la pn lc, .slice na nn nc], .agg #[.slice a1 inn.length c1, .slice a2 out.length c2, .int .i64 ap, .int .i64 lk, .int .i64 x1, .int .i64 x2, .int .i64 y1, .int .i64 y2, .int .i64 w1, .int .i64 w2]] w fun e w' => e = .returned (.tuple #[.agg (v3 (nmL (rO s cs) (rE s cs) ⟨inn, out, ap, lk, (x1, x2), (y1, y2), (w1, w2)⟩)).toArray, .int .i64 (nmE (rE s cs) ⟨inn, out, ap, lk, (x1, x2), (y1, y2), (w1, w2)⟩)]) ∧ Below w.heap.size w w' := by
  obtain ⟨W, hW⟩ : ∃ W, W = (((w.alloc (.cells #[.slice ga s.rg.length gc, .slice ma s.rw.length mc, .slice ka ms.length kc, .slice pa cs.length pc, .slice la pn lc, .slice na nn nc] 61)).alloc (.cells #[.slice a1 inn.length c1, .slice a2 out.length c2, .int .i64 ap, .int .i64 lk, .int .i64 x1, .int .i64 x2, .int .i64 y1, .int .i64 y2, .int .i64 w1, .int .i64 w2] 48)).alloc (.cells #[.int .i64 0, .int .i64 0, .int .i64 0] 79)).alloc (.cells #[.int .i64 0, .int .i64 0, .int .i64 0] 79) := ⟨_, rfl⟩
  obtain ⟨X1, X2, X3, X4, hbW⟩ := new4B w 61 48 79 79 [.slice ga s.rg.length gc, .slice ma s.rw.length mc, .slice ka ms.length kc, .slice pa cs.length pc, .slice la pn lc, .slice na nn nc] (ruV a1 c1 a2 c2 ⟨inn, out, ap, lk, (x1, x2), (y1, y2), (w1, w2)⟩) [.int .i64 0, .int .i64 0, .int .i64 0] [.int .i64 0, .int .i64 0, .int .i64 0] W hW
  have hrd : ∀ U, Below w.heap.size w U → ∀ a b : Int, (I64 a ∧ I64 b) → Calls Tryz.prog 45 #[.agg #[.slice ga s.rg.length gc, .slice ma s.rw.length mc], .agg #[.int .i64 a, .int .i64 b], .slice pa cs.length pc] U fun e w' => e = .returned (.tuple #[.int .i64 (rO s cs (a, b)), .int .i64 (rE s cs (a, b))]) ∧ Below U.heap.size U w' := fun U hU a b hab =>
    crounded_any ga gc ma mc s a b pa pc cs U (hg.below hU) (hm.below hU) (hp.below hU) hab.1 hab.2 h40 h8
  have HRD : Hid (∀ U, Below w.heap.size w U → ∀ a b : Int, (I64 a ∧ I64 b) → Calls Tryz.prog 45 #[.agg #[.slice ga s.rg.length gc, .slice ma s.rw.length mc], .agg #[.int .i64 a, .int .i64 b], .slice pa cs.length pc] U fun e w' => e = .returned (.tuple #[.int .i64 (rO s cs (a, b)), .int .i64 (rE s cs (a, b))]) ∧ Below U.heap.size U w') := hrd
  have HI : Hid ((I64 x1 ∧ I64 x2) ∧ (I64 y1 ∧ I64 y2) ∧ (I64 w1 ∧ I64 w2)) := ⟨hx, hy, hw⟩
  have HDE : Hid (nmE (rE s cs) ⟨inn, out, ap, lk, (x1, x2), (y1, y2), (w1, w2)⟩ = if rE s cs (x1, x2) = 0 then (if rE s cs (y1, y2) = 0 then rE s cs (w1, w2) else rE s cs (y1, y2)) else rE s cs (x1, x2)) := rfl
  have HDL : Hid (nmL (rO s cs) (rE s cs) ⟨inn, out, ap, lk, (x1, x2), (y1, y2), (w1, w2)⟩ = if nmE (rE s cs) ⟨inn, out, ap, lk, (x1, x2), (y1, y2), (w1, w2)⟩ = 0 then [rO s cs (x1, x2), rO s cs (y1, y2), rO s cs (w1, w2)] else [0, 0, 0]) := rfl
  generalize nmL (rO s cs) (rE s cs) ⟨inn, out, ap, lk, (x1, x2), (y1, y2), (w1, w2)⟩ = NL at HDL ⊢
  generalize nmE (rE s cs) ⟨inn, out, ap, lk, (x1, x2), (y1, y2), (w1, w2)⟩ = NE at HDE HDL ⊢
  obtain ⟨q0, q1, q2, q3, q4, q5, q6, q7, q8, q9⟩ := X2.ru
  dsimp only at q0 q1 q2 q3 q4 q5 q6 q7 q8 q9
  clear hg hm hp hrd hx hy hw X2
  go_enter Tryz.func34, Tryz.ntmps34
  go_upto_region 2 with fail
  rw [← hW]
  clear hW
  have X3 : Bk 79 W (w.heap.size + 1 + 1) [.int .i64 0, .int .i64 0, .int .i64 0] := X3
  have X4 : Bk 79 W (w.heap.size + 1 + 1 + 1) [.int .i64 0, .int .i64 0, .int .i64 0] := X4
  obtain ⟨g, hgg⟩ : ∃ g, w.heap.size + 1 + 1 + 1 = g := ⟨_, rfl⟩
  rw [hgg] at X4 ⊢
  obtain ⟨g2, hg2⟩ : ∃ g2, w.heap.size + 1 + 1 = g2 := ⟨_, rfl⟩
  have HGG : Hid (w.heap.size + 3 = g ∧ w.heap.size + 1 + 1 = g2) := ⟨hgg, hg2⟩
  rw [hg2] at X3 ⊢
  clear hgg hg2
  go_wp2
  clear q0 q1 q2 q3 q4 q5 q6 q7 q8 q9
  go_loopw [18] (fun i wr => ∃ k : Nat, k ≤ 3 ∧ i = .int .i64 k ∧ Hid (0 < k → rE s cs (x1, x2) = 0) ∧ Hid (1 < k → rE s cs (y1, y2) = 0) ∧ Hid (2 < k → rE s cs (w1, w2) = 0) ∧ Bk 79 wr g (dn3 (rO s cs) ⟨inn, out, ap, lk, (x1, x2), (y1, y2), (w1, w2)⟩ k) ∧ Bk 79 wr g2 [.int .i64 0, .int .i64 0, .int .i64 0] ∧ Bk 61 wr w.heap.size [.slice ga s.rg.length gc, .slice ma s.rw.length mc, .slice ka ms.length kc, .slice pa cs.length pc, .slice la pn lc, .slice na nn nc] ∧ Below w.heap.size w wr) (fun i _ => 3 - (intOf i).toNat)
  case atStart => exact ⟨0, Nat.zero_le _, rfl, (fun h => absurd h (by decide)), (fun h => absurd h (by decide)), (fun h => absurd h (by decide)), X4, X3, X1, hbW⟩
  case round =>
    clear X1 X3 X4 hbW
    obtain ⟨k, hk, rfl, HE0, HE1, HE2, hY, hX3, hX1, hB⟩ := hrel
    by_cases hk3 : k < 3
    · obtain rfl | rfl | rfl : k = 0 ∨ k = 1 ∨ k = 2 := by omega
      · have hro := HRD.out
        have ix : ∀ w : World, (Instr.index 93 (.agg #[.int .i64 x1, .int .i64 x2, .int .i64 y1, .int .i64 y2, .int .i64 w1, .int .i64 w2]) (.int .i64 0)).run Tryz.prog w = .ok (.agg #[.int .i64 x1, .int .i64 x2]) w := fun _ => by kernel_rfl
        have HNE : Hid (rE s cs (x1, x2) ≠ 0 → NE = rE s cs (x1, x2)) := fun h => by rw [HDE.out, if_neg h]
        have hYc : Bk 79 wr g [.int .i64 0, .int .i64 0, .int .i64 0] := hY
        have HYN : Hid (∀ u, Bk 79 u g [.int .i64 0, .int .i64 0, .int .i64 0] → Bk 79 (u.setCell ⟨g, 0, none⟩ (.int .i64 (rO s cs (x1, x2)))) g (dn3 (rO s cs) ⟨inn, out, ap, lk, (x1, x2), (y1, y2), (w1, w2)⟩ 1)) := fun u h => h.set 0 _
        have HE3 : Hid (rE s cs (x1, x2) = 0 → (0 < 1 → rE s cs (x1, x2) = 0) ∧ (1 < 1 → rE s cs (y1, y2) = 0) ∧ (2 < 1 → rE s cs (w1, w2) = 0)) := fun h => ⟨fun _ => h, fun h2 => absurd h2 (by decide), fun h2 => absurd h2 (by decide)⟩
        obtain ⟨U, hU, XG, hbU⟩ : ∃ U, U = wr.alloc (.cells #[.int .i64 x1, .int .i64 x2] 45) ∧ Bk 45 U wr.heap.size [.int .i64 x1, .int .i64 x2] ∧ Below wr.heap.size wr U := ⟨_, rfl, Bk.new _ _ _, bl1 _⟩
        have hBU := hB.trans (hbU.mono hB.size)
        have hro := HRD.out U hBU x1 x2 HI.out.1
        generalize rO s cs (x1, x2) = zn at hro HYN HDL
        generalize rE s cs (x1, x2) = ze at hro HNE HE3 HDE
        replace hYc := hYc.below hbU
        replace hX3 := hX3.below hbU
        replace hX1 := hX1.below hbU
        obtain ⟨y0, y1', -⟩ := XG.two
        obtain ⟨m0, m1, m2, m3, m4, m5⟩ := hX1.six21
        go_upto_region 5 with fail
        rw [← hU]
        clear hU hbU hB hY
        go_wp2_with fail
        refine hro.mono ?_
        rintro e u ⟨rfl, hb⟩
        replace hYc := hYc.below hb
        replace hX3 := hX3.below hb
        replace hX1 := hX1.below hb
        have hB := hBU.trans (hb.mono hBU.size)
        clear hro hb y0 y1' m0 m1 m2 m3 m4 m5 XG hBU
        by_cases hze : ze = 0
        rotate_left
        · have HF : Hid (NE = ze ∧ NL = [0, 0, 0]) := ⟨HNE.out hze, by rw [HDL.out, if_neg (by rw [HNE.out hze]; exact hze)]⟩
          have g1 : (ze != 0) = true := bne_iff_ne.2 hze
          obtain ⟨⟨z0, z1, z2⟩, f0, f1, f2⟩ := hX3.three3
          obtain ⟨V, hV⟩ : ∃ V, V = (((u.setCell ⟨g2, 0, none⟩ (.int .i64 0)).setCell ⟨g2, 1, none⟩ (.int .i64 0)).setCell ⟨g2, 2, none⟩ (.int .i64 0)) := ⟨_, rfl⟩
          have A := hX3.set3 (.int .i64 0) (.int .i64 0) (.int .i64 0)
          have hbV := below_st3 hB (g := g2) (by have := HGG.out; omega) (.int .i64 0) (.int .i64 0) (.int .i64 0)
          rw [← hV] at A hbV
          clear HNE HE3 HYN hze hYc hX1
          go_wp2
          rw [← hV]
          clear hV
          (try simp only [Exit.inBlock, Exit.then])
          refine bodyPost_ret (v := .tuple #[.agg #[.int .i64 0, .int .i64 0, .int .i64 0], .int .i64 ze]) (by obtain ⟨⟨r0, r1, r2⟩, _⟩ := A.three3; simp [results, Tryz.results34, go_sem, r0, r1, r2]) rfl ⟨by rw [HF.out.1, HF.out.2]; rfl, hbV⟩
        subst hze
        obtain ⟨hE0, hE1, hE2⟩ := HE3.out rfl
        have HA0 : Hid (_ → _) := hE0
        have HA1 : Hid (_ → _) := hE1
        have HA2 : Hid (_ → _) := hE2
        obtain ⟨-, f0, f1, f2⟩ := hYc.three3
        obtain ⟨⟨c0, c1', c2'⟩, -⟩ := hYc.three3
        have HY2 : Hid (Bk 79 (u.setCell ⟨g, 0, none⟩ (.int .i64 zn)) g _) := HYN.out u hYc
        have HX32 : Hid (Bk 79 (u.setCell ⟨g, 0, none⟩ (.int .i64 zn)) g2 [.int .i64 0, .int .i64 0, .int .i64 0]) := hX3.other 0 _ (by have := HGG.out; omega)
        have HX12 : Hid (Bk 61 (u.setCell ⟨g, 0, none⟩ (.int .i64 zn)) w.heap.size [.slice ga s.rg.length gc, .slice ma s.rw.length mc, .slice ka ms.length kc, .slice pa cs.length pc, .slice la pn lc, .slice na nn nc]) := hX1.other 0 _ (by have := HGG.out; omega)
        have HB2 : Hid (Below w.heap.size w (u.setCell ⟨g, 0, none⟩ (.int .i64 zn))) := hB.setCell (p := ⟨g, 0, none⟩) (by show w.heap.size ≤ g; have := HGG.out; omega) _
        clear HNE HE3 HYN hYc hX3 hX1 hB hE0 hE1 hE2
        go_wp2
        go_roundw
        case rel => exact ⟨1, by omega, rfl, HA0, HA1, HA2, HY2.out, HX32.out, HX12.out, HB2.out⟩
        case measure => simp [intOf]
      · have hro := HRD.out
        have ix : ∀ w : World, (Instr.index 93 (.agg #[.int .i64 x1, .int .i64 x2, .int .i64 y1, .int .i64 y2, .int .i64 w1, .int .i64 w2]) (.int .i64 1)).run Tryz.prog w = .ok (.agg #[.int .i64 y1, .int .i64 y2]) w := fun _ => by kernel_rfl
        have HNE : Hid (rE s cs (y1, y2) ≠ 0 → NE = rE s cs (y1, y2)) := fun h => by rw [HDE.out, if_pos (HE0.out (by decide)), if_neg h]
        have hYc : Bk 79 wr g [.int .i64 (rO s cs (x1, x2)), .int .i64 0, .int .i64 0] := hY
        have HYN : Hid (∀ u, Bk 79 u g [.int .i64 (rO s cs (x1, x2)), .int .i64 0, .int .i64 0] → Bk 79 (u.setCell ⟨g, 1, none⟩ (.int .i64 (rO s cs (y1, y2)))) g (dn3 (rO s cs) ⟨inn, out, ap, lk, (x1, x2), (y1, y2), (w1, w2)⟩ 2)) := fun u h => h.set 1 _
        have HE3 : Hid (rE s cs (y1, y2) = 0 → (0 < 2 → rE s cs (x1, x2) = 0) ∧ (1 < 2 → rE s cs (y1, y2) = 0) ∧ (2 < 2 → rE s cs (w1, w2) = 0)) := fun h => ⟨fun _ => HE0.out (by decide), fun _ => h, fun h2 => absurd h2 (by decide)⟩
        obtain ⟨U, hU, XG, hbU⟩ : ∃ U, U = wr.alloc (.cells #[.int .i64 y1, .int .i64 y2] 45) ∧ Bk 45 U wr.heap.size [.int .i64 y1, .int .i64 y2] ∧ Below wr.heap.size wr U := ⟨_, rfl, Bk.new _ _ _, bl1 _⟩
        have hBU := hB.trans (hbU.mono hB.size)
        have hro := HRD.out U hBU y1 y2 HI.out.2.1
        generalize rO s cs (y1, y2) = zn at hro HYN HDL
        generalize rE s cs (y1, y2) = ze at hro HNE HE3 HDE
        replace hYc := hYc.below hbU
        replace hX3 := hX3.below hbU
        replace hX1 := hX1.below hbU
        obtain ⟨y0, y1', -⟩ := XG.two
        obtain ⟨m0, m1, m2, m3, m4, m5⟩ := hX1.six21
        go_upto_region 5 with fail
        rw [← hU]
        clear hU hbU hB hY
        go_wp2_with fail
        refine hro.mono ?_
        rintro e u ⟨rfl, hb⟩
        replace hYc := hYc.below hb
        replace hX3 := hX3.below hb
        replace hX1 := hX1.below hb
        have hB := hBU.trans (hb.mono hBU.size)
        clear hro hb y0 y1' m0 m1 m2 m3 m4 m5 XG hBU
        by_cases hze : ze = 0
        rotate_left
        · have HF : Hid (NE = ze ∧ NL = [0, 0, 0]) := ⟨HNE.out hze, by rw [HDL.out, if_neg (by rw [HNE.out hze]; exact hze)]⟩
          have g1 : (ze != 0) = true := bne_iff_ne.2 hze
          obtain ⟨⟨z0, z1, z2⟩, f0, f1, f2⟩ := hX3.three3
          obtain ⟨V, hV⟩ : ∃ V, V = (((u.setCell ⟨g2, 0, none⟩ (.int .i64 0)).setCell ⟨g2, 1, none⟩ (.int .i64 0)).setCell ⟨g2, 2, none⟩ (.int .i64 0)) := ⟨_, rfl⟩
          have A := hX3.set3 (.int .i64 0) (.int .i64 0) (.int .i64 0)
          have hbV := below_st3 hB (g := g2) (by have := HGG.out; omega) (.int .i64 0) (.int .i64 0) (.int .i64 0)
          rw [← hV] at A hbV
          clear HNE HE3 HYN hze hYc hX1
          go_wp2
          rw [← hV]
          clear hV
          (try simp only [Exit.inBlock, Exit.then])
          refine bodyPost_ret (v := .tuple #[.agg #[.int .i64 0, .int .i64 0, .int .i64 0], .int .i64 ze]) (by obtain ⟨⟨r0, r1, r2⟩, _⟩ := A.three3; simp [results, Tryz.results34, go_sem, r0, r1, r2]) rfl ⟨by rw [HF.out.1, HF.out.2]; rfl, hbV⟩
        subst hze
        obtain ⟨hE0, hE1, hE2⟩ := HE3.out rfl
        have HA0 : Hid (_ → _) := hE0
        have HA1 : Hid (_ → _) := hE1
        have HA2 : Hid (_ → _) := hE2
        obtain ⟨-, f0, f1, f2⟩ := hYc.three3
        obtain ⟨⟨c0, c1', c2'⟩, -⟩ := hYc.three3
        have HY2 : Hid (Bk 79 (u.setCell ⟨g, 1, none⟩ (.int .i64 zn)) g _) := HYN.out u hYc
        have HX32 : Hid (Bk 79 (u.setCell ⟨g, 1, none⟩ (.int .i64 zn)) g2 [.int .i64 0, .int .i64 0, .int .i64 0]) := hX3.other 1 _ (by have := HGG.out; omega)
        have HX12 : Hid (Bk 61 (u.setCell ⟨g, 1, none⟩ (.int .i64 zn)) w.heap.size [.slice ga s.rg.length gc, .slice ma s.rw.length mc, .slice ka ms.length kc, .slice pa cs.length pc, .slice la pn lc, .slice na nn nc]) := hX1.other 1 _ (by have := HGG.out; omega)
        have HB2 : Hid (Below w.heap.size w (u.setCell ⟨g, 1, none⟩ (.int .i64 zn))) := hB.setCell (p := ⟨g, 1, none⟩) (by show w.heap.size ≤ g; have := HGG.out; omega) _
        clear HNE HE3 HYN hYc hX3 hX1 hB hE0 hE1 hE2
        go_wp2
        go_roundw
        case rel => exact ⟨2, by omega, rfl, HA0, HA1, HA2, HY2.out, HX32.out, HX12.out, HB2.out⟩
        case measure => simp [intOf]
      · have hro := HRD.out
        have ix : ∀ w : World, (Instr.index 93 (.agg #[.int .i64 x1, .int .i64 x2, .int .i64 y1, .int .i64 y2, .int .i64 w1, .int .i64 w2]) (.int .i64 2)).run Tryz.prog w = .ok (.agg #[.int .i64 w1, .int .i64 w2]) w := fun _ => by kernel_rfl
        have HNE : Hid (rE s cs (w1, w2) ≠ 0 → NE = rE s cs (w1, w2)) := fun h => by rw [HDE.out, if_pos (HE0.out (by decide)), if_pos (HE1.out (by decide))]
        have hYc : Bk 79 wr g [.int .i64 (rO s cs (x1, x2)), .int .i64 (rO s cs (y1, y2)), .int .i64 0] := hY
        have HYN : Hid (∀ u, Bk 79 u g [.int .i64 (rO s cs (x1, x2)), .int .i64 (rO s cs (y1, y2)), .int .i64 0] → Bk 79 (u.setCell ⟨g, 2, none⟩ (.int .i64 (rO s cs (w1, w2)))) g (dn3 (rO s cs) ⟨inn, out, ap, lk, (x1, x2), (y1, y2), (w1, w2)⟩ 3)) := fun u h => h.set 2 _
        have HE3 : Hid (rE s cs (w1, w2) = 0 → (0 < 3 → rE s cs (x1, x2) = 0) ∧ (1 < 3 → rE s cs (y1, y2) = 0) ∧ (2 < 3 → rE s cs (w1, w2) = 0)) := fun h => ⟨fun _ => HE0.out (by decide), fun _ => HE1.out (by decide), fun _ => h⟩
        obtain ⟨U, hU, XG, hbU⟩ : ∃ U, U = wr.alloc (.cells #[.int .i64 w1, .int .i64 w2] 45) ∧ Bk 45 U wr.heap.size [.int .i64 w1, .int .i64 w2] ∧ Below wr.heap.size wr U := ⟨_, rfl, Bk.new _ _ _, bl1 _⟩
        have hBU := hB.trans (hbU.mono hB.size)
        have hro := HRD.out U hBU w1 w2 HI.out.2.2
        generalize rO s cs (w1, w2) = zn at hro HYN HDL
        generalize rE s cs (w1, w2) = ze at hro HNE HE3 HDE
        replace hYc := hYc.below hbU
        replace hX3 := hX3.below hbU
        replace hX1 := hX1.below hbU
        obtain ⟨y0, y1', -⟩ := XG.two
        obtain ⟨m0, m1, m2, m3, m4, m5⟩ := hX1.six21
        go_upto_region 5 with fail
        rw [← hU]
        clear hU hbU hB hY
        go_wp2_with fail
        refine hro.mono ?_
        rintro e u ⟨rfl, hb⟩
        replace hYc := hYc.below hb
        replace hX3 := hX3.below hb
        replace hX1 := hX1.below hb
        have hB := hBU.trans (hb.mono hBU.size)
        clear hro hb y0 y1' m0 m1 m2 m3 m4 m5 XG hBU
        by_cases hze : ze = 0
        rotate_left
        · have HF : Hid (NE = ze ∧ NL = [0, 0, 0]) := ⟨HNE.out hze, by rw [HDL.out, if_neg (by rw [HNE.out hze]; exact hze)]⟩
          have g1 : (ze != 0) = true := bne_iff_ne.2 hze
          obtain ⟨⟨z0, z1, z2⟩, f0, f1, f2⟩ := hX3.three3
          obtain ⟨V, hV⟩ : ∃ V, V = (((u.setCell ⟨g2, 0, none⟩ (.int .i64 0)).setCell ⟨g2, 1, none⟩ (.int .i64 0)).setCell ⟨g2, 2, none⟩ (.int .i64 0)) := ⟨_, rfl⟩
          have A := hX3.set3 (.int .i64 0) (.int .i64 0) (.int .i64 0)
          have hbV := below_st3 hB (g := g2) (by have := HGG.out; omega) (.int .i64 0) (.int .i64 0) (.int .i64 0)
          rw [← hV] at A hbV
          clear HNE HE3 HYN hze hYc hX1
          go_wp2
          rw [← hV]
          clear hV
          (try simp only [Exit.inBlock, Exit.then])
          refine bodyPost_ret (v := .tuple #[.agg #[.int .i64 0, .int .i64 0, .int .i64 0], .int .i64 ze]) (by obtain ⟨⟨r0, r1, r2⟩, _⟩ := A.three3; simp [results, Tryz.results34, go_sem, r0, r1, r2]) rfl ⟨by rw [HF.out.1, HF.out.2]; rfl, hbV⟩
        subst hze
        obtain ⟨hE0, hE1, hE2⟩ := HE3.out rfl
        have HA0 : Hid (_ → _) := hE0
        have HA1 : Hid (_ → _) := hE1
        have HA2 : Hid (_ → _) := hE2
        obtain ⟨-, f0, f1, f2⟩ := hYc.three3
        obtain ⟨⟨c0, c1', c2'⟩, -⟩ := hYc.three3
        have HY2 : Hid (Bk 79 (u.setCell ⟨g, 2, none⟩ (.int .i64 zn)) g _) := HYN.out u hYc
        have HX32 : Hid (Bk 79 (u.setCell ⟨g, 2, none⟩ (.int .i64 zn)) g2 [.int .i64 0, .int .i64 0, .int .i64 0]) := hX3.other 2 _ (by have := HGG.out; omega)
        have HX12 : Hid (Bk 61 (u.setCell ⟨g, 2, none⟩ (.int .i64 zn)) w.heap.size [.slice ga s.rg.length gc, .slice ma s.rw.length mc, .slice ka ms.length kc, .slice pa cs.length pc, .slice la pn lc, .slice na nn nc]) := hX1.other 2 _ (by have := HGG.out; omega)
        have HB2 : Hid (Below w.heap.size w (u.setCell ⟨g, 2, none⟩ (.int .i64 zn))) := hB.setCell (p := ⟨g, 2, none⟩) (by show w.heap.size ≤ g; have := HGG.out; omega) _
        clear HNE HE3 HYN hYc hX3 hX1 hB hE0 hE1 hE2
        go_wp2
        go_roundw
        case rel => exact ⟨3, by omega, rfl, HA0, HA1, HA2, HY2.out, HX32.out, HX12.out, HB2.out⟩
        case measure => simp [intOf]
    · obtain rfl : k = 3 := by omega
      have h0 := HE0.out (by decide)
      have h1 := HE1.out (by decide)
      have h2 := HE2.out (by decide)
      have HF : Hid (NE = 0 ∧ NL = [rO s cs (x1, x2), rO s cs (y1, y2), rO s cs (w1, w2)]) := by
        have e : NE = 0 := by rw [HDE.out, if_pos h0, if_pos h1]; exact h2
        exact ⟨e, by rw [HDL.out, if_pos e]⟩
      have hYc : Bk 79 wr g [.int .i64 (rO s cs (x1, x2)), .int .i64 (rO s cs (y1, y2)), .int .i64 (rO s cs (w1, w2))] := hY
      generalize rO s cs (x1, x2) = m0 at hYc HF
      generalize rO s cs (y1, y2) = m1 at hYc HF
      generalize rO s cs (w1, w2) = m2 at hYc HF
      obtain ⟨⟨s0, s1, s2⟩, -⟩ := hYc.three3
      obtain ⟨⟨z0, z1, z2⟩, f0, f1, f2⟩ := hX3.three3
      obtain ⟨V, hV⟩ : ∃ V, V = (((wr.setCell ⟨g2, 0, none⟩ (.int .i64 m0)).setCell ⟨g2, 1, none⟩ (.int .i64 m1)).setCell ⟨g2, 2, none⟩ (.int .i64 m2)) := ⟨_, rfl⟩
      have A := hX3.set3 (.int .i64 m0) (.int .i64 m1) (.int .i64 m2)
      have hbV := below_st3 hB (g := g2) (by have := HGG.out; omega) (.int .i64 m0) (.int .i64 m1) (.int .i64 m2)
      rw [← hV] at A hbV
      clear hY hYc hX1 hX3 hB h0 h1 h2 HE0 HE1 HE2 HDE HDL
      go_wp2
      rw [← hV]
      clear hV
      (try simp only [Exit.inBlock, Exit.then])
      refine bodyPost_ret (v := .tuple #[.agg #[.int .i64 m0, .int .i64 m1, .int .i64 m2], .int .i64 0]) (by obtain ⟨⟨r0, r1, r2⟩, _⟩ := A.three3; simp [results, Tryz.results34, go_sem, r0, r1, r2]) rfl ⟨by rw [HF.out.1, HF.out.2]; rfl, hbV⟩

end Go.Proofs.YtchdoakoelfenaaGreat
