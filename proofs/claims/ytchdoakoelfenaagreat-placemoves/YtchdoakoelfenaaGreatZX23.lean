/-
  place.moves, numbersFit: the walks.
  place.glyphsFit: the walk.
  place.lookupFits: the walk.
  place.Formed: the walk.
  (place.mover).through: the walk.
-/
import Derived.Test.YtchdoakoelfenaaGreatZX5
import Derived.Test.YtchdoakoelfenaaGreatZX15
import Derived.Test.YtchdoakoelfenaaGreatZX4
import Derived.Deep.CutBlock
import Derived.Deep.CutRange
import Derived.BigQuiet
import Derived.Deep.QuietTactic
import Derived.WalkSmall
import Derived.Outline
import Derived.Test.YtchdoakoelfenaaGreatZX22
namespace Go.Proofs.YtchdoakoelfenaaGreat
open Go.RowKit Go.Maps
set_option linter.unusedSimpArgs false
set_option linter.unusedVariables false

set_option maxHeartbeats 1000000 in
set_option maxRecDepth 100000 in
theorem moves_any (z : Int) (w : World) (hz : I64 z) :
    Calls Tryz.prog 21 #[.int .i64 z] w fun e w' => e = .returned (.bool (mvB z)) ∧ w = w' := by
  by_cases h0 : 5 ≤ z
  rotate_left
  · have HF : Hid (mvB z = false) := by show _ = _; unfold mvB; rw [decide_eq_false h0]; rfl
    have g0 : decide (5 ≤ z) = false := decide_eq_false h0
    clear h0
    go_enter Tryz.func21, Tryz.ntmps21
    go_wp2
    go_ret
    exact ⟨rt_bool HF.out.symm, rfl⟩
  have g0 : decide (5 ≤ z) = true := decide_eq_true h0
  have HF : Hid (mvB z = decide (z ≤ 7)) := by show _ = _; unfold mvB; rw [g0]; rfl
  obtain ⟨q, hq⟩ : ∃ q, decide (z ≤ 7) = q := ⟨_, rfl⟩
  rw [hq] at HF
  clear h0
  go_enter Tryz.func21, Tryz.ntmps21
  go_wp2
  go_ret
  exact ⟨rt_bool HF.out.symm, rfl⟩

/-- A rule's parts. -/
def nuB (fi : Int → Int → Bool) (r : Ru) : Bool := fi r.x.1 r.x.2 && (fi r.y.1 r.y.2 && fi r.w.1 r.w.2)
def glB (kd : Int) (r : Ru) (g : Int) : Bool := ((decide (r.inn.length = inN kd) && decide (r.out.length = 0)) && (decide (r.ap = 0) && decide (r.lk = 0))) && r.inn.all (gyB g)
def anB (kd : Int) (sk : Bool) (r : Ru) : Bool := !decide (kd = 7) || (!sk && decide (r.w = (0, -1)))
theorem prB_eq (fi : Int → Int → Bool) (kd : Int) (sk : Bool) (r : Ru) (g : Int) : prB fi kd sk r g = (glB kd r g && (nuB fi r && anB kd sk r)) := rfl

set_option maxHeartbeats 4000000 in
set_option maxRecDepth 100000 in
theorem numF_any (ga : Option Addr) (gc : Nat) (ma : Option Addr) (mc : Nat) (s : Sr) (a1 : Option Addr) (c1 : Nat) (a2 : Option Addr) (c2 : Nat) (inn out : List Int) (ap lk x1 x2 y1 y2 w1 w2 : Int) (w : World) (k2 : s.rw.length ≤ 9223372036854775807)
    (hx : I64 x1 ∧ I64 x2) (hy : I64 y1 ∧ I64 y2) (hw : I64 w1 ∧ I64 w2) :
    Calls Tryz.prog 30 #[.agg #[.slice a1 inn.length c1, .slice a2 out.length c2, .int .i64 ap, .int .i64 lk, .int .i64 x1, .int .i64 x2, .int .i64 y1, .int .i64 y2, .int .i64 w1, .int .i64 w2], .agg #[.slice ga s.rg.length gc, .slice ma s.rw.length mc]] w fun e w' => e = .returned (.bool (nuB (fiS s) ⟨inn, out, ap, lk, (x1, x2), (y1, y2), (w1, w2)⟩)) ∧ Below w.heap.size w w' := by
  obtain ⟨W, hW, X1, X2, hbW⟩ : ∃ W, W = (w.alloc (.cells #[.slice a1 inn.length c1, .slice a2 out.length c2, .int .i64 ap, .int .i64 lk, .int .i64 x1, .int .i64 x2, .int .i64 y1, .int .i64 y2, .int .i64 w1, .int .i64 w2] 48)).alloc (.cells #[.slice ga s.rg.length gc, .slice ma s.rw.length mc] 29) ∧ Bk 48 W w.heap.size (ruV a1 c1 a2 c2 ⟨inn, out, ap, lk, (x1, x2), (y1, y2), (w1, w2)⟩) ∧ Bk 29 W (w.heap.size + 1) [.slice ga s.rg.length gc, .slice ma s.rw.length mc] ∧ Below w.heap.size w W := ⟨_, rfl, (Bk.new _ _ (ruV a1 c1 a2 c2 ⟨inn, out, ap, lk, (x1, x2), (y1, y2), (w1, w2)⟩)).below (bl1 _), Bk.new1 _ _ _ _, bl2 _ _⟩
  have HF : Hid (nuB (fiS s) ⟨inn, out, ap, lk, (x1, x2), (y1, y2), (w1, w2)⟩ = (fiS s x1 x2 && (fiS s y1 y2 && fiS s w1 w2))) := rfl
  have hc1 := fun U => cfits_any ga gc ma mc s x1 x2 U k2 hx.1 hx.2
  have hc2 := fun U => cfits_any ga gc ma mc s y1 y2 U k2 hy.1 hy.2
  have hc3 := fun U => cfits_any ga gc ma mc s w1 w2 U k2 hw.1 hw.2
  generalize nuB (fiS s) ⟨inn, out, ap, lk, (x1, x2), (y1, y2), (w1, w2)⟩ = R at HF ⊢
  generalize fiS s x1 x2 = A1 at hc1 HF
  generalize fiS s y1 y2 = A2 at hc2 HF
  generalize fiS s w1 w2 = A3 at hc3 HF
  obtain ⟨q0, q1, q2, q3, q4, q5, q6, q7, q8, q9⟩ := X1.ru
  obtain ⟨z0, z1, -⟩ := X2.two
  dsimp only at q0 q1 q2 q3 q4 q5 q6 q7 q8 q9
  have h1 := hc1 W
  clear hc1
  go_enter Tryz.func30, Tryz.ntmps30
  go_upto_region 1 with fail
  rw [← hW]
  clear hW
  go_wp2_with fail
  refine h1.mono ?_
  rintro e u ⟨rfl, hbu⟩
  have hbU := hbW.trans (hbu.mono hbW.size)
  clear h1 q0 q1 q2 q3 q4 q5 q6 q7 q8 q9 z0 z1
  cases A1 with
  | false =>
    rw [Bool.false_and] at HF
    clear hc2 hc3
    go_wp2
    go_ret
    exact ⟨rt_bool HF.out.symm, hbU⟩
  | true =>
    rw [Bool.true_and] at HF
    replace X1 := X1.below hbu
    replace X2 := X2.below hbu
    obtain ⟨q0, q1, q2, q3, q4, q5, q6, q7, q8, q9⟩ := X1.ru
    obtain ⟨z0, z1, -⟩ := X2.two
    dsimp only at q0 q1 q2 q3 q4 q5 q6 q7 q8 q9
    have h2 := hc2 u
    clear hc2
    go_wp2_with fail
    refine h2.mono ?_
    rintro e u2 ⟨rfl, hbu2⟩
    have hbU2 := hbU.trans (hbu2.mono hbU.size)
    clear h2 q0 q1 q2 q3 q4 q5 q6 q7 q8 q9 z0 z1
    cases A2 with
    | false =>
      rw [Bool.false_and] at HF
      clear hc3
      go_wp2
      go_ret
      exact ⟨rt_bool HF.out.symm, hbU2⟩
    | true =>
      rw [Bool.true_and] at HF
      replace X1 := X1.below hbu2
      replace X2 := X2.below hbu2
      obtain ⟨q0, q1, q2, q3, q4, q5, q6, q7, q8, q9⟩ := X1.ru
      obtain ⟨z0, z1, -⟩ := X2.two
      dsimp only at q0 q1 q2 q3 q4 q5 q6 q7 q8 q9
      have h3 := hc3 u2
      clear hc3
      go_wp2_with fail
      refine h3.mono ?_
      rintro e u3 ⟨rfl, hbu3⟩
      have hbU3 := hbU2.trans (hbu3.mono hbU2.size)
      clear h3 q0 q1 q2 q3 q4 q5 q6 q7 q8 q9 z0 z1
      go_wp2
      go_ret
      exact ⟨rt_bool HF.out.symm, hbU3⟩

end Go.Proofs.YtchdoakoelfenaaGreat

namespace Go.Proofs.YtchdoakoelfenaaGreat
open Go.RowKit Go.Maps
set_option linter.unusedSimpArgs false
set_option linter.unusedVariables false

theorem glB_no {kd : Int} {r : Ru} {g : Int} (h : ¬ ((r.inn.length = inN kd ∧ r.out.length = 0) ∧ r.ap = 0 ∧ r.lk = 0)) : glB kd r g = false := by
  cases hf : glB kd r g with
  | false => rfl
  | true =>
    unfold glB at hf
    simp only [Bool.and_eq_true, decide_eq_true_iff] at hf
    exact absurd hf.1 h
theorem glB_yes {kd : Int} {r : Ru} {g : Int} (h : (r.inn.length = inN kd ∧ r.out.length = 0) ∧ r.ap = 0 ∧ r.lk = 0) : glB kd r g = r.inn.all (gyB g) := by
  unfold glB
  rw [decide_eq_true h.1.1, decide_eq_true h.1.2, decide_eq_true h.2.1, decide_eq_true h.2.2]
  rfl

set_option maxHeartbeats 4000000 in
set_option maxRecDepth 100000 in
theorem glyF_any (kd : Int) (a1 : Option Addr) (c1 : Nat) (a2 : Option Addr) (c2 : Nat) (inn out : List Int) (ap lk x1 x2 y1 y2 w1 w2 : Int) (g : Int) (w : World) (hi : Ri w a1 c1 inn) (ko : out.length ≤ 9223372036854775807) (hg : I64 g) :
    Calls Tryz.prog 29 #[.int .i64 kd, .agg #[.slice a1 inn.length c1, .slice a2 out.length c2, .int .i64 ap, .int .i64 lk, .int .i64 x1, .int .i64 x2, .int .i64 y1, .int .i64 y2, .int .i64 w1, .int .i64 w2], .int .i64 g] w fun e w' => e = .returned (.bool (glB kd ⟨inn, out, ap, lk, (x1, x2), (y1, y2), (w1, w2)⟩ g)) ∧ Below w.heap.size w w' := by
  have ki := hi.lenB
  obtain ⟨W, hW, X1, hbW⟩ : ∃ W, W = w.alloc (.cells #[.slice a1 inn.length c1, .slice a2 out.length c2, .int .i64 ap, .int .i64 lk, .int .i64 x1, .int .i64 x2, .int .i64 y1, .int .i64 y2, .int .i64 w1, .int .i64 w2] 48) ∧ Bk 48 W w.heap.size (ruV a1 c1 a2 c2 ⟨inn, out, ap, lk, (x1, x2), (y1, y2), (w1, w2)⟩) ∧ Below w.heap.size w W := ⟨_, rfl, Bk.new _ _ (ruV a1 c1 a2 c2 ⟨inn, out, ap, lk, (x1, x2), (y1, y2), (w1, w2)⟩), bl1 _⟩
  have HNO : Hid (¬ ((inn.length = inN kd ∧ out.length = 0) ∧ ap = 0 ∧ lk = 0) → glB kd ⟨inn, out, ap, lk, (x1, x2), (y1, y2), (w1, w2)⟩ g = false) := fun h => glB_no (r := ⟨inn, out, ap, lk, (x1, x2), (y1, y2), (w1, w2)⟩) h
  have HYE : Hid (((inn.length = inN kd ∧ out.length = 0) ∧ ap = 0 ∧ lk = 0) → glB kd ⟨inn, out, ap, lk, (x1, x2), (y1, y2), (w1, w2)⟩ g = inn.all (gyB g)) := fun h => glB_yes (r := ⟨inn, out, ap, lk, (x1, x2), (y1, y2), (w1, w2)⟩) h
  generalize glB kd ⟨inn, out, ap, lk, (x1, x2), (y1, y2), (w1, w2)⟩ g = R at HNO HYE ⊢
  obtain ⟨q0, q1, q2, q3, -⟩ := X1.ru
  dsimp only at q0 q1 q2 q3
  have HH : Hid (Ri W a1 c1 inn) := hi.below hbW
  clear hi X1
  go_enter Tryz.func29, Tryz.ntmps29
  go_upto_if 11 with fail
  rw [← hW]
  clear hW
  go_cut [7] from 10 to 11 (fun v wx => v = .int .i64 ((inN kd : Nat) : Int) ∧ wx = W)
  case first =>
    by_cases h5 : kd = 5
    · have e : inN kd = 1 := by unfold inN; rw [if_pos h5]
      subst h5
      clear HNO HYE
      go_wp2
      go_meet
      exact ⟨by rw [e]; rfl, rfl⟩
    · have e : inN kd = 2 := by unfold inN; rw [if_neg h5]
      have g5 : (kd == 5) = false := beq_eq_false_iff_ne.2 h5
      clear HNO HYE h5
      go_wp2
      go_meet
      exact ⟨by rw [e]; rfl, rfl⟩
  case rest =>
  obtain ⟨rfl, rfl⟩ := hcut
  have hnn : inN kd ≤ 2 := by unfold inN; split <;> omega
  generalize inN kd = nn at *
  by_cases p1 : inn.length = nn
  rotate_left
  · have HF : Hid (R = false) := HNO.out (fun h => p1 h.1.1)
    have g1 : ((inn.length : Int) != (nn : Int)) = true := bne_iff_ne.2 (by omega)
    have g1n : (inn.length != nn) = true := bne_iff_ne.2 p1
    clear HNO HYE p1
    go_wp2
    go_ret
    exact ⟨rt_bool HF.out.symm, hbW⟩
  have g1 : ((inn.length : Int) != (nn : Int)) = false := bne_eq_false_iff_eq.2 (by omega)
  have g1n : (inn.length != nn) = false := bne_eq_false_iff_eq.2 p1
  by_cases p2 : out.length = 0
  rotate_left
  · have HF : Hid (R = false) := HNO.out (fun h => p2 h.1.2)
    have g2 : decide ((0 : Int) < (out.length : Int)) = true := decide_eq_true (by omega)
    have g2n : decide (0 < out.length) = true := decide_eq_true (by omega)
    clear HNO HYE p1 p2
    go_wp2
    go_ret
    exact ⟨rt_bool HF.out.symm, hbW⟩
  have g2 : decide ((0 : Int) < (out.length : Int)) = false := decide_eq_false (by omega)
  have g2n : decide (0 < out.length) = false := decide_eq_false (by omega)
  by_cases p3 : ap = 0
  rotate_left
  · have HF : Hid (R = false) := HNO.out (fun h => p3 h.2.1)
    have g3 : (ap != 0) = true := bne_iff_ne.2 p3
    clear HNO HYE p1 p2 p3
    go_wp2
    go_ret
    exact ⟨rt_bool HF.out.symm, hbW⟩
  subst p3
  by_cases p4 : lk = 0
  rotate_left
  · have HF : Hid (R = false) := HNO.out (fun h => p4 h.2.2)
    have g3 : (lk != 0) = true := bne_iff_ne.2 p4
    clear HNO HYE p1 p2 p4
    go_wp2
    go_ret
    exact ⟨rt_bool HF.out.symm, hbW⟩
  subst p4
  have HRA : Hid (R = inn.all (gyB g)) := HYE.out ⟨⟨p1, p2⟩, rfl, rfl⟩
  clear HNO HYE p1 p2
  go_wp2
  clear g1 g1n g2 g2n q0 q1 q2 q3 hnn
  go_loopw [36] (fun i wr => ∃ k : Nat, k ≤ inn.length ∧ i = .int .i64 k ∧ Hid (∀ j, j < k → gyB g (inn.getD j 0) = true) ∧ wr = wc) (fun i _ => inn.length - (intOf i).toNat)
  case atStart => exact ⟨0, Nat.zero_le _, rfl, (fun j hj => by omega), rfl⟩
  case round =>
    obtain ⟨k, hk, rfl, HOK, rfl⟩ := hrel
    by_cases hkn : k < inn.length
    · obtain ⟨b, off, rfl, hb, c0⟩ := HH.out.at (Below.refl _ _) k hkn
      have HBad : Hid (gyB g (inn.getD k 0) = false → inn.all (gyB g) = false) := alG_no hkn
      obtain ⟨x, hx⟩ : ∃ x, inn.getD k 0 = x := ⟨_, rfl⟩
      have HXX : Hid (inn.getD k 0 = x) := hx
      rw [hx] at c0 HBad
      clear hx
      have i1 : (0 : Int) ≤ (k : Int) := by omega
      have i2 : (k : Int) < (inn.length : Int) := by omega
      by_cases x0 : x < 0
      · have d0 : decide (x < 0) = true := decide_eq_true x0
        have HF : Hid (R = false) := by show _ = _; rw [HRA.out]; exact HBad.out (by unfold gyB; rw [decide_eq_false (by omega)]; rfl)
        clear x0 HBad HOK
        go_wp2
        go_ret
        exact ⟨rt_bool HF.out.symm, hbW⟩
      have d0 : decide (x < 0) = false := decide_eq_false x0
      by_cases x1 : g ≤ x
      · have d1 : decide (g ≤ x) = true := decide_eq_true x1
        have HF : Hid (R = false) := by show _ = _; rw [HRA.out]; exact HBad.out (by unfold gyB; rw [decide_eq_false (show ¬ x < g by omega), Bool.and_false])
        clear x0 x1 HBad HOK
        go_wp2
        go_ret
        exact ⟨rt_bool HF.out.symm, hbW⟩
      have d1 : decide (g ≤ x) = false := decide_eq_false x1
      have HOK2 : Hid (∀ j, j < k + 1 → gyB g (inn.getD j 0) = true) := fun j hj => by
        rcases Nat.lt_or_ge j k with h1 | h1
        · exact HOK.out j h1
        · rw [show j = k by omega, HXX.out]; exact gyB_iff.2 ⟨by omega, by omega⟩
      clear x0 x1 HBad HOK HXX
      go_wp2
      go_roundw
      case rel => exact ⟨k + 1, by omega, by go_num, HOK2, trivial⟩
      case measure => simp [intOf]; omega
    · have HF : Hid (R = true) := by show _ = _; rw [HRA.out]; exact alG_yes (fun j hj => HOK.out j (by omega))
      have g4 : ¬ (k : Int) < (inn.length : Int) := by omega
      clear HOK
      go_wp2
      go_ret
      exact ⟨rt_bool HF.out.symm, hbW⟩

end Go.Proofs.YtchdoakoelfenaaGreat

namespace Go.Proofs.YtchdoakoelfenaaGreat
open Go.RowKit Go.Maps
set_option linter.unusedSimpArgs false
set_option linter.unusedVariables false

/-- A lookup that moves fits. -/
def lfB (fi : Int → Int → Bool) (g : Int) (kd : Int) (sk : Bool) (rs : List Ru) : Bool := decide (rs.length ≤ 40) && rs.all (fun r => prB fi kd sk r g)
theorem plF_lf {fi : Int → Int → Bool} {g : Int} {x : Lk} (h : mvB x.kd = true) : plF fi g x = lfB fi g x.kd x.sk x.rs := by unfold plF lfB; rw [h]; rfl
theorem lfB_bad {fi : Int → Int → Bool} {g : Int} {kd : Int} {sk : Bool} {rs : List Ru} {k : Nat} (hk : k < rs.length) (hr : prB fi kd sk (rs.getD k Ru.none) g = false) : lfB fi g kd sk rs = false := by
  unfold lfB
  cases hf : rs.all (fun r => prB fi kd sk r g) with
  | false => rw [Bool.and_false]
  | true =>
    rw [List.all_eq_true] at hf
    have := hf (rs.getD k Ru.none) (by rw [List.getD_eq_getElem?_getD, List.getElem?_eq_getElem hk]; exact List.getElem_mem hk)
    rw [hr] at this
    cases this
theorem lfB_yes {fi : Int → Int → Bool} {g : Int} {kd : Int} {sk : Bool} {rs : List Ru} (hl : rs.length ≤ 40) (h : ∀ k, k < rs.length → prB fi kd sk (rs.getD k Ru.none) g = true) : lfB fi g kd sk rs = true := by
  unfold lfB
  rw [decide_eq_true hl, Bool.true_and, List.all_eq_true]
  intro r hr
  obtain ⟨k, hk, e⟩ := List.getElem_of_mem hr
  have := h k hk
  rw [List.getD_eq_getElem?_getD, List.getElem?_eq_getElem hk, Option.getD_some, e] at this
  exact this
theorem lfB_long {fi : Int → Int → Bool} {g : Int} {kd : Int} {sk : Bool} {rs : List Ru} (hl : 40 < rs.length) : lfB fi g kd sk rs = false := by unfold lfB; rw [decide_eq_false (show ¬ rs.length ≤ 40 by omega)]; rfl

set_option maxHeartbeats 8000000 in
set_option maxRecDepth 100000 in
theorem lokF_any (S : Nat → Prop) (kd : Int) (sk : Bool) (ra : Option Addr) (rc : Nat) (rs : List Ru) (ga : Option Addr) (gc : Nat) (ma : Option Addr) (mc : Nat) (s : Sr) (g : Int) (w : World)
    (hk : I64 kd) (hr : Gr RuE S w ra rc rs) (k2 : s.rw.length ≤ 9223372036854775807) (hg : I64 g) :
    Calls Tryz.prog 22 #[.agg #[.int .i64 kd, .bool sk, .slice ra rs.length rc], .agg #[.slice ga s.rg.length gc, .slice ma s.rw.length mc], .int .i64 g] w fun e w' =>
      e = .returned (.bool (lfB (fiS s) g kd sk rs)) ∧ Below w.heap.size w w' := by
  have kr := hr.lenB
  obtain ⟨W, hW, X1, X2, hbW⟩ : ∃ W, W = (w.alloc (.cells #[.int .i64 kd, .bool sk, .slice ra rs.length rc] 51)).alloc (.cells #[.slice ga s.rg.length gc, .slice ma s.rw.length mc] 29) ∧ Bk 51 W w.heap.size [.int .i64 kd, .bool sk, .slice ra rs.length rc] ∧ Bk 29 W (w.heap.size + 1) [.slice ga s.rg.length gc, .slice ma s.rw.length mc] ∧ Below w.heap.size w W := ⟨_, rfl, (Bk.new _ _ _).below (bl1 _), Bk.new1 _ _ _ _, bl2 _ _⟩
  obtain ⟨x0, x1, x2, -⟩ := X1.three
  by_cases hn1 : 40 < rs.length
  · have HF : Hid (lfB (fiS s) g kd sk rs = false) := lfB_long hn1
    have g2 : (40 : Int) < (rs.length : Int) := by omega
    clear hr X1 X2 hn1
    go_enter Tryz.func22, Tryz.ntmps22
    go_upto_region 1 with fail
    rw [← hW]
    clear hW
    go_wp2
    go_ret
    exact ⟨rt_bool HF.out.symm, hbW⟩
  have g2 : ¬ (40 : Int) < (rs.length : Int) := by omega
  have HR : Hid (Gr RuE S W ra rc rs) := hr.below hbW
  have HX1 : Hid (Bk 51 W w.heap.size [.int .i64 kd, .bool sk, .slice ra rs.length rc]) := X1
  have HX2 : Hid (Bk 29 W (w.heap.size + 1) [.slice ga s.rg.length gc, .slice ma s.rw.length mc]) := X2
  have HBW : Hid (Below w.heap.size w W) := hbW
  obtain ⟨R, hR⟩ : ∃ R, lfB (fiS s) g kd sk rs = R := ⟨_, rfl⟩
  have HBD : Hid (∀ k, k < rs.length → prB (fiS s) kd sk (rs.getD k Ru.none) g = false → R = false) := fun k hk h => by rw [← hR]; exact lfB_bad hk h
  have HYS : Hid ((∀ k, k < rs.length → prB (fiS s) kd sk (rs.getD k Ru.none) g = true) → R = true) := fun h => by rw [← hR]; exact lfB_yes (show rs.length ≤ 40 by omega) h
  rw [hR]
  clear hR hn1
  go_enter Tryz.func22, Tryz.ntmps22
  go_upto_region 1 with fail
  rw [← hW]
  clear hW hr X1 X2 hbW
  go_wp2
  clear g2 x0 x1 x2
  go_loopw [16] (fun i wr => ∃ k : Nat, k ≤ rs.length ∧ i = .int .i64 k ∧ Hid (∀ j, j < k → prB (fiS s) kd sk (rs.getD j Ru.none) g = true) ∧ Below W.heap.size W wr) (fun i _ => rs.length - (intOf i).toNat)
  case atStart => exact ⟨0, Nat.zero_le _, rfl, (fun j hj => by omega), Below.refl _ _⟩
  case round =>
    obtain ⟨k, hk, rfl, HOK, hB⟩ := hrel
    have hBw : Below w.heap.size w wr := HBW.out.trans (hB.mono HBW.out.size)
    by_cases hkn : k < rs.length
    · obtain ⟨b, off, a1, c1, a2, c2, ea, hb1, hI, hin, hou, d0, d1, d2, d3, d4, d5, d6, d7, d8, d9⟩ := HR.out.ru10 hB k hkn
      obtain ⟨r, hrr⟩ : ∃ r, rs.getD k Ru.none = r := ⟨_, rfl⟩
      have HRR : Hid (rs.getD k Ru.none = r) := hrr
      rw [hrr] at hI hin hou d0 d1 d2 d3 d4 d5 d6 d7 d8 d9
      clear hrr
      obtain ⟨inn, out, ap, lk, ⟨x1, x2⟩, ⟨y1, y2⟩, ⟨w1, w2⟩⟩ := r
      dsimp only at d0 d1 d2 d3 d4 d5 d6 d7 d8 d9 hin hou
      obtain ⟨j1, j2, j34, j56, j78⟩ := hI
      dsimp only at j1 j2 j34 j56 j78
      have i1 : (0 : Int) ≤ (k : Int) := by omega
      have i2 : (k : Int) < (rs.length : Int) := by omega
      subst ea
      obtain ⟨U, hU, XG, hbU⟩ : ∃ U, U = wr.alloc (.cells #[.slice a1 inn.length c1, .slice a2 out.length c2, .int .i64 ap, .int .i64 lk, .int .i64 x1, .int .i64 x2, .int .i64 y1, .int .i64 y2, .int .i64 w1, .int .i64 w2] 48) ∧ Bk 48 U wr.heap.size (ruV a1 c1 a2 c2 ⟨inn, out, ap, lk, (x1, x2), (y1, y2), (w1, w2)⟩) ∧ Below wr.heap.size wr U := ⟨_, rfl, Bk.new _ _ (ruV a1 c1 a2 c2 ⟨inn, out, ap, lk, (x1, x2), (y1, y2), (w1, w2)⟩), bl1 _⟩
      go_upto_region 6 with fail
      rw [← hU]
      have hWU := hB.trans (hbU.mono hB.size)
      have hwU := hBw.trans (hbU.mono hBw.size)
      have X1 := HX1.out.below hWU
      have X2 := HX2.out.below hWU
      have hglf := glyF_any kd a1 c1 a2 c2 inn out ap lk x1 x2 y1 y2 w1 w2 g U (hin.below hbU).ri hou.lenB hg
      have hnuf := fun Z => numF_any ga gc ma mc s a1 c1 a2 c2 inn out ap lk x1 x2 y1 y2 w1 w2 Z k2 j34 j56 j78
      have HE : Hid (prB (fiS s) kd sk ⟨inn, out, ap, lk, (x1, x2), (y1, y2), (w1, w2)⟩ g = (glB kd ⟨inn, out, ap, lk, (x1, x2), (y1, y2), (w1, w2)⟩ g && (nuB (fiS s) ⟨inn, out, ap, lk, (x1, x2), (y1, y2), (w1, w2)⟩ && anB kd sk ⟨inn, out, ap, lk, (x1, x2), (y1, y2), (w1, w2)⟩))) := prB_eq _ _ _ _ _
      have HAN : Hid (∀ z, anB kd sk ⟨inn, out, ap, lk, (x1, x2), (y1, y2), (w1, w2)⟩ = z → anB kd sk ⟨inn, out, ap, lk, (x1, x2), (y1, y2), (w1, w2)⟩ = z) := fun _ h => h
      generalize glB kd ⟨inn, out, ap, lk, (x1, x2), (y1, y2), (w1, w2)⟩ g = A1 at hglf HE
      generalize nuB (fiS s) ⟨inn, out, ap, lk, (x1, x2), (y1, y2), (w1, w2)⟩ = A2 at hnuf HE
      have HBad : Hid (prB (fiS s) kd sk ⟨inn, out, ap, lk, (x1, x2), (y1, y2), (w1, w2)⟩ g = false → R = false) := fun h => HBD.out k hkn (by rw [HRR.out]; exact h)
      have HOK2 : Hid (prB (fiS s) kd sk ⟨inn, out, ap, lk, (x1, x2), (y1, y2), (w1, w2)⟩ g = true → ∀ j, j < k + 1 → prB (fiS s) kd sk (rs.getD j Ru.none) g = true) := fun h j hj => by
        rcases Nat.lt_or_ge j k with h1 | h1
        · exact HOK.out j h1
        · rw [show j = k by omega, HRR.out]; exact h
      clear hU hin hou d0 d1 d2 d3 d4 d5 d6 d7 d8 d9 HRR HOK hbU hB hBw j1 j2 j34 j56 j78
      obtain ⟨q0, q1, q2, q3, q4, q5, q6, q7, q8, q9⟩ := XG.ru
      obtain ⟨x0, x1', x2', -⟩ := X1.three
      obtain ⟨z0, z1, -⟩ := X2.two
      dsimp only at q0 q1 q2 q3 q4 q5 q6 q7 q8 q9
      go_wp2_with fail
      refine hglf.mono ?_
      rintro e u ⟨rfl, hbu⟩
      have hWu := hWU.trans (hbu.mono hWU.size)
      have hwu := hwU.trans (hbu.mono hwU.size)
      replace X1 := X1.below hbu
      replace X2 := X2.below hbu
      replace XG := XG.below hbu
      clear hglf hbu q0 q1 q2 q3 q4 q5 q6 q7 q8 q9 x0 x1' x2' z0 z1 hWU hwU
      cases A1 with
      | false =>
        have HF : Hid (R = false) := HBad.out (by rw [HE.out]; rfl)
        clear hnuf HBad HOK2 HE HAN
        go_wp2
        go_ret
        exact ⟨rt_bool HF.out.symm, hwu⟩
      | true =>
      rw [Bool.true_and] at HE
      obtain ⟨q0, q1, q2, q3, q4, q5, q6, q7, q8, q9⟩ := XG.ru
      obtain ⟨z0, z1, -⟩ := X2.two
      dsimp only at q0 q1 q2 q3 q4 q5 q6 q7 q8 q9
      have hn2 := hnuf u
      clear hnuf
      go_wp2_with fail
      refine hn2.mono ?_
      rintro e u2 ⟨rfl, hbu⟩
      have hWu2 := hWu.trans (hbu.mono hWu.size)
      have hwu2 := hwu.trans (hbu.mono hwu.size)
      replace X1 := X1.below hbu
      replace XG := XG.below hbu
      clear hn2 hbu q0 q1 q2 q3 q4 q5 q6 q7 q8 q9 z0 z1 hWu hwu X2
      cases A2 with
      | false =>
        have HF : Hid (R = false) := HBad.out (by rw [HE.out]; rfl)
        clear HBad HOK2 HE HAN
        go_wp2
        go_ret
        exact ⟨rt_bool HF.out.symm, hwu2⟩
      | true =>
      rw [Bool.true_and] at HE
      obtain ⟨-, -, -, -, -, -, -, -, q8, q9⟩ := XG.ru
      obtain ⟨x0, x1', -, -⟩ := X1.three
      dsimp only at q8 q9
      by_cases h7 : kd = 7
      rotate_left
      · have HOK3 : Hid (∀ j, j < k + 1 → prB (fiS s) kd sk (rs.getD j Ru.none) g = true) := HOK2.out (by rw [HE.out]; unfold anB; rw [decide_eq_false h7]; rfl)
        have g7 : (kd == 7) = false := beq_eq_false_iff_ne.2 h7
        clear HBad HOK2 HE HAN h7
        go_wp2
        clear q8 q9 x0 x1' g7 X1 XG
        go_roundw
        case rel => exact ⟨k + 1, by omega, by go_num, HOK3, hWu2⟩
        case measure => simp [intOf]; omega
      · subst h7
        cases sk with
        | true =>
          have HF : Hid (R = false) := HBad.out (by rw [HE.out]; rfl)
          clear HBad HOK2 HE HAN
          go_wp2
          go_ret
          exact ⟨rt_bool HF.out.symm, hwu2⟩
        | false =>
          by_cases e1 : w1 = 0
          rotate_left
          · have HF : Hid (R = false) := HBad.out (by rw [HE.out]; unfold anB; rw [decide_eq_false (fun h => e1 (congrArg Prod.fst h))]; rfl)
            clear HBad HOK2 HE HAN
            go_wp2
            go_ret
            exact ⟨rt_bool HF.out.symm, hwu2⟩
          by_cases e2 : w2 = -1
          rotate_left
          · have HF : Hid (R = false) := HBad.out (by rw [HE.out]; unfold anB; rw [decide_eq_false (fun h => e2 (congrArg Prod.snd h))]; rfl)
            clear HBad HOK2 HE HAN
            go_wp2
            go_ret
            exact ⟨rt_bool HF.out.symm, hwu2⟩
          subst e1 e2
          have HOK3 : Hid (∀ j, j < k + 1 → prB (fiS s) 7 false (rs.getD j Ru.none) g = true) := HOK2.out (by rw [HE.out]; rfl)
          clear HBad HOK2 HE HAN
          go_wp2
          clear q8 q9 x0 x1' X1 XG
          go_roundw
          case rel => exact ⟨k + 1, by omega, by go_num, HOK3, hWu2⟩
          case measure => simp [intOf]; omega
    · have HF : Hid (R = true) := HYS.out (fun j hj => HOK.out j (by omega))
      have g4 : ¬ (k : Int) < (rs.length : Int) := by omega
      clear HOK
      go_wp2
      go_ret
      exact ⟨rt_bool HF.out.symm, hBw⟩

end Go.Proofs.YtchdoakoelfenaaGreat

namespace Go.Proofs.YtchdoakoelfenaaGreat
open Go.RowKit Go.Maps
set_option linter.unusedSimpArgs false
set_option linter.unusedVariables false

set_option maxHeartbeats 4000000 in
set_option maxRecDepth 100000 in
theorem cformP21_any (S : Nat → Prop) (a : Option Addr) (ca : Nat) (l : List Lk) (ga : Option Addr) (gc : Nat) (ma : Option Addr) (mc : Nat) (s : Sr) (g : Int) (w : World) (hl : Gr LkE S w a ca l) (k2 : s.rw.length ≤ 9223372036854775807) (hg : I64 g) :
    Calls Tryz.prog 9 #[.slice a l.length ca, .agg #[.slice ga s.rg.length gc, .slice ma s.rw.length mc], .int .i64 g] w fun e w' => e = .returned (.bool (foM20 (fiS s) l g)) ∧ Below w.heap.size w w' := by
  have kl := hl.lenB
  obtain ⟨W, hW, X2, hbW⟩ : ∃ W, W = w.alloc (.cells #[.slice ga s.rg.length gc, .slice ma s.rw.length mc] 29) ∧ Bk 29 W w.heap.size [.slice ga s.rg.length gc, .slice ma s.rw.length mc] ∧ Below w.heap.size w W := ⟨_, rfl, Bk.new _ _ _, bl1 _⟩
  by_cases hn1 : 10 < l.length
  · have HF : Hid (foM20 (fiS s) l g = false) := foM20_long hn1
    have g2 : (10 : Int) < (l.length : Int) := by omega
    clear hn1 hl X2
    go_enter Tryz.func9, Tryz.ntmps9
    go_upto_region 1 with fail
    rw [← hW]
    clear hW
    go_wp2
    go_ret
    exact ⟨rt_bool HF.out.symm, hbW⟩
  have g2 : ¬ (10 : Int) < (l.length : Int) := by omega
  have HL : Hid (Gr LkE S W a ca l) := hl.below hbW
  have HX2 : Hid (Bk 29 W w.heap.size [.slice ga s.rg.length gc, .slice ma s.rw.length mc]) := X2
  have HBW : Hid (Below w.heap.size w W) := hbW
  obtain ⟨R, hR⟩ : ∃ R, foM20 (fiS s) l g = R := ⟨_, rfl⟩
  have HBD : Hid (∀ k, k < l.length → plF (fiS s) g (l.getD k Lk.none) = false → R = false) := fun k hk h => by rw [← hR]; exact foM20_bad hk h
  have HYS : Hid ((∀ k, k < l.length → plF (fiS s) g (l.getD k Lk.none) = true) → R = true) := fun h => by rw [← hR]; exact foM20_iff.2 ⟨by omega, h⟩
  rw [hR]
  clear hR hn1 hl
  go_enter Tryz.func9, Tryz.ntmps9
  go_upto_region 1 with fail
  rw [← hW]
  clear hW X2 hbW
  go_wp2
  clear g2
  go_loopw [14] (fun i wr => ∃ k : Nat, k ≤ l.length ∧ i = .int .i64 k ∧ Hid (∀ j, j < k → plF (fiS s) g (l.getD j Lk.none) = true) ∧ Below W.heap.size W wr) (fun i _ => l.length - (intOf i).toNat)
  case atStart => exact ⟨0, Nat.zero_le _, rfl, (fun j hj => by omega), Below.refl _ _⟩
  case round =>
    obtain ⟨k, hk, rfl, HOK, hB⟩ := hrel
    have hBw : Below w.heap.size w wr := HBW.out.trans (hB.mono HBW.out.size)
    by_cases hkn : k < l.length
    · obtain ⟨b, off, ra, rc, ea, hb1, hkd, hrs, d0, d1, d2⟩ := HL.out.lk hB k hkn
      have HBad : Hid (plF (fiS s) g (l.getD k Lk.none) = false → R = false) := HBD.out k hkn
      have HOK2 : Hid (plF (fiS s) g (l.getD k Lk.none) = true → ∀ j, j < k + 1 → plF (fiS s) g (l.getD j Lk.none) = true) := fun h j hj => by
        rcases Nat.lt_or_ge j k with h1 | h1
        · exact HOK.out j h1
        · rw [show j = k by omega]; exact h
      obtain ⟨x, hx⟩ : ∃ x, l.getD k Lk.none = x := ⟨_, rfl⟩
      rw [hx] at hkd hrs d0 d1 d2 HBad HOK2
      clear hx
      obtain ⟨kd, sk, rs⟩ := x
      dsimp only at hkd hrs d0 d1 d2
      have i1 : (0 : Int) ≤ (k : Int) := by omega
      have i2 : (k : Int) < (l.length : Int) := by omega
      subst ea
      obtain ⟨U, hU, XG, hbU⟩ : ∃ U, U = wr.alloc (.cells #[.int .i64 kd, .bool sk, .slice ra rs.length rc] 51) ∧ Bk 51 U wr.heap.size [.int .i64 kd, .bool sk, .slice ra rs.length rc] ∧ Below wr.heap.size wr U := ⟨_, rfl, Bk.new _ _ _, bl1 _⟩
      have hBU := hB.trans (hbU.mono hB.size)
      have hwU := hBw.trans (hbU.mono hBw.size)
      have hpu := moves_any kd U hkd
      have X2 := HX2.out.below hBU
      obtain ⟨x0, x1, x2, -⟩ := XG.three
      obtain ⟨z0, z1, -⟩ := X2.two
      go_upto_region 6 with fail
      rw [← hU]
      clear hU XG d0 d1 d2 HOK
      cases hp : mvB kd with
      | false =>
        rw [hp] at hpu
        have HOK3 : Hid (∀ j, j < k + 1 → plF (fiS s) g (l.getD j Lk.none) = true) := HOK2.out (plF_other (x := ⟨kd, sk, rs⟩) hp)
        clear hp HBad HOK2 hrs
        go_wp2_with fail
        refine hpu.mono ?_
        rintro e u ⟨rfl, rfl⟩
        clear hpu x0 x1 x2 z0 z1 hB X2
        go_wp2
        go_roundw
        case rel => exact ⟨k + 1, by omega, by go_num, HOK3, hBU⟩
        case measure => simp [intOf]; omega
      | true =>
        rw [hp] at hpu
        have hlo : plF (fiS s) g ⟨kd, sk, rs⟩ = lfB (fiS s) g kd sk rs := plF_lf (x := ⟨kd, sk, rs⟩) hp
        have hlf := lokF_any S kd sk ra rc rs ga gc ma mc s g U hkd (hrs.below hbU) k2 hg
        rw [hlo] at HBad HOK2
        generalize lfB (fiS s) g kd sk rs = A at hlf HBad HOK2
        clear hp hlo hrs
        go_wp2_with fail
        refine hpu.mono ?_
        rintro e u ⟨rfl, rfl⟩
        clear hpu
        go_wp2_with fail
        refine hlf.mono ?_
        rintro e u ⟨rfl, hbu⟩
        have hfin := hBU.trans (hbu.mono hBU.size)
        have hfw := hwU.trans (hbu.mono hwU.size)
        clear hlf hbu x0 x1 x2 z0 z1 hB hBU X2
        cases A with
        | false =>
          have HF : Hid (R = false) := HBad.out rfl
          clear HBad HOK2
          go_wp2
          go_ret
          exact ⟨rt_bool HF.out.symm, hfw⟩
        | true =>
          have HOK3 : Hid (∀ j, j < k + 1 → plF (fiS s) g (l.getD j Lk.none) = true) := HOK2.out rfl
          clear HBad HOK2
          go_wp2
          go_roundw
          case rel => exact ⟨k + 1, by omega, by go_num, HOK3, hfin⟩
          case measure => simp [intOf]; omega
    · have HF : Hid (R = true) := HYS.out (fun j hj => HOK.out j (by omega))
      have g4 : ¬ (k : Int) < (l.length : Int) := by omega
      clear HOK
      go_wp2
      go_ret
      exact ⟨rt_bool HF.out.symm, hBw⟩

end Go.Proofs.YtchdoakoelfenaaGreat

namespace Go.Proofs.YtchdoakoelfenaaGreat
open Go.RowKit Go.Maps
set_option linter.unusedSimpArgs false
set_option linter.unusedVariables false

/-- What through answers. -/
structure ThM (O : Option (List Pd)) (base lb lc n : Nat) (w w' : World) (e : Ending) : Prop where
  ok : ∀ Q, O = some Q → e = .returned (.int .i64 0) ∧ Ln base w' (.slice (some ⟨lb, 0, none⟩) n lc) Q
  no : O = none → e = .returned (.int .i64 4)
  kp : Kp lb w w'
theorem ThM.yes {O : Option (List Pd)} {base lb lc n : Nat} {w w' : World} {Q : List Pd} (h : O = some Q) (hl : Ln base w' (.slice (some ⟨lb, 0, none⟩) n lc) Q) (hk : Kp lb w w') : ThM O base lb lc n w w' (.returned (.int .i64 0)) :=
  ⟨(fun Q2 h2 => by rw [h] at h2; injection h2 with h2; subst h2; exact ⟨rfl, hl⟩), (fun h2 => by rw [h] at h2; cases h2), hk⟩
theorem ThM.bad {O : Option (List Pd)} {base lb lc n : Nat} {w w' : World} (h : O = none) (hk : Kp lb w w') : ThM O base lb lc n w w' (.returned (.int .i64 4)) :=
  ⟨(fun Q2 h2 => by rw [h] at h2; cases h2), (fun _ => rfl), hk⟩
/-- A lookup in a line, whatever its kind. -/
def thQ (ro re : Int × Int → Int) (ms : List Bool) (x : Lk) (P : List Pd) : Option (List Pd) := if mvB x.kd then ruQ ro re ms x P 0 else some P
/-- The glyphs stay while the line is written. -/
theorem Gi.kpL {base base2 : Nat} {w w' : World} {v : Value} {L : List Int} {lb n c : Nat} {P : List Pd} (hG : Gi base2 w v L) (hL : Ln base w (.slice (some ⟨lb, 0, none⟩) n c) P) (hk : Kp lb w w') : Gi base2 w' v L :=
  hG.stay hk.size (fun k hkk => hk.block (hG.lo hkk).2 (fun e => by
    subst e
    exact Gw.ne hL hG (by decide) (g := k) rfl hkk))

set_option maxHeartbeats 8000000 in
set_option maxRecDepth 100000 in
theorem mthrough_any (Sm Sk : Nat → Prop) (ga : Option Addr) (gc : Nat) (ma : Option Addr) (mc : Nat) (s : Sr) (ka : Option Addr) (kc : Nat) (ms : List Bool) (pa : Option Addr) (pc : Nat) (cs : List Int) (lb lc : Nat) (P : List Pd) (na : Option Addr) (nc : Nat) (kd : Int) (sk : Bool) (ra : Option Addr) (rc : Nat) (rs : List Ru) (base base2 : Nat) (w0 w : World)
    (hg : Tzz w0 ga gc s.rg) (hrw : Rii w0 ma mc s.rw) (hm : Gr El.bool Sm w0 ka kc ms) (hp : Ri w0 pa pc cs) (h40 : s.rg.length ≤ 40) (h8 : ∀ l ∈ s.rg, l.length ≤ 8) (hr : Gr RuE Sk w0 ra rc rs)
    (hB0 : Below w0.heap.size w0 w) (hlb : w0.heap.size ≤ lb) (hk64 : I64 kd)
    (hL : Ln base w (.slice (some ⟨lb, 0, none⟩) P.length lc) P) (hN : Gi base2 w (.slice na P.length nc) (naL P)) (hF : mvB kd = true → ∀ r ∈ rs, PrF (fiS s) kd sk r) :
    Calls Tryz.prog 18 #[.agg #[.slice ga s.rg.length gc, .slice ma s.rw.length mc, .slice ka ms.length kc, .slice pa cs.length pc, .slice (some ⟨lb, 0, none⟩) P.length lc, .slice na P.length nc], .agg #[.int .i64 kd, .bool sk, .slice ra rs.length rc]] w fun e w' => ThM (thQ (rO s cs) (rE s cs) ms ⟨kd, sk, rs⟩ P) base lb lc P.length w w' e := by
  have hlw : lb < w.heap.size := (Ln.lo hL (g := lb) rfl).2
  obtain ⟨a', c', ea, hgr, -⟩ := hL.slice
  have kl := hgr.lenB
  clear ea hgr
  obtain ⟨W, hW⟩ : ∃ W, W = (w.alloc (.cells #[.slice ga s.rg.length gc, .slice ma s.rw.length mc, .slice ka ms.length kc, .slice pa cs.length pc, .slice (some ⟨lb, 0, none⟩) P.length lc, .slice na P.length nc] 61)).alloc (.cells #[.int .i64 kd, .bool sk, .slice ra rs.length rc] 51) := ⟨_, rfl⟩
  obtain ⟨X1, X2, hbW⟩ : Bk 61 W w.heap.size [.slice ga s.rg.length gc, .slice ma s.rw.length mc, .slice ka ms.length kc, .slice pa cs.length pc, .slice (some ⟨lb, 0, none⟩) P.length lc, .slice na P.length nc] ∧ Bk 51 W (w.heap.size + 1) [.int .i64 kd, .bool sk, .slice ra rs.length rc] ∧ Below w.heap.size w W := by
    rw [hW]
    exact new2B w 61 51 [.slice ga s.rg.length gc, .slice ma s.rw.length mc, .slice ka ms.length kc, .slice pa cs.length pc, .slice (some ⟨lb, 0, none⟩) P.length lc, .slice na P.length nc] [.int .i64 kd, .bool sk, .slice ra rs.length rc]
  have hmv := moves_any kd W hk64
  obtain ⟨x0, x1, x2, -⟩ := X2.three
  have HLW : Hid (Ln base W (.slice (some ⟨lb, 0, none⟩) P.length lc) P) := hL.below hbW
  have HNW : Hid (Gi base2 W (.slice na P.length nc) (naL P)) := hN.below hbW
  have HKW : Hid (Kp lb w W) := Kp.of hbW
  have HX : Hid (Bk 61 W w.heap.size [.slice ga s.rg.length gc, .slice ma s.rw.length mc, .slice ka ms.length kc, .slice pa cs.length pc, .slice (some ⟨lb, 0, none⟩) P.length lc, .slice na P.length nc] ∧ Bk 51 W (w.heap.size + 1) [.int .i64 kd, .bool sk, .slice ra rs.length rc]) := ⟨X1, X2⟩
  have HOT : Hid (mvB kd = false → thQ (rO s cs) (rE s cs) ms ⟨kd, sk, rs⟩ P = some P) := fun h => by unfold thQ; rw [if_neg (by rw [h]; decide)]
  have HOY : Hid (mvB kd = true → thQ (rO s cs) (rE s cs) ms ⟨kd, sk, rs⟩ P = ruQ (rO s cs) (rE s cs) ms ⟨kd, sk, rs⟩ P 0) := fun h => by unfold thQ; rw [if_pos h]
  generalize thQ (rO s cs) (rE s cs) ms ⟨kd, sk, rs⟩ P = O at HOT HOY ⊢
  have HDO : Hid (mvB kd = true → ∀ U (Q : List Pd), Below w0.heap.size w0 U → Ln base U (.slice (some ⟨lb, 0, none⟩) P.length lc) Q → Gi base2 U (.slice na P.length nc) (naL P) → Q.length = P.length → naL Q = naL P → ∀ i : Nat, i < P.length →
      Calls Tryz.prog 24 #[.agg #[.slice ga s.rg.length gc, .slice ma s.rw.length mc, .slice ka ms.length kc, .slice pa cs.length pc, .slice (some ⟨lb, 0, none⟩) P.length lc, .slice na P.length nc], .agg #[.int .i64 kd, .bool sk, .slice ra rs.length rc], .int .i64 (i : Int)] U fun e w' => DoM (onP (rO s cs) (rE s cs) ms ⟨kd, sk, rs⟩ Q i) base lb lc P.length U w' e) := fun hmv U Q hU hQ hG hql hqn i hi => by
    obtain ⟨ca, cc, ec, hci, -⟩ := hG.slice
    injection ec with e1 e2 e3
    subst e1 e3
    have := mdo_any Sm Sk ga gc ma mc s ka kc ms pa pc cs lb lc Q na nc kd sk ra rc rs base i U (hg.below hU) (hrw.below hU) (hm.below hU) (hp.below hU) h40 h8 (by rw [hql]; exact hQ) (by rw [hqn]; exact hci) (hr.below hU) (mvB_iff.1 hmv) (hF hmv) (by omega)
    rw [hql] at this
    exact this
  have HIN : Hid (mvB kd = true → ∀ r ∈ rs, kd = 6 → r.inn.length = 2) := fun h r hr h6 => by
    have := (hF h r hr).inn
    rw [h6] at this
    exact this
  have HBZ : Hid (∀ U, Kp lb W U → Below w0.heap.size w0 U) := fun U hU => by
    have h1 := hbW.size
    have h2 := hB0.size
    exact (hB0.trans (hbW.mono h2)).trans (hU.below (by omega) hlb)
  clear hg hrw hm hp hr hL hN hF h8 hB0
  go_enter Tryz.func18, Tryz.ntmps18
  go_upto_region 1 with fail
  rw [← hW]
  clear hW X1 X2 hbW
  cases hmk : mvB kd with
  | false =>
    rw [hmk] at hmv
    have HV : Hid (ThM O base lb lc P.length w W (.returned (.int .i64 0))) := ThM.yes (HOT.out hmk) HLW.out HKW.out
    clear HOT HOY HDO HIN HBZ hmk
    go_wp2_with fail
    refine hmv.mono ?_
    rintro e u ⟨rfl, rfl⟩
    clear hmv
    go_wp2
    go_ret
    exact HV.out
  | true =>
    rw [hmk] at hmv
    have HOR : Hid (O = ruQ (rO s cs) (rE s cs) ms ⟨kd, sk, rs⟩ P 0) := HOY.out hmk
    have HDO2 := HDO.out hmk
    have HDO : Hid (∀ U (Q : List Pd), Below w0.heap.size w0 U → Ln base U (.slice (some ⟨lb, 0, none⟩) P.length lc) Q → Gi base2 U (.slice na P.length nc) (naL P) → Q.length = P.length → naL Q = naL P → ∀ i : Nat, i < P.length →
      Calls Tryz.prog 24 #[.agg #[.slice ga s.rg.length gc, .slice ma s.rw.length mc, .slice ka ms.length kc, .slice pa cs.length pc, .slice (some ⟨lb, 0, none⟩) P.length lc, .slice na P.length nc], .agg #[.int .i64 kd, .bool sk, .slice ra rs.length rc], .int .i64 (i : Int)] U fun e w' => DoM (onP (rO s cs) (rE s cs) ms ⟨kd, sk, rs⟩ Q i) base lb lc P.length U w' e) := HDO2
    have HIN2 := HIN.out hmk
    have HIN : Hid (∀ r ∈ rs, kd = 6 → r.inn.length = 2) := HIN2
    clear HOT HOY HDO2 HIN2 hmk
    go_wp2_with fail
    refine hmv.mono ?_
    rintro e u ⟨rfl, rfl⟩
    clear hmv x0 x1 x2
    go_wp2
    go_loopw [5] (fun va wr => ∃ (Q : List Pd) (i : Nat), va = .int .i64 (i : Int) ∧ i ≤ 3 * P.length + 3 ∧ Hid (O = ruQ (rO s cs) (rE s cs) ms ⟨kd, sk, rs⟩ Q (i : Int)) ∧ Hid (Q.length = P.length ∧ naL Q = naL P) ∧ Hid (Ln base wr (.slice (some ⟨lb, 0, none⟩) P.length lc) Q) ∧ Hid (Gi base2 wr (.slice na P.length nc) (naL P)) ∧ Hid (Kp lb W wr)) (fun va _ => P.length - (intOf va).toNat)
    case atStart => exact ⟨P, 0, rfl, by omega, HOR.out, ⟨rfl, rfl⟩, HLW.out, HNW.out, Kp.refl _ _⟩
    case round =>
      clear HOR HLW HNW
      obtain ⟨Q, i, rfl, hi3, HOQ, HQQ, HL, HG, HK⟩ := hrel
      have hsz := HX.out.1.lt
      have X1 := HX.out.1.kp HK.out (by omega)
      have X2 := HX.out.2.kp HK.out (by omega)
      obtain ⟨m0, m1, m2, m3, m4, m5⟩ := X1.six21
      obtain ⟨x0, x1, x2, -⟩ := X2.three
      by_cases hin : i < P.length
      rotate_left
      · have HV : Hid (ThM O base lb lc P.length w wr (.returned (.int .i64 0))) := ThM.yes (by rw [HOQ.out]; exact ruQ_end (by omega) (by rw [HQQ.out.1]; omega)) HL.out (HKW.out.trans HK.out)
        have g4 : ¬ (i : Int) < (P.length : Int) := by omega
        clear HOQ HL HG HK X1 X2
        go_wp2
        go_ret
        exact HV.out
      · have hdo := HDO.out wr Q (HBZ.out wr HK.out) HL.out HG.out HQQ.out.1 HQQ.out.2 i hin
        have HBD : Hid (onP (rO s cs) (rE s cs) ms ⟨kd, sk, rs⟩ Q i = none → O = none) := fun h => by rw [HOQ.out]; exact ruQ_bad (by rw [HQQ.out.1]; exact hin) h
        have HON : Hid (∀ R nx, onP (rO s cs) (rE s cs) ms ⟨kd, sk, rs⟩ Q i = some (R, nx) → O = ruQ (rO s cs) (rE s cs) ms ⟨kd, sk, rs⟩ R nx ∧ R.length = P.length ∧ naL R = naL P ∧ (i : Int) < nx ∧ nx ≤ (P.length : Int) + (i : Int) + 1) := fun R nx h => by
          obtain ⟨h1, h2, h3, h4⟩ := on_keep h HIN.out
          refine ⟨by rw [HOQ.out]; exact ruQ_on HIN.out (by rw [HQQ.out.1]; exact hin) h, by rw [h1]; exact HQQ.out.1, by rw [h2]; exact HQQ.out.2, h3, ?_⟩
          rw [HQQ.out.1] at h4
          exact h4
        generalize onP (rO s cs) (rE s cs) ms ⟨kd, sk, rs⟩ Q i = D at hdo HBD HON
        have g4 : (i : Int) < (P.length : Int) := by omega
        cases D with
        | none =>
          have HON2 : Hid (O = none) := HBD.out rfl
          clear HBD HON HOQ
          go_wp2_with fail
          refine hdo.mono ?_
          intro e u hd
          obtain rfl := hd.no rfl
          have HV : Hid (ThM O base lb lc P.length w u (.returned (.int .i64 4))) := ThM.bad HON2.out ((HKW.out.trans HK.out).trans hd.kp)
          clear hdo hd HL HG HK X1 X2 m0 m1 m2 m3 m4 m5 x0 x1 x2
          go_wp2
          go_ret
          exact HV.out
        | some q =>
          obtain ⟨R, nx⟩ := q
          obtain ⟨h1, h2, h3, h4, h5⟩ := HON.out R nx rfl
          obtain ⟨j, rfl⟩ : ∃ j : Nat, nx = (j : Int) := ⟨nx.toNat, by omega⟩
          have HOR : Hid (O = ruQ (rO s cs) (rE s cs) ms ⟨kd, sk, rs⟩ R (j : Int)) := h1
          have HRR : Hid (R.length = P.length ∧ naL R = naL P) := ⟨h2, h3⟩
          clear HBD HON HOQ h1 h2 h3
          go_wp2_with fail
          refine hdo.mono ?_
          intro e u hd
          obtain ⟨rfl, hl⟩ := hd.ok _ _ rfl
          have HL2 : Hid (Ln base u (.slice (some ⟨lb, 0, none⟩) P.length lc) R) := hl
          have HG2 : Hid (Gi base2 u (.slice na P.length nc) (naL P)) := HG.out.kpL HL.out hd.kp
          have HK2 : Hid (Kp lb W u) := HK.out.trans hd.kp
          have i8 : j ≤ 3 * P.length + 3 := by omega
          have i9 : i < j := by omega
          clear hdo hd hl HL HG HK X1 X2 m0 m1 m2 m3 m4 m5 x0 x1 x2 h4 h5 g4
          go_wp2
          go_roundw
          case rel => exact ⟨R, j, rfl, i8, HOR, HRR, HL2, HG2, HK2⟩
          case measure => simp [intOf]; omega

set_option maxHeartbeats 4000000 in
set_option maxRecDepth 100000 in
theorem mthrough_nil (ga : Option Addr) (gc : Nat) (ma : Option Addr) (mc : Nat) (s : Sr) (ka : Option Addr) (kc : Nat) (ms : List Bool) (pa : Option Addr) (pc : Nat) (cs : List Int) (la : Option Addr) (lc : Nat) (na : Option Addr) (nn nc : Nat) (kd : Int) (sk : Bool) (ra : Option Addr) (rc : Nat) (rs : List Ru) (w : World) (hk64 : I64 kd) :
    Calls Tryz.prog 18 #[.agg #[.slice ga s.rg.length gc, .slice ma s.rw.length mc, .slice ka ms.length kc, .slice pa cs.length pc, .slice la 0 lc, .slice na nn nc], .agg #[.int .i64 kd, .bool sk, .slice ra rs.length rc]] w fun e w' => e = .returned (.int .i64 0) ∧ Below w.heap.size w w' := by
  obtain ⟨W, hW⟩ : ∃ W, W = (w.alloc (.cells #[.slice ga s.rg.length gc, .slice ma s.rw.length mc, .slice ka ms.length kc, .slice pa cs.length pc, .slice la 0 lc, .slice na nn nc] 61)).alloc (.cells #[.int .i64 kd, .bool sk, .slice ra rs.length rc] 51) := ⟨_, rfl⟩
  obtain ⟨X1, X2, hbW⟩ : Bk 61 W w.heap.size [.slice ga s.rg.length gc, .slice ma s.rw.length mc, .slice ka ms.length kc, .slice pa cs.length pc, .slice la 0 lc, .slice na nn nc] ∧ Bk 51 W (w.heap.size + 1) [.int .i64 kd, .bool sk, .slice ra rs.length rc] ∧ Below w.heap.size w W := by
    rw [hW]
    exact new2B w 61 51 [.slice ga s.rg.length gc, .slice ma s.rw.length mc, .slice ka ms.length kc, .slice pa cs.length pc, .slice la 0 lc, .slice na nn nc] [.int .i64 kd, .bool sk, .slice ra rs.length rc]
  have hmv := moves_any kd W hk64
  obtain ⟨x0, x1, x2, -⟩ := X2.three
  obtain ⟨m0, m1, m2, m3, m4, m5⟩ := X1.six21
  go_enter Tryz.func18, Tryz.ntmps18
  go_upto_region 1 with fail
  rw [← hW]
  clear hW X1 X2
  cases hmk : mvB kd with
  | false =>
    rw [hmk] at hmv
    clear hmk
    go_wp2_with fail
    refine hmv.mono ?_
    rintro e u ⟨rfl, rfl⟩
    clear hmv
    go_wp2
    go_ret
    exact ⟨rfl, hbW⟩
  | true =>
    rw [hmk] at hmv
    clear hmk
    go_wp2_with fail
    refine hmv.mono ?_
    rintro e u ⟨rfl, rfl⟩
    clear hmv
    go_wp2
    go_loopw [5] (fun va wr => va = .int .i64 0 ∧ wr = W) (fun va _ => 0)
    case atStart => exact ⟨rfl, rfl⟩
    case round =>
      obtain ⟨rfl, rfl⟩ := hrel
      go_wp2
      go_ret
      exact ⟨rfl, hbW⟩

end Go.Proofs.YtchdoakoelfenaaGreat
