/-
  infer.inferred: the walk.
  Regions that draw their order, step by step: the kit's own laws with the operation taken out of a written list. Nothing here is a walk.
  infer.changeAt: the walk.
  Rows of fractions: one row laid behind another.
-/
import Derived.Test.YtkmcodofnckdmaaGreatZS14
import Derived.Test.YtkmcodofnckdmaaGreatZS10
import Derived.Deep.CutRange
import Derived.Test.YtkmcodofnckdmaaGreatChecked
import Derived.Deep.RegionHeld3
import Derived.WalkKit
import Derived.Test.YtkmcodofnckdmaaGreatZS12
import Derived.Laws.AppendOwnNone
set_option maxHeartbeats 2000000
set_option maxRecDepth 100000
set_option linter.unusedSimpArgs false
set_option linter.unusedVariables false
namespace Go.Proofs.YtkmcodofnckdmaaGreat
open Go.RowKit Go.Maps
theorem inferred_any (a x b y c : Int) (w : World) (ha : -32768 ≤ a ∧ a ≤ 32767) (hx : -32768 ≤ x ∧ x ≤ 32767) (hb : -32768 ≤ b ∧ b ≤ 32767) (hy : -32768 ≤ y ∧ y ≤ 32767) (hc : -32768 ≤ c ∧ c ≤ 32767) :
    Calls Tryz.prog 287 #[.agg #[.int .i64 a, .int .i64 x], .agg #[.int .i64 b, .int .i64 y], .int .i64 c] w fun e w' => ∃ v', e = .returned v' ∧ Fr w' v' 7 (infQ a x b y c) ∧ Below w.heap.size w w' := by
 obtain ⟨W, hW, X1, X2, B3, hbW⟩ : ∃ W, W = (((w.alloc (.cells #[.int .i64 a, .int .i64 x] 314)).alloc (.cells #[.int .i64 b, .int .i64 y] 314)).alloc (.cells #[.bool false, .slice none 0 0, .slice none 0 0] 125)) ∧ Bk 314 W w.heap.size [.int .i64 a, .int .i64 x] ∧ Bk 314 W (w.heap.size + 1) [.int .i64 b, .int .i64 y] ∧ Box 125 W (w.heap.size + 1 + 1) (.bool false) (.slice none 0 0) (.slice none 0 0) ∧ Below w.heap.size w W :=
  ⟨_, rfl, ((Bk.new _ _ [.int .i64 a, .int .i64 x]).below (al1 _)).below (al1 _), (Bk.new1 _ _ _ [.int .i64 b, .int .i64 y]).below (al1 _), Box.new2 _ _ _ _ _ _ _, al3 _ _ _⟩
 obtain ⟨V, hV, V1, V2, V3, hbV⟩ : ∃ V, V = (((w.alloc (.cells #[.int .i64 b, .int .i64 y] 314)).alloc (.cells #[.int .i64 a, .int .i64 x] 314)).alloc (.cells #[.bool false, .slice none 0 0, .slice none 0 0] 125)) ∧ Bk 314 V w.heap.size [.int .i64 b, .int .i64 y] ∧ Bk 314 V (w.heap.size + 1) [.int .i64 a, .int .i64 x] ∧ Box 125 V (w.heap.size + 1 + 1) (.bool false) (.slice none 0 0) (.slice none 0 0) ∧ Below w.heap.size w V :=
  ⟨_, rfl, ((Bk.new _ _ [.int .i64 b, .int .i64 y]).below (al1 _)).below (al1 _), (Bk.new1 _ _ _ [.int .i64 a, .int .i64 x]).below (al1 _), Box.new2 _ _ _ _ _ _ _, al3 _ _ _⟩
 obtain ⟨p0, p1, z0, z1⟩ := X1.two; obtain ⟨p2, p3, z2, z3⟩ := X2.two
 rcases Int.lt_trichotomy a b with hab | hab | hab
 · by_cases h1 : c ≤ a
   · have HE : Hid (infQ a x b y c = (x : Rat)) := by
       show _ = _
       unfold infQ segQ
       rw [if_neg (by omega), if_pos hab, if_pos h1]
     have g0 : decide (a = b) = false := decide_eq_false (by omega)
     have g0b : (a == b) = false := beq_false_of_ne (by omega)
     have g1 : decide (a > b) = false := decide_eq_false (by omega)
     have g1b : ¬ b < a := by omega
     go_enter Tryz.func287, Tryz.ntmps287
     go_upto_region 1 with fail
     rw [← hW]; clear hV
     try clear hW
     go_wp2_with fail
     refine (whole_any x _ (by omega) (by omega)).mono ?_
     rintro e u1 ⟨v1, rfl, hF1, hb1⟩; replace B3 := B3.below hb1
     replace hbW : Below w.heap.size w u1 := hbW.trans (hb1.mono hbW.size)
     clear hb1
     have hs := B3.lt
     obtain ⟨q1, q2, q3, q4, q5, q6⟩ := B3.cells
     replace hF1 := (hF1.eq (r := infQ a x b y c) (by rw [HE.out])).le (show 2 ≤ 7 by decide)
     obtain ⟨n', xs', ys', ⟨e1, f1, e2, f2, rfl, hx', hy'⟩, hF⟩ := hF1; go_wp2
     refine ret3 (v := .agg #[.bool n', .slice e1 xs'.length f1, .slice e2 ys'.length f2]) B3 rfl (fun U hU => by obtain ⟨r1, r2, r3, _⟩ := hU.cells; simp [results, Tryz.results287, go_sem, r1, r2, r3]) (fun U hU hK => ⟨_, rfl, ⟨_, _, _, ⟨_, _, _, _, rfl, hK _ _ _ hx', hK _ _ _ hy'⟩, hF⟩, hU _ _ hbW (by omega)⟩)
   · by_cases h2 : b ≤ c
     · have HE : Hid (infQ a x b y c = (y : Rat)) := by
         show _ = _
         unfold infQ segQ
         rw [if_neg (by omega), if_pos hab, if_neg h1, if_pos h2]
       have g0 : decide (a = b) = false := decide_eq_false (by omega)
       have g0b : (a == b) = false := beq_false_of_ne (by omega)
       have g1 : decide (a > b) = false := decide_eq_false (by omega)
       have g1b : ¬ b < a := by omega
       have g2 : ¬ c ≤ a := h1
       go_enter Tryz.func287, Tryz.ntmps287
       go_upto_region 1 with fail
       rw [← hW]; clear hV
       try clear hW
       go_wp2_with fail
       refine (whole_any y _ (by omega) (by omega)).mono ?_
       rintro e u1 ⟨v1, rfl, hF1, hb1⟩; replace B3 := B3.below hb1
       replace hbW : Below w.heap.size w u1 := hbW.trans (hb1.mono hbW.size)
       clear hb1
       have hs := B3.lt
       obtain ⟨q1, q2, q3, q4, q5, q6⟩ := B3.cells
       replace hF1 := (hF1.eq (r := infQ a x b y c) (by rw [HE.out])).le (show 2 ≤ 7 by decide)
       obtain ⟨n', xs', ys', ⟨e1, f1, e2, f2, rfl, hx', hy'⟩, hF⟩ := hF1; go_wp2
       refine ret3 (v := .agg #[.bool n', .slice e1 xs'.length f1, .slice e2 ys'.length f2]) B3 rfl (fun U hU => by obtain ⟨r1, r2, r3, _⟩ := hU.cells; simp [results, Tryz.results287, go_sem, r1, r2, r3]) (fun U hU hK => ⟨_, rfl, ⟨_, _, _, ⟨_, _, _, _, rfl, hK _ _ _ hx', hK _ _ _ hy'⟩, hF⟩, hU _ _ hbW (by omega)⟩)
     · have HE : Hid (infQ a x b y c = btw x y (c - a) (b - a)) := by
         show _ = _
         unfold infQ segQ
         rw [if_neg (by omega), if_pos hab, if_neg h1, if_neg h2]
       have g0 : decide (a = b) = false := decide_eq_false (by omega)
       have g0b : (a == b) = false := beq_false_of_ne (by omega)
       have g1 : decide (a > b) = false := decide_eq_false (by omega)
       have g1b : ¬ b < a := by omega
       have g2 : ¬ c ≤ a := h1
       have g3 : ¬ c ≥ b := by omega
       go_enter Tryz.func287, Tryz.ntmps287
       go_upto_region 1 with fail
       rw [← hW]; clear hV
       try clear hW
       go_wp2_with fail
       refine (between_any x y (c - a) (b - a) _ (by omega) (by omega) (by omega) (by omega)).mono ?_
       rintro e u1 ⟨v1, rfl, hF1, hb1⟩; replace B3 := B3.below hb1
       replace hbW : Below w.heap.size w u1 := hbW.trans (hb1.mono hbW.size)
       clear hb1
       have hs := B3.lt
       obtain ⟨q1, q2, q3, q4, q5, q6⟩ := B3.cells
       replace hF1 := (hF1.eq (r := infQ a x b y c) (by rw [HE.out])).le (show 7 ≤ 7 by decide)
       obtain ⟨n', xs', ys', ⟨e1, f1, e2, f2, rfl, hx', hy'⟩, hF⟩ := hF1; go_wp2
       refine ret3 (v := .agg #[.bool n', .slice e1 xs'.length f1, .slice e2 ys'.length f2]) B3 rfl (fun U hU => by obtain ⟨r1, r2, r3, _⟩ := hU.cells; simp [results, Tryz.results287, go_sem, r1, r2, r3]) (fun U hU hK => ⟨_, rfl, ⟨_, _, _, ⟨_, _, _, _, rfl, hK _ _ _ hx', hK _ _ _ hy'⟩, hF⟩, hU _ _ hbW (by omega)⟩)
 · by_cases hxy : x = y
   · by_cases h1 : c ≤ a
     · have HE : Hid (infQ a x b y c = (x : Rat)) := by
         show _ = _
         unfold infQ
         rw [if_pos hab, if_pos hxy]
       have g0 : (a == b) = true := by rw [hab]; exact beq_self_eq_true b
       have g1b : ¬ b < a := by omega
       have gx : (x != y) = false := by rw [hxy]; simp
       clear hab hxy
       go_enter Tryz.func287, Tryz.ntmps287
       go_upto_region 1 with fail
       rw [← hW]; clear hV
       try clear hW
       go_wp2_with fail
       refine (whole_any x _ (by omega) (by omega)).mono ?_
       rintro e u1 ⟨v1, rfl, hF1, hb1⟩; replace B3 := B3.below hb1
       replace hbW : Below w.heap.size w u1 := hbW.trans (hb1.mono hbW.size)
       clear hb1
       have hs := B3.lt
       obtain ⟨q1, q2, q3, q4, q5, q6⟩ := B3.cells
       replace hF1 := (hF1.eq (r := infQ a x b y c) (by rw [HE.out])).le (show 2 ≤ 7 by decide)
       obtain ⟨n', xs', ys', ⟨e1, f1, e2, f2, rfl, hx', hy'⟩, hF⟩ := hF1; go_wp2
       refine ret3 (v := .agg #[.bool n', .slice e1 xs'.length f1, .slice e2 ys'.length f2]) B3 rfl (fun U hU => by obtain ⟨r1, r2, r3, _⟩ := hU.cells; simp [results, Tryz.results287, go_sem, r1, r2, r3]) (fun U hU hK => ⟨_, rfl, ⟨_, _, _, ⟨_, _, _, _, rfl, hK _ _ _ hx', hK _ _ _ hy'⟩, hF⟩, hU _ _ hbW (by omega)⟩)
     · have HE : Hid (infQ a x b y c = (y : Rat)) := by
         show _ = _
         unfold infQ
         rw [if_pos hab, if_pos hxy, hxy]
       have g0 : (a == b) = true := by rw [hab]; exact beq_self_eq_true b
       have g1b : ¬ b < a := by omega
       have gx : (x != y) = false := by rw [hxy]; simp
       have g2 : ¬ c ≤ a := h1
       have g3 : c ≥ b := by omega
       clear hab hxy
       go_enter Tryz.func287, Tryz.ntmps287
       go_upto_region 1 with fail
       rw [← hW]; clear hV
       try clear hW
       go_wp2_with fail
       refine (whole_any y _ (by omega) (by omega)).mono ?_
       rintro e u1 ⟨v1, rfl, hF1, hb1⟩; replace B3 := B3.below hb1
       replace hbW : Below w.heap.size w u1 := hbW.trans (hb1.mono hbW.size)
       clear hb1
       have hs := B3.lt
       obtain ⟨q1, q2, q3, q4, q5, q6⟩ := B3.cells
       replace hF1 := (hF1.eq (r := infQ a x b y c) (by rw [HE.out])).le (show 2 ≤ 7 by decide)
       obtain ⟨n', xs', ys', ⟨e1, f1, e2, f2, rfl, hx', hy'⟩, hF⟩ := hF1; go_wp2
       refine ret3 (v := .agg #[.bool n', .slice e1 xs'.length f1, .slice e2 ys'.length f2]) B3 rfl (fun U hU => by obtain ⟨r1, r2, r3, _⟩ := hU.cells; simp [results, Tryz.results287, go_sem, r1, r2, r3]) (fun U hU hK => ⟨_, rfl, ⟨_, _, _, ⟨_, _, _, _, rfl, hK _ _ _ hx', hK _ _ _ hy'⟩, hF⟩, hU _ _ hbW (by omega)⟩)
   · have HE : Hid (infQ a x b y c = 0) := by
       show _ = _
       unfold infQ
       rw [if_pos hab, if_neg hxy]
     have g0 : (a == b) = true := by rw [hab]; exact beq_self_eq_true b
     have g1b : ¬ b < a := by omega
     have gx : (x != y) = true := by simp [hxy]
     clear hab
     go_enter Tryz.func287, Tryz.ntmps287
     go_upto_region 1 with fail
     rw [← hW]; clear hV
     try clear hW
     go_wp2_with fail
     refine (whole_any 0 _ (by omega) (by omega)).mono ?_
     rintro e u1 ⟨v1, rfl, hF1, hb1⟩; replace B3 := B3.below hb1
     replace hbW : Below w.heap.size w u1 := hbW.trans (hb1.mono hbW.size)
     clear hb1
     have hs := B3.lt
     obtain ⟨q1, q2, q3, q4, q5, q6⟩ := B3.cells
     replace hF1 := (hF1.eq (r := infQ a x b y c) (by rw [HE.out]; rfl)).le (show 2 ≤ 7 by decide)
     obtain ⟨n', xs', ys', ⟨e1, f1, e2, f2, rfl, hx', hy'⟩, hF⟩ := hF1; go_wp2
     refine ret3 (v := .agg #[.bool n', .slice e1 xs'.length f1, .slice e2 ys'.length f2]) B3 rfl (fun U hU => by obtain ⟨r1, r2, r3, _⟩ := hU.cells; simp [results, Tryz.results287, go_sem, r1, r2, r3]) (fun U hU hK => ⟨_, rfl, ⟨_, _, _, ⟨_, _, _, _, rfl, hK _ _ _ hx', hK _ _ _ hy'⟩, hF⟩, hU _ _ hbW (by omega)⟩)
 · by_cases h1 : c ≤ b
   · have HE : Hid (infQ a x b y c = (y : Rat)) := by
       show _ = _
       unfold infQ segQ
       rw [if_neg (by omega), if_neg (by omega), if_pos h1]
     have g0 : (a == b) = false := beq_false_of_ne (by omega)
     have g1 : b < a := hab
     go_enter Tryz.func287, Tryz.ntmps287
     clear hW X1 X2 B3 hbW p0 p1 p2 p3 z0 z1 z2 z3
     go_upto_region 5 with fail
     rw [← hV]; clear hV; obtain ⟨p0, p1, _⟩ := V1.two; obtain ⟨p2, p3, _⟩ := V2.two
     have B3 := V3
     have hbW := hbV
     try clear hW
     go_wp2_with fail
     refine (whole_any y _ (by omega) (by omega)).mono ?_
     rintro e u1 ⟨v1, rfl, hF1, hb1⟩; replace B3 := B3.below hb1
     replace hbW : Below w.heap.size w u1 := hbW.trans (hb1.mono hbW.size)
     clear hb1
     have hs := B3.lt
     obtain ⟨q1, q2, q3, q4, q5, q6⟩ := B3.cells
     replace hF1 := (hF1.eq (r := infQ a x b y c) (by rw [HE.out])).le (show 2 ≤ 7 by decide)
     obtain ⟨n', xs', ys', ⟨e1, f1, e2, f2, rfl, hx', hy'⟩, hF⟩ := hF1; go_wp2
     refine ret3 (v := .agg #[.bool n', .slice e1 xs'.length f1, .slice e2 ys'.length f2]) B3 rfl (fun U hU => by obtain ⟨r1, r2, r3, _⟩ := hU.cells; simp [results, Tryz.results287, go_sem, r1, r2, r3]) (fun U hU hK => ⟨_, rfl, ⟨_, _, _, ⟨_, _, _, _, rfl, hK _ _ _ hx', hK _ _ _ hy'⟩, hF⟩, hU _ _ hbW (by omega)⟩)
   · by_cases h2 : a ≤ c
     · have HE : Hid (infQ a x b y c = (x : Rat)) := by
         show _ = _
         unfold infQ segQ
         rw [if_neg (by omega), if_neg (by omega), if_neg h1, if_pos h2]
       have g0 : (a == b) = false := beq_false_of_ne (by omega)
       have g1 : b < a := hab
       have g2 : ¬ c ≤ b := h1
       go_enter Tryz.func287, Tryz.ntmps287
       clear hW X1 X2 B3 hbW p0 p1 p2 p3 z0 z1 z2 z3
       go_upto_region 5 with fail
       rw [← hV]; clear hV; obtain ⟨p0, p1, _⟩ := V1.two; obtain ⟨p2, p3, _⟩ := V2.two
       have B3 := V3
       have hbW := hbV
       try clear hW
       go_wp2_with fail
       refine (whole_any x _ (by omega) (by omega)).mono ?_
       rintro e u1 ⟨v1, rfl, hF1, hb1⟩; replace B3 := B3.below hb1
       replace hbW : Below w.heap.size w u1 := hbW.trans (hb1.mono hbW.size)
       clear hb1
       have hs := B3.lt
       obtain ⟨q1, q2, q3, q4, q5, q6⟩ := B3.cells
       replace hF1 := (hF1.eq (r := infQ a x b y c) (by rw [HE.out])).le (show 2 ≤ 7 by decide)
       obtain ⟨n', xs', ys', ⟨e1, f1, e2, f2, rfl, hx', hy'⟩, hF⟩ := hF1; go_wp2
       refine ret3 (v := .agg #[.bool n', .slice e1 xs'.length f1, .slice e2 ys'.length f2]) B3 rfl (fun U hU => by obtain ⟨r1, r2, r3, _⟩ := hU.cells; simp [results, Tryz.results287, go_sem, r1, r2, r3]) (fun U hU hK => ⟨_, rfl, ⟨_, _, _, ⟨_, _, _, _, rfl, hK _ _ _ hx', hK _ _ _ hy'⟩, hF⟩, hU _ _ hbW (by omega)⟩)
     · have HE : Hid (infQ a x b y c = btw y x (c - b) (a - b)) := by
         show _ = _
         unfold infQ segQ
         rw [if_neg (by omega), if_neg (by omega), if_neg h1, if_neg h2]
       have g0 : (a == b) = false := beq_false_of_ne (by omega)
       have g1 : b < a := hab
       have g2 : ¬ c ≤ b := h1
       have g3 : ¬ c ≥ a := by omega
       go_enter Tryz.func287, Tryz.ntmps287
       clear hW X1 X2 B3 hbW p0 p1 p2 p3 z0 z1 z2 z3
       go_upto_region 5 with fail
       rw [← hV]; clear hV; obtain ⟨p0, p1, _⟩ := V1.two; obtain ⟨p2, p3, _⟩ := V2.two
       have B3 := V3
       have hbW := hbV
       try clear hW
       go_wp2_with fail
       refine (between_any y x (c - b) (a - b) _ (by omega) (by omega) (by omega) (by omega)).mono ?_
       rintro e u1 ⟨v1, rfl, hF1, hb1⟩; replace B3 := B3.below hb1
       replace hbW : Below w.heap.size w u1 := hbW.trans (hb1.mono hbW.size)
       clear hb1
       have hs := B3.lt
       obtain ⟨q1, q2, q3, q4, q5, q6⟩ := B3.cells
       replace hF1 := (hF1.eq (r := infQ a x b y c) (by rw [HE.out])).le (show 7 ≤ 7 by decide)
       obtain ⟨n', xs', ys', ⟨e1, f1, e2, f2, rfl, hx', hy'⟩, hF⟩ := hF1; go_wp2
       refine ret3 (v := .agg #[.bool n', .slice e1 xs'.length f1, .slice e2 ys'.length f2]) B3 rfl (fun U hU => by obtain ⟨r1, r2, r3, _⟩ := hU.cells; simp [results, Tryz.results287, go_sem, r1, r2, r3]) (fun U hU hK => ⟨_, rfl, ⟨_, _, _, ⟨_, _, _, _, rfl, hK _ _ _ hx', hK _ _ _ hy'⟩, hF⟩, hU _ _ hbW (by omega)⟩)
def nth : List Oper → Nat → Option Oper
 | [], _ => none
 | o :: _, 0 => some o
 | _ :: l, n + 1 => nth l n
theorem nth_eq : ∀ (l : List Oper) (i : Nat), nth l i = l.toArray[i]? := by
 intro l
 induction l with
 | nil => intro i; simp [nth]
 | cons o l ih =>
  intro i
  cases i with
  | zero => simp [nth]
  | succ i => simp [nth, ih i]
theorem hTake {P : Program} {md : Region.Mode} {l : List Oper} {Q : Exit → Act → World → Prop} {S : World → Prop} {i : Nat} {o : Oper} {v : Value} {fuel : Nat} {listed : Array Bool} {a : Act} {w : World} (hi : nth l i = some o)
    (hs : Region.noSelect l.toArray = true) (hf : Region.free md l.toArray listed i = true) (hr : (Region.ready md l.toArray listed).contains i = true)
    (hQ : ∀ c a w, Q (.panic c) (a.put o.dst v) w → Q (.panic c) a w) (hy : YieldsIf P l.toArray S o v a) (hS : S w)
    (h : wpAnyH P md l.toArray Q S fuel (listed.setIfInBounds i true) (a.put o.dst v) w) : wpAnyH P md l.toArray Q S (fuel + 1) listed a w :=
 wpAnyH_take ((nth_eq l i).symm.trans hi) hs hf hr hQ hy hS h
theorem hCall {P : Program} {md : Region.Mode} {l : List Oper} {Q : Exit → Act → World → Prop} {S : World → Prop} {i : Nat} {o : Oper} {fuel : Nat} {listed : Array Bool} {a : Act} {w : World} (hi : nth l i = some o)
    (hr : Region.ready md l.toArray listed = [i]) (hw : Region.wanted o (yielded l.toArray a.tmps) = true)
    (h : ∀ K : Act → World → Prop, Shut (∀ a w, S w → (S w → wpAnyH P md l.toArray Q S fuel (listed.setIfInBounds i true) a w) → K a w) → Oper.wp P o a w K Q) :
    wpAnyH P md l.toArray Q S (fuel + 1) listed a w :=
 wpAnyH_ready hr (by simp) (AllReadyH.cons ((nth_eq l i).symm.trans hi) (fun K hK => by rw [if_pos hw]; exact h K hK) AllReadyH.nil)
theorem hCons {P : Program} {md : Region.Mode} {l : List Oper} {Q : Exit → Act → World → Prop} {S : World → Prop} {i : Nat} {o : Oper} {fuel : Nat} {listed : Array Bool} {a : Act} {w : World} {rs : List Nat} (hi : nth l i = some o)
    (hw : Region.wanted o (yielded l.toArray a.tmps) = true)
    (h : ∀ K : Act → World → Prop, Shut (∀ a w, S w → (S w → wpAnyH P md l.toArray Q S fuel (listed.setIfInBounds i true) a w) → K a w) → Oper.wp P o a w K Q)
    (hs : AllReadyH P md l.toArray Q S fuel listed a w rs) : AllReadyH P md l.toArray Q S fuel listed a w (i :: rs) :=
 AllReadyH.cons ((nth_eq l i).symm.trans hi) (fun K hK => by rw [if_pos hw]; exact h K hK) hs
theorem pZ : (∀ {α : Type} (l : List α) (i : Nat) (x : α), l.toArray.setIfInBounds i x = (l.set i x).toArray) ∧ (∀ {α : Type} (a : α) (l : List α) (x : α), (a :: l).set 0 x = x :: l) ∧ (∀ {α : Type} (a : α) (l : List α) (n : Nat) (x : α), (a :: l).set (n + 1) x = a :: l.set n x) := ⟨fun _ _ _ => List.setIfInBounds_toArray .., fun _ _ _ => rfl, fun _ _ _ _ => rfl⟩
theorem hT {P : Program} {md : Region.Mode} {l : List Oper} {Q : Exit → Act → World → Prop} {S : World → Prop} (i : Nat) {o : Oper} {v : Value} {fuel : Nat} {listed : Array Bool} {a a2 : Act} {w : World} (hS : S w)
    (h : wpAnyH P md l.toArray Q S fuel (listed.setIfInBounds i true) a2 w)
    (hi : nth l i = some o := by rfl) (hs : Region.noSelect l.toArray = true := by kernel_rfl) (hf : Region.free md l.toArray listed i = true := by kernel_rfl) (hr : (Region.ready md l.toArray listed).contains i = true := by kernel_rfl)
    (hQ : ∀ c a w, Q (.panic c) (a.put o.dst v) w → Q (.panic c) a w := by exact fun _ _ _ h => h) (hw : Region.wanted o (yielded l.toArray a.tmps) = true := by rfl)
    (hy : ∀ w9, S w9 → (execOp a.eval o).run P w9 = .ok (.value v) w9 := by intro w9 hSw; (try dsimp only at hSw); go_simp; try with_reducible rfl)
    (ha : a.put o.dst v = a2 := by (try simp only [Act.put, pZ]); try rfl) : wpAnyH P md l.toArray Q S (fuel + 1) listed a w := by
 subst ha
 exact wpAnyH_take ((nth_eq l i).symm.trans hi) hs hf hr hQ (Or.inl ⟨hw, hy⟩) hS h
theorem hN {P : Program} {md : Region.Mode} {l : List Oper} {Q : Exit → Act → World → Prop} {S : World → Prop} (i : Nat) {o : Oper} {fuel : Nat} {listed : Array Bool} {a a2 : Act} {w : World} (hS : S w)
    (h : wpAnyH P md l.toArray Q S fuel (listed.setIfInBounds i true) a2 w)
    (hi : nth l i = some o := by rfl) (hs : Region.noSelect l.toArray = true := by kernel_rfl) (hf : Region.free md l.toArray listed i = true := by kernel_rfl) (hr : (Region.ready md l.toArray listed).contains i = true := by kernel_rfl)
    (hQ : ∀ c a w, Q (.panic c) (a.put o.dst undef) w → Q (.panic c) a w := by exact fun _ _ _ h => h) (hw : Region.wanted o (yielded l.toArray a.tmps) = false := by rfl)
    (ha : a.put o.dst undef = a2 := by (try simp only [Act.put, pZ]); try rfl) : wpAnyH P md l.toArray Q S (fuel + 1) listed a w := by
 subst ha
 exact wpAnyH_take ((nth_eq l i).symm.trans hi) hs hf hr hQ (Or.inr ⟨hw, rfl⟩) hS h
theorem Ri.cell {w u : World} {b off cap : Nat} {zs : List Int} (h : Ri w (some ⟨b, off, none⟩) cap zs) (hb : Below w.heap.size w u) {k : Nat} (hk : k < zs.length) {z : Int} (hz : zs.getD k 0 = z) : u.cell? ⟨b, off + k, none⟩ = some (.int .i64 z) := by
 obtain ⟨b', off', e, _, d⟩ := h.at hb k hk
 cases e
 rw [d, hz]
theorem changeAt_any (i : Nat) (a : Option Addr) (ca : Nat) (ns : List Int) (ta : Option Addr) (tc : Nat) (ts : List Bool) (da : Option Addr) (dc : Nat) (cs : List Int) (w : World) (hn : Ri w a ca ns) (ht : Rl w ta tc ts) (hc : Ri w da dc cs) (hF : fitB ns ts cs = true) (hi : i < ns.length) :
    Calls Tryz.prog 278 #[.int .i64 (i : Int), .slice a ns.length ca, .slice ta ts.length tc, .slice da cs.length dc] w fun e w' => ∃ v', e = .returned v' ∧ Fr w' v' 7 (fiQ ns ts cs i) ∧ Below w.heap.size w w' := by
 obtain ⟨⟨l1, l2, l3⟩, f1, f2⟩ := fitB_iff.1 hF
 have hA := fun U (h : Rl U ta tc ts) => nearA_any i ta tc ts U h (by omega) (by omega)
 have hB := fun U (h : Rl U ta tc ts) => nearB_any i ta tc ts U h (by omega) (by omega)
 have HAB := nbAB (t := ts) (i := i) (by omega)
 obtain ⟨n, hnn⟩ : ∃ n, ns.length = n := ⟨_, rfl⟩
 rw [hnn] at l1 l2 l3 hi ⊢; rw [l1, l2]; rw [l1] at hA hB HAB
 have HL : Hid (ns.length = n ∧ ts.length = n ∧ cs.length = n) := ⟨hnn, l1, l2⟩
 have HN : Hid (Ri w a ca ns) := hn
 have HT : Hid (Rl w ta tc ts) := ht
 have HC : Hid (Ri w da dc cs) := hc
 have HF1 : Hid (∀ z ∈ ns, -32768 ≤ z ∧ z ≤ 32767) := f1
 have HF2 : Hid (∀ z ∈ cs, -32768 ≤ z ∧ z ≤ 32767) := f2
 clear hn ht hc f1 f2 hnn l1 l2 hF
 obtain ⟨W, hW, B1, hbW⟩ : ∃ W, W = w.alloc (.cells #[.bool false, .slice none 0 0, .slice none 0 0] 125) ∧ Box 125 W w.heap.size (.bool false) (.slice none 0 0) (.slice none 0 0) ∧ Below w.heap.size w W := ⟨_, rfl, Box.new _ _ _ _ _, al1 _⟩
 obtain ⟨tb, tof, eta, htb, dt⟩ := HT.out.at hbW i (by rw [HL.out.2.1]; exact hi)
 obtain ⟨tz, htz⟩ : ∃ z, ts.getD i false = z := ⟨_, rfl⟩
 rw [htz] at dt; subst eta
 have i0 : (0 : Int) ≤ (i : Int) := by omega
 have i9 : (i : Int) < (n : Int) := by omega
 cases tz with
 | true =>
  obtain ⟨b1, o1, ea1, hb1, d1⟩ := HC.out.at hbW i (by rw [HL.out.2.2]; exact hi)
  have hzb := fd_getD HF2.out i
  have HQ : Hid (fiQ ns ts cs i = ((cs.getD i 0 : Int) : Rat)) := fiQ_own htz
  subst ea1; clear htz hA hB HAB
  generalize cs.getD i 0 = z at *
  go_enter Tryz.func278, Tryz.ntmps278
  go_upto_region 1 with fail
  rw [← hW]; clear hW
  go_wp2_with fail
  refine (whole_any z _ (by omega) (by omega)).mono ?_
  rintro e u1 ⟨v1, rfl, hF1, hb2⟩; replace B1 := B1.below hb2
  replace hbW : Below w.heap.size w u1 := hbW.trans (hb2.mono hbW.size)
  clear hb2 d1 dt
  replace hF1 := (hF1.eq (r := fiQ ns ts cs i) HQ.out.symm).le (show 2 ≤ 7 by decide)
  have hs := B1.lt
  obtain ⟨q1, q2, q3, q4, q5, q6⟩ := B1.cells; obtain ⟨n', xs', ys', ⟨e1, f1, e2, f2, rfl, hx', hy'⟩, hF⟩ := hF1; go_wp2
  refine ret3 (v := .agg #[.bool n', .slice e1 xs'.length f1, .slice e2 ys'.length f2]) B1 rfl (fun U hU => by obtain ⟨r1, r2, r3, _⟩ := hU.cells; simp [results, Tryz.results278, go_sem, r1, r2, r3]) (fun U hU hK => ⟨_, rfl, ⟨_, _, _, ⟨_, _, _, _, rfl, hK _ _ _ hx', hK _ _ _ hy'⟩, hF⟩, hU _ _ hbW (by omega)⟩)
 | false =>
  have hA1 := hA W (HT.out.below hbW)
  rcases HAB with ⟨k1, k2, k3⟩ | ⟨p, q, k1, k2, k3, k4, k5, k6, k7, k8⟩
  · have HQ : Hid (fiQ ns ts cs i = 0) := fiQ_nil htz k1
    rw [k1] at hA1
    dsimp only [Option.getD, Option.isSome] at hA1
    have hnn1 : ((n - 1 : Nat) : Int) = (n : Int) - 1 := by omega
    rw [hnn1] at hA1; clear htz hA hB k1 k2 k3 hnn1
    go_enter Tryz.func278, Tryz.ntmps278
    go_upto_region 1 with fail
    rw [← hW]; clear hW
    go_wp2_with fail
    refine hA1.mono ?_
    rintro e u0 ⟨rfl, rfl⟩; clear hA1
    go_wp2_with fail
    refine (whole_any 0 _ (by decide) (by decide)).mono ?_
    rintro e u1 ⟨v1, rfl, hF1, hb2⟩; replace B1 := B1.below hb2
    replace hbW : Below w.heap.size w u1 := hbW.trans (hb2.mono hbW.size)
    clear hb2 dt
    replace hF1 := (hF1.eq (r := fiQ ns ts cs i) (by rw [HQ.out]; rfl)).le (show 2 ≤ 7 by decide)
    have hs := B1.lt
    obtain ⟨q1, q2, q3, q4, q5, q6⟩ := B1.cells; obtain ⟨n', xs', ys', ⟨e1, f1, e2, f2, rfl, hx', hy'⟩, hF⟩ := hF1; go_wp2
    refine ret3 (v := .agg #[.bool n', .slice e1 xs'.length f1, .slice e2 ys'.length f2]) B1 rfl (fun U hU => by obtain ⟨r1, r2, r3, _⟩ := hU.cells; simp [results, Tryz.results278, go_sem, r1, r2, r3]) (fun U hU hK => ⟨_, rfl, ⟨_, _, _, ⟨_, _, _, _, rfl, hK _ _ _ hx', hK _ _ _ hy'⟩, hF⟩, hU _ _ hbW (by omega)⟩)
  · have HQ : Hid (fiQ ns ts cs i = infQ (ns.getD p 0) (cs.getD p 0) (ns.getD q 0) (cs.getD q 0) (ns.getD i 0)) := fiQ_two htz k1 k2
    rw [k1] at hA1
    have hB1 := hB W (HT.out.below hbW)
    rw [k2] at hB1
    dsimp only [Option.getD, Option.isSome] at hA1 hB1
    have hnn1 : ((n - 1 : Nat) : Int) = (n : Int) - 1 := by omega
    rw [hnn1] at hA1
    have hp : p < n := k3
    have hq : q < n := k4
    have bpn := fd_getD HF1.out p
    have bpc := fd_getD HF2.out p
    have bqn := fd_getD HF1.out q
    have bqc := fd_getD HF2.out q
    have bin := fd_getD HF1.out i
    have hi' : i < ns.length := by rw [HL.out.1]; exact hi
    clear htz hA hB k1 k2 k3 k4 k5 k6 k7 k8 hnn1
    obtain ⟨pn, e⟩ : ∃ z, ns.getD p 0 = z := ⟨_, rfl⟩
    have Epn : Hid (ns.getD p 0 = pn) := e
    rw [e] at bpn; clear e
    obtain ⟨pc, e⟩ : ∃ z, cs.getD p 0 = z := ⟨_, rfl⟩
    have Epc : Hid (cs.getD p 0 = pc) := e
    rw [e] at bpc; clear e
    obtain ⟨qn, e⟩ : ∃ z, ns.getD q 0 = z := ⟨_, rfl⟩
    have Eqn : Hid (ns.getD q 0 = qn) := e
    rw [e] at bqn; clear e
    obtain ⟨qc, e⟩ : ∃ z, cs.getD q 0 = z := ⟨_, rfl⟩
    have Eqc : Hid (cs.getD q 0 = qc) := e
    rw [e] at bqc; clear e
    obtain ⟨iz, e⟩ : ∃ z, ns.getD i 0 = z := ⟨_, rfl⟩
    have Ein : Hid (ns.getD i 0 = iz) := e
    rw [e] at bin; clear e
    have HQ2 : Hid (fiQ ns ts cs i = infQ pn pc qn qc iz) := by
     show _ = _
     rw [HQ.out, Epn.out, Epc.out, Eqn.out, Eqc.out, Ein.out]
    clear HQ
    go_enter Tryz.func278, Tryz.ntmps278
    go_upto_region 1 with fail
    rw [← hW]; clear hW
    go_wp2_with fail
    refine hA1.mono ?_
    rintro e u0 ⟨rfl, rfl⟩; clear hA1
    go_wp2_with fail
    refine hB1.mono ?_
    rintro e u0 ⟨rfl, rfl⟩; clear hB1 dt
    go_wp2_with fail
    obtain ⟨b0, o0, ea0, hb0, d0⟩ := HN.out.at hbW p (by rw [HL.out.1]; exact hp)
    obtain ⟨b1, o1, ea1, hb1, d1⟩ := HC.out.at hbW p (by rw [HL.out.2.2]; exact hp)
    rw [Epn.out] at d0; rw [Epc.out] at d1; subst ea0 ea1
    have i1 : (0 : Int) ≤ (p : Int) := by omega
    have i2 : (p : Int) < (n : Int) := by omega
    refine wp_region_held_drew (S := fun w9 => w9.cell? ⟨b0, o0 + p, none⟩ = some (.int .i64 pn) ∧ w9.cell? ⟨b1, o1 + p, none⟩ = some (.int .i64 pc)) (by kernel_rfl) ?_ (fun hHeld => ?_)
    · (try dsimp only)
      go_keep
    have hdr : Below W.heap.size W W.drew := Below.drew1
    generalize W.drew = Vd at hdr hHeld ⊢
    replace hbW : Below w.heap.size w Vd := hbW.trans (hdr.mono hbW.size)
    replace B1 := B1.below hdr
    have hHeldz := hHeld
    clear hdr d0 d1; refine hT 0 hHeld ?_; refine hT 1 hHeld ?_; refine hT 2 hHeld ?_; refine hT 3 hHeld ?_; refine hT 4 hHeld ?_; refine hT 5 hHeld ?_; refine hT 6 hHeld ?_; refine hT 7 hHeld ?_; refine hT 8 hHeld ?_
    obtain ⟨V, hV, XP, hal⟩ : ∃ V, V = Vd.alloc (.cells #[.int .i64 pn, .int .i64 pc] 314) ∧ Bk 314 V Vd.heap.size [.int .i64 pn, .int .i64 pc] ∧ Below Vd.heap.size Vd V := ⟨_, rfl, Bk.new _ _ _, al1 _⟩
    refine hCall (i := 9) rfl (by kernel_rfl) (by rfl) (fun K hK => ?_)
    go_simp
    refine hK.out _ _ ?_ (fun hHeld => ?_)
    · (try dsimp only)
      exact ⟨((al1 _).cell (p := ⟨b0, o0 + p, none⟩) (Nat.lt_of_lt_of_le hb0 hbW.size)).trans hHeld.1, ((al1 _).cell (p := ⟨b1, o1 + p, none⟩) (Nat.lt_of_lt_of_le hb1 hbW.size)).trans hHeld.2⟩
    clear hK K
    try simp only [Act.put, pZ]
    refine hCall (i := 10) rfl (by kernel_rfl) (by rfl) (fun K hK => ?_)
    go_simp; rw [← hV]; clear hV
    refine hK.out _ _ ?_ (fun hHeld2 => ?_)
    · (try dsimp only)
      exact ⟨(hal.cell (p := ⟨b0, o0 + p, none⟩) (Nat.lt_of_lt_of_le hb0 hbW.size)).trans hHeldz.1, (hal.cell (p := ⟨b1, o1 + p, none⟩) (Nat.lt_of_lt_of_le hb1 hbW.size)).trans hHeldz.2⟩
    clear hK K
    try simp only [Act.put, pZ]
    refine wpAnyH_done (by kernel_rfl) ?_ _
    clear hHeld hHeld2 hHeldz
    have hVl : w.heap.size < Vd.heap.size := B1.lt
    replace B1 := B1.below hal
    replace hbW : Below w.heap.size w V := hbW.trans (hal.mono hbW.size)
    clear hal i1 i2
    go_wp2_with fail
    obtain ⟨b0, o0, ea0, hb0, d0⟩ := HN.out.at hbW q (by rw [HL.out.1]; exact hq)
    obtain ⟨b1, o1, ea1, hb1, d1⟩ := HC.out.at hbW q (by rw [HL.out.2.2]; exact hq)
    rw [Eqn.out] at d0; rw [Eqc.out] at d1
    cases ea0
    cases ea1
    have i1 : (0 : Int) ≤ (q : Int) := by omega
    have i2 : (q : Int) < (n : Int) := by omega
    refine wp_region_held_drew (S := fun w9 => w9.cell? ⟨b0, o0 + q, none⟩ = some (.int .i64 qn) ∧ w9.cell? ⟨b1, o1 + q, none⟩ = some (.int .i64 qc)) (by kernel_rfl) ?_ (fun hHeld => ?_)
    · (try dsimp only)
      go_keep
    have hdr : Below V.heap.size V V.drew := Below.drew1
    generalize V.drew = Ud at hdr hHeld ⊢
    replace hbW : Below w.heap.size w Ud := hbW.trans (hdr.mono hbW.size)
    replace B1 := B1.below hdr; replace XP := XP.below hdr
    have hHeldz := hHeld
    clear hdr d0 d1; refine hT 0 hHeld ?_; refine hT 1 hHeld ?_; refine hT 2 hHeld ?_; refine hT 3 hHeld ?_; refine hT 4 hHeld ?_; refine hT 5 hHeld ?_; refine hT 6 hHeld ?_; refine hT 7 hHeld ?_; refine hT 8 hHeld ?_
    obtain ⟨U, hU, XQ, hal⟩ : ∃ V, V = Ud.alloc (.cells #[.int .i64 qn, .int .i64 qc] 314) ∧ Bk 314 V Ud.heap.size [.int .i64 qn, .int .i64 qc] ∧ Below Ud.heap.size Ud V := ⟨_, rfl, Bk.new _ _ _, al1 _⟩
    refine hCall (i := 9) rfl (by kernel_rfl) (by rfl) (fun K hK => ?_)
    go_simp
    refine hK.out _ _ ?_ (fun hHeld => ?_)
    · (try dsimp only)
      exact ⟨((al1 _).cell (p := ⟨b0, o0 + q, none⟩) (Nat.lt_of_lt_of_le hb0 hbW.size)).trans hHeld.1, ((al1 _).cell (p := ⟨b1, o1 + q, none⟩) (Nat.lt_of_lt_of_le hb1 hbW.size)).trans hHeld.2⟩
    clear hK K
    try simp only [Act.put, pZ]
    refine hCall (i := 10) rfl (by kernel_rfl) (by rfl) (fun K hK => ?_)
    go_simp; rw [← hU]; clear hU
    refine hK.out _ _ ?_ (fun hHeld2 => ?_)
    · (try dsimp only)
      exact ⟨(hal.cell (p := ⟨b0, o0 + q, none⟩) (Nat.lt_of_lt_of_le hb0 hbW.size)).trans hHeldz.1, (hal.cell (p := ⟨b1, o1 + q, none⟩) (Nat.lt_of_lt_of_le hb1 hbW.size)).trans hHeldz.2⟩
    clear hK K
    try simp only [Act.put, pZ]
    refine wpAnyH_done (by kernel_rfl) ?_ _
    clear hHeld hHeld2 hHeldz
    have hUl : w.heap.size < Ud.heap.size := B1.lt
    replace B1 := B1.below hal; replace XP := XP.below hal
    replace hbW : Below w.heap.size w U := hbW.trans (hal.mono hbW.size)
    clear hal i1 i2
    go_wp2_with fail
    obtain ⟨b0', o0', ea0, hb0', d0⟩ := HN.out.at hbW i (by rw [HL.out.1]; exact hi)
    cases ea0
    rw [Ein.out] at d0; obtain ⟨x0, x1, _⟩ := XP.two; obtain ⟨y0, y1, _⟩ := XQ.two
    refine wp_region_held_drew (S := fun w9 => w9.cell? ⟨Vd.heap.size, 0, none⟩ = some (.int .i64 pn) ∧ w9.cell? ⟨Vd.heap.size, 1, none⟩ = some (.int .i64 pc) ∧ w9.cell? ⟨Ud.heap.size, 0, none⟩ = some (.int .i64 qn) ∧ w9.cell? ⟨Ud.heap.size, 1, none⟩ = some (.int .i64 qc) ∧ w9.cell? ⟨b0, o0 + i, none⟩ = some (.int .i64 iz)) (by kernel_rfl) ?_ (fun hHeld => ?_)
    · (try dsimp only)
      go_keep
    have hdr : Below U.heap.size U U.drew := Below.drew1
    generalize U.drew = Z at hdr hHeld ⊢
    replace hbW : Below w.heap.size w Z := hbW.trans (hdr.mono hbW.size)
    replace B1 := B1.below hdr; replace XP := XP.below hdr; replace XQ := XQ.below hdr; clear hdr d0 x0 x1 y0 y1; refine hT 0 hHeld ?_; refine hT 1 hHeld ?_; refine hT 2 hHeld ?_; refine hT 3 hHeld ?_; refine hT 4 hHeld ?_; refine hT 5 hHeld ?_
    refine hCall (i := 6) rfl (by kernel_rfl) (by rfl) (fun K hK => ?_)
    go_simp
    refine (inferred_any pn pc qn qc iz _ bpn bpc bqn bqc bin).mono ?_
    rintro e u1 ⟨v1, rfl, hF1, hb2⟩; replace B1 := B1.below hb2; replace XP := XP.below hb2; replace XQ := XQ.below hb2
    replace hbW : Below w.heap.size w u1 := hbW.trans (hb2.mono hbW.size)
    obtain ⟨x0, x1, _⟩ := XP.two; obtain ⟨y0, y1, _⟩ := XQ.two
    have d0 := HN.out.cell hbW hi' Ein.out
    go_wp2_with fail
    refine hK.out _ _ ?_ (fun hHeld => ?_)
    · (try dsimp only)
      exact ⟨x0, x1, y0, y1, d0⟩
    clear hK K hb2 x0 x1 y0 y1 d0
    try simp only [Act.put, pZ]
    replace hF1 := hF1.eq (r := fiQ ns ts cs i) HQ2.out.symm
    obtain ⟨n', xs', ys', ⟨e1, f1, e2, f2, rfl, hx', hy'⟩, hF⟩ := hF1; obtain ⟨q1, q2, q3, q4, q5, q6⟩ := B1.cells
    have hs := B1.lt
    refine hCall (i := 7) rfl (by kernel_rfl) (by rfl) (fun K hK => ?_)
    go_simp
    obtain ⟨U9, hU9, BU, hU1, hU2, hU3⟩ := set3_world B1 (.bool n') (.slice e1 xs'.length f1) (.slice e2 ys'.length f2)
    rw [← hU9]; clear hU9
    refine hK.out _ _ ?_ (fun hHeld2 => ?_)
    · (try dsimp only)
      refine ⟨(World.cell?_of_block (w := u1) (a := ⟨Vd.heap.size, 0, none⟩) (hU3 Vd.heap.size (by omega))).trans hHeld.1, (World.cell?_of_block (w := u1) (a := ⟨Vd.heap.size, 1, none⟩) (hU3 Vd.heap.size (by omega))).trans hHeld.2.1, (World.cell?_of_block (w := u1) (a := ⟨Ud.heap.size, 0, none⟩) (hU3 Ud.heap.size (by omega))).trans hHeld.2.2.1, (World.cell?_of_block (w := u1) (a := ⟨Ud.heap.size, 1, none⟩) (hU3 Ud.heap.size (by omega))).trans hHeld.2.2.2.1, (World.cell?_of_block (w := u1) (a := ⟨b0, o0 + i, none⟩) (hU3 b0 (by omega))).trans hHeld.2.2.2.2⟩
    clear hK K
    try simp only [Act.put, pZ]
    refine wpAnyH_done (by kernel_rfl) ?_ _
    clear hHeld hHeld2; go_wp2
    exact bodyPost_ret (v := .agg #[.bool n', .slice e1 xs'.length f1, .slice e2 ys'.length f2]) (by obtain ⟨r1, r2, r3, _⟩ := BU.cells; simp [results, Tryz.results278, go_sem, r1, r2, r3]) rfl ⟨_, rfl, ⟨_, _, _, ⟨_, _, _, _, rfl, hU2 _ _ _ hx', hU2 _ _ _ hy'⟩, hF⟩, hU1 _ _ hbW (by omega)⟩
theorem append_noIs {P : Program} {w w' : World} {v v' : Value} (base : Nat) (t ty e : TypeId) (i : TypeInfo) (ht : P.underlying t = some (.slice e)) (hi : P.info? e = some i) (hz : i.zero = some rtZ) (hsize : i.size = 3) (hby : i.bytes = 56)
    (n : Nat) (xs : List Value) (hown : w.ownsRow base e 3 v n xs) (hn : ∀ g, v.ownBlock = some g → NoI w g)
    (a : Addr) (m pc : Nat) (news : List Value) (hm : 0 < m) (hl : news.length = m * 3) (hnews : ∀ j u, news[j]? = some u → w.cell? (a.add j) = some u) (h1 : ∀ u ∈ news, isI u = false ∧ u.oneCell' = true) (hlen : n + m ≤ 1000000)
    (hr : (Builtin.append_ #[t, t] ty #[v, .slice (some a) m pc]).run P w = .ok v' w') : ∀ g, v'.ownBlock = some g → NoI w' g := by
 have hl' : news.length = m * i.size := by rw [hsize, hl]
 have hnew : ∀ u ∈ news, isI u = false := fun u hu => (h1 u hu).1
 rcases hown.2 with ⟨rfl, rfl⟩ | ⟨g, cap, cur, rfl, hbg, hg, hnc, hcm, hcs, htake⟩
 · have h2 := run_append_nil (P := P) w t ty e i rtZ ht hi hz a m pc news hl' hnews hm (by omega) (by rw [hby]; omega)
   rw [h2] at hr; injection hr with e1 e2; subst e1 e2
   intro g hg
   simp [Value.ownBlock] at hg
   subst hg
   refine NoI.of (heap_alloc_new w.drew _) (fun c hc => ?_)
   rw [Array.toList_append, List.mem_append] at hc
   rcases hc with hc | hc
   · exact hnew c (by simpa using hc)
   · exact rtZ_zero _ c hc
 · have hcur := (hn g rfl).mem hg
   have hxs : ∀ c ∈ xs, isI c = false := fun c hc => hcur c (by rw [← htake] at hc; exact List.mem_of_mem_take hc)
   by_cases hroom : n + m ≤ cap
   · have hfit : n * i.size + news.length ≤ cur.size := by rw [hsize, hl, hcs]; omega
     have h2 := run_append_room (P := P) w t ty e i ht hi g n cap cur hg a m pc news hl' hnews (fun u hu => (h1 u hu).2) hroom hfit
     rw [h2] at hr; injection hr with e1 e2; subst e1 e2
     intro g' hg'
     simp [Value.ownBlock] at hg'
     subst hg'
     refine NoI.of (setRow_heap w g cur _ e _ hg) (fun c hc => ?_)
     simp only [List.mem_append] at hc
     rcases hc with (hc | hc) | hc
     · exact hcur c (List.mem_of_mem_take hc)
     · exact hnew c hc
     · exact hcur c (List.mem_of_mem_drop hc)
   · have holds : ∀ j u, xs[j]? = some u → w.cell? ((⟨g, 0, none⟩ : Addr).add j) = some u := hown.cells (g := g) rfl
     have h2 := run_append_grow (P := P) w t ty e i rtZ ht hi hz ⟨g, 0, none⟩ n cap xs (by rw [hsize]; exact hown.1) holds a m pc news hl' hnews (by omega) (by omega) (growslice_fits (by omega) (by rw [hby]; omega))
     rw [h2] at hr; injection hr with e1 e2; subst e1 e2
     intro g' hg'
     simp [Value.ownBlock] at hg'
     subst hg'
     refine NoI.of (heap_alloc_new w.drew _) (fun c hc => ?_)
     rw [Array.toList_append, Array.toList_append, List.mem_append, List.mem_append] at hc
     rcases hc with (hc | hc) | hc
     · exact hxs c (by simpa using hc)
     · exact hnew c (by simpa using hc)
     · exact rtZ_zero _ c hc
theorem Rz.cells {w : World} {b off cap k : Nat} {qs : List Rat} (h : Rz w (some ⟨b, off, none⟩) cap k qs) : ∃ us : List Value, us.length = qs.length * 3 ∧ (∀ j u, us[j]? = some u → w.cell? ((⟨b, off, none⟩ : Addr).add j) = some u) ∧ (∀ u ∈ us, isI u = false ∧ u.oneCell' = true) ∧
    ∀ i, i < qs.length → ∃ x y z, us[i * 3]? = some x ∧ us[i * 3 + 1]? = some y ∧ us[i * 3 + 2]? = some z ∧ Fr w (.agg #[x, y, z]) k (qs.getD i 0) := by
 have key : ∀ n, n ≤ qs.length → ∃ us : List Value, us.length = n * 3 ∧ (∀ j u, us[j]? = some u → w.cell? ((⟨b, off, none⟩ : Addr).add j) = some u) ∧ (∀ u ∈ us, isI u = false ∧ u.oneCell' = true) ∧
     ∀ i, i < n → ∃ x y z, us[i * 3]? = some x ∧ us[i * 3 + 1]? = some y ∧ us[i * 3 + 2]? = some z ∧ Fr w (.agg #[x, y, z]) k (qs.getD i 0) := by
  intro n
  induction n with
  | zero => exact fun _ => ⟨[], rfl, (fun j u h => by simp at h), (fun u h => by simp at h), fun i hi => by omega⟩
  | succ n ih =>
   intro hn
   obtain ⟨us, h1, h2, h3, h4⟩ := ih (by omega)
   obtain ⟨b', off', x, y, z, e, hb, c0, c1, c2, hF⟩ := h.2.2 n (by omega)
   cases e
   refine ⟨us ++ [x, y, z], by rw [List.length_append, h1]; simp; omega, fun j u hj => ?_, fun u hu => ?_, fun i hi => ?_⟩
   · by_cases hjl : j < us.length
     · rw [List.getElem?_append_left hjl] at hj
       exact h2 j u hj
     · rw [List.getElem?_append_right (by omega)] at hj
       have hadd : (⟨b, off, none⟩ : Addr).add j = ⟨b, off + j, none⟩ := by unfold Addr.add; split <;> simp_all
       rw [hadd]
       obtain ⟨d, hd⟩ : ∃ d, j - us.length = d := ⟨_, rfl⟩
       rw [hd] at hj
       have ej : j = n * 3 + d := by omega
       match d, hj with
       | 0, hj => simp at hj; subst hj; rw [ej]; exact c0
       | 1, hj => simp at hj; subst hj; rw [ej, ← Nat.add_assoc]; exact c1
       | 2, hj => simp at hj; subst hj; rw [ej, ← Nat.add_assoc]; exact c2
   · rcases List.mem_append.1 hu with hu | hu
     · exact h3 u hu
     · exact hF.noI u hu
   · by_cases hin : i < n
     · obtain ⟨x', y', z', q0, q1, q2, q3⟩ := h4 i hin
       exact ⟨x', y', z', by rw [List.getElem?_append_left (by omega)]; exact q0, by rw [List.getElem?_append_left (by omega)]; exact q1, by rw [List.getElem?_append_left (by omega)]; exact q2, q3⟩
     · obtain rfl : i = n := by omega
       refine ⟨x, y, z, ?_, ?_, ?_, hF⟩
       · rw [List.getElem?_append_right (by omega), h1]; simp
       · rw [List.getElem?_append_right (by omega), h1, show i * 3 + 1 - i * 3 = 1 by omega]; simp
       · rw [List.getElem?_append_right (by omega), h1, show i * 3 + 2 - i * 3 = 2 by omega]; simp
 exact key _ (Nat.le_refl _)
theorem wp_append_rts {w : World} {o : Oper} {a : Act} {K : Act → World → Prop} {Q : Exit → Act → World → Prop} (t e : TypeId)
    (ht : Tryz.prog.underlying t = some (.slice e)) (hinfo : (Tryz.prog.info? e).map (fun i => (i.zero, i.size, i.bytes)) = some (some rtZ, 3, 56))
    (s x : Operand) (ho : o.op = .call { callee := .builtin .append, args := #[s, x], argTypes := #[t, t] })
    (base : Nat) (v : Value) (k : Nat) (qs ms : List Rat) (hs : a.eval s = v) (hown : Ro e base w v k qs) (pa : Option Addr) (pc n : Nat) (hn : n = ms.length) (hx : a.eval x = .slice pa n pc) (hp : Rz w pa pc k ms) (hpn : pa = none → pc = 0) (hps : ∀ ad, pa = some ad → ∃ b off, ad = ⟨b, off, none⟩) (hlen : qs.length + ms.length ≤ 1000000) (hbase : base ≤ w.heap.size)
    (h : ∀ v' w', Ro e base w' v' k (qs ++ ms) → w.grownBy w' v.ownBlock → (v'.ownBlock = v.ownBlock ∨ v'.ownBlock = some w.heap.size) → K (a.put o.dst v') w') : o.wp Tryz.prog a w K Q := by
 subst hn
 obtain ⟨i0, hi, hz0, hz1, hz2⟩ := info_parts hinfo
 obtain ⟨vs, h3, hnI, h4⟩ := hown
 cases pa with
 | none =>
  obtain rfl := hpn rfl
  have hm : ms = [] := List.length_eq_zero_iff.1 (Nat.le_zero.1 hp.1)
  subst hm
  have hrun := run_append_owned_none (P := Tryz.prog) (w := w) base t o.type e i0 3 ht hi v qs.length vs h3
  have hx' : a.eval x = .slice none 0 0 := hx
  unfold Oper.wp execOp
  simp only [ho, resolve, invoke, builtin, Sem.run_bind, Sem.run_pure, Result.andThen_ok, List.map_toArray, List.map_cons, List.map_nil, hs, hx', hrun]
  exact h v w (by rw [List.append_nil]; exact ⟨vs, h3, hnI, h4⟩) (World.grownBy.refl w _) (.inl rfl)
 | some ad =>
  obtain ⟨b, off, rfl⟩ := hps ad rfl
  obtain ⟨us, l1, l2, l3, l4⟩ := hp.cells
  obtain ⟨v', w', hr, k1, k2, k3, k4⟩ := run_append_own_at (P := Tryz.prog) w base t o.type e i0 rtZ 3 56 ht hi hz0 hz1 hz2 rfl (by decide) v qs.length vs h3 ⟨b, off, none⟩ ms.length pc us l1 l2 (fun u hu => (l3 u hu).2) (by unfold maxLen; omega) (by omega) hbase
  have hn' : ∀ g, v'.ownBlock = some g → NoI w' g := by
   by_cases hm : 0 < ms.length
   · exact append_noIs base t o.type e i0 ht hi hz0 hz1 hz2 qs.length vs h3 hnI ⟨b, off, none⟩ ms.length pc us hm l1 l2 l3 hlen hr
   · have hm0 : ms.length = 0 := by omega
     rcases h3.2 with ⟨rfl, h0⟩ | ⟨g, cap, cur, rfl, hbg, hg, hnc, hcm, hcs, htake⟩
     · rw [k3.2 ⟨rfl, hm0⟩]
       intro g hg
       cases hg
     · have hus : us = [] := List.length_eq_zero_iff.1 (by omega)
       subst hus
       have h2 := run_append_room (P := Tryz.prog) w t o.type e i0 ht hi g qs.length cap cur hg ⟨b, off, none⟩ ms.length pc [] (by rw [hm0]; simp) (by simp) (by simp) (by omega) (by rw [hz1, hcs]; simp; omega)
       rw [h2] at hr; injection hr with e1 e2; subst e1 e2
       intro g' hg'
       simp [Value.ownBlock] at hg'
       subst hg'
       have hcur := (hnI g rfl).mem hg
       refine NoI.of (setRow_heap w g cur _ e _ hg) (fun c hc => ?_)
       simp only [List.mem_append] at hc
       rcases hc with (hc | hc) | hc
       · exact hcur c (List.mem_of_mem_take hc)
       · simp at hc
       · exact hcur c (List.mem_of_mem_drop hc)
  have hvs : vs.length = qs.length * 3 := h3.1
  unfold Oper.wp execOp
  simp only [ho, resolve, invoke, builtin, Sem.run_bind, Sem.run_pure, Result.andThen_ok, List.map_toArray, List.map_cons, List.map_nil, hs, hx, hr]
  refine h v' w' ⟨vs ++ us, by rw [List.length_append]; exact k1, hn', fun j hj => ?_⟩ k2 k4
  by_cases hjm : j < qs.length
  · obtain ⟨x', y', z', q0, q1, q2, q3⟩ := h4 j hjm
    have e' : (qs ++ ms).getD j 0 = qs.getD j 0 := by simp [List.getD, List.getElem?_append_left hjm]
    rw [e']
    exact ⟨x', y', z', by rw [List.getElem?_append_left (by omega)]; exact q0, by rw [List.getElem?_append_left (by omega)]; exact q1, by rw [List.getElem?_append_left (by omega)]; exact q2, q3.grown k2 hnI⟩
  · have hj' : j - qs.length < ms.length := by simp at hj; omega
    have e' : (qs ++ ms).getD j 0 = ms.getD (j - qs.length) 0 := by simp [List.getD, List.getElem?_append_right (show qs.length ≤ j by omega)]
    rw [e']
    obtain ⟨x', y', z', q0, q1, q2, q3⟩ := l4 _ hj'
    refine ⟨x', y', z', ?_, ?_, ?_, q3.grown k2 hnI⟩
    · rw [List.getElem?_append_right (by omega), hvs, show j * 3 - qs.length * 3 = (j - qs.length) * 3 by omega]; exact q0
    · rw [List.getElem?_append_right (by omega), hvs, show j * 3 + 1 - qs.length * 3 = (j - qs.length) * 3 + 1 by omega]; exact q1
    · rw [List.getElem?_append_right (by omega), hvs, show j * 3 + 2 - qs.length * 3 = (j - qs.length) * 3 + 2 by omega]; exact q2
theorem wpList_append_rts {w : World} {ops : Array Oper} {rest : List Oper} {o : Oper} {a : Act} {Q : Exit → Act → World → Prop} (t e : TypeId)
    (ht : Tryz.prog.underlying t = some (.slice e)) (hinfo : (Tryz.prog.info? e).map (fun i => (i.zero, i.size, i.bytes)) = some (some rtZ, 3, 56)) (hgd : o.guard = none)
    (s x : Operand) (ho : o.op = .call { callee := .builtin .append, args := #[s, x], argTypes := #[t, t] })
    (base : Nat) (v : Value) (k : Nat) (qs ms : List Rat) (hs : a.eval s = v) (hown : Ro e base w v k qs) (pa : Option Addr) (pc n : Nat) (hn : n = ms.length) (hx : a.eval x = .slice pa n pc) (hp : Rz w pa pc k ms) (hpn : pa = none → pc = 0) (hps : ∀ ad, pa = some ad → ∃ b off, ad = ⟨b, off, none⟩) (hlen : qs.length + ms.length ≤ 1000000) (hbase : base ≤ w.heap.size)
    (h : ∀ v' w', Ro e base w' v' k (qs ++ ms) → w.grownBy w' v.ownBlock → (v'.ownBlock = v.ownBlock ∨ v'.ownBlock = some w.heap.size) → wpList Tryz.prog ops Q rest (a.put o.dst v') w') : wpList Tryz.prog ops Q (o :: rest) a w :=
 wpList_plain hgd fun K hK => wp_append_rts t e ht hinfo s x ho base v k qs ms hs hown pa pc n hn hx hp hpn hps hlen hbase (fun v' w' k1 k2 k3 => hK _ _ (h v' w' k1 k2 k3))
def Rf (w : World) (a : Option Addr) (cap k : Nat) (qs : List Rat) : Prop := Rz w a cap k qs ∧ (a = none → cap = 0) ∧ ∀ ad, a = some ad → ∃ b off, ad = ⟨b, off, none⟩
theorem Rf.nil (w : World) (k : Nat) : Rf w none 0 k [] := ⟨Rz.nil _ _ _ _ (Nat.zero_le _), (fun _ => rfl), (fun ad e => by cases e)⟩
theorem Rf.below {w w' : World} {a : Option Addr} {cap k : Nat} {qs : List Rat} (h : Rf w a cap k qs) (hb : Below w.heap.size w w') : Rf w' a cap k qs := ⟨h.1.below hb, h.2⟩
theorem Ro.rf {T : TypeId} {base : Nat} {w : World} {v : Value} {k : Nat} {qs : List Rat} (h : Ro T base w v k qs) : ∃ a cap, v = .slice a qs.length cap ∧ Rf w a cap k qs := by
 obtain ⟨a, cap, e, hz⟩ := h.slice; obtain ⟨vs, h3, _, h4⟩ := h
 rcases h3.2 with ⟨e1, h0⟩ | ⟨g, cap', cur, e1, _⟩
 · rw [e] at e1
   injection e1 with e1 e2 e3
   exact ⟨a, cap, e, hz, (fun _ => e3), (fun ad e4 => by rw [e1] at e4; cases e4)⟩
 · rw [e] at e1
   injection e1 with e1 e2 e3
   exact ⟨a, cap, e, hz, (fun e4 => by rw [e1] at e4; cases e4), (fun ad e4 => by rw [e1] at e4; cases e4; exact ⟨_, _, rfl⟩)⟩
theorem Rz.one {w : World} {g k : Nat} {x y z : Value} {q : Rat} (hg : g < w.heap.size) (c0 : w.cell? ⟨g, 0, none⟩ = some x) (c1 : w.cell? ⟨g, 1, none⟩ = some y) (c2 : w.cell? ⟨g, 2, none⟩ = some z) (hF : Fr w (.agg #[x, y, z]) k q) : Rz w (some ⟨g, 0, none⟩) 1 k [q] := by
 refine ⟨Nat.le_refl _, by unfold maxLen; omega, fun i hi => ?_⟩
 obtain rfl : i = 0 := by simpa using hi
 exact ⟨g, 0, x, y, z, rfl, hg, c0, c1, c2, hF⟩
def Rg (base : Nat) (w : World) (a : Option Addr) (cap k : Nat) (qs : List Rat) : Prop := Rf w a cap k qs ∧ ∀ b o, a = some ⟨b, o, none⟩ → base ≤ b
theorem Rg.nil (base : Nat) (w : World) (k : Nat) : Rg base w none 0 k [] := ⟨Rf.nil _ _, fun b o e => by cases e⟩
theorem Rg.below {base : Nat} {w w' : World} {a : Option Addr} {cap k : Nat} {qs : List Rat} (h : Rg base w a cap k qs) (hb : Below w.heap.size w w') : Rg base w' a cap k qs := ⟨h.1.below hb, h.2⟩
theorem Rg.lower {base base' : Nat} {w : World} {a : Option Addr} {cap k : Nat} {qs : List Rat} (h : Rg base w a cap k qs) (hb : base' ≤ base) : Rg base' w a cap k qs := ⟨h.1, fun b o e => Nat.le_trans hb (h.2 b o e)⟩
theorem Ro.rg {T : TypeId} {base : Nat} {w : World} {v : Value} {k : Nat} {qs : List Rat} (h : Ro T base w v k qs) : ∃ a cap, v = .slice a qs.length cap ∧ Rg base w a cap k qs := by
 obtain ⟨a, cap, e, hz⟩ := h.rf; obtain ⟨vs, h3, _, h4⟩ := h
 refine ⟨a, cap, e, hz, fun b o e4 => ?_⟩
 rcases h3.2 with ⟨e1, h0⟩ | ⟨g, cap', cur, e1, hb, _⟩
 · rw [e] at e1
   injection e1 with e1 e2 e3; rw [e1] at e4
   cases e4
 · rw [e] at e1
   injection e1 with e1 e2 e3; rw [e1] at e4
   cases e4
   exact hb
end Go.Proofs.YtkmcodofnckdmaaGreat
