/-
  infer.inferred: the walk.
  infer.changeAt: the walk.
  infer.Fill: the walk.
-/
import Derived.Test.YtngmcghmniakeaaGreatZB20
import Derived.Test.YtngmcghmniakeaaGreatZB12
import Derived.Deep.CutRange
import Derived.Test.YtngmcghmniakeaaGreatZB10
import Derived.Test.YtngmcghmniakeaaGreatZB11
namespace Go.Proofs.YtngmcghmniakeaaGreat
open Go.RowKit Go.Maps
set_option linter.unusedSimpArgs false
set_option linter.unusedVariables false

set_option maxHeartbeats 2000000 in
set_option maxRecDepth 100000 in
theorem inferred_any (a x b y c : Int) (w : World) (ha : -32768 ≤ a ∧ a ≤ 32767) (hx : -32768 ≤ x ∧ x ≤ 32767) (hb : -32768 ≤ b ∧ b ≤ 32767) (hy : -32768 ≤ y ∧ y ≤ 32767) (hc : -32768 ≤ c ∧ c ≤ 32767) :
    Calls Tryz.prog 193 #[.agg #[.int .i64 a, .int .i64 x], .agg #[.int .i64 b, .int .i64 y], .int .i64 c] w fun e w' => ∃ v', e = .returned v' ∧ Fr w' v' 7 (infQ a x b y c) ∧ Below w.heap.size w w' := by
  obtain ⟨W, hW, X1, X2, B3, hbW⟩ : ∃ W, W = (((w.alloc (.cells #[.int .i64 a, .int .i64 x] 224)).alloc (.cells #[.int .i64 b, .int .i64 y] 224)).alloc (.cells #[.bool false, .slice none 0 0, .slice none 0 0] 69)) ∧ Bk 224 W w.heap.size [.int .i64 a, .int .i64 x] ∧ Bk 224 W (w.heap.size + 1) [.int .i64 b, .int .i64 y] ∧ Box 69 W (w.heap.size + 1 + 1) (.bool false) (.slice none 0 0) (.slice none 0 0) ∧ Below w.heap.size w W :=
    ⟨_, rfl, ((Bk.new _ _ [.int .i64 a, .int .i64 x]).below (al1 _)).below (al1 _), (Bk.new1 _ _ _ [.int .i64 b, .int .i64 y]).below (al1 _), Box.new2 _ _ _ _ _ _ _, al3 _ _ _⟩
  obtain ⟨V, hV, V1, V2, V3, hbV⟩ : ∃ V, V = (((w.alloc (.cells #[.int .i64 b, .int .i64 y] 224)).alloc (.cells #[.int .i64 a, .int .i64 x] 224)).alloc (.cells #[.bool false, .slice none 0 0, .slice none 0 0] 69)) ∧ Bk 224 V w.heap.size [.int .i64 b, .int .i64 y] ∧ Bk 224 V (w.heap.size + 1) [.int .i64 a, .int .i64 x] ∧ Box 69 V (w.heap.size + 1 + 1) (.bool false) (.slice none 0 0) (.slice none 0 0) ∧ Below w.heap.size w V :=
    ⟨_, rfl, ((Bk.new _ _ [.int .i64 b, .int .i64 y]).below (al1 _)).below (al1 _), (Bk.new1 _ _ _ [.int .i64 a, .int .i64 x]).below (al1 _), Box.new2 _ _ _ _ _ _ _, al3 _ _ _⟩
  obtain ⟨p0, p1, z0, z1⟩ := X1.two
  obtain ⟨p2, p3, z2, z3⟩ := X2.two
  rcases Int.lt_trichotomy a b with hab | hab | hab
  · by_cases h1 : c ≤ a
    · have HE : Hid (infQ a x b y c = (x : Rat)) := by
        show _ = _
        unfold infQ segQ
        rw [if_neg (by omega), if_pos hab, if_pos h1]
      have g0 : decide (a = b) = false := decide_eq_false (by omega)
      have g0b : (a == b) = false := beq_false_of_ne (by omega)
      have g1 : decide (a > b) = false := decide_eq_false (by omega)
      have g1b : ¬ b < a := by omega
      go_enter Tryz.func193, Tryz.ntmps193
      go_upto_region 1 with fail
      rw [← hW]
      clear hV
      try clear hW
      go_wp2_with fail
      refine (whole_any x _ (by omega) (by omega)).mono ?_
      rintro e u1 ⟨v1, rfl, hF1, hb1⟩
      replace B3 := B3.below hb1
      replace hbW : Below w.heap.size w u1 := hbW.trans (hb1.mono hbW.size)
      clear hb1
      have hs := B3.lt
      obtain ⟨q1, q2, q3, q4, q5, q6⟩ := B3.cells
      replace hF1 := (hF1.eq (r := infQ a x b y c) (by rw [HE.out])).le (show 2 ≤ 7 by decide)
      obtain ⟨n', xs', ys', ⟨e1, f1, e2, f2, rfl, hx', hy'⟩, hF⟩ := hF1
      go_wp2
      refine ret3 (v := .agg #[.bool n', .slice e1 xs'.length f1, .slice e2 ys'.length f2]) B3 rfl (fun U hU => by obtain ⟨r1, r2, r3, _⟩ := hU.cells; simp [results, Tryz.results193, go_sem, r1, r2, r3]) (fun U hU hK => ⟨_, rfl, ⟨_, _, _, ⟨_, _, _, _, rfl, hK _ _ _ hx', hK _ _ _ hy'⟩, hF⟩, hU _ _ hbW (by omega)⟩)
    · by_cases h2 : b ≤ c
      · have HE : Hid (infQ a x b y c = (y : Rat)) := by
          show _ = _
          unfold infQ segQ
          rw [if_neg (by omega), if_pos hab, if_neg h1, if_pos h2]
        have g0 : decide (a = b) = false := decide_eq_false (by omega)
        have g0b : (a == b) = false := beq_false_of_ne (by omega)
        have g1 : decide (a > b) = false := decide_eq_false (by omega)
        have g1b : ¬ b < a := by omega
        have g2 : ¬ c ≤ a := h1
        go_enter Tryz.func193, Tryz.ntmps193
        go_upto_region 1 with fail
        rw [← hW]
        clear hV
        try clear hW
        go_wp2_with fail
        refine (whole_any y _ (by omega) (by omega)).mono ?_
        rintro e u1 ⟨v1, rfl, hF1, hb1⟩
        replace B3 := B3.below hb1
        replace hbW : Below w.heap.size w u1 := hbW.trans (hb1.mono hbW.size)
        clear hb1
        have hs := B3.lt
        obtain ⟨q1, q2, q3, q4, q5, q6⟩ := B3.cells
        replace hF1 := (hF1.eq (r := infQ a x b y c) (by rw [HE.out])).le (show 2 ≤ 7 by decide)
        obtain ⟨n', xs', ys', ⟨e1, f1, e2, f2, rfl, hx', hy'⟩, hF⟩ := hF1
        go_wp2
        refine ret3 (v := .agg #[.bool n', .slice e1 xs'.length f1, .slice e2 ys'.length f2]) B3 rfl (fun U hU => by obtain ⟨r1, r2, r3, _⟩ := hU.cells; simp [results, Tryz.results193, go_sem, r1, r2, r3]) (fun U hU hK => ⟨_, rfl, ⟨_, _, _, ⟨_, _, _, _, rfl, hK _ _ _ hx', hK _ _ _ hy'⟩, hF⟩, hU _ _ hbW (by omega)⟩)
      · have HE : Hid (infQ a x b y c = btw x y (c - a) (b - a)) := by
          show _ = _
          unfold infQ segQ
          rw [if_neg (by omega), if_pos hab, if_neg h1, if_neg h2]
        have g0 : decide (a = b) = false := decide_eq_false (by omega)
        have g0b : (a == b) = false := beq_false_of_ne (by omega)
        have g1 : decide (a > b) = false := decide_eq_false (by omega)
        have g1b : ¬ b < a := by omega
        have g2 : ¬ c ≤ a := h1
        have g3 : ¬ c ≥ b := by omega
        go_enter Tryz.func193, Tryz.ntmps193
        go_upto_region 1 with fail
        rw [← hW]
        clear hV
        try clear hW
        go_wp2_with fail
        refine (between_any x y (c - a) (b - a) _ (by omega) (by omega) (by omega) (by omega)).mono ?_
        rintro e u1 ⟨v1, rfl, hF1, hb1⟩
        replace B3 := B3.below hb1
        replace hbW : Below w.heap.size w u1 := hbW.trans (hb1.mono hbW.size)
        clear hb1
        have hs := B3.lt
        obtain ⟨q1, q2, q3, q4, q5, q6⟩ := B3.cells
        replace hF1 := (hF1.eq (r := infQ a x b y c) (by rw [HE.out])).le (show 7 ≤ 7 by decide)
        obtain ⟨n', xs', ys', ⟨e1, f1, e2, f2, rfl, hx', hy'⟩, hF⟩ := hF1
        go_wp2
        refine ret3 (v := .agg #[.bool n', .slice e1 xs'.length f1, .slice e2 ys'.length f2]) B3 rfl (fun U hU => by obtain ⟨r1, r2, r3, _⟩ := hU.cells; simp [results, Tryz.results193, go_sem, r1, r2, r3]) (fun U hU hK => ⟨_, rfl, ⟨_, _, _, ⟨_, _, _, _, rfl, hK _ _ _ hx', hK _ _ _ hy'⟩, hF⟩, hU _ _ hbW (by omega)⟩)
  · by_cases hxy : x = y
    · by_cases h1 : c ≤ a
      · have HE : Hid (infQ a x b y c = (x : Rat)) := by
          show _ = _
          unfold infQ
          rw [if_pos hab, if_pos hxy]
        have g0 : (a == b) = true := by rw [hab]; exact beq_self_eq_true b
        have g1b : ¬ b < a := by omega
        have gx : (x != y) = false := by rw [hxy]; simp
        clear hab hxy
        go_enter Tryz.func193, Tryz.ntmps193
        go_upto_region 1 with fail
        rw [← hW]
        clear hV
        try clear hW
        go_wp2_with fail
        refine (whole_any x _ (by omega) (by omega)).mono ?_
        rintro e u1 ⟨v1, rfl, hF1, hb1⟩
        replace B3 := B3.below hb1
        replace hbW : Below w.heap.size w u1 := hbW.trans (hb1.mono hbW.size)
        clear hb1
        have hs := B3.lt
        obtain ⟨q1, q2, q3, q4, q5, q6⟩ := B3.cells
        replace hF1 := (hF1.eq (r := infQ a x b y c) (by rw [HE.out])).le (show 2 ≤ 7 by decide)
        obtain ⟨n', xs', ys', ⟨e1, f1, e2, f2, rfl, hx', hy'⟩, hF⟩ := hF1
        go_wp2
        refine ret3 (v := .agg #[.bool n', .slice e1 xs'.length f1, .slice e2 ys'.length f2]) B3 rfl (fun U hU => by obtain ⟨r1, r2, r3, _⟩ := hU.cells; simp [results, Tryz.results193, go_sem, r1, r2, r3]) (fun U hU hK => ⟨_, rfl, ⟨_, _, _, ⟨_, _, _, _, rfl, hK _ _ _ hx', hK _ _ _ hy'⟩, hF⟩, hU _ _ hbW (by omega)⟩)
      · have HE : Hid (infQ a x b y c = (y : Rat)) := by
          show _ = _
          unfold infQ
          rw [if_pos hab, if_pos hxy, hxy]
        have g0 : (a == b) = true := by rw [hab]; exact beq_self_eq_true b
        have g1b : ¬ b < a := by omega
        have gx : (x != y) = false := by rw [hxy]; simp
        have g2 : ¬ c ≤ a := h1
        have g3 : c ≥ b := by omega
        clear hab hxy
        go_enter Tryz.func193, Tryz.ntmps193
        go_upto_region 1 with fail
        rw [← hW]
        clear hV
        try clear hW
        go_wp2_with fail
        refine (whole_any y _ (by omega) (by omega)).mono ?_
        rintro e u1 ⟨v1, rfl, hF1, hb1⟩
        replace B3 := B3.below hb1
        replace hbW : Below w.heap.size w u1 := hbW.trans (hb1.mono hbW.size)
        clear hb1
        have hs := B3.lt
        obtain ⟨q1, q2, q3, q4, q5, q6⟩ := B3.cells
        replace hF1 := (hF1.eq (r := infQ a x b y c) (by rw [HE.out])).le (show 2 ≤ 7 by decide)
        obtain ⟨n', xs', ys', ⟨e1, f1, e2, f2, rfl, hx', hy'⟩, hF⟩ := hF1
        go_wp2
        refine ret3 (v := .agg #[.bool n', .slice e1 xs'.length f1, .slice e2 ys'.length f2]) B3 rfl (fun U hU => by obtain ⟨r1, r2, r3, _⟩ := hU.cells; simp [results, Tryz.results193, go_sem, r1, r2, r3]) (fun U hU hK => ⟨_, rfl, ⟨_, _, _, ⟨_, _, _, _, rfl, hK _ _ _ hx', hK _ _ _ hy'⟩, hF⟩, hU _ _ hbW (by omega)⟩)
    · have HE : Hid (infQ a x b y c = 0) := by
        show _ = _
        unfold infQ
        rw [if_pos hab, if_neg hxy]
      have g0 : (a == b) = true := by rw [hab]; exact beq_self_eq_true b
      have g1b : ¬ b < a := by omega
      have gx : (x != y) = true := by simp [hxy]
      clear hab
      go_enter Tryz.func193, Tryz.ntmps193
      go_upto_region 1 with fail
      rw [← hW]
      clear hV
      try clear hW
      go_wp2_with fail
      refine (whole_any 0 _ (by omega) (by omega)).mono ?_
      rintro e u1 ⟨v1, rfl, hF1, hb1⟩
      replace B3 := B3.below hb1
      replace hbW : Below w.heap.size w u1 := hbW.trans (hb1.mono hbW.size)
      clear hb1
      have hs := B3.lt
      obtain ⟨q1, q2, q3, q4, q5, q6⟩ := B3.cells
      replace hF1 := (hF1.eq (r := infQ a x b y c) (by rw [HE.out]; rfl)).le (show 2 ≤ 7 by decide)
      obtain ⟨n', xs', ys', ⟨e1, f1, e2, f2, rfl, hx', hy'⟩, hF⟩ := hF1
      go_wp2
      refine ret3 (v := .agg #[.bool n', .slice e1 xs'.length f1, .slice e2 ys'.length f2]) B3 rfl (fun U hU => by obtain ⟨r1, r2, r3, _⟩ := hU.cells; simp [results, Tryz.results193, go_sem, r1, r2, r3]) (fun U hU hK => ⟨_, rfl, ⟨_, _, _, ⟨_, _, _, _, rfl, hK _ _ _ hx', hK _ _ _ hy'⟩, hF⟩, hU _ _ hbW (by omega)⟩)
  · by_cases h1 : c ≤ b
    · have HE : Hid (infQ a x b y c = (y : Rat)) := by
        show _ = _
        unfold infQ segQ
        rw [if_neg (by omega), if_neg (by omega), if_pos h1]
      have g0 : (a == b) = false := beq_false_of_ne (by omega)
      have g1 : b < a := hab
      go_enter Tryz.func193, Tryz.ntmps193
      clear hW X1 X2 B3 hbW p0 p1 p2 p3 z0 z1 z2 z3
      go_upto_region 5 with fail
      rw [← hV]
      clear hV
      obtain ⟨p0, p1, _⟩ := V1.two
      obtain ⟨p2, p3, _⟩ := V2.two
      have B3 := V3
      have hbW := hbV
      try clear hW
      go_wp2_with fail
      refine (whole_any y _ (by omega) (by omega)).mono ?_
      rintro e u1 ⟨v1, rfl, hF1, hb1⟩
      replace B3 := B3.below hb1
      replace hbW : Below w.heap.size w u1 := hbW.trans (hb1.mono hbW.size)
      clear hb1
      have hs := B3.lt
      obtain ⟨q1, q2, q3, q4, q5, q6⟩ := B3.cells
      replace hF1 := (hF1.eq (r := infQ a x b y c) (by rw [HE.out])).le (show 2 ≤ 7 by decide)
      obtain ⟨n', xs', ys', ⟨e1, f1, e2, f2, rfl, hx', hy'⟩, hF⟩ := hF1
      go_wp2
      refine ret3 (v := .agg #[.bool n', .slice e1 xs'.length f1, .slice e2 ys'.length f2]) B3 rfl (fun U hU => by obtain ⟨r1, r2, r3, _⟩ := hU.cells; simp [results, Tryz.results193, go_sem, r1, r2, r3]) (fun U hU hK => ⟨_, rfl, ⟨_, _, _, ⟨_, _, _, _, rfl, hK _ _ _ hx', hK _ _ _ hy'⟩, hF⟩, hU _ _ hbW (by omega)⟩)
    · by_cases h2 : a ≤ c
      · have HE : Hid (infQ a x b y c = (x : Rat)) := by
          show _ = _
          unfold infQ segQ
          rw [if_neg (by omega), if_neg (by omega), if_neg h1, if_pos h2]
        have g0 : (a == b) = false := beq_false_of_ne (by omega)
        have g1 : b < a := hab
        have g2 : ¬ c ≤ b := h1
        go_enter Tryz.func193, Tryz.ntmps193
        clear hW X1 X2 B3 hbW p0 p1 p2 p3 z0 z1 z2 z3
        go_upto_region 5 with fail
        rw [← hV]
        clear hV
        obtain ⟨p0, p1, _⟩ := V1.two
        obtain ⟨p2, p3, _⟩ := V2.two
        have B3 := V3
        have hbW := hbV
        try clear hW
        go_wp2_with fail
        refine (whole_any x _ (by omega) (by omega)).mono ?_
        rintro e u1 ⟨v1, rfl, hF1, hb1⟩
        replace B3 := B3.below hb1
        replace hbW : Below w.heap.size w u1 := hbW.trans (hb1.mono hbW.size)
        clear hb1
        have hs := B3.lt
        obtain ⟨q1, q2, q3, q4, q5, q6⟩ := B3.cells
        replace hF1 := (hF1.eq (r := infQ a x b y c) (by rw [HE.out])).le (show 2 ≤ 7 by decide)
        obtain ⟨n', xs', ys', ⟨e1, f1, e2, f2, rfl, hx', hy'⟩, hF⟩ := hF1
        go_wp2
        refine ret3 (v := .agg #[.bool n', .slice e1 xs'.length f1, .slice e2 ys'.length f2]) B3 rfl (fun U hU => by obtain ⟨r1, r2, r3, _⟩ := hU.cells; simp [results, Tryz.results193, go_sem, r1, r2, r3]) (fun U hU hK => ⟨_, rfl, ⟨_, _, _, ⟨_, _, _, _, rfl, hK _ _ _ hx', hK _ _ _ hy'⟩, hF⟩, hU _ _ hbW (by omega)⟩)
      · have HE : Hid (infQ a x b y c = btw y x (c - b) (a - b)) := by
          show _ = _
          unfold infQ segQ
          rw [if_neg (by omega), if_neg (by omega), if_neg h1, if_neg h2]
        have g0 : (a == b) = false := beq_false_of_ne (by omega)
        have g1 : b < a := hab
        have g2 : ¬ c ≤ b := h1
        have g3 : ¬ c ≥ a := by omega
        go_enter Tryz.func193, Tryz.ntmps193
        clear hW X1 X2 B3 hbW p0 p1 p2 p3 z0 z1 z2 z3
        go_upto_region 5 with fail
        rw [← hV]
        clear hV
        obtain ⟨p0, p1, _⟩ := V1.two
        obtain ⟨p2, p3, _⟩ := V2.two
        have B3 := V3
        have hbW := hbV
        try clear hW
        go_wp2_with fail
        refine (between_any y x (c - b) (a - b) _ (by omega) (by omega) (by omega) (by omega)).mono ?_
        rintro e u1 ⟨v1, rfl, hF1, hb1⟩
        replace B3 := B3.below hb1
        replace hbW : Below w.heap.size w u1 := hbW.trans (hb1.mono hbW.size)
        clear hb1
        have hs := B3.lt
        obtain ⟨q1, q2, q3, q4, q5, q6⟩ := B3.cells
        replace hF1 := (hF1.eq (r := infQ a x b y c) (by rw [HE.out])).le (show 7 ≤ 7 by decide)
        obtain ⟨n', xs', ys', ⟨e1, f1, e2, f2, rfl, hx', hy'⟩, hF⟩ := hF1
        go_wp2
        refine ret3 (v := .agg #[.bool n', .slice e1 xs'.length f1, .slice e2 ys'.length f2]) B3 rfl (fun U hU => by obtain ⟨r1, r2, r3, _⟩ := hU.cells; simp [results, Tryz.results193, go_sem, r1, r2, r3]) (fun U hU hK => ⟨_, rfl, ⟨_, _, _, ⟨_, _, _, _, rfl, hK _ _ _ hx', hK _ _ _ hy'⟩, hF⟩, hU _ _ hbW (by omega)⟩)

end Go.Proofs.YtngmcghmniakeaaGreat

namespace Go.Proofs.YtngmcghmniakeaaGreat
open Go.RowKit Go.Maps
set_option linter.unusedSimpArgs false
set_option linter.unusedVariables false

theorem Ri.cell {w u : World} {b off cap : Nat} {zs : List Int} (h : Ri w (some ⟨b, off, none⟩) cap zs) (hb : Below w.heap.size w u) {k : Nat} (hk : k < zs.length) {z : Int} (hz : zs.getD k 0 = z) : u.cell? ⟨b, off + k, none⟩ = some (.int .i64 z) := by
  obtain ⟨b', off', e, _, d⟩ := h.at hb k hk
  cases e
  rw [d, hz]

set_option maxHeartbeats 2000000 in
set_option maxRecDepth 100000 in
theorem changeAt_any (i : Nat) (a : Option Addr) (ca : Nat) (ns : List Int) (ta : Option Addr) (tc : Nat) (ts : List Bool) (da : Option Addr) (dc : Nat) (cs : List Int) (w : World) (hn : Ri w a ca ns) (ht : Rl w ta tc ts) (hc : Ri w da dc cs) (hF : fitB ns ts cs = true) (hi : i < ns.length) :
    Calls Tryz.prog 174 #[.int .i64 (i : Int), .slice a ns.length ca, .slice ta ts.length tc, .slice da cs.length dc] w fun e w' => ∃ v', e = .returned v' ∧ Fr w' v' 7 (fiQ ns ts cs i) ∧ Below w.heap.size w w' := by
  obtain ⟨⟨l1, l2, l3⟩, f1, f2⟩ := fitB_iff.1 hF
  have hA := fun U (h : Rl U ta tc ts) => nearA_any i ta tc ts U h (by omega) (by omega)
  have hB := fun U (h : Rl U ta tc ts) => nearB_any i ta tc ts U h (by omega) (by omega)
  have HAB := nbAB (t := ts) (i := i) (by omega)
  obtain ⟨n, hnn⟩ : ∃ n, ns.length = n := ⟨_, rfl⟩
  rw [hnn] at l1 l2 l3 hi ⊢
  rw [l1, l2]
  rw [l1] at hA hB HAB
  have HL : Hid (ns.length = n ∧ ts.length = n ∧ cs.length = n) := ⟨hnn, l1, l2⟩
  have HN : Hid (Ri w a ca ns) := hn
  have HT : Hid (Rl w ta tc ts) := ht
  have HC : Hid (Ri w da dc cs) := hc
  have HF1 : Hid (∀ z ∈ ns, -32768 ≤ z ∧ z ≤ 32767) := f1
  have HF2 : Hid (∀ z ∈ cs, -32768 ≤ z ∧ z ≤ 32767) := f2
  clear hn ht hc f1 f2 hnn l1 l2 hF
  obtain ⟨W, hW, B1, hbW⟩ : ∃ W, W = w.alloc (.cells #[.bool false, .slice none 0 0, .slice none 0 0] 69) ∧ Box 69 W w.heap.size (.bool false) (.slice none 0 0) (.slice none 0 0) ∧ Below w.heap.size w W := ⟨_, rfl, Box.new _ _ _ _ _, al1 _⟩
  obtain ⟨tb, tof, eta, htb, dt⟩ := HT.out.at hbW i (by rw [HL.out.2.1]; exact hi)
  obtain ⟨tz, htz⟩ : ∃ z, ts.getD i false = z := ⟨_, rfl⟩
  rw [htz] at dt
  subst eta
  have i0 : (0 : Int) ≤ (i : Int) := by omega
  have i9 : (i : Int) < (n : Int) := by omega
  cases tz with
  | true =>
    obtain ⟨b1, o1, ea1, hb1, d1⟩ := HC.out.at hbW i (by rw [HL.out.2.2]; exact hi)
    have hzb := fd_getD HF2.out i
    have HQ : Hid (fiQ ns ts cs i = ((cs.getD i 0 : Int) : Rat)) := fiQ_own htz
    subst ea1
    clear htz hA hB HAB
    generalize cs.getD i 0 = z at *
    go_enter Tryz.func174, Tryz.ntmps174
    go_upto_region 1 with fail
    rw [← hW]
    clear hW
    go_wp2_with fail
    refine (whole_any z _ (by omega) (by omega)).mono ?_
    rintro e u1 ⟨v1, rfl, hF1, hb2⟩
    replace B1 := B1.below hb2
    replace hbW : Below w.heap.size w u1 := hbW.trans (hb2.mono hbW.size)
    clear hb2 d1 dt
    replace hF1 := (hF1.eq (r := fiQ ns ts cs i) HQ.out.symm).le (show 2 ≤ 7 by decide)
    have hs := B1.lt
    obtain ⟨q1, q2, q3, q4, q5, q6⟩ := B1.cells
    obtain ⟨n', xs', ys', ⟨e1, f1, e2, f2, rfl, hx', hy'⟩, hF⟩ := hF1
    go_wp2
    refine ret3 (v := .agg #[.bool n', .slice e1 xs'.length f1, .slice e2 ys'.length f2]) B1 rfl (fun U hU => by obtain ⟨r1, r2, r3, _⟩ := hU.cells; simp [results, Tryz.results174, go_sem, r1, r2, r3]) (fun U hU hK => ⟨_, rfl, ⟨_, _, _, ⟨_, _, _, _, rfl, hK _ _ _ hx', hK _ _ _ hy'⟩, hF⟩, hU _ _ hbW (by omega)⟩)
  | false =>
    have hA1 := hA W (HT.out.below hbW)
    rcases HAB with ⟨k1, k2, k3⟩ | ⟨p, q, k1, k2, k3, k4, k5, k6, k7, k8⟩
    · have HQ : Hid (fiQ ns ts cs i = 0) := fiQ_nil htz k1
      rw [k1] at hA1
      dsimp only [Option.getD, Option.isSome] at hA1
      have hnn1 : ((n - 1 : Nat) : Int) = (n : Int) - 1 := by omega
      rw [hnn1] at hA1
      clear htz hA hB k1 k2 k3 hnn1
      go_enter Tryz.func174, Tryz.ntmps174
      go_upto_region 1 with fail
      rw [← hW]
      clear hW
      go_wp2_with fail
      refine hA1.mono ?_
      rintro e u0 ⟨rfl, rfl⟩
      clear hA1
      go_wp2_with fail
      refine (whole_any 0 _ (by decide) (by decide)).mono ?_
      rintro e u1 ⟨v1, rfl, hF1, hb2⟩
      replace B1 := B1.below hb2
      replace hbW : Below w.heap.size w u1 := hbW.trans (hb2.mono hbW.size)
      clear hb2 dt
      replace hF1 := (hF1.eq (r := fiQ ns ts cs i) (by rw [HQ.out]; rfl)).le (show 2 ≤ 7 by decide)
      have hs := B1.lt
      obtain ⟨q1, q2, q3, q4, q5, q6⟩ := B1.cells
      obtain ⟨n', xs', ys', ⟨e1, f1, e2, f2, rfl, hx', hy'⟩, hF⟩ := hF1
      go_wp2
      refine ret3 (v := .agg #[.bool n', .slice e1 xs'.length f1, .slice e2 ys'.length f2]) B1 rfl (fun U hU => by obtain ⟨r1, r2, r3, _⟩ := hU.cells; simp [results, Tryz.results174, go_sem, r1, r2, r3]) (fun U hU hK => ⟨_, rfl, ⟨_, _, _, ⟨_, _, _, _, rfl, hK _ _ _ hx', hK _ _ _ hy'⟩, hF⟩, hU _ _ hbW (by omega)⟩)
    · have HQ : Hid (fiQ ns ts cs i = infQ (ns.getD p 0) (cs.getD p 0) (ns.getD q 0) (cs.getD q 0) (ns.getD i 0)) := fiQ_two htz k1 k2
      rw [k1] at hA1
      have hB1 := hB W (HT.out.below hbW)
      rw [k2] at hB1
      dsimp only [Option.getD, Option.isSome] at hA1 hB1
      have hnn1 : ((n - 1 : Nat) : Int) = (n : Int) - 1 := by omega
      rw [hnn1] at hA1
      have hp : p < n := k3
      have hq : q < n := k4
      have bpn := fd_getD HF1.out p
      have bpc := fd_getD HF2.out p
      have bqn := fd_getD HF1.out q
      have bqc := fd_getD HF2.out q
      have bin := fd_getD HF1.out i
      have hi' : i < ns.length := by rw [HL.out.1]; exact hi
      clear htz hA hB k1 k2 k3 k4 k5 k6 k7 k8 hnn1
      obtain ⟨pn, e⟩ : ∃ z, ns.getD p 0 = z := ⟨_, rfl⟩
      have Epn : Hid (ns.getD p 0 = pn) := e
      rw [e] at bpn
      clear e
      obtain ⟨pc, e⟩ : ∃ z, cs.getD p 0 = z := ⟨_, rfl⟩
      have Epc : Hid (cs.getD p 0 = pc) := e
      rw [e] at bpc
      clear e
      obtain ⟨qn, e⟩ : ∃ z, ns.getD q 0 = z := ⟨_, rfl⟩
      have Eqn : Hid (ns.getD q 0 = qn) := e
      rw [e] at bqn
      clear e
      obtain ⟨qc, e⟩ : ∃ z, cs.getD q 0 = z := ⟨_, rfl⟩
      have Eqc : Hid (cs.getD q 0 = qc) := e
      rw [e] at bqc
      clear e
      obtain ⟨iz, e⟩ : ∃ z, ns.getD i 0 = z := ⟨_, rfl⟩
      have Ein : Hid (ns.getD i 0 = iz) := e
      rw [e] at bin
      clear e
      have HQ2 : Hid (fiQ ns ts cs i = infQ pn pc qn qc iz) := by
        show _ = _
        rw [HQ.out, Epn.out, Epc.out, Eqn.out, Eqc.out, Ein.out]
      clear HQ
      go_enter Tryz.func174, Tryz.ntmps174
      go_upto_region 1 with fail
      rw [← hW]
      clear hW
      go_wp2_with fail
      refine hA1.mono ?_
      rintro e u0 ⟨rfl, rfl⟩
      clear hA1
      go_wp2_with fail
      refine hB1.mono ?_
      rintro e u0 ⟨rfl, rfl⟩
      clear hB1 dt
      go_wp2_with fail
      obtain ⟨b0, o0, ea0, hb0, d0⟩ := HN.out.at hbW p (by rw [HL.out.1]; exact hp)
      obtain ⟨b1, o1, ea1, hb1, d1⟩ := HC.out.at hbW p (by rw [HL.out.2.2]; exact hp)
      rw [Epn.out] at d0
      rw [Epc.out] at d1
      subst ea0 ea1
      have i1 : (0 : Int) ≤ (p : Int) := by omega
      have i2 : (p : Int) < (n : Int) := by omega
      refine wp_region_held_drew (S := fun w9 => w9.cell? ⟨b0, o0 + p, none⟩ = some (.int .i64 pn) ∧ w9.cell? ⟨b1, o1 + p, none⟩ = some (.int .i64 pc)) (by kernel_rfl) ?_ (fun hHeld => ?_)
      · (try dsimp only)
        go_keep
      have hdr : Below W.heap.size W W.drew := Below.drew1
      generalize W.drew = Vd at hdr hHeld ⊢
      replace hbW : Below w.heap.size w Vd := hbW.trans (hdr.mono hbW.size)
      replace B1 := B1.below hdr
      have hHeldz := hHeld
      clear hdr d0 d1
      refine hT 0 hHeld ?_
      refine hT 1 hHeld ?_
      refine hT 2 hHeld ?_
      refine hT 3 hHeld ?_
      refine hT 4 hHeld ?_
      refine hT 5 hHeld ?_
      refine hT 6 hHeld ?_
      refine hT 7 hHeld ?_
      refine hT 8 hHeld ?_
      obtain ⟨V, hV, XP, hal⟩ : ∃ V, V = Vd.alloc (.cells #[.int .i64 pn, .int .i64 pc] 224) ∧ Bk 224 V Vd.heap.size [.int .i64 pn, .int .i64 pc] ∧ Below Vd.heap.size Vd V := ⟨_, rfl, Bk.new _ _ _, al1 _⟩
      refine hCall (i := 9) rfl (by kernel_rfl) (by rfl) (fun K hK => ?_)
      go_simp
      refine hK.out _ _ ?_ (fun hHeld => ?_)
      · (try dsimp only)
        exact ⟨((al1 _).cell (p := ⟨b0, o0 + p, none⟩) (Nat.lt_of_lt_of_le hb0 hbW.size)).trans hHeld.1, ((al1 _).cell (p := ⟨b1, o1 + p, none⟩) (Nat.lt_of_lt_of_le hb1 hbW.size)).trans hHeld.2⟩
      clear hK K
      try simp only [Act.put, List.setIfInBounds_toArray, List.set_cons_zero, List.set_cons_succ]
      refine hCall (i := 10) rfl (by kernel_rfl) (by rfl) (fun K hK => ?_)
      go_simp
      rw [← hV]
      clear hV
      refine hK.out _ _ ?_ (fun hHeld2 => ?_)
      · (try dsimp only)
        exact ⟨(hal.cell (p := ⟨b0, o0 + p, none⟩) (Nat.lt_of_lt_of_le hb0 hbW.size)).trans hHeldz.1, (hal.cell (p := ⟨b1, o1 + p, none⟩) (Nat.lt_of_lt_of_le hb1 hbW.size)).trans hHeldz.2⟩
      clear hK K
      try simp only [Act.put, List.setIfInBounds_toArray, List.set_cons_zero, List.set_cons_succ]
      refine wpAnyH_done (by kernel_rfl) ?_ _
      clear hHeld hHeld2 hHeldz
      have hVl : w.heap.size < Vd.heap.size := B1.lt
      replace B1 := B1.below hal
      replace hbW : Below w.heap.size w V := hbW.trans (hal.mono hbW.size)
      clear hal i1 i2
      go_wp2_with fail

      obtain ⟨b0, o0, ea0, hb0, d0⟩ := HN.out.at hbW q (by rw [HL.out.1]; exact hq)
      obtain ⟨b1, o1, ea1, hb1, d1⟩ := HC.out.at hbW q (by rw [HL.out.2.2]; exact hq)
      rw [Eqn.out] at d0
      rw [Eqc.out] at d1
      cases ea0
      cases ea1
      have i1 : (0 : Int) ≤ (q : Int) := by omega
      have i2 : (q : Int) < (n : Int) := by omega
      refine wp_region_held_drew (S := fun w9 => w9.cell? ⟨b0, o0 + q, none⟩ = some (.int .i64 qn) ∧ w9.cell? ⟨b1, o1 + q, none⟩ = some (.int .i64 qc)) (by kernel_rfl) ?_ (fun hHeld => ?_)
      · (try dsimp only)
        go_keep
      have hdr : Below V.heap.size V V.drew := Below.drew1
      generalize V.drew = Ud at hdr hHeld ⊢
      replace hbW : Below w.heap.size w Ud := hbW.trans (hdr.mono hbW.size)
      replace B1 := B1.below hdr
      replace XP := XP.below hdr
      have hHeldz := hHeld
      clear hdr d0 d1
      refine hT 0 hHeld ?_
      refine hT 1 hHeld ?_
      refine hT 2 hHeld ?_
      refine hT 3 hHeld ?_
      refine hT 4 hHeld ?_
      refine hT 5 hHeld ?_
      refine hT 6 hHeld ?_
      refine hT 7 hHeld ?_
      refine hT 8 hHeld ?_
      obtain ⟨U, hU, XQ, hal⟩ : ∃ V, V = Ud.alloc (.cells #[.int .i64 qn, .int .i64 qc] 224) ∧ Bk 224 V Ud.heap.size [.int .i64 qn, .int .i64 qc] ∧ Below Ud.heap.size Ud V := ⟨_, rfl, Bk.new _ _ _, al1 _⟩
      refine hCall (i := 9) rfl (by kernel_rfl) (by rfl) (fun K hK => ?_)
      go_simp
      refine hK.out _ _ ?_ (fun hHeld => ?_)
      · (try dsimp only)
        exact ⟨((al1 _).cell (p := ⟨b0, o0 + q, none⟩) (Nat.lt_of_lt_of_le hb0 hbW.size)).trans hHeld.1, ((al1 _).cell (p := ⟨b1, o1 + q, none⟩) (Nat.lt_of_lt_of_le hb1 hbW.size)).trans hHeld.2⟩
      clear hK K
      try simp only [Act.put, List.setIfInBounds_toArray, List.set_cons_zero, List.set_cons_succ]
      refine hCall (i := 10) rfl (by kernel_rfl) (by rfl) (fun K hK => ?_)
      go_simp
      rw [← hU]
      clear hU
      refine hK.out _ _ ?_ (fun hHeld2 => ?_)
      · (try dsimp only)
        exact ⟨(hal.cell (p := ⟨b0, o0 + q, none⟩) (Nat.lt_of_lt_of_le hb0 hbW.size)).trans hHeldz.1, (hal.cell (p := ⟨b1, o1 + q, none⟩) (Nat.lt_of_lt_of_le hb1 hbW.size)).trans hHeldz.2⟩
      clear hK K
      try simp only [Act.put, List.setIfInBounds_toArray, List.set_cons_zero, List.set_cons_succ]
      refine wpAnyH_done (by kernel_rfl) ?_ _
      clear hHeld hHeld2 hHeldz
      have hUl : w.heap.size < Ud.heap.size := B1.lt
      replace B1 := B1.below hal
      replace XP := XP.below hal
      replace hbW : Below w.heap.size w U := hbW.trans (hal.mono hbW.size)
      clear hal i1 i2
      go_wp2_with fail

      obtain ⟨b0', o0', ea0, hb0', d0⟩ := HN.out.at hbW i (by rw [HL.out.1]; exact hi)
      cases ea0
      rw [Ein.out] at d0
      obtain ⟨x0, x1, _⟩ := XP.two
      obtain ⟨y0, y1, _⟩ := XQ.two
      refine wp_region_held_drew (S := fun w9 => w9.cell? ⟨Vd.heap.size, 0, none⟩ = some (.int .i64 pn) ∧ w9.cell? ⟨Vd.heap.size, 1, none⟩ = some (.int .i64 pc) ∧ w9.cell? ⟨Ud.heap.size, 0, none⟩ = some (.int .i64 qn) ∧ w9.cell? ⟨Ud.heap.size, 1, none⟩ = some (.int .i64 qc) ∧ w9.cell? ⟨b0, o0 + i, none⟩ = some (.int .i64 iz)) (by kernel_rfl) ?_ (fun hHeld => ?_)
      · (try dsimp only)
        go_keep
      have hdr : Below U.heap.size U U.drew := Below.drew1
      generalize U.drew = Z at hdr hHeld ⊢
      replace hbW : Below w.heap.size w Z := hbW.trans (hdr.mono hbW.size)
      replace B1 := B1.below hdr
      replace XP := XP.below hdr
      replace XQ := XQ.below hdr
      clear hdr d0 x0 x1 y0 y1
      refine hT 0 hHeld ?_
      refine hT 1 hHeld ?_
      refine hT 2 hHeld ?_
      refine hT 3 hHeld ?_
      refine hT 4 hHeld ?_
      refine hT 5 hHeld ?_
      refine hCall (i := 6) rfl (by kernel_rfl) (by rfl) (fun K hK => ?_)
      go_simp
      refine (inferred_any pn pc qn qc iz _ bpn bpc bqn bqc bin).mono ?_
      rintro e u1 ⟨v1, rfl, hF1, hb2⟩
      replace B1 := B1.below hb2
      replace XP := XP.below hb2
      replace XQ := XQ.below hb2
      replace hbW : Below w.heap.size w u1 := hbW.trans (hb2.mono hbW.size)
      obtain ⟨x0, x1, _⟩ := XP.two
      obtain ⟨y0, y1, _⟩ := XQ.two
      have d0 := HN.out.cell hbW hi' Ein.out
      go_wp2_with fail
      refine hK.out _ _ ?_ (fun hHeld => ?_)
      · (try dsimp only)
        exact ⟨x0, x1, y0, y1, d0⟩
      clear hK K hb2 x0 x1 y0 y1 d0
      try simp only [Act.put, List.setIfInBounds_toArray, List.set_cons_zero, List.set_cons_succ]
      replace hF1 := hF1.eq (r := fiQ ns ts cs i) HQ2.out.symm
      obtain ⟨n', xs', ys', ⟨e1, f1, e2, f2, rfl, hx', hy'⟩, hF⟩ := hF1
      obtain ⟨q1, q2, q3, q4, q5, q6⟩ := B1.cells
      have hs := B1.lt
      refine hCall (i := 7) rfl (by kernel_rfl) (by rfl) (fun K hK => ?_)
      go_simp
      obtain ⟨U9, hU9, BU, hU1, hU2, hU3⟩ := set3_world B1 (.bool n') (.slice e1 xs'.length f1) (.slice e2 ys'.length f2)
      rw [← hU9]
      clear hU9
      refine hK.out _ _ ?_ (fun hHeld2 => ?_)
      · (try dsimp only)
        refine ⟨(World.cell?_of_block (w := u1) (a := ⟨Vd.heap.size, 0, none⟩) (hU3 Vd.heap.size (by omega))).trans hHeld.1, (World.cell?_of_block (w := u1) (a := ⟨Vd.heap.size, 1, none⟩) (hU3 Vd.heap.size (by omega))).trans hHeld.2.1, (World.cell?_of_block (w := u1) (a := ⟨Ud.heap.size, 0, none⟩) (hU3 Ud.heap.size (by omega))).trans hHeld.2.2.1, (World.cell?_of_block (w := u1) (a := ⟨Ud.heap.size, 1, none⟩) (hU3 Ud.heap.size (by omega))).trans hHeld.2.2.2.1, (World.cell?_of_block (w := u1) (a := ⟨b0, o0 + i, none⟩) (hU3 b0 (by omega))).trans hHeld.2.2.2.2⟩
      clear hK K
      try simp only [Act.put, List.setIfInBounds_toArray, List.set_cons_zero, List.set_cons_succ]
      refine wpAnyH_done (by kernel_rfl) ?_ _
      clear hHeld hHeld2
      go_wp2
      exact bodyPost_ret (v := .agg #[.bool n', .slice e1 xs'.length f1, .slice e2 ys'.length f2]) (by obtain ⟨r1, r2, r3, _⟩ := BU.cells; simp [results, Tryz.results174, go_sem, r1, r2, r3]) rfl ⟨_, rfl, ⟨_, _, _, ⟨_, _, _, _, rfl, hU2 _ _ _ hx', hU2 _ _ _ hy'⟩, hF⟩, hU1 _ _ hbW (by omega)⟩

end Go.Proofs.YtngmcghmniakeaaGreat

namespace Go.Proofs.YtngmcghmniakeaaGreat
open Go.RowKit Go.Maps
set_option linter.unusedSimpArgs false
set_option linter.unusedVariables false

theorem Fr.cells3' {w : World} {v : Value} {k : Nat} {q : Rat} (h : Fr w v k q) : ∃ n a l c a' l' c', v = .agg #[.bool n, .slice a l c, .slice a' l' c'] := by
  obtain ⟨n, xs, ys, ⟨a, c, a', c', rfl, h1, h2⟩, h3⟩ := h
  exact ⟨_, _, _, _, _, _, _, rfl⟩
theorem rg_succ {α : Type} (f : Nat → α) (k : Nat) : (List.range (k + 1)).map f = (List.range k).map f ++ [f k] := by rw [List.range_succ, List.map_append]; rfl

set_option maxHeartbeats 2000000 in
set_option maxRecDepth 100000 in
theorem cfill_any (a : Option Addr) (ca : Nat) (ns : List Int) (ta : Option Addr) (tc : Nat) (ts : List Bool) (da : Option Addr) (dc : Nat) (cs : List Int) (w : World) (hn : Ri w a ca ns) (ht : Rl w ta tc ts) (hc : Ri w da dc cs) :
    Calls Tryz.prog 122 #[.slice a ns.length ca, .slice ta ts.length tc, .slice da cs.length dc] w fun e w' => ∃ a' c', e = .returned (.slice a' (fillQ ns ts cs).length c') ∧ Rf w' a' c' 7 (fillQ ns ts cs) ∧ Below w.heap.size w w' := by
  have b1 := hn.lenB
  have b2 := ht.lenB
  have b3 := hc.lenB
  cases hF : fitB ns ts cs with
  | false =>
    rw [fillQ_no hF]
    by_cases l1 : ts.length = ns.length
    · by_cases l2 : cs.length = ns.length
      · by_cases l3 : ns.length ≤ 80
        · have hf1 := ifields_any a ca ns w hn
          have hf2 := ifields_any da dc cs w hc
          cases hq : ns.all fdB with
          | false =>
            rw [hq] at hf1
            rw [l1, l2] at *
            generalize ns.length = n at *
            clear hF hq hn ht hc l1 l2 hf2
            have g1 : ¬ (n : Int) > 80 := by omega
            go_enter Tryz.func122, Tryz.ntmps122
            go_wp2_with fail
            refine hf1.mono ?_
            rintro e u0 ⟨rfl, rfl⟩
            go_wp2
            go_ret
            exact ⟨none, 0, rfl, Rf.nil _ _, Below.refl _ _⟩
          | true =>
            have hq2 : cs.all fdB = false := by
              cases h9 : cs.all fdB with
              | false => rfl
              | true => rw [fitB, hq, h9, decide_eq_true ⟨l1, l2, l3⟩] at hF; cases hF
            rw [hq] at hf1
            rw [hq2] at hf2
            rw [l1, l2] at *
            generalize ns.length = n at *
            clear hF hq hq2 hn ht hc l1 l2
            have g1 : ¬ (n : Int) > 80 := by omega
            go_enter Tryz.func122, Tryz.ntmps122
            go_wp2_with fail
            refine hf1.mono ?_
            rintro e u0 ⟨rfl, rfl⟩
            go_wp2_with fail
            refine hf2.mono ?_
            rintro e u0 ⟨rfl, rfl⟩
            go_wp2
            go_ret
            exact ⟨none, 0, rfl, Rf.nil _ _, Below.refl _ _⟩
        · rw [l1, l2] at *
          generalize ns.length = n at *
          have g1 : (n : Int) > 80 := by omega
          clear hF hn ht hc l1 l2
          go_enter Tryz.func122, Tryz.ntmps122
          go_wp2
          go_ret
          exact ⟨none, 0, rfl, Rf.nil _ _, Below.refl _ _⟩
      · rw [l1]
        generalize ns.length = n at *
        generalize cs.length = m at *
        have g1 : ¬ ((m : Int) = (n : Int)) := by omega
        clear hF hn ht hc l1
        go_enter Tryz.func122, Tryz.ntmps122
        go_wp2
        go_ret
        exact ⟨none, 0, rfl, Rf.nil _ _, Below.refl _ _⟩
    · generalize ns.length = n at *
      generalize ts.length = m at *
      generalize cs.length = m2 at *
      have g1 : ¬ ((m : Int) = (n : Int)) := by omega
      clear hF hn ht hc
      go_enter Tryz.func122, Tryz.ntmps122
      go_wp2
      go_ret
      exact ⟨none, 0, rfl, Rf.nil _ _, Below.refl _ _⟩
  | true =>
    obtain ⟨⟨l1, l2, l3⟩, f1, f2⟩ := fitB_iff.1 hF
    have hf1 := ifields_any a ca ns w hn
    have hf2 := ifields_any da dc cs w hc
    rw [show ns.all fdB = true from List.all_eq_true.2 (fun z hz => fdB_iff.2 (f1 z hz))] at hf1
    rw [show cs.all fdB = true from List.all_eq_true.2 (fun z hz => fdB_iff.2 (f2 z hz))] at hf2
    have HR : Hid (fillQ ns ts cs = (List.range ns.length).map (fiQ ns ts cs)) := fillQ_yes hF
    have hch := fun U (h1 : Ri U a ca ns) (h2 : Rl U ta tc ts) (h3 : Ri U da dc cs) i hi => changeAt_any i a ca ns ta tc ts da dc cs U h1 h2 h3 hF hi
    have HFL : Hid ((fillQ ns ts cs).length = ns.length) := fillQ_len hF
    rw [HFL.out]
    rw [l1, l2] at *
    obtain ⟨n, hnn⟩ : ∃ n, ns.length = n := ⟨_, rfl⟩
    have HN : Hid (Ri w a ca ns) := hn
    have HT : Hid (Rl w ta tc ts) := ht
    have HC : Hid (Ri w da dc cs) := hc
    rw [hnn] at HR HFL hf1 hf2 hch b1 l3 ⊢
    clear b2 b3
    have HL : Hid (ns.length = n) := hnn
    have HCH : Hid (∀ U, Ri U a ca ns → Rl U ta tc ts → Ri U da dc cs → ∀ i : Nat, i < n → Calls Tryz.prog 174 #[.int .i64 (i : Int), .slice a n ca, .slice ta n tc, .slice da n dc] U fun e w' => ∃ v', e = .returned v' ∧ Fr w' v' 7 (fiQ ns ts cs i) ∧ Below U.heap.size U w') := hch
    clear hF f1 f2 hn ht hc l1 l2 hnn hch
    have g1 : ¬ (n : Int) > 80 := by omega
    obtain ⟨i0, hi0, hz0, hz1, hz2⟩ := info_parts info_rt
    have hmk := run_make (P := Tryz.prog) w 32 69 i0 rtZ Tryz.underlying32 hi0 hz0 .i64 .i64 0 (n : Int) (by omega) (by omega) (by rw [hz2]; omega) (by omega)
    rw [hz1] at hmk
    simp only [Int.toNat_zero, Int.toNat_natCast] at hmk
    obtain ⟨w1, hw1⟩ : ∃ w1, w.alloc (.cells (madeCells rtZ.cells (n * 3)) 69) = w1 := ⟨_, rfl⟩
    have hI0 : Ro 69 w.heap.size w1 (.slice (some ⟨w.heap.size, 0, none⟩) 0 n) 7 ((List.range 0).map (fiQ ns ts cs)) := by
      refine ⟨[], ?_, fun g hg => ?_, fun i hi => by simp at hi⟩
      · rw [← hw1]
        have := World.ownsRow_made (base := w.heap.size) (e := 69) (size := 3) w (madeCells rtZ.cells (n * 3)) n (Nat.le_refl _) (by unfold maxLen; omega) (size_madeCells _ _)
        simpa using this
      · simp [Value.ownBlock] at hg
        subst hg
        rw [← hw1]
        exact NoI.of (heap_alloc_new w _) (rtZ_made _)
    have hB1u : Below w.heap.size w w1 := by rw [← hw1]; exact bl1 _
    rw [hw1] at hmk
    clear hw1 hi0 hz0 hz1 hz2
    go_enter Tryz.func122, Tryz.ntmps122
    go_wp2_with fail
    refine hf1.mono ?_
    rintro e u0 ⟨rfl, rfl⟩
    go_wp2_with fail
    refine hf2.mono ?_
    rintro e u0 ⟨rfl, rfl⟩
    clear hf1 hf2
    go_wp2
    go_loopw [8, 37] (fun v i wr => ∃ k : Nat, k ≤ n ∧ i = .int .i64 k ∧ Ro 69 w.heap.size wr v 7 ((List.range k).map (fiQ ns ts cs)) ∧ Below w.heap.size w wr) (fun _ i _ => n - (intOf i).toNat)
    case atStart => exact ⟨0, Nat.zero_le _, rfl, hI0, hB1u⟩
    case round =>
      obtain ⟨k, hk, rfl, hT, hB⟩ := hrel
      obtain ⟨a2, c2, rfl, hts⟩ := hT.rf
      have hlen : ((List.range k).map (fiQ ns ts cs)).length = k := by simp
      rw [hlen] at hT ⊢
      have HT2 : Hid (Ro 69 w.heap.size wr (.slice a2 k c2) 7 ((List.range k).map (fiQ ns ts cs))) := hT
      have HTS : Hid (Rf wr a2 c2 7 ((List.range k).map (fiQ ns ts cs))) := hts
      clear hT hts hmk hI0 hB1u
      have hsz := hB.size
      by_cases hkn : k < n
      · have hc1 := HCH.out wr (HN.out.below hB) (HT.out.below hB) (HC.out.below hB) k hkn
        have HS : Hid (_) := rg_succ (fiQ ns ts cs) k
        go_wp2_with fail
        refine hc1.mono ?_
        rintro e u1 ⟨v1, rfl, hF1, hb1⟩
        obtain ⟨z1, x1, x2, x3, x4, x5, x6, rfl⟩ := hF1.cells3'
        obtain ⟨V, hV, B4, hb4⟩ : ∃ V, V = u1.alloc (.cells #[.bool z1, .slice x1 x2 x3, .slice x4 x5 x6] 69) ∧ Box 69 V u1.heap.size (.bool z1) (.slice x1 x2 x3) (.slice x4 x5 x6) ∧ Below u1.heap.size u1 V := ⟨_, rfl, Box.new _ _ _ _ _, bl1 _⟩
        have hbv : Below wr.heap.size wr V := hb1.trans (hb4.mono hb1.size)
        obtain ⟨r0, r1, r2, _⟩ := B4.cells
        have hone := Rz.one B4.lt r0 r1 r2 (hF1.below hb4)
        have hown := HT2.out.below hbv
        have hll : ((List.range k).map (fiQ ns ts cs)).length + [fiQ ns ts cs k].length ≤ 1000000 := by rw [hlen]; simp; omega
        have hbs : w.heap.size ≤ V.heap.size := Nat.le_trans hsz hbv.size
        have hBV : Below w.heap.size w V := hB.trans (hbv.mono hsz)
        have hloV : ∀ g, (Value.slice a2 k c2).ownBlock = some g → w.heap.size ≤ g := fun g hg => (HT2.out.lo hg).1
        clear hc1 hF1 hb1 hb4 hbv B4 r0 r1 r2
        go_wp2_with (at_builtin; rw [← hV]; refine wpList_append_rts 32 69 Tryz.underlying32 info_rt rfl _ _ rfl w.heap.size (.slice a2 k c2) 7 _ _ rfl hown _ 1 1 rfl rfl hone (fun e => by cases e) (fun ad e => by cases e; exact ⟨_, _, rfl⟩) hll hbs ?_)
        intro v9 w9 hT9 hgrow _
        rw [← hV] at hgrow
        have hB9 : Below w.heap.size w w9 := hBV.grown hgrow hbs hloV
        rw [← HS.out] at hT9
        clear hgrow hbs hll HS hone hown hV
        go_wp2
        go_roundw
        case rel => exact ⟨k + 1, by omega, by go_num, hT9, hB9⟩
        case measure => simp [intOf]; omega
      · obtain rfl : k = n := by omega
        have g4 : ¬ (k : Int) < (k : Int) := by omega
        go_wp2
        go_ret
        exact ⟨a2, c2, rfl, by rw [HR.out]; exact HTS.out, hB⟩

end Go.Proofs.YtngmcghmniakeaaGreat
