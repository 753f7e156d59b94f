/-
  foundryref02.Floor, Round, Text: the walks.
  foundryref03.Coordinate: the walk.
  foundryref03.Coordinate, Of14, Of16, Clamp, Field, To14, near, Between: the walks.
  foundryref13.near, foundryref13.one: the walks.
  foundryref10.Field: the walk.
-/
import Derived.Test.YthoildjecoppgaaGreatDoorZ22
import Derived.Deep.RegionHeld3
import Derived.Test.YthoildjecoppgaaGreatDoorZ9
import Derived.Test.YthoildjecoppgaaGreatDoorZ10
import Derived.Test.YthoildjecoppgaaGreatDoorZ17
namespace Go.Proofs.YthoildjecoppgaaGreatDoor
open Go.RowKit
set_option linter.unusedSimpArgs false
set_option linter.unusedVariables false

theorem back_two {m : Nat} (h : m ≤ 9223372036854775808) : wrap64 (-(wrap64 (m : Int))) = -(m : Int) := by
  by_cases h9 : m = 9223372036854775808
  · subst h9; decide +kernel
  · rw [back_pos (by omega)]
    unfold wrap64
    omega

end Go.Proofs.YthoildjecoppgaaGreatDoor

namespace Go.Proofs.YthoildjecoppgaaGreatDoor
open Go.RowKit Classical
set_option linter.unusedSimpArgs false
set_option linter.unusedVariables false
end Go.Proofs.YthoildjecoppgaaGreatDoor

namespace Go.Proofs.YthoildjecoppgaaGreatDoor
open Go.RowKit Classical
set_option linter.unusedSimpArgs false
set_option linter.unusedVariables false

set_option maxHeartbeats 400000 in
set_option maxRecDepth 100000 in
theorem snear_any (z : Int) (w : World) : Calls Tryz.prog 61 #[.int .i64 z] w fun e w' => e = .returned (.bool (nr z)) ∧ w = w' := by
  by_cases h1 : -1099511627776 ≤ z
  · go_enter Tryz.func61, Tryz.ntmps61
    go_wp2
    go_ret
    exact ⟨ret_bool (by simp [nr, h1]), rfl⟩
  · go_enter Tryz.func61, Tryz.ntmps61
    go_wp2
    go_ret
    exact ⟨ret_bool (by simp [nr]; omega), rfl⟩

theorem sgn_ge {q : Rat} : 0 ≤ sgnQ q ↔ 0 ≤ q := by
  unfold sgnQ
  split
  · simp; grind
  · split
    · simp; grind
    · simp; grind
theorem sgn_le {q : Rat} : sgnQ q ≤ 0 ↔ q ≤ 0 := by
  unfold sgnQ
  split
  · simp; grind
  · split
    · simp; grind
    · simp; grind

theorem to14_one {q : Rat} (h : 1 ≤ q) : to14 q = 16384 := by
  have f2 := Rat.lt_floor (x := q * 16384 + 1 / 2)
  unfold to14
  generalize (q * 16384 + 1 / 2).floor = z at f2
  have : ((16383 : Int) : Rat) < ((z : Int) : Rat) := by grind
  have := Rat.intCast_lt_intCast.1 this
  unfold c14
  rw [if_neg (by omega)]
  split <;> omega
theorem to14_mone {q : Rat} (h : q ≤ -1) : to14 q = -16384 := by
  have f1 := Rat.floor_le (q * 16384 + 1 / 2)
  unfold to14
  generalize (q * 16384 + 1 / 2).floor = z at f1
  have : ((z : Int) : Rat) < ((-16383 : Int) : Rat) := by grind
  have := Rat.intCast_lt_intCast.1 this
  unfold c14
  split
  · rfl
  · rw [if_neg (by omega)]; omega
theorem to14_mid {q : Rat} (h1 : -1 < q) (h2 : q < 1) : flN (q * 16384 + 1 / 2).floor = to14 q := by
  have f1 := Rat.floor_le (q * 16384 + 1 / 2)
  have f2 := Rat.lt_floor (x := q * 16384 + 1 / 2)
  unfold to14
  generalize (q * 16384 + 1 / 2).floor = z at f1 f2
  have g1 : ((-16385 : Int) : Rat) < ((z : Int) : Rat) := by grind
  have g2 : ((z : Int) : Rat) < ((16385 : Int) : Rat) := by grind
  have := Rat.intCast_lt_intCast.1 g1
  have := Rat.intCast_lt_intCast.1 g2
  unfold c14 flN flB
  rw [if_pos (by simp; omega), if_neg (by omega), if_neg (by omega)]

set_option maxHeartbeats 2000000 in
set_option maxRecDepth 100000 in
theorem sbetween_any (a b n d : Int) (w : World) (ha : -9223372036854775808 ≤ a ∧ a < 9223372036854775808) (hb : -9223372036854775808 ≤ b ∧ b < 9223372036854775808) (hn : -9223372036854775808 ≤ n ∧ n < 9223372036854775808) (hd : -9223372036854775808 ≤ d ∧ d < 9223372036854775808) :
    Calls Tryz.prog 44 #[.int .i64 a, .int .i64 b, .int .i64 n, .int .i64 d] w fun e w' => ∃ v', e = .returned v' ∧ Fr w' v' 7 (btw a b n d) ∧ Below w.heap.size w w' := by
  have zero : nr4 a b n d = false → ∀ u : World, Box 55 u w.heap.size (.bool false) (.slice none 0 0) (.slice none 0 0) → Below w.heap.size w u →
      Calls Tryz.prog 21 #[] u fun e w' => ∃ n' xs' ys' b1 d1 b2 d2, e = .returned (.agg #[.bool n', .slice b1 (List.length xs') d1, .slice b2 (List.length ys') d2]) ∧ Rd w' b1 d1 xs' ∧ Rd w' b2 d2 ys' ∧ (Fmd n' xs' ys' ∧ xs'.length ≤ 7 ∧ ys'.length ≤ 7 ∧ qv n' xs' ys' = btw a b n d) ∧ Box 55 w' w.heap.size (.bool false) (.slice none 0 0) (.slice none 0 0) ∧ Below w.heap.size w w' := by
    intro h4 u B1 hbW
    refine (szero_any u).mono ?_
    rintro e u1 ⟨v1, rfl, hF1, hb1⟩
    replace hF1 := (hF1.eq (r := btw a b n d) (by unfold btw; rw [h4]; rfl)).le (show 2 ≤ 7 by decide)
    obtain ⟨n', xs', ys', ⟨b, d, b', d', rfl, hx', hy'⟩, hF⟩ := hF1
    exact ⟨n', xs', ys', b, d, b', d', rfl, hx', hy', hF, B1.below hb1, hbW.trans (hb1.mono hbW.size)⟩
  obtain ⟨za, hza⟩ : ∃ z, nr a = z := ⟨_, rfl⟩
  obtain ⟨zb, hzb⟩ : ∃ z, nr b = z := ⟨_, rfl⟩
  obtain ⟨zn, hzn⟩ : ∃ z, nr n = z := ⟨_, rfl⟩
  obtain ⟨zd, hzd⟩ : ∃ z, nr d = z := ⟨_, rfl⟩
  have h4 : nr4 a b n d = (za && (zb && (zn && zd))) := by simp [nr4, hza, hzb, hzn, hzd]
  have N1 : Hid (nr a = za ∧ nr b = zb ∧ nr n = zn ∧ nr d = zd) := ⟨hza, hzb, hzn, hzd⟩
  have HZ : Hid (nr4 a b n d = false → ∀ u : World, Box 55 u w.heap.size (.bool false) (.slice none 0 0) (.slice none 0 0) → Below w.heap.size w u →
      Calls Tryz.prog 21 #[] u fun e w' => ∃ n' xs' ys' b1 d1 b2 d2, e = .returned (.agg #[.bool n', .slice b1 (List.length xs') d1, .slice b2 (List.length ys') d2]) ∧ Rd w' b1 d1 xs' ∧ Rd w' b2 d2 ys' ∧ (Fmd n' xs' ys' ∧ xs'.length ≤ 7 ∧ ys'.length ≤ 7 ∧ qv n' xs' ys' = btw a b n d) ∧ Box 55 w' w.heap.size (.bool false) (.slice none 0 0) (.slice none 0 0) ∧ Below w.heap.size w w') := zero
  clear zero hza hzb hzn hzd
  have H4 : Hid (nr4 a b n d = (za && (zb && (zn && zd)))) := h4
  clear h4
  by_cases hall : (za && (zb && (zn && zd))) = true
  · have h4 : nr4 a b n d = true := by rw [H4.out, hall]
    obtain ⟨ra, rb, rn, rd⟩ := nr4_all h4
    have HB : Hid (btw a b n d = (a : Rat) + ((b - a : Int) : Rat) * ((n : Rat) / (d : Rat))) := by
      show btw a b n d = _
      unfold btw
      rw [if_pos h4]
    obtain ⟨rfl, rfl, rfl, rfl⟩ : za = true ∧ zb = true ∧ zn = true ∧ zd = true := by simpa using hall
    clear h4 hall H4 HZ
    go_enter Tryz.func44, Tryz.ntmps44
    go_wp2_with fail
    refine (snear_any a _).mono ?_
    rintro e u ⟨rfl, rfl⟩
    rw [N1.out.1]
    go_wp2_with fail
    refine (snear_any b _).mono ?_
    rintro e u ⟨rfl, rfl⟩
    rw [N1.out.2.1]
    go_wp2_with fail
    refine (snear_any n _).mono ?_
    rintro e u ⟨rfl, rfl⟩
    rw [N1.out.2.2.1]
    go_wp2_with fail
    refine (snear_any d _).mono ?_
    rintro e u ⟨rfl, rfl⟩
    rw [N1.out.2.2.2]
    obtain ⟨W, hW, B1, hbW⟩ : ∃ W, W = w.alloc (.cells #[.bool false, .slice none 0 0, .slice none 0 0] 55) ∧ Box 55 W w.heap.size (.bool false) (.slice none 0 0) (.slice none 0 0) ∧ Below w.heap.size w W := ⟨_, rfl, Box.new _ _ _ _ _, al1 _⟩
    rw [← hW]
    clear hW
    go_wp2_with fail
    refine (swhole_any (b - a) _ (by omega) (by omega)).mono ?_
    rintro e u1 ⟨v1, rfl, hF1, hb1⟩
    replace B1 := B1.below hb1
    replace hbW : Below w.heap.size w u1 := hbW.trans (hb1.mono hbW.size)
    clear hb1
    go_wp2_with fail
    refine (smake_any n d _ (by omega) (by omega) (by omega) (by omega)).mono ?_
    rintro e u2 ⟨v2, rfl, hF2, hb2⟩
    replace B1 := B1.below hb2
    replace hF1 := hF1.below hb2
    replace hbW : Below w.heap.size w u2 := hbW.trans (hb2.mono hbW.size)
    clear hb2
    go_wp2_with fail
    refine (smul_any 2 2 _ _ _ _ _ hF1.ct hF2.ct (by decide) (by decide) (by decide) (by decide)).mono ?_
    rintro e u3 ⟨v3, rfl, hF3, hb3⟩
    replace B1 := B1.below hb3
    replace hbW : Below w.heap.size w u3 := hbW.trans (hb3.mono hbW.size)
    clear hb3 hF1 hF2
    have hX := hF3.ct
    obtain ⟨n3, x3, y3, ⟨a3, c3, b3, d3, rfl, _, _⟩, _⟩ := hF3
    have hs := B1.lt
    go_wp2_with fail
    obtain ⟨W2, hW2, B2, hb3⟩ : ∃ W2, W2 = u3.alloc (.cells #[.bool n3, .slice a3 x3.length c3, .slice b3 y3.length d3] 55) ∧ Box 55 W2 u3.heap.size (.bool n3) (.slice a3 x3.length c3) (.slice b3 y3.length d3) ∧ Below u3.heap.size u3 W2 := ⟨_, rfl, Box.new _ _ _ _ _, al1 _⟩
    rw [← hW2]
    clear hW2
    replace B1 := B1.below hb3
    replace hX := hX.below hb3
    replace hbW : Below w.heap.size w W2 := hbW.trans (hb3.mono hbW.size)
    clear hb3
    have hne : u3.heap.size ≠ w.heap.size := by omega
    clear hs
    generalize u3.heap.size = g at B2 hne ⊢
    obtain ⟨p1, p2, p3, _⟩ := B2.cells
    go_region_held3 (fun u => u.cell? ⟨g, 0, none⟩ = some (.bool n3) ∧ u.cell? ⟨g, 1, none⟩ = some (.slice a3 x3.length c3) ∧ u.cell? ⟨g, 2, none⟩ = some (.slice b3 y3.length d3)) (first | (go_keep; done) | (refine ⟨(cell_set3 hne).trans p1, (cell_set3 hne).trans p2, (cell_set3 hne).trans p3⟩))
      (first
        | (go_at_call 22
           refine (swhole_any a _ ?_ ?_).mono ?_
           · omega
           · omega
           rintro e u4 ⟨v4, rfl, hF4, hb4⟩
           replace hb4 : Below W2.heap.size W2 u4 := Below.drew1.trans hb4
           replace hX := hX.below hb4
           replace B1 := B1.below hb4
           replace B2 := B2.below hb4
           replace hbW : Below w.heap.size w u4 := hbW.trans (hb4.mono hbW.size)
           clear hb4 p1 p2 p3
           obtain ⟨p1, p2, p3, _⟩ := B2.cells)
        | (go_at_call 64
           refine (sadd_any 2 4 _ _ _ _ _ hF4.ct hX (by decide) (by decide) (by decide) (by decide)).mono ?_
           rintro e u5 ⟨v5, rfl, hF5, hb5⟩
           replace B1 := B1.below hb5
           replace B2 := B2.below hb5
           replace hbW : Below w.heap.size w u5 := hbW.trans (hb5.mono hbW.size)
           replace hF5 := hF5.eq HB.out.symm
           clear hb5 hF4 hX p1 p2 p3
           obtain ⟨p1, p2, p3, _⟩ := B2.cells
           obtain ⟨q1, q2, q3, q4, q5, q6⟩ := B1.cells
           have hs := B1.lt
           obtain ⟨n', xs', ys', ⟨e1, f1, e2, f2, rfl, hx', hy'⟩, hF⟩ := hF5))
    go_wp2
    refine ret3 (v := .agg #[.bool n', .slice e1 xs'.length f1, .slice e2 ys'.length f2]) B1 rfl (fun U hU => by obtain ⟨r1, r2, r3, _⟩ := hU.cells; simp [results, Tryz.results44, go_sem, r1, r2, r3]) (fun U hU hK => ⟨_, rfl, ⟨_, _, _, ⟨_, _, _, _, rfl, hK _ _ _ hx', hK _ _ _ hy'⟩, hF⟩, hU _ _ hbW (by omega)⟩)
  · have h4 : nr4 a b n d = false := by rw [H4.out]; simpa using hall
    replace HZ : Hid (∀ u : World, Box 55 u w.heap.size (.bool false) (.slice none 0 0) (.slice none 0 0) → Below w.heap.size w u →
      Calls Tryz.prog 21 #[] u fun e w' => ∃ n' xs' ys' b1 d1 b2 d2, e = .returned (.agg #[.bool n', .slice b1 (List.length xs') d1, .slice b2 (List.length ys') d2]) ∧ Rd w' b1 d1 xs' ∧ Rd w' b2 d2 ys' ∧ (Fmd n' xs' ys' ∧ xs'.length ≤ 7 ∧ ys'.length ≤ 7 ∧ qv n' xs' ys' = btw a b n d) ∧ Box 55 w' w.heap.size (.bool false) (.slice none 0 0) (.slice none 0 0) ∧ Below w.heap.size w w') := HZ.out h4
    have hc : za = false ∨ (za = true ∧ zb = false) ∨ (za = true ∧ zb = true ∧ zn = false) ∨ (za = true ∧ zb = true ∧ zn = true ∧ zd = false) := by
      cases za <;> cases zb <;> cases zn <;> cases zd <;> simp_all
    clear h4 hall H4
    rcases hc with rfl | ⟨rfl, rfl⟩ | ⟨rfl, rfl, rfl⟩ | ⟨rfl, rfl, rfl, rfl⟩
    · go_enter Tryz.func44, Tryz.ntmps44
      obtain ⟨W, hW, B1, hbW⟩ : ∃ W, W = w.alloc (.cells #[.bool false, .slice none 0 0, .slice none 0 0] 55) ∧ Box 55 W w.heap.size (.bool false) (.slice none 0 0) (.slice none 0 0) ∧ Below w.heap.size w W := ⟨_, rfl, Box.new _ _ _ _ _, al1 _⟩
      go_wp2_with fail
      refine (snear_any a _).mono ?_
      rintro e u ⟨rfl, rfl⟩
      rw [N1.out.1]
      rw [← hW]
      clear hW
      go_wp2_with fail
      refine (HZ.out _ B1 hbW).mono ?_
      clear B1 hbW
      rintro e u1 ⟨n', xs', ys', b1, d1, b2, d2, rfl, hx', hy', hF, B1, hbW⟩
      have hs := B1.lt
      obtain ⟨q1, q2, q3, q4, q5, q6⟩ := B1.cells
      go_wp2
      refine ret3 (v := .agg #[.bool n', .slice b1 xs'.length d1, .slice b2 ys'.length d2]) B1 rfl (fun U hU => by obtain ⟨r1, r2, r3, _⟩ := hU.cells; simp [results, Tryz.results44, go_sem, r1, r2, r3]) (fun U hU hK => ⟨_, rfl, ⟨_, _, _, ⟨_, _, _, _, rfl, hK _ _ _ hx', hK _ _ _ hy'⟩, hF⟩, hU _ _ hbW (by omega)⟩)
    · go_enter Tryz.func44, Tryz.ntmps44
      obtain ⟨W, hW, B1, hbW⟩ : ∃ W, W = w.alloc (.cells #[.bool false, .slice none 0 0, .slice none 0 0] 55) ∧ Box 55 W w.heap.size (.bool false) (.slice none 0 0) (.slice none 0 0) ∧ Below w.heap.size w W := ⟨_, rfl, Box.new _ _ _ _ _, al1 _⟩
      go_wp2_with fail
      refine (snear_any a _).mono ?_
      rintro e u ⟨rfl, rfl⟩
      rw [N1.out.1]
      go_wp2_with fail
      refine (snear_any b _).mono ?_
      rintro e u ⟨rfl, rfl⟩
      rw [N1.out.2.1]
      rw [← hW]
      clear hW
      go_wp2_with fail
      refine (HZ.out _ B1 hbW).mono ?_
      clear B1 hbW
      rintro e u1 ⟨n', xs', ys', b1, d1, b2, d2, rfl, hx', hy', hF, B1, hbW⟩
      have hs := B1.lt
      obtain ⟨q1, q2, q3, q4, q5, q6⟩ := B1.cells
      go_wp2
      refine ret3 (v := .agg #[.bool n', .slice b1 xs'.length d1, .slice b2 ys'.length d2]) B1 rfl (fun U hU => by obtain ⟨r1, r2, r3, _⟩ := hU.cells; simp [results, Tryz.results44, go_sem, r1, r2, r3]) (fun U hU hK => ⟨_, rfl, ⟨_, _, _, ⟨_, _, _, _, rfl, hK _ _ _ hx', hK _ _ _ hy'⟩, hF⟩, hU _ _ hbW (by omega)⟩)
    · go_enter Tryz.func44, Tryz.ntmps44
      obtain ⟨W, hW, B1, hbW⟩ : ∃ W, W = w.alloc (.cells #[.bool false, .slice none 0 0, .slice none 0 0] 55) ∧ Box 55 W w.heap.size (.bool false) (.slice none 0 0) (.slice none 0 0) ∧ Below w.heap.size w W := ⟨_, rfl, Box.new _ _ _ _ _, al1 _⟩
      go_wp2_with fail
      refine (snear_any a _).mono ?_
      rintro e u ⟨rfl, rfl⟩
      rw [N1.out.1]
      go_wp2_with fail
      refine (snear_any b _).mono ?_
      rintro e u ⟨rfl, rfl⟩
      rw [N1.out.2.1]
      go_wp2_with fail
      refine (snear_any n _).mono ?_
      rintro e u ⟨rfl, rfl⟩
      rw [N1.out.2.2.1]
      rw [← hW]
      clear hW
      go_wp2_with fail
      refine (HZ.out _ B1 hbW).mono ?_
      clear B1 hbW
      rintro e u1 ⟨n', xs', ys', b1, d1, b2, d2, rfl, hx', hy', hF, B1, hbW⟩
      have hs := B1.lt
      obtain ⟨q1, q2, q3, q4, q5, q6⟩ := B1.cells
      go_wp2
      refine ret3 (v := .agg #[.bool n', .slice b1 xs'.length d1, .slice b2 ys'.length d2]) B1 rfl (fun U hU => by obtain ⟨r1, r2, r3, _⟩ := hU.cells; simp [results, Tryz.results44, go_sem, r1, r2, r3]) (fun U hU hK => ⟨_, rfl, ⟨_, _, _, ⟨_, _, _, _, rfl, hK _ _ _ hx', hK _ _ _ hy'⟩, hF⟩, hU _ _ hbW (by omega)⟩)
    · go_enter Tryz.func44, Tryz.ntmps44
      obtain ⟨W, hW, B1, hbW⟩ : ∃ W, W = w.alloc (.cells #[.bool false, .slice none 0 0, .slice none 0 0] 55) ∧ Box 55 W w.heap.size (.bool false) (.slice none 0 0) (.slice none 0 0) ∧ Below w.heap.size w W := ⟨_, rfl, Box.new _ _ _ _ _, al1 _⟩
      go_wp2_with fail
      refine (snear_any a _).mono ?_
      rintro e u ⟨rfl, rfl⟩
      rw [N1.out.1]
      go_wp2_with fail
      refine (snear_any b _).mono ?_
      rintro e u ⟨rfl, rfl⟩
      rw [N1.out.2.1]
      go_wp2_with fail
      refine (snear_any n _).mono ?_
      rintro e u ⟨rfl, rfl⟩
      rw [N1.out.2.2.1]
      go_wp2_with fail
      refine (snear_any d _).mono ?_
      rintro e u ⟨rfl, rfl⟩
      rw [N1.out.2.2.2]
      rw [← hW]
      clear hW
      go_wp2_with fail
      refine (HZ.out _ B1 hbW).mono ?_
      clear B1 hbW
      rintro e u1 ⟨n', xs', ys', b1, d1, b2, d2, rfl, hx', hy', hF, B1, hbW⟩
      have hs := B1.lt
      obtain ⟨q1, q2, q3, q4, q5, q6⟩ := B1.cells
      go_wp2
      refine ret3 (v := .agg #[.bool n', .slice b1 xs'.length d1, .slice b2 ys'.length d2]) B1 rfl (fun U hU => by obtain ⟨r1, r2, r3, _⟩ := hU.cells; simp [results, Tryz.results44, go_sem, r1, r2, r3]) (fun U hU hK => ⟨_, rfl, ⟨_, _, _, ⟨_, _, _, _, rfl, hK _ _ _ hx', hK _ _ _ hy'⟩, hF⟩, hU _ _ hbW (by omega)⟩)

end Go.Proofs.YthoildjecoppgaaGreatDoor

namespace Go.Proofs.YthoildjecoppgaaGreatDoor
open Go.RowKit Go.Maps
set_option linter.unusedSimpArgs false
set_option linter.unusedVariables false

set_option maxHeartbeats 1000000 in
set_option maxRecDepth 100000 in
theorem snearW_any (f r : Nat → Nat) (s : Int) (i : Nat) (a : Option Addr) (cap : Nat) (ts : List Bool) (w : World) (h : Rl w a cap ts) (hi : i < ts.length) (hl : ts.length ≤ 1000000) (hs : -1 ≤ s ∧ s ≤ 1)
    (f0 : Int.tmod ((i : Int) + s + (ts.length : Int)) (ts.length : Int) = (f 0 : Int)) (f1 : ∀ k, k + 1 < ts.length → Int.tmod ((f k : Int) + s + (ts.length : Int)) (ts.length : Int) = (f (k + 1) : Int)) (f2 : ∀ k, k < ts.length → f k < ts.length) (f3 : ∀ k, k < ts.length - 1 → f k ≠ i) (f4 : f (ts.length - 1) = i) (f5 : ∀ k, k < ts.length → r (f k) = k) :
    Calls Tryz.prog 23 #[.slice a ts.length cap, .int .i64 (i : Int), .int .i64 s] w fun e w' => e = .returned (.int .i64 (((nbT ts f (ts.length - 1)).getD i : Nat) : Int)) ∧ w = w' := by
  have HF1 : Hid (∀ k, k + 1 < ts.length → Int.tmod ((f k : Int) + s + (ts.length : Int)) (ts.length : Int) = (f (k + 1) : Int)) := f1
  have HF2 : Hid (∀ k, k < ts.length → f k < ts.length) := f2
  have HF3 : Hid (∀ k, k < ts.length - 1 → f k ≠ i) := f3
  have HF4 : Hid (f (ts.length - 1) = i) := f4
  have HF5 : Hid (∀ k, k < ts.length → r (f k) = k) := f5
  have HH : Hid (Rl w a cap ts) := h
  obtain ⟨n, hn⟩ : ∃ n, ts.length = n := ⟨_, rfl⟩
  have HN : Hid (ts.length = n) := hn
  rw [hn] at hi hl f0 ⊢
  have q0 := f0
  have hf0 : f 0 < n := by have := f2 0 (by omega); omega
  have g0 : ¬ ((n : Int) = 0) := by omega
  clear hn h f0 f1 f2 f3 f4
  go_enter Tryz.func23, Tryz.ntmps23
  go_wp2
  go_loopw [8] (fun v wr => ∃ k : Nat, k < n ∧ v = .int .i64 ((f k : Nat) : Int) ∧ (∀ j, j < k → ts.getD (f j) false = false) ∧ w = wr) (fun v _ => n - r (intOf v).toNat)
  case atStart => exact ⟨0, by omega, rfl, (fun j hj => by omega), rfl⟩
  case round =>
    obtain ⟨k, hk, rfl, hok, rfl⟩ := hrel
    have HOK : Hid (∀ j, j < k → ts.getD (f j) false = false) := hok
    have hfk : f k < n := by have := HF2.out k (by rw [HN.out]; exact hk); rw [HN.out] at this; exact this
    clear hok q0 hf0
    by_cases hkn : k < n - 1
    · have hne : f k ≠ i := HF3.out k (by rw [HN.out]; exact hkn)
      obtain ⟨b, off, ea, hb, d0⟩ := HH.out.at (Below.refl _ _) (f k) (by rw [HN.out]; exact hfk)
      subst ea
      obtain ⟨z, hzz⟩ : ∃ z, ts.getD (f k) false = z := ⟨_, rfl⟩
      rw [hzz] at d0
      have hnx := HF1.out k (by rw [HN.out]; omega)
      have hf1 : f (k + 1) < n := by have := HF2.out (k + 1) (by rw [HN.out]; omega); rw [HN.out] at this; exact this
      have hr0 : r (f k) = k := HF5.out k (by rw [HN.out]; omega)
      have hr1 : r (f (k + 1)) = k + 1 := HF5.out (k + 1) (by rw [HN.out]; omega)
      have HR : Hid (r (f k) = k ∧ r (f (k + 1)) = k + 1) := ⟨hr0, hr1⟩
      rw [HN.out] at hnx
      have q1 := hnx
      have HFK : Hid (k + 1 < n) := by show _ < _; omega
      cases z with
      | true =>
        have HRES : Hid (nbT ts f (n - 1) = some (f k)) := nbT_some hkn HOK.out hzz
        clear HOK hzz hnx hr0 hr1 HR
        generalize f k = x at *
        have g1 : ¬ ((x : Int) = (i : Int)) := by omega
        have i1 : (0 : Int) ≤ (x : Int) := by omega
        have i2 : (x : Int) < (n : Int) := by omega
        go_wp2
        go_ret
        exact ⟨by rw [HRES.out]; rfl, rfl⟩
      | false =>
        have HOK2 : Hid (∀ j, j < k + 1 → ts.getD (f j) false = false) := upto_succ HOK.out hzz
        clear HOK hzz hnx hr0 hr1
        obtain ⟨x, hx⟩ : ∃ x, f k = x := ⟨_, rfl⟩
        obtain ⟨y, hy⟩ : ∃ y, f (k + 1) = y := ⟨_, rfl⟩
        have HX : Hid (f k = x) := hx
        have HY : Hid (f (k + 1) = y) := hy
        rw [hx] at hfk hne d0 q1 ⊢
        rw [hy] at hf1 q1
        clear hx hy
        have g1 : ¬ ((x : Int) = (i : Int)) := by omega
        have i1 : (0 : Int) ≤ (x : Int) := by omega
        have i2 : (x : Int) < (n : Int) := by omega
        go_wp2
        go_roundw
        case rel => exact ⟨k + 1, HFK.out, by rw [HY.out], HOK2.out, trivial⟩
        case measure =>
          have h1 := HR.out.1
          have h2 := HR.out.2
          have h3 := HFK.out
          rw [HX.out] at h1
          rw [HY.out] at h2
          simp [intOf]
          omega
    · obtain rfl : k = n - 1 := by omega
      have HRES : Hid (nbT ts f (n - 1) = none) := nbT_none HOK.out
      have hfe : f (n - 1) = i := by have := HF4.out; rw [HN.out] at this; exact this
      rw [hfe]
      have g1 : ((i : Int) = (i : Int)) := rfl
      clear HOK hfe
      go_wp2
      go_ret
      exact ⟨by rw [HRES.out]; rfl, rfl⟩
theorem tmodA {n i : Nat} (hi : i < n) : Int.tmod ((i : Int) + (-1) + (n : Int)) (n : Int) = (((i + (n - 1)) % n : Nat) : Int) := by
  rw [← rem_nat, show ((i + (n - 1) : Nat) : Int) = (i : Int) + (-1) + (n : Int) by omega]
theorem tmodB {n i : Nat} (hi : i < n) : Int.tmod ((i : Int) + 1 + (n : Int)) (n : Int) = (((i + 1) % n : Nat) : Int) := by
  rw [show (i : Int) + 1 + (n : Int) = ((i + 1 + n : Nat) : Int) by omega, rem_nat, Nat.add_mod_right]
theorem snearA_any (i : Nat) (a : Option Addr) (cap : Nat) (ts : List Bool) (w : World) (h : Rl w a cap ts) (hi : i < ts.length) (hl : ts.length ≤ 1000000) :
    Calls Tryz.prog 23 #[.slice a ts.length cap, .int .i64 (i : Int), .int .i64 (-1)] w fun e w' => e = .returned (.int .i64 (((nbA ts i).getD i : Nat) : Int)) ∧ w = w' :=
  snearW_any (wyA ts.length i) (fun v => if v < i then i - 1 - v else i + ts.length - 1 - v) (-1) i a cap ts w h hi hl (by omega) (by rw [tmodA hi, wyA_zero hi]) (fun k hk => by rw [tmodA (wyA_lt hi (by omega)), wyA_succ hi hk]) (fun k hk => wyA_lt hi hk) (fun k hk => wyA_ne hi hk) (wyA_end hi) (fun k hk => by unfold wyA; split <;> split <;> omega)
theorem snearB_any (i : Nat) (a : Option Addr) (cap : Nat) (ts : List Bool) (w : World) (h : Rl w a cap ts) (hi : i < ts.length) (hl : ts.length ≤ 1000000) :
    Calls Tryz.prog 23 #[.slice a ts.length cap, .int .i64 (i : Int), .int .i64 1] w fun e w' => e = .returned (.int .i64 (((nbB ts i).getD i : Nat) : Int)) ∧ w = w' :=
  snearW_any (wyB ts.length i) (fun v => if i < v then v - 1 - i else v + ts.length - 1 - i) 1 i a cap ts w h hi hl (by omega) (by rw [tmodB hi, wyB_zero hi]) (fun k hk => by rw [tmodB (wyB_lt hi (by omega)), wyB_succ hi hk]) (fun k hk => wyB_lt hi hk) (fun k hk => wyB_ne hi hk) (wyB_end hi) (fun k hk => by unfold wyB; split <;> split <;> omega)

set_option maxHeartbeats 2000000 in
set_option maxRecDepth 100000 in
theorem sone_lt (a x b y c : Int) (w : World) (ha : -32768 ≤ a ∧ a ≤ 32767) (hx : -32768 ≤ x ∧ x ≤ 32767) (hb : -32768 ≤ b ∧ b ≤ 32767) (hy : -32768 ≤ y ∧ y ≤ 32767) (hc : -32768 ≤ c ∧ c ≤ 32767) (hab : a < b) :
    Calls Tryz.prog 24 #[.int .i64 c, .int .i64 a, .int .i64 b, .int .i64 x, .int .i64 y] w fun e w' => ∃ v', e = .returned v' ∧ Fr w' v' 7 (infQ a x b y c) ∧ Below w.heap.size w w' := by
  obtain ⟨W, hW, B1, hbW⟩ : ∃ W, W = w.alloc (.cells #[.bool false, .slice none 0 0, .slice none 0 0] 55) ∧ Box 55 W w.heap.size (.bool false) (.slice none 0 0) (.slice none 0 0) ∧ Below w.heap.size w W := ⟨_, rfl, Box.new _ _ _ _ _, al1 _⟩
  by_cases h1 : c ≤ a
  · have HE : Hid (infQ a x b y c = (x : Rat)) := by
      show _ = _
      unfold infQ segQ
      rw [if_neg (by omega), if_pos hab, if_pos h1]
    have g0 : (a == b) = false := beq_false_of_ne (by omega)
    have g1b : ¬ b < a := by omega
    go_enter Tryz.func24, Tryz.ntmps24
    go_wp2_with fail
    rw [← hW]
    clear hW
    refine (swhole_any x _ (by omega) (by omega)).mono ?_
    rintro e u1 ⟨v1, rfl, hF1, hb2⟩
    replace hF1 := (hF1.eq (r := infQ a x b y c) (by rw [HE.out])).le (show 2 ≤ 7 by decide)
    replace B1 := B1.below hb2
    replace hbW : Below w.heap.size w u1 := hbW.trans (hb2.mono hbW.size)
    clear hb2
    have hs := B1.lt
    obtain ⟨q1, q2, q3, q4, q5, q6⟩ := B1.cells
    obtain ⟨n', xs', ys', ⟨e1, f1, e2, f2, rfl, hx', hy'⟩, hF⟩ := hF1
    go_wp2
    refine ret3 (v := .agg #[.bool n', .slice e1 xs'.length f1, .slice e2 ys'.length f2]) B1 rfl (fun U hU => by obtain ⟨r1, r2, r3, _⟩ := hU.cells; simp [results, Tryz.results24, go_sem, r1, r2, r3]) (fun U hU hK => ⟨_, rfl, ⟨_, _, _, ⟨_, _, _, _, rfl, hK _ _ _ hx', hK _ _ _ hy'⟩, hF⟩, hU _ _ hbW (by omega)⟩)
  · by_cases h2 : b ≤ c
    · have HE : Hid (infQ a x b y c = (y : Rat)) := by
        show _ = _
        unfold infQ segQ
        rw [if_neg (by omega), if_pos hab, if_neg h1, if_pos h2]
      have g0 : (a == b) = false := beq_false_of_ne (by omega)
      have g1b : ¬ b < a := by omega
      have g2 : ¬ c ≤ a := h1
      go_enter Tryz.func24, Tryz.ntmps24
      go_wp2_with fail
      rw [← hW]
      clear hW
      refine (swhole_any y _ (by omega) (by omega)).mono ?_
      rintro e u1 ⟨v1, rfl, hF1, hb2⟩
      replace hF1 := (hF1.eq (r := infQ a x b y c) (by rw [HE.out])).le (show 2 ≤ 7 by decide)
      replace B1 := B1.below hb2
      replace hbW : Below w.heap.size w u1 := hbW.trans (hb2.mono hbW.size)
      clear hb2
      have hs := B1.lt
      obtain ⟨q1, q2, q3, q4, q5, q6⟩ := B1.cells
      obtain ⟨n', xs', ys', ⟨e1, f1, e2, f2, rfl, hx', hy'⟩, hF⟩ := hF1
      go_wp2
      refine ret3 (v := .agg #[.bool n', .slice e1 xs'.length f1, .slice e2 ys'.length f2]) B1 rfl (fun U hU => by obtain ⟨r1, r2, r3, _⟩ := hU.cells; simp [results, Tryz.results24, go_sem, r1, r2, r3]) (fun U hU hK => ⟨_, rfl, ⟨_, _, _, ⟨_, _, _, _, rfl, hK _ _ _ hx', hK _ _ _ hy'⟩, hF⟩, hU _ _ hbW (by omega)⟩)
    · have HE : Hid (infQ a x b y c = btw x y (c - a) (b - a)) := by
        show _ = _
        unfold infQ segQ
        rw [if_neg (by omega), if_pos hab, if_neg h1, if_neg h2]
      have g0 : (a == b) = false := beq_false_of_ne (by omega)
      have g1b : ¬ b < a := by omega
      have g2 : ¬ c ≤ a := h1
      have g3 : ¬ c ≥ b := by omega
      go_enter Tryz.func24, Tryz.ntmps24
      go_wp2_with fail
      rw [← hW]
      clear hW
      refine (sbetween_any x y (c - a) (b - a) _ (by omega) (by omega) (by omega) (by omega)).mono ?_
      rintro e u1 ⟨v1, rfl, hF1, hb2⟩
      replace hF1 := (hF1.eq (r := infQ a x b y c) (by rw [HE.out])).le (show 7 ≤ 7 by decide)
      replace B1 := B1.below hb2
      replace hbW : Below w.heap.size w u1 := hbW.trans (hb2.mono hbW.size)
      clear hb2
      have hs := B1.lt
      obtain ⟨q1, q2, q3, q4, q5, q6⟩ := B1.cells
      obtain ⟨n', xs', ys', ⟨e1, f1, e2, f2, rfl, hx', hy'⟩, hF⟩ := hF1
      go_wp2
      refine ret3 (v := .agg #[.bool n', .slice e1 xs'.length f1, .slice e2 ys'.length f2]) B1 rfl (fun U hU => by obtain ⟨r1, r2, r3, _⟩ := hU.cells; simp [results, Tryz.results24, go_sem, r1, r2, r3]) (fun U hU hK => ⟨_, rfl, ⟨_, _, _, ⟨_, _, _, _, rfl, hK _ _ _ hx', hK _ _ _ hy'⟩, hF⟩, hU _ _ hbW (by omega)⟩)

set_option maxHeartbeats 2000000 in
set_option maxRecDepth 100000 in
theorem sone_inf (a x b y c : Int) (w : World) (ha : -32768 ≤ a ∧ a ≤ 32767) (hx : -32768 ≤ x ∧ x ≤ 32767) (hb : -32768 ≤ b ∧ b ≤ 32767) (hy : -32768 ≤ y ∧ y ≤ 32767) (hc : -32768 ≤ c ∧ c ≤ 32767) :
    Calls Tryz.prog 24 #[.int .i64 c, .int .i64 a, .int .i64 b, .int .i64 x, .int .i64 y] w fun e w' => ∃ v', e = .returned v' ∧ Fr w' v' 7 (infQ a x b y c) ∧ Below w.heap.size w w' := by
  rcases Int.lt_trichotomy a b with hab | hab | hab
  · exact sone_lt a x b y c w ha hx hb hy hc hab
  · obtain ⟨W, hW, B1, hbW⟩ : ∃ W, W = w.alloc (.cells #[.bool false, .slice none 0 0, .slice none 0 0] 55) ∧ Box 55 W w.heap.size (.bool false) (.slice none 0 0) (.slice none 0 0) ∧ Below w.heap.size w W := ⟨_, rfl, Box.new _ _ _ _ _, al1 _⟩
    by_cases hxy : x = y
    · have HE : Hid (infQ a x b y c = (x : Rat)) := by
        show _ = _
        unfold infQ
        rw [if_pos hab, if_pos hxy]
      have g0 : (a == b) = true := by rw [hab]; exact beq_self_eq_true b
      have gx : (x == y) = true := by rw [hxy]; exact beq_self_eq_true y
      clear hab hxy
      go_enter Tryz.func24, Tryz.ntmps24
      go_wp2_with fail
      rw [← hW]
      clear hW
      refine (swhole_any x _ (by omega) (by omega)).mono ?_
      rintro e u1 ⟨v1, rfl, hF1, hb2⟩
      replace hF1 := (hF1.eq (r := infQ a x b y c) (by rw [HE.out])).le (show 2 ≤ 7 by decide)
      replace B1 := B1.below hb2
      replace hbW : Below w.heap.size w u1 := hbW.trans (hb2.mono hbW.size)
      clear hb2
      have hs := B1.lt
      obtain ⟨q1, q2, q3, q4, q5, q6⟩ := B1.cells
      obtain ⟨n', xs', ys', ⟨e1, f1, e2, f2, rfl, hx', hy'⟩, hF⟩ := hF1
      go_wp2
      refine ret3 (v := .agg #[.bool n', .slice e1 xs'.length f1, .slice e2 ys'.length f2]) B1 rfl (fun U hU => by obtain ⟨r1, r2, r3, _⟩ := hU.cells; simp [results, Tryz.results24, go_sem, r1, r2, r3]) (fun U hU hK => ⟨_, rfl, ⟨_, _, _, ⟨_, _, _, _, rfl, hK _ _ _ hx', hK _ _ _ hy'⟩, hF⟩, hU _ _ hbW (by omega)⟩)
    · have HE : Hid (infQ a x b y c = 0) := by
        show _ = _
        unfold infQ
        rw [if_pos hab, if_neg hxy]
      have g0 : (a == b) = true := by rw [hab]; exact beq_self_eq_true b
      have gx : (x == y) = false := beq_false_of_ne hxy
      clear hab
      go_enter Tryz.func24, Tryz.ntmps24
      go_wp2_with fail
      rw [← hW]
      clear hW
      refine (szero_any _).mono ?_
      rintro e u1 ⟨v1, rfl, hF1, hb2⟩
      replace hF1 := (hF1.eq (r := infQ a x b y c) (by rw [HE.out])).le (show 2 ≤ 7 by decide)
      replace B1 := B1.below hb2
      replace hbW : Below w.heap.size w u1 := hbW.trans (hb2.mono hbW.size)
      clear hb2
      have hs := B1.lt
      obtain ⟨q1, q2, q3, q4, q5, q6⟩ := B1.cells
      obtain ⟨n', xs', ys', ⟨e1, f1, e2, f2, rfl, hx', hy'⟩, hF⟩ := hF1
      go_wp2
      refine ret3 (v := .agg #[.bool n', .slice e1 xs'.length f1, .slice e2 ys'.length f2]) B1 rfl (fun U hU => by obtain ⟨r1, r2, r3, _⟩ := hU.cells; simp [results, Tryz.results24, go_sem, r1, r2, r3]) (fun U hU hK => ⟨_, rfl, ⟨_, _, _, ⟨_, _, _, _, rfl, hK _ _ _ hx', hK _ _ _ hy'⟩, hF⟩, hU _ _ hbW (by omega)⟩)
  · obtain ⟨W, hW, B1, hbW⟩ : ∃ W, W = w.alloc (.cells #[.bool false, .slice none 0 0, .slice none 0 0] 55) ∧ Box 55 W w.heap.size (.bool false) (.slice none 0 0) (.slice none 0 0) ∧ Below w.heap.size w W := ⟨_, rfl, Box.new _ _ _ _ _, al1 _⟩
    have HE : Hid (infQ a x b y c = infQ b y a x c) := by
      show _ = _
      exact infQ_comm _ _ _ _ _
    have g0 : (a == b) = false := beq_false_of_ne (by omega)
    have g1 : b < a := hab
    go_enter Tryz.func24, Tryz.ntmps24
    go_wp2_with fail
    rw [← hW]
    clear hW
    refine (sone_lt b y a x c _ hb hy ha hx hc hab).mono ?_
    rintro e u1 ⟨v1, rfl, hF1, hb2⟩
    replace hF1 := (hF1.eq (r := infQ a x b y c) (by rw [HE.out])).le (show 7 ≤ 7 by decide)
    replace B1 := B1.below hb2
    replace hbW : Below w.heap.size w u1 := hbW.trans (hb2.mono hbW.size)
    clear hb2
    have hs := B1.lt
    obtain ⟨q1, q2, q3, q4, q5, q6⟩ := B1.cells
    obtain ⟨n', xs', ys', ⟨e1, f1, e2, f2, rfl, hx', hy'⟩, hF⟩ := hF1
    go_wp2
    refine ret3 (v := .agg #[.bool n', .slice e1 xs'.length f1, .slice e2 ys'.length f2]) B1 rfl (fun U hU => by obtain ⟨r1, r2, r3, _⟩ := hU.cells; simp [results, Tryz.results24, go_sem, r1, r2, r3]) (fun U hU hK => ⟨_, rfl, ⟨_, _, _, ⟨_, _, _, _, rfl, hK _ _ _ hx', hK _ _ _ hy'⟩, hF⟩, hU _ _ hbW (by omega)⟩)

end Go.Proofs.YthoildjecoppgaaGreatDoor

namespace Go.Proofs.YthoildjecoppgaaGreatDoor
open Go.RowKit Go.Maps
set_option linter.unusedSimpArgs false
set_option linter.unusedVariables false

set_option maxHeartbeats 400000 in
set_option maxRecDepth 100000 in
theorem sField_any (z : Int) (w : World) :
    Calls Tryz.prog 20 #[.int .i64 z] w fun e w' => e = .returned (.bool (fdB z)) ∧ w = w' := by
  by_cases h1 : -32768 ≤ z
  · have g1 : decide (-32768 ≤ z) = true := decide_eq_true h1
    have HE : Hid (decide (z ≤ 32767) = fdB z) := by show _ = _; rw [fdB]; exact decide_eq_decide.2 ⟨fun h => ⟨h1, h⟩, fun h => h.2⟩
    go_enter Tryz.func20, Tryz.ntmps20
    go_wp2
    go_ret
    exact ⟨rt_bool HE.out, rfl⟩
  · have g1 : decide (-32768 ≤ z) = false := decide_eq_false h1
    have HE : Hid (false = fdB z) := by show _ = _; rw [fdB]; exact (decide_eq_false (fun h => h1 h.1)).symm
    go_enter Tryz.func20, Tryz.ntmps20
    go_wp2
    go_ret
    exact ⟨rt_bool HE.out, rfl⟩
theorem sFieldB_any (z : Int) (w : World) :
    Calls Tryz.prog 20 #[.int .i64 z] w fun e w' => e = .returned (.bool (fdB z)) ∧ Below w.heap.size w w' :=
  (sField_any z w).mono fun e w' h => ⟨h.1, h.2 ▸ Below.refl _ _⟩

end Go.Proofs.YthoildjecoppgaaGreatDoor
