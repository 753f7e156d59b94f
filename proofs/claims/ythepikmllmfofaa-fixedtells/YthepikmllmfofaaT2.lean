/-
  fixed.Between: the walk.
-/
import Derived.Test.YthepikmllmfofaaT1
import Derived.Test.YthepikmllmfofaaQB
import Derived.Deep.RegionHeld3
namespace Go.Proofs.Ythepikmllmfofaa
open Go.RowKit
set_option linter.unusedSimpArgs false
set_option linter.unusedVariables false

/-- All four are near. -/
def nr4 (a b n d : Int) : Bool := [a, b, n, d].all nr
/-- The fraction between. -/
def btw (a b n d : Int) : Rat := if nr4 a b n d = true then (a : Rat) + ((b - a : Int) : Rat) * ((n : Rat) / (d : Rat)) else 0
theorem nr4_all {a b n d : Int} (h : nr4 a b n d = true) : (-1099511627776 ≤ a ∧ a ≤ 1099511627776) ∧ (-1099511627776 ≤ b ∧ b ≤ 1099511627776) ∧ (-1099511627776 ≤ n ∧ n ≤ 1099511627776) ∧ (-1099511627776 ≤ d ∧ d ≤ 1099511627776) := by
  simp [nr4, nr] at h
  omega

/-- near, of four numbers in a row. -/
theorem near4_any (a b n d : Int) (t : TypeId) (g : Nat) (w : World) (h : w.heap[g]? = some (.cells #[.int .i64 a, .int .i64 b, .int .i64 n, .int .i64 d] t (0, 0))) :
    Calls Try.prog 39 #[.slice (some ⟨g, 0, none⟩) 4 4] w fun e w' => e = .returned (.bool (nr4 a b n d)) ∧ w = w' := by
  refine near_any g [a, b, n, d] _ (by simp) ?_
  intro i hi
  simp at hi
  rcases (show i = 0 ∨ i = 1 ∨ i = 2 ∨ i = 3 by omega) with rfl | rfl | rfl | rfl <;> simp [World.cell?, h]

set_option maxHeartbeats 2000000 in
theorem between_any (a b n d : Int) (w : World) (ha : -9223372036854775808 ≤ a ∧ a < 9223372036854775808) (hb : -9223372036854775808 ≤ b ∧ b < 9223372036854775808) (hn : -9223372036854775808 ≤ n ∧ n < 9223372036854775808) (hd : -9223372036854775808 ≤ d ∧ d < 9223372036854775808) :
    Calls Try.prog 22 #[.int .i64 a, .int .i64 b, .int .i64 n, .int .i64 d] w fun e w' => ∃ v', e = .returned v' ∧ Fr w' v' 7 (btw a b n d) ∧ Below w.heap.size w w' := by
  go_enter Try.func22, Try.ntmps22
  go_wp2_with fail
  obtain ⟨W, hW, B1, R1, hbW⟩ : ∃ W, W = ((w.alloc (.cells #[.bool false, .slice none 0 0, .slice none 0 0] 25)).alloc (.cells #[.int .i64 a, .int .i64 b, .int .i64 n, .int .i64 d] 3)) ∧ Box 25 W w.heap.size (.bool false) (.slice none 0 0) (.slice none 0 0) ∧ W.heap[w.heap.size + 1]? = some (.cells #[.int .i64 a, .int .i64 b, .int .i64 n, .int .i64 d] 3 (0, 0)) ∧ Below w.heap.size w W :=
    ⟨_, rfl, (Box.new _ _ _ _ _).alloc _, by have := heap_alloc_new (w.alloc (.cells #[.bool false, .slice none 0 0, .slice none 0 0] 25)) (.cells #[.int .i64 a, .int .i64 b, .int .i64 n, .int .i64 d] 3); simpa using this, al2 _ _⟩
  rw [← hW]
  clear hW
  refine (near4_any a b n d _ _ _ R1).mono ?_
  rintro e u0 ⟨rfl, rfl⟩
  clear R1
  by_cases h4 : nr4 a b n d = true
  · obtain ⟨ra, rb, rn, rd⟩ := nr4_all h4
    have HB : Hid (btw a b n d = (a : Rat) + ((b - a : Int) : Rat) * ((n : Rat) / (d : Rat))) := by
      show btw a b n d = _
      unfold btw
      rw [if_pos h4]
    rw [h4]
    clear h4
    go_wp2_with fail
    refine (whole_any (b - a) _ (by omega) (by omega)).mono ?_
    rintro e u1 ⟨v1, rfl, hF1, hb1⟩
    replace B1 := B1.below hb1
    replace hbW : Below w.heap.size w u1 := hbW.trans (hb1.mono hbW.size)
    clear hb1
    go_wp2_with fail
    refine (make_any n d _ (by omega) (by omega) (by omega) (by omega)).mono ?_
    rintro e u2 ⟨v2, rfl, hF2, hb2⟩
    replace B1 := B1.below hb2
    replace hF1 := hF1.below hb2
    replace hbW : Below w.heap.size w u2 := hbW.trans (hb2.mono hbW.size)
    clear hb2
    go_wp2_with fail
    refine (qmul_any 2 2 _ _ _ _ _ hF1.ct hF2.ct (by decide) (by decide) (by decide) (by decide)).mono ?_
    rintro e u3 ⟨v3, rfl, hF3, hb3⟩
    replace B1 := B1.below hb3
    replace hbW : Below w.heap.size w u3 := hbW.trans (hb3.mono hbW.size)
    clear hb3 hF1 hF2
    have hX := hF3.ct
    obtain ⟨n3, x3, y3, ⟨a3, c3, b3, d3, rfl, _, _⟩, _⟩ := hF3
    have hs := B1.lt
    go_wp2_with fail
    obtain ⟨W2, hW2, B2, hb3⟩ : ∃ W2, W2 = u3.alloc (.cells #[.bool n3, .slice a3 x3.length c3, .slice b3 y3.length d3] 25) ∧ Box 25 W2 u3.heap.size (.bool n3) (.slice a3 x3.length c3) (.slice b3 y3.length d3) ∧ Below u3.heap.size u3 W2 := ⟨_, rfl, Box.new _ _ _ _ _, al1 _⟩
    rw [← hW2]
    clear hW2
    replace B1 := B1.below hb3
    replace hX := hX.below hb3
    replace hbW : Below w.heap.size w W2 := hbW.trans (hb3.mono hbW.size)
    clear hb3
    have hne : u3.heap.size ≠ w.heap.size := by omega
    clear hs
    generalize u3.heap.size = g at B2 hne ⊢
    obtain ⟨p1, p2, p3, _⟩ := B2.cells
    go_region_held3 (fun u => u.cell? ⟨g, 0, none⟩ = some (.bool n3) ∧ u.cell? ⟨g, 1, none⟩ = some (.slice a3 x3.length c3) ∧ u.cell? ⟨g, 2, none⟩ = some (.slice b3 y3.length d3)) (first | (go_keep; done) | (refine ⟨(cell_set3 hne).trans p1, (cell_set3 hne).trans p2, (cell_set3 hne).trans p3⟩))
      (first
        | (go_at_call 29
           refine (whole_any a _ ?_ ?_).mono ?_
           · omega
           · omega
           rintro e u4 ⟨v4, rfl, hF4, hb4⟩
           replace hb4 : Below W2.heap.size W2 u4 := Below.drew1.trans hb4
           replace hX := hX.below hb4
           replace B1 := B1.below hb4
           replace B2 := B2.below hb4
           replace hbW : Below w.heap.size w u4 := hbW.trans (hb4.mono hbW.size)
           clear hb4 p1 p2 p3
           obtain ⟨p1, p2, p3, _⟩ := B2.cells)
        | (go_at_call 26
           refine (qadd_any 2 4 _ _ _ _ _ hF4.ct hX (by decide) (by decide) (by decide) (by decide)).mono ?_
           rintro e u5 ⟨v5, rfl, hF5, hb5⟩
           replace B1 := B1.below hb5
           replace B2 := B2.below hb5
           replace hbW : Below w.heap.size w u5 := hbW.trans (hb5.mono hbW.size)
           replace hF5 := hF5.eq HB.out.symm
           clear hb5 hF4 hX p1 p2 p3
           obtain ⟨p1, p2, p3, _⟩ := B2.cells
           obtain ⟨q1, q2, q3, q4, q5, q6⟩ := B1.cells
           have hs := B1.lt
           obtain ⟨n', xs', ys', ⟨e1, f1, e2, f2, rfl, hx', hy'⟩, hF⟩ := hF5))
    go_wp2
    refine ret3 (v := .agg #[.bool n', .slice e1 xs'.length f1, .slice e2 ys'.length f2]) B1 rfl (fun U hU => by obtain ⟨r1, r2, r3, _⟩ := hU.cells; simp [results, Try.results22, go_sem, r1, r2, r3]) (fun U hU hK => ⟨_, rfl, ⟨_, _, _, ⟨_, _, _, _, rfl, hK _ _ _ hx', hK _ _ _ hy'⟩, hF⟩, hU _ _ hbW (by omega)⟩)
  · have e1 : nr4 a b n d = false := by simpa using h4
    have HB : Hid (btw a b n d = 0) := by
      show btw a b n d = _
      unfold btw
      rw [if_neg h4]
    rw [e1]
    clear h4 e1
    go_wp2_with fail
    refine (whole_any 0 _ (by decide) (by decide)).mono ?_
    rintro e u1 ⟨v1, rfl, hF1, hb1⟩
    replace B1 := B1.below hb1
    replace hbW : Below w.heap.size w u1 := hbW.trans (hb1.mono hbW.size)
    clear hb1
    have hs := B1.lt
    obtain ⟨q1, q2, q3, q4, q5, q6⟩ := B1.cells
    replace hF1 := (hF1.eq (r := btw a b n d) (by rw [HB.out]; rfl)).le (show 2 ≤ 7 by decide)
    obtain ⟨n', xs', ys', ⟨b, d, b', d', rfl, hx', hy'⟩, hF⟩ := hF1
    go_wp2
    refine ret3 (v := .agg #[.bool n', .slice b xs'.length d, .slice b' ys'.length d']) B1 rfl (fun U hU => by obtain ⟨r1, r2, r3, _⟩ := hU.cells; simp [results, Try.results22, go_sem, r1, r2, r3]) (fun U hU hK => ⟨_, rfl, ⟨_, _, _, ⟨_, _, _, _, rfl, hK _ _ _ hx', hK _ _ _ hy'⟩, hF⟩, hU _ _ hbW (by omega)⟩)

end Go.Proofs.Ythepikmllmfofaa
