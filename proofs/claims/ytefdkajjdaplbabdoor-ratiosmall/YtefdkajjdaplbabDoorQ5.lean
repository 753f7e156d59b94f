/-
  ratio.Add, Sub, Mul, Cmp, Sign: the walks.
-/
import Derived.Test.YtefdkajjdaplbabDoorQ4
import Derived.Deep.RegionHeld3
namespace Go.Proofs.YtefdkajjdaplbabDoor
open Go.RowKit
set_option linter.unusedSimpArgs false
set_option linter.unusedVariables false

set_option maxHeartbeats 2000000 in
theorem qmul_any (k l : Nat) (q r : Rat) (v v' : Value) (w : World) (h : Ct w v k q) (h' : Ct w v' l r) (hk : k ≤ 100000000) (hl : l ≤ 100000000) (hk2 : 2 ≤ k) (hl2 : 2 ≤ l) :
    Calls Tryd.prog 7 #[v, v'] w fun e w' => ∃ v', e = .returned v' ∧ Fr w' v' (k + l) (q * r) ∧ Below w.heap.size w w' := by
  have hX := h
  have hY := h'
  obtain ⟨n, xs, ys, ⟨a, c, a', c', rfl, hx, hy⟩, lx, ly, hq⟩ := h
  obtain ⟨m, ps, qs, ⟨b, d, b', d', rfl, hp, hqs⟩, lp, lq, hr⟩ := h'
  clear hq hr hx hy hp hqs lx ly lp lq
  go_enter Tryd.func7, Tryd.ntmps7
  go_wp2_with fail
  obtain ⟨W, hW, B1, B2, B3, hbW⟩ := boxes3 29 29 29 w (.bool n) (.slice a xs.length c) (.slice a' ys.length c') (.bool m) (.slice b ps.length d) (.slice b' qs.length d') (.bool false) (.slice none 0 0) (.slice none 0 0)
  rw [← hW]
  clear hW
  replace hX := hX.below hbW
  replace hY := hY.below hbW
  obtain ⟨p1, p2, p3, _⟩ := B1.cells
  obtain ⟨p4, p5, p6, _⟩ := B2.cells
  go_region_held3 (fun u => u.cell? ⟨w.heap.size, 0, none⟩ = some (.bool n) ∧ u.cell? ⟨w.heap.size, 1, none⟩ = some (.slice a xs.length c) ∧ u.cell? ⟨w.heap.size, 2, none⟩ = some (.slice a' ys.length c') ∧ u.cell? ⟨w.heap.size + 1, 0, none⟩ = some (.bool m) ∧ u.cell? ⟨w.heap.size + 1, 1, none⟩ = some (.slice b ps.length d) ∧ u.cell? ⟨w.heap.size + 1, 2, none⟩ = some (.slice b' qs.length d')) (first | (go_keep; done) | (refine ⟨(cell_set3 (by omega)).trans p1, (cell_set3 (by omega)).trans p2, (cell_set3 (by omega)).trans p3, (cell_set3 (by omega)).trans p4, (cell_set3 (by omega)).trans p5, (cell_set3 (by omega)).trans p6⟩))
    (first
      | (go_at_call_of 15 (Value.agg #[.bool n, .slice a xs.length c, .slice a' ys.length c'])
         refine (counted_any k q _ _ (hX.below Below.drew1) ?_ ?_).mono ?_
         · omega
         · omega
         rintro e u1 ⟨v1, rfl, hF1, hb1⟩
         have hb1' : Below W.heap.size W u1 := Below.drew1.trans hb1
         replace hY := hY.below hb1'
         replace B1 := B1.below hb1'
         replace B2 := B2.below hb1'
         replace B3 := B3.below hb1'
         replace hbW : Below w.heap.size w u1 := hbW.trans (hb1'.mono hbW.size)
         clear hb1 hb1' hX
         clear p1 p2 p3 p4 p5 p6
         obtain ⟨p1, p2, p3, _⟩ := B1.cells
         obtain ⟨p4, p5, p6, _⟩ := B2.cells)
      | (go_at_call_of 15 (Value.agg #[.bool m, .slice b ps.length d, .slice b' qs.length d'])
         refine (counted_any l r _ _ hY ?_ ?_).mono ?_
         · omega
         · omega
         rintro e u2 ⟨v2, rfl, hF2, hb2⟩
         replace hF1 := hF1.below hb2
         replace B1 := B1.below hb2
         replace B2 := B2.below hb2
         replace B3 := B3.below hb2
         replace hbW : Below w.heap.size w u2 := hbW.trans (hb2.mono hbW.size)
         clear hb2 hY
         clear p1 p2 p3 p4 p5 p6
         obtain ⟨p1, p2, p3, _⟩ := B1.cells
         obtain ⟨p4, p5, p6, _⟩ := B2.cells)
      | (go_at_call 18
         refine (times_any k l q r _ _ _ hF1.lo hF2.lo ?_ ?_).mono ?_
         · omega
         · omega
         rintro e u3 ⟨v3, rfl, hL, hb3⟩
         replace B1 := B1.below hb3
         replace B2 := B2.below hb3
         replace B3 := B3.below hb3
         replace hbW : Below w.heap.size w u3 := hbW.trans (hb3.mono hbW.size)
         clear hb3 hF1 hF2
         clear p1 p2 p3 p4 p5 p6
         obtain ⟨p1, p2, p3, _⟩ := B1.cells
         obtain ⟨p4, p5, p6, _⟩ := B2.cells)
      | (go_at_call 16
         refine (reduced_any (k + l) _ _ _ hL ?_).mono ?_
         · omega
         rintro e u4 ⟨v4, rfl, hF, hb4⟩
         replace B1 := B1.below hb4
         replace B2 := B2.below hb4
         replace B3 := B3.below hb4
         replace hbW : Below w.heap.size w u4 := hbW.trans (hb4.mono hbW.size)
         clear hb4 hL
         clear p1 p2 p3 p4 p5 p6
         obtain ⟨p1, p2, p3, _⟩ := B1.cells
         obtain ⟨p4, p5, p6, _⟩ := B2.cells
         obtain ⟨q1, q2, q3, q4, q5, q6⟩ := B3.cells
         have hs := B3.lt
         obtain ⟨n1, x1, y1, ⟨b1, d1, b2, d2, rfl, hx', hy'⟩, hF⟩ := hF))
  go_wp2
  exact ret3 (v := .agg #[.bool n1, .slice b1 x1.length d1, .slice b2 y1.length d2]) B3 rfl (fun U hU => by obtain ⟨r1, r2, r3, _⟩ := hU.cells; simp [results, Tryd.results7, go_sem, r1, r2, r3]) (fun U hU hK => ⟨_, rfl, ⟨_, _, _, ⟨_, _, _, _, rfl, hK _ _ _ hx', hK _ _ _ hy'⟩, hF⟩, hU _ _ hbW (by omega)⟩)

set_option maxHeartbeats 2000000 in
theorem qcmp_any (k l : Nat) (q r : Rat) (v v' : Value) (w : World) (h : Ct w v k q) (h' : Ct w v' l r) (hk : k ≤ 100000000) (hl : l ≤ 100000000) (hk2 : 2 ≤ k) (hl2 : 2 ≤ l) :
    Calls Tryd.prog 5 #[v, v'] w fun e w' => e = .returned (.int .i64 (sgnQ (q - r))) ∧ Below w.heap.size w w' := by
  have hX := h
  have hY := h'
  obtain ⟨n, xs, ys, ⟨a, c, a', c', rfl, hx, hy⟩, lx, ly, hq⟩ := h
  obtain ⟨m, ps, qs, ⟨b, d, b', d', rfl, hp, hqs⟩, lp, lq, hr⟩ := h'
  clear hq hr hx hy hp hqs lx ly lp lq
  go_enter Tryd.func5, Tryd.ntmps5
  go_wp2_with fail
  obtain ⟨W, hW, B1, B2, hbW⟩ := boxes2 29 29 w (.bool n) (.slice a xs.length c) (.slice a' ys.length c') (.bool m) (.slice b ps.length d) (.slice b' qs.length d')
  rw [← hW]
  clear hW
  replace hX := hX.below hbW
  replace hY := hY.below hbW
  obtain ⟨p1, p2, p3, _⟩ := B1.cells
  obtain ⟨p4, p5, p6, _⟩ := B2.cells
  go_region_held3 (fun u => u.cell? ⟨w.heap.size, 0, none⟩ = some (.bool n) ∧ u.cell? ⟨w.heap.size, 1, none⟩ = some (.slice a xs.length c) ∧ u.cell? ⟨w.heap.size, 2, none⟩ = some (.slice a' ys.length c') ∧ u.cell? ⟨w.heap.size + 1, 0, none⟩ = some (.bool m) ∧ u.cell? ⟨w.heap.size + 1, 1, none⟩ = some (.slice b ps.length d) ∧ u.cell? ⟨w.heap.size + 1, 2, none⟩ = some (.slice b' qs.length d')) (first | (go_keep; done) | (refine ⟨(cell_set3 (by omega)).trans p1, (cell_set3 (by omega)).trans p2, (cell_set3 (by omega)).trans p3, (cell_set3 (by omega)).trans p4, (cell_set3 (by omega)).trans p5, (cell_set3 (by omega)).trans p6⟩))
    (first
      | (go_at_call_of 15 (Value.agg #[.bool n, .slice a xs.length c, .slice a' ys.length c'])
         refine (counted_any k q _ _ (hX.below Below.drew1) ?_ ?_).mono ?_
         · omega
         · omega
         rintro e u1 ⟨v1, rfl, hF1, hb1⟩
         have hb1' : Below W.heap.size W u1 := Below.drew1.trans hb1
         replace hY := hY.below hb1'
         replace B1 := B1.below hb1'
         replace B2 := B2.below hb1'
         replace hbW : Below w.heap.size w u1 := hbW.trans (hb1'.mono hbW.size)
         clear hb1 hb1' hX
         clear p1 p2 p3 p4 p5 p6
         obtain ⟨p1, p2, p3, _⟩ := B1.cells
         obtain ⟨p4, p5, p6, _⟩ := B2.cells)
      | (go_at_call_of 15 (Value.agg #[.bool m, .slice b ps.length d, .slice b' qs.length d'])
         refine (counted_any l r _ _ hY ?_ ?_).mono ?_
         · omega
         · omega
         rintro e u2 ⟨v2, rfl, hF2, hb2⟩
         replace hF1 := hF1.below hb2
         replace B1 := B1.below hb2
         replace B2 := B2.below hb2
         replace hbW : Below w.heap.size w u2 := hbW.trans (hb2.mono hbW.size)
         clear hb2 hY
         clear p1 p2 p3 p4 p5 p6
         obtain ⟨p1, p2, p3, _⟩ := B1.cells
         obtain ⟨p4, p5, p6, _⟩ := B2.cells)
      | (go_at_call 14
         refine (minus_any k l q r _ _ _ hF1.lo hF2.lo ?_ ?_).mono ?_
         · omega
         · omega
         rintro e u3 ⟨v3, rfl, hL, hb3⟩
         replace B1 := B1.below hb3
         replace B2 := B2.below hb3
         replace hbW : Below w.heap.size w u3 := hbW.trans (hb3.mono hbW.size)
         clear hb3 hF1 hF2
         clear p1 p2 p3 p4 p5 p6
         obtain ⟨p1, p2, p3, _⟩ := B1.cells
         obtain ⟨p4, p5, p6, _⟩ := B2.cells)
      | (go_at_call 13
         refine (sign_any (k + l + 1) _ _ _ hL ?_).mono ?_
         · omega
         rintro e u4 ⟨rfl, hb4⟩
         replace B1 := B1.below hb4
         replace B2 := B2.below hb4
         replace hbW : Below w.heap.size w u4 := hbW.trans (hb4.mono hbW.size)
         clear hb4 hL
         clear p1 p2 p3 p4 p5 p6
         obtain ⟨p1, p2, p3, _⟩ := B1.cells
         obtain ⟨p4, p5, p6, _⟩ := B2.cells))
  go_wp2
  go_ret
  exact ⟨rfl, hbW⟩

end Go.Proofs.YtefdkajjdaplbabDoor
