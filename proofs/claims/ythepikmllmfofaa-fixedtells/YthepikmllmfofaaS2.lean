/-
  foundryref02.sum, Mul, Add, Quo, Opposite, Sub: the walks.
-/
import Derived.Test.YthepikmllmfofaaS1
import Derived.Test.YthepikmllmfofaaOnce0
import Derived.Test.YthepikmllmfofaaRMul
import Derived.Test.YthepikmllmfofaaRSub
import Derived.Deep.RegionHeld3
namespace Go.Proofs.Ythepikmllmfofaa
open Go.RowKit
set_option linter.unusedSimpArgs false
set_option linter.unusedVariables false

set_option maxHeartbeats 2000000 in
theorem smul_any (k l : Nat) (q r : Rat) (v v' : Value) (w : World) (h : Ct w v k q) (h' : Ct w v' l r) (hk : k ≤ 1000000) (hl : l ≤ 1000000) (hk2 : 2 ≤ k) (hl2 : 2 ≤ l) :
    Calls Try.prog 36 #[v, v'] w fun e w' => ∃ v', e = .returned v' ∧ Fr w' v' (k + l) (q * r) ∧ Below w.heap.size w w' := by
  have hX := h
  have hY := h'
  obtain ⟨n, xs, ys, ⟨a, c, a', c', rfl, _, _⟩, _⟩ := h
  obtain ⟨m, ps, qs, ⟨b, d, b', d', rfl, _, _⟩, _⟩ := h'
  go_enter Try.func36, Try.ntmps36
  go_wp2_with fail
  refine (sfair_any k q _ _ (hX.below (al3 _ _ _)) (by omega) hk2).mono ?_
  rintro e u1 ⟨v1, rfl, hF1, hb1⟩
  replace hY := (hY.below (al3 _ _ _)).below hb1
  obtain ⟨B1, B2, B3, hbW⟩ := after3 hb1
  clear hb1 hX
  obtain ⟨p1, p2, p3, p4, p5, p6⟩ := B1.cells
  obtain ⟨q1, q2, q3, _⟩ := B2.cells
  have hs1 := B1.lt
  obtain ⟨n1, x1, y1, ⟨a1, c1, b1, d1, rfl, hx1, hy1⟩, f1, l1, l1', e1⟩ := hF1
  go_wp2_with fail
  obtain ⟨U, hU, B1', hbU, hK, ho⟩ := set3_world B1 (.bool n1) (.slice a1 x1.length c1) (.slice b1 y1.length d1)
  rw [← hU]
  replace B2 := B2.other ho (by omega)
  replace B3 := B3.other ho (by omega)
  replace hbW := hbU _ _ hbW (by omega)
  replace hx1 := hK _ _ _ hx1
  replace hy1 := hK _ _ _ hy1
  replace hY := hY.keep hK
  clear hU hbU hK ho B1 p1 p2 p3 p4 p5 p6 q1 q2 q3 hs1
  refine (sfair_any l r _ _ hY (by omega) hl2).mono ?_
  rintro e u2 ⟨v2, rfl, hF2, hb2⟩
  replace hx1 := hx1.below hb2
  replace hy1 := hy1.below hb2
  replace B1' := B1'.below hb2
  replace B2 := B2.below hb2
  replace B3 := B3.below hb2
  replace hbW : Below w.heap.size w u2 := hbW.trans (hb2.mono hbW.size)
  clear hb2 hY
  obtain ⟨n2, x2, y2, ⟨a2, c2, b2, d2, rfl, hx2, hy2⟩, f2, l2, l2', e2⟩ := hF2
  have y10 := f1.den
  have y20 := f2.den
  obtain ⟨p4, p5, p6, p7, p8, p9⟩ := B2.cells
  have hs2 := B2.lt
  go_wp2_with fail
  obtain ⟨U, hU, B2', hbU, hK, ho⟩ := set3_world B2 (.bool n2) (.slice a2 x2.length c2) (.slice b2 y2.length d2)
  rw [← hU]
  replace B1' := B1'.other ho (by omega)
  replace B3 := B3.other ho (by omega)
  replace hbW := hbU _ _ hbW (by omega)
  replace hx1 := hK _ _ _ hx1
  replace hy1 := hK _ _ _ hy1
  replace hx2 := hK _ _ _ hx2
  replace hy2 := hK _ _ _ hy2
  clear hU hbU hK ho B2 p4 p5 p6 p7 p8 p9 hs2
  obtain ⟨p1, p2, p3, _⟩ := B1'.cells
  obtain ⟨p4, p5, p6, _⟩ := B2'.cells
  have lx1 := hx1.lim
  have ly1 := hy1.lim
  have lx2 := hx2.lim
  have ly2 := hy2.lim
  have st : Stg 0 := rfl
  go_region_held3 (fun u => u.cell? ⟨w.heap.size, 0, none⟩ = some (.bool n1) ∧ u.cell? ⟨w.heap.size, 1, none⟩ = some (.slice a1 x1.length c1) ∧ u.cell? ⟨w.heap.size, 2, none⟩ = some (.slice b1 y1.length d1) ∧ u.cell? ⟨w.heap.size + 1, 0, none⟩ = some (.bool n2) ∧ u.cell? ⟨w.heap.size + 1, 1, none⟩ = some (.slice a2 x2.length c2) ∧ u.cell? ⟨w.heap.size + 1, 2, none⟩ = some (.slice b2 y2.length d2)) (first | (go_keep; done) | (refine ⟨(cell_set3 (by omega)).trans p1, (cell_set3 (by omega)).trans p2, (cell_set3 (by omega)).trans p3, (cell_set3 (by omega)).trans p4, (cell_set3 (by omega)).trans p5, (cell_set3 (by omega)).trans p6⟩))
    (first
      | (go_at_call 59
         have _sg : Stg 0 := st
         refine (rmul_any _ _ _ _ _ _ _ (hx1.below Below.drew1) (hx2.below Below.drew1) ?_ ?_).mono ?_
         · omega
         · omega
         rintro e um1 ⟨am1, cm1, zs1, rfl, hvm1, htm1, hrm1, hbm1⟩
         replace hbm1 : Below U.heap.size U um1 := Below.drew1.trans hbm1
         replace hx1 := hx1.below hbm1
         replace hy1 := hy1.below hbm1
         replace hx2 := hx2.below hbm1
         replace hy2 := hy2.below hbm1
         replace B1' := B1'.below hbm1
         replace B2' := B2'.below hbm1
         replace B3 := B3.below hbm1
         replace hbW : Below w.heap.size w um1 := hbW.trans (hbm1.mono hbW.size)
         have rm1 := hrm1.rd
         clear hrm1 hbm1 st _sg
         have st : Stg 1 := rfl
         clear p1 p2 p3 p4 p5 p6
         obtain ⟨p1, p2, p3, _⟩ := B1'.cells
         obtain ⟨p4, p5, p6, _⟩ := B2'.cells)
      | (go_at_call 59
         have _sg : Stg 1 := st
         refine (rmul_any _ _ _ _ _ _ _ hy1 hy2 ?_ ?_).mono ?_
         · omega
         · omega
         rintro e um2 ⟨am2, cm2, zs2, rfl, hvm2, htm2, hrm2, hbm2⟩
         replace hx1 := hx1.below hbm2
         replace hy1 := hy1.below hbm2
         replace hx2 := hx2.below hbm2
         replace hy2 := hy2.below hbm2
         replace B1' := B1'.below hbm2
         replace B2' := B2'.below hbm2
         replace B3 := B3.below hbm2
         replace rm1 := rm1.below hbm2
         replace hbW : Below w.heap.size w um2 := hbW.trans (hbm2.mono hbW.size)
         have rm2 := hrm2.rd
         clear hrm2 hbm2 st _sg
         have st : Stg 2 := rfl
         clear p1 p2 p3 p4 p5 p6
         obtain ⟨p1, p2, p3, _⟩ := B1'.cells
         obtain ⟨p4, p5, p6, _⟩ := B2'.cells)
      | (go_at_call 55
         have _sg : Stg 2 := st
         refine (slow_any (k + l) _ _ _ _ _ _ _ _ rm1 rm2 (by rw [hvm2]; exact Nat.mul_ne_zero y10 y20) (prod_len lx1 lx2 htm1 l1 l2 hvm1) (prod_len ly1 ly2 htm2 l1' l2' hvm2) ?_).mono ?_
         · omega
         rintro e ul ⟨vl, rfl, hF, hbl⟩
         replace hx1 := hx1.below hbl
         replace hy1 := hy1.below hbl
         replace hx2 := hx2.below hbl
         replace hy2 := hy2.below hbl
         replace B1' := B1'.below hbl
         replace B2' := B2'.below hbl
         replace B3 := B3.below hbl
         replace hbW : Below w.heap.size w ul := hbW.trans (hbl.mono hbW.size)
         clear hbl st _sg
         have st : Stg 3 := rfl
         clear p1 p2 p3 p4 p5 p6
         obtain ⟨p1, p2, p3, _⟩ := B1'.cells
         obtain ⟨p4, p5, p6, _⟩ := B2'.cells
         obtain ⟨q1, q2, q3, q4, q5, q6⟩ := B3.cells
         have hs := B3.lt
         obtain ⟨n3, x3, y3, ⟨a3, c3, b3, d3, rfl, hx3, hy3⟩, hF⟩ := hF))
  rw [qv_times hvm1 hvm2, e1, e2] at hF
  go_wp2
  exact ret3 (v := .agg #[.bool n3, .slice a3 x3.length c3, .slice b3 y3.length d3]) B3 rfl (fun U hU => by obtain ⟨r1, r2, r3, _⟩ := hU.cells; simp [results, Try.results36, go_sem, r1, r2, r3]) (fun U hU hK => ⟨_, rfl, ⟨_, _, _, ⟨_, _, _, _, rfl, hK _ _ _ hx3, hK _ _ _ hy3⟩, hF⟩, hU _ _ hbW (by omega)⟩)

end Go.Proofs.Ythepikmllmfofaa
