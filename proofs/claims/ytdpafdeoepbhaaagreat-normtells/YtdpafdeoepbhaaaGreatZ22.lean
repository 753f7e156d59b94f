/-
  foundryref02.sum, Mul, Add, Quo, Opposite, Sub: the walks.
  foundryref02.sum, Add, Quo, Opposite, Sub: the walks.
  foundryref02.Sign, Cmp: the walks.
-/
import Derived.Test.YtdpafdeoepbhaaaGreatZ21
import Derived.Test.YtdpafdeoepbhaaaGreatZ19
import Derived.Test.YtdpafdeoepbhaaaGreatZ20
import Derived.Deep.RegionHeld3
namespace Go.Proofs.YtdpafdeoepbhaaaGreat
open Go.RowKit
set_option linter.unusedSimpArgs false
set_option linter.unusedVariables false

set_option maxHeartbeats 2000000 in
set_option maxRecDepth 100000 in
theorem smul_any (k l : Nat) (q r : Rat) (v v' : Value) (w : World) (h : Ct w v k q) (h' : Ct w v' l r) (hk : k ≤ 1000000) (hl : l ≤ 1000000) (hk2 : 2 ≤ k) (hl2 : 2 ≤ l) :
    Calls Tryz.prog 35 #[v, v'] w fun e w' => ∃ v', e = .returned v' ∧ Fr w' v' (k + l) (q * r) ∧ Below w.heap.size w w' := by
  have hX := h
  have hY := h'
  obtain ⟨n, xs, ys, ⟨a, c, a', c', rfl, _, _⟩, _⟩ := h
  obtain ⟨m, ps, qs, ⟨b, d, b', d', rfl, _, _⟩, _⟩ := h'
  go_enter Tryz.func35, Tryz.ntmps35
  go_wp2_with fail
  refine (sfair_any k q _ _ (hX.below (al3 _ _ _)) (by omega) hk2).mono ?_
  rintro e u1 ⟨v1, rfl, hF1, hb1⟩
  replace hY := (hY.below (al3 _ _ _)).below hb1
  obtain ⟨B1, B2, B3, hbW⟩ := after3 hb1
  clear hb1 hX
  obtain ⟨p1, p2, p3, p4, p5, p6⟩ := B1.cells
  obtain ⟨q1, q2, q3, _⟩ := B2.cells
  have hs1 := B1.lt
  obtain ⟨n1, x1, y1, ⟨a1, c1, b1, d1, rfl, hx1, hy1⟩, f1, l1, l1', e1⟩ := hF1
  go_wp2_with fail
  obtain ⟨U, hU, B1', hbU, hK, ho⟩ := set3_world B1 (.bool n1) (.slice a1 x1.length c1) (.slice b1 y1.length d1)
  rw [← hU]
  replace B2 := B2.other ho (by omega)
  replace B3 := B3.other ho (by omega)
  replace hbW := hbU _ _ hbW (by omega)
  replace hx1 := hK _ _ _ hx1
  replace hy1 := hK _ _ _ hy1
  replace hY := hY.keep hK
  clear hU hbU hK ho B1 p1 p2 p3 p4 p5 p6 q1 q2 q3 hs1
  refine (sfair_any l r _ _ hY (by omega) hl2).mono ?_
  rintro e u2 ⟨v2, rfl, hF2, hb2⟩
  replace hx1 := hx1.below hb2
  replace hy1 := hy1.below hb2
  replace B1' := B1'.below hb2
  replace B2 := B2.below hb2
  replace B3 := B3.below hb2
  replace hbW : Below w.heap.size w u2 := hbW.trans (hb2.mono hbW.size)
  clear hb2 hY
  obtain ⟨n2, x2, y2, ⟨a2, c2, b2, d2, rfl, hx2, hy2⟩, f2, l2, l2', e2⟩ := hF2
  have y10 := f1.den
  have y20 := f2.den
  obtain ⟨p4, p5, p6, p7, p8, p9⟩ := B2.cells
  have hs2 := B2.lt
  go_wp2_with fail
  obtain ⟨U, hU, B2', hbU, hK, ho⟩ := set3_world B2 (.bool n2) (.slice a2 x2.length c2) (.slice b2 y2.length d2)
  rw [← hU]
  replace B1' := B1'.other ho (by omega)
  replace B3 := B3.other ho (by omega)
  replace hbW := hbU _ _ hbW (by omega)
  replace hx1 := hK _ _ _ hx1
  replace hy1 := hK _ _ _ hy1
  replace hx2 := hK _ _ _ hx2
  replace hy2 := hK _ _ _ hy2
  clear hU hbU hK ho B2 p4 p5 p6 p7 p8 p9 hs2
  obtain ⟨p1, p2, p3, _⟩ := B1'.cells
  obtain ⟨p4, p5, p6, _⟩ := B2'.cells
  have lx1 := hx1.lim
  have ly1 := hy1.lim
  have lx2 := hx2.lim
  have ly2 := hy2.lim
  have st : Stg 0 := rfl
  go_region_held3 (fun u => u.cell? ⟨w.heap.size, 0, none⟩ = some (.bool n1) ∧ u.cell? ⟨w.heap.size, 1, none⟩ = some (.slice a1 x1.length c1) ∧ u.cell? ⟨w.heap.size, 2, none⟩ = some (.slice b1 y1.length d1) ∧ u.cell? ⟨w.heap.size + 1, 0, none⟩ = some (.bool n2) ∧ u.cell? ⟨w.heap.size + 1, 1, none⟩ = some (.slice a2 x2.length c2) ∧ u.cell? ⟨w.heap.size + 1, 2, none⟩ = some (.slice b2 y2.length d2)) (first | (go_keep; done) | (refine ⟨(cell_set3 (by omega)).trans p1, (cell_set3 (by omega)).trans p2, (cell_set3 (by omega)).trans p3, (cell_set3 (by omega)).trans p4, (cell_set3 (by omega)).trans p5, (cell_set3 (by omega)).trans p6⟩))
    (first
      | (go_at_call 76
         have _sg : Stg 0 := st
         refine (rmul_any _ _ _ _ _ _ _ (hx1.below Below.drew1) (hx2.below Below.drew1) ?_ ?_).mono ?_
         · omega
         · omega
         rintro e um1 ⟨am1, cm1, zs1, rfl, hvm1, htm1, hrm1, hbm1⟩
         replace hbm1 : Below U.heap.size U um1 := Below.drew1.trans hbm1
         replace hx1 := hx1.below hbm1
         replace hy1 := hy1.below hbm1
         replace hx2 := hx2.below hbm1
         replace hy2 := hy2.below hbm1
         replace B1' := B1'.below hbm1
         replace B2' := B2'.below hbm1
         replace B3 := B3.below hbm1
         replace hbW : Below w.heap.size w um1 := hbW.trans (hbm1.mono hbW.size)
         have rm1 := hrm1.rd
         clear hrm1 hbm1 st _sg
         have st : Stg 1 := rfl
         clear p1 p2 p3 p4 p5 p6
         obtain ⟨p1, p2, p3, _⟩ := B1'.cells
         obtain ⟨p4, p5, p6, _⟩ := B2'.cells)
      | (go_at_call 76
         have _sg : Stg 1 := st
         refine (rmul_any _ _ _ _ _ _ _ hy1 hy2 ?_ ?_).mono ?_
         · omega
         · omega
         rintro e um2 ⟨am2, cm2, zs2, rfl, hvm2, htm2, hrm2, hbm2⟩
         replace hx1 := hx1.below hbm2
         replace hy1 := hy1.below hbm2
         replace hx2 := hx2.below hbm2
         replace hy2 := hy2.below hbm2
         replace B1' := B1'.below hbm2
         replace B2' := B2'.below hbm2
         replace B3 := B3.below hbm2
         replace rm1 := rm1.below hbm2
         replace hbW : Below w.heap.size w um2 := hbW.trans (hbm2.mono hbW.size)
         have rm2 := hrm2.rd
         clear hrm2 hbm2 st _sg
         have st : Stg 2 := rfl
         clear p1 p2 p3 p4 p5 p6
         obtain ⟨p1, p2, p3, _⟩ := B1'.cells
         obtain ⟨p4, p5, p6, _⟩ := B2'.cells)
      | (go_at_call 71
         have _sg : Stg 2 := st
         refine (slow_any (k + l) _ _ _ _ _ _ _ _ rm1 rm2 (by rw [hvm2]; exact Nat.mul_ne_zero y10 y20) (prod_len lx1 lx2 htm1 l1 l2 hvm1) (prod_len ly1 ly2 htm2 l1' l2' hvm2) ?_).mono ?_
         · omega
         rintro e ul ⟨vl, rfl, hF, hbl⟩
         replace hx1 := hx1.below hbl
         replace hy1 := hy1.below hbl
         replace hx2 := hx2.below hbl
         replace hy2 := hy2.below hbl
         replace B1' := B1'.below hbl
         replace B2' := B2'.below hbl
         replace B3 := B3.below hbl
         replace hbW : Below w.heap.size w ul := hbW.trans (hbl.mono hbW.size)
         clear hbl st _sg
         have st : Stg 3 := rfl
         clear p1 p2 p3 p4 p5 p6
         obtain ⟨p1, p2, p3, _⟩ := B1'.cells
         obtain ⟨p4, p5, p6, _⟩ := B2'.cells
         obtain ⟨q1, q2, q3, q4, q5, q6⟩ := B3.cells
         have hs := B3.lt
         obtain ⟨n3, x3, y3, ⟨a3, c3, b3, d3, rfl, hx3, hy3⟩, hF⟩ := hF))
  rw [qv_times hvm1 hvm2, e1, e2] at hF
  go_wp2
  exact ret3 (v := .agg #[.bool n3, .slice a3 x3.length c3, .slice b3 y3.length d3]) B3 rfl (fun U hU => by obtain ⟨r1, r2, r3, _⟩ := hU.cells; simp [results, Tryz.results35, go_sem, r1, r2, r3]) (fun U hU hK => ⟨_, rfl, ⟨_, _, _, ⟨_, _, _, _, rfl, hK _ _ _ hx3, hK _ _ _ hy3⟩, hF⟩, hU _ _ hbW (by omega)⟩)

end Go.Proofs.YtdpafdeoepbhaaaGreat

namespace Go.Proofs.YtdpafdeoepbhaaaGreat
open Go.RowKit Classical
set_option linter.unusedSimpArgs false
set_option linter.unusedVariables false

theorem sg_add_same (n : Bool) (a b : Nat) : sg n (a + b) = sg n a + sg n b := by cases n <;> simp [sg]; omega
theorem sg_sub_more {n m : Bool} (h : n ≠ m) {a b : Nat} (hl : ¬ a < b) : sg n (a - b) = sg n a + sg m b := by
  cases n <;> cases m <;> simp [sg] at h ⊢ <;> omega
theorem sg_sub_less {n m : Bool} (h : n ≠ m) {a b : Nat} (hl : a < b) : sg m (b - a) = sg n a + sg m b := by
  cases n <;> cases m <;> simp [sg] at h ⊢ <;> omega

set_option maxHeartbeats 1000000 in
set_option maxRecDepth 100000 in
theorem ssum_any (k : Nat) (n m : Bool) (a : Option Addr) (c : Nat) (xs : List Nat) (b : Option Addr) (d : Nat) (ps : List Nat) (w : World) (hx : Rd w a c xs) (hp : Rd w b d ps) (lx : xs.length ≤ k) (lp : ps.length ≤ k) (hk : k ≤ 10000000) :
    Calls Tryz.prog 81 #[.bool n, .slice a xs.length c, .bool m, .slice b ps.length d] w fun e w' => ∃ s a' c' zs, e = .returned (.tuple #[.bool s, .slice a' zs.length c']) ∧ sg s (V zs) = sg n (V xs) + sg m (V ps) ∧ Tr zs ∧ zs.length ≤ k + 1 ∧ Rd w' a' c' zs ∧ Below w.heap.size w w' := by
  have l1 := hx.lim
  have l2 := hp.lim
  by_cases hnm : n = m
  · subst hnm
    have e0 : (n == n) = true := by simp
    go_enter Tryz.func81, Tryz.ntmps81
    go_wp2_with fail
    refine (radd_any _ _ _ _ _ _ _ hx hp (by omega) (by omega)).mono ?_
    rintro e u ⟨a1, c1, zs, rfl, hv, ht, hr, hb⟩
    go_wp2
    go_ret2
    exact ⟨_, _, _, _, rfl, by rw [hv]; exact sg_add_same _ _ _, ht, sum_len l1 l2 ht lx lp (by omega), hr.rd, hb⟩
  · have e0 : (n == m) = false := by simpa using hnm
    go_enter Tryz.func81, Tryz.ntmps81
    go_wp2_with fail
    refine (rcmp_any _ _ _ _ _ _ _ hx hp).mono ?_
    rintro e u ⟨rfl, rfl⟩
    by_cases hlt : V xs < V ps
    · have ec : cmpN (V xs) (V ps) = -1 := by unfold cmpN; rw [if_pos hlt]
      rw [ec]
      clear ec
      go_wp2_with fail
      refine (rsub_any _ _ _ _ _ _ _ hp hx (by omega) (by omega)).mono ?_
      rintro e u ⟨a1, c1, zs, rfl, hv, ht, hr, hb⟩
      go_wp2
      go_ret2
      exact ⟨_, _, _, _, rfl, by rw [hv]; exact sg_sub_less hnm hlt, ht, sum_len l1 l2 ht lx lp (by omega), hr.rd, hb⟩
    · have ec : 0 ≤ cmpN (V xs) (V ps) := by unfold cmpN; rw [if_neg hlt]; split <;> decide
      generalize cmpN (V xs) (V ps) = cc at ec ⊢
      go_wp2_with fail
      refine (rsub_any _ _ _ _ _ _ _ hx hp (by omega) (by omega)).mono ?_
      rintro e u ⟨a1, c1, zs, rfl, hv, ht, hr, hb⟩
      go_wp2
      go_ret2
      exact ⟨_, _, _, _, rfl, by rw [hv]; exact sg_sub_more hnm hlt, ht, sum_len l1 l2 ht lx lp (by omega), hr.rd, hb⟩

theorem sg_mul_nat (n : Bool) (a b : Nat) : sg n (a * b) = sg n a * (b : Int) := by cases n <;> simp [sg]; grind
theorem qv_sum {s n m : Bool} {zs ts xs ys ps qs : List Nat} (hy : V ys ≠ 0) (hq : V qs ≠ 0) (ht : V ts = V ys * V qs) (h : sg s (V zs) = sg n (V xs * V qs) + sg m (V ps * V ys)) : qv s zs ts = qv n xs ys + qv m ps qs := by
  unfold qv
  rw [Rat.mkRat_add_mkRat _ _ hy hq, ht, h, sg_mul_nat, sg_mul_nat]

set_option maxHeartbeats 2000000 in
set_option maxRecDepth 100000 in
theorem sadd_any (k l : Nat) (q r : Rat) (v v' : Value) (w : World) (h : Ct w v k q) (h' : Ct w v' l r) (hk : k ≤ 1000000) (hl : l ≤ 1000000) (hk2 : 2 ≤ k) (hl2 : 2 ≤ l) :
    Calls Tryz.prog 53 #[v, v'] w fun e w' => ∃ v', e = .returned v' ∧ Fr w' v' (k + l + 1) (q + r) ∧ Below w.heap.size w w' := by
  have hX := h
  have hY := h'
  obtain ⟨n, xs, ys, ⟨a, c, a', c', rfl, _, _⟩, _⟩ := h
  obtain ⟨m, ps, qs, ⟨b, d, b', d', rfl, _, _⟩, _⟩ := h'
  go_enter Tryz.func53, Tryz.ntmps53
  go_wp2_with fail
  refine (sfair_any k q _ _ (hX.below (al3 _ _ _)) (by omega) hk2).mono ?_
  rintro e u1 ⟨v1, rfl, hF1, hb1⟩
  replace hY := (hY.below (al3 _ _ _)).below hb1
  obtain ⟨B1, B2, B3, hbW⟩ := after3 hb1
  clear hb1 hX
  obtain ⟨p1, p2, p3, p4, p5, p6⟩ := B1.cells
  obtain ⟨q1, q2, q3, _⟩ := B2.cells
  have hs1 := B1.lt
  obtain ⟨n1, x1, y1, ⟨a1, c1, b1, d1, rfl, hx1, hy1⟩, f1, l1, l1', e1⟩ := hF1
  go_wp2_with fail
  obtain ⟨U, hU, B1', hbU, hK, ho⟩ := set3_world B1 (.bool n1) (.slice a1 x1.length c1) (.slice b1 y1.length d1)
  rw [← hU]
  replace B2 := B2.other ho (by omega)
  replace B3 := B3.other ho (by omega)
  replace hbW := hbU _ _ hbW (by omega)
  replace hx1 := hK _ _ _ hx1
  replace hy1 := hK _ _ _ hy1
  replace hY := hY.keep hK
  clear hU hbU hK ho B1 p1 p2 p3 p4 p5 p6 q1 q2 q3 hs1
  refine (sfair_any l r _ _ hY (by omega) hl2).mono ?_
  rintro e u2 ⟨v2, rfl, hF2, hb2⟩
  replace hx1 := hx1.below hb2
  replace hy1 := hy1.below hb2
  replace B1' := B1'.below hb2
  replace B2 := B2.below hb2
  replace B3 := B3.below hb2
  replace hbW : Below w.heap.size w u2 := hbW.trans (hb2.mono hbW.size)
  clear hb2 hY
  obtain ⟨n2, x2, y2, ⟨a2, c2, b2, d2, rfl, hx2, hy2⟩, f2, l2, l2', e2⟩ := hF2
  have y10 := f1.den
  have y20 := f2.den
  obtain ⟨p4, p5, p6, p7, p8, p9⟩ := B2.cells
  have hs2 := B2.lt
  go_wp2_with fail
  obtain ⟨U, hU, B2', hbU, hK, ho⟩ := set3_world B2 (.bool n2) (.slice a2 x2.length c2) (.slice b2 y2.length d2)
  rw [← hU]
  replace B1' := B1'.other ho (by omega)
  replace B3 := B3.other ho (by omega)
  replace hbW := hbU _ _ hbW (by omega)
  replace hx1 := hK _ _ _ hx1
  replace hy1 := hK _ _ _ hy1
  replace hx2 := hK _ _ _ hx2
  replace hy2 := hK _ _ _ hy2
  clear hU hbU hK ho B2 p4 p5 p6 p7 p8 p9 hs2
  obtain ⟨p1, p2, p3, _⟩ := B1'.cells
  obtain ⟨p4, p5, p6, _⟩ := B2'.cells
  have lx1 := hx1.lim
  have ly1 := hy1.lim
  have lx2 := hx2.lim
  have ly2 := hy2.lim
  have st : Stg 0 := rfl
  go_region_held3 (fun u => u.cell? ⟨w.heap.size, 0, none⟩ = some (.bool n1) ∧ u.cell? ⟨w.heap.size, 1, none⟩ = some (.slice a1 x1.length c1) ∧ u.cell? ⟨w.heap.size, 2, none⟩ = some (.slice b1 y1.length d1) ∧ u.cell? ⟨w.heap.size + 1, 0, none⟩ = some (.bool n2) ∧ u.cell? ⟨w.heap.size + 1, 1, none⟩ = some (.slice a2 x2.length c2) ∧ u.cell? ⟨w.heap.size + 1, 2, none⟩ = some (.slice b2 y2.length d2)) (first | (go_keep; done) | (refine ⟨(cell_set3 (by omega)).trans p1, (cell_set3 (by omega)).trans p2, (cell_set3 (by omega)).trans p3, (cell_set3 (by omega)).trans p4, (cell_set3 (by omega)).trans p5, (cell_set3 (by omega)).trans p6⟩))
    (first
      | (go_at_call 76
         have _sg : Stg 0 := st
         refine (rmul_any _ _ _ _ _ _ _ (hx1.below Below.drew1) (hy2.below Below.drew1) ?_ ?_).mono ?_
         · omega
         · omega
         rintro e um1 ⟨am1, cm1, zs1, rfl, hvm1, htm1, hrm1, hbm1⟩
         replace hbm1 : Below U.heap.size U um1 := Below.drew1.trans hbm1
         replace hx1 := hx1.below hbm1
         replace hy1 := hy1.below hbm1
         replace hx2 := hx2.below hbm1
         replace hy2 := hy2.below hbm1
         replace B1' := B1'.below hbm1
         replace B2' := B2'.below hbm1
         replace B3 := B3.below hbm1
         replace hbW : Below w.heap.size w um1 := hbW.trans (hbm1.mono hbW.size)
         have rm1 := hrm1.rd
         clear hrm1 hbm1 st _sg
         have st : Stg 1 := rfl
         clear p1 p2 p3 p4 p5 p6
         obtain ⟨p1, p2, p3, _⟩ := B1'.cells
         obtain ⟨p4, p5, p6, _⟩ := B2'.cells)
      | (go_at_call 76
         have _sg : Stg 1 := st
         refine (rmul_any _ _ _ _ _ _ _ hx2 hy1 ?_ ?_).mono ?_
         · omega
         · omega
         rintro e um2 ⟨am2, cm2, zs2, rfl, hvm2, htm2, hrm2, hbm2⟩
         replace hx1 := hx1.below hbm2
         replace hy1 := hy1.below hbm2
         replace hx2 := hx2.below hbm2
         replace hy2 := hy2.below hbm2
         replace B1' := B1'.below hbm2
         replace B2' := B2'.below hbm2
         replace B3 := B3.below hbm2
         replace rm1 := rm1.below hbm2
         replace hbW : Below w.heap.size w um2 := hbW.trans (hbm2.mono hbW.size)
         have rm2 := hrm2.rd
         clear hrm2 hbm2 st _sg
         have st : Stg 2 := rfl
         clear p1 p2 p3 p4 p5 p6
         obtain ⟨p1, p2, p3, _⟩ := B1'.cells
         obtain ⟨p4, p5, p6, _⟩ := B2'.cells)
      | (go_at_call 81
         have _sg : Stg 2 := st
         refine (ssum_any (k + l) _ _ _ _ _ _ _ _ _ rm1 rm2 (prod_len lx1 ly2 htm1 l1 l2' hvm1) ?_ ?_).mono ?_
         · have := prod_len lx2 ly1 htm2 l2 l1' hvm2
           omega
         · omega
         rintro e us ⟨s3, a7, c7, ss, rfl, hvs, hts, lss, rs, hbs⟩
         replace hx1 := hx1.below hbs
         replace hy1 := hy1.below hbs
         replace hx2 := hx2.below hbs
         replace hy2 := hy2.below hbs
         replace B1' := B1'.below hbs
         replace B2' := B2'.below hbs
         replace B3 := B3.below hbs
         replace hbW : Below w.heap.size w us := hbW.trans (hbs.mono hbW.size)
         clear hbs st _sg
         have st : Stg 3 := rfl
         clear p1 p2 p3 p4 p5 p6
         obtain ⟨p1, p2, p3, _⟩ := B1'.cells
         obtain ⟨p4, p5, p6, _⟩ := B2'.cells))
  go_wp2_with fail
  refine (rmul_any _ _ _ _ _ _ _ hy1 hy2 (by omega) (by omega)).mono ?_
  rintro e u8 ⟨a8, c8, z8, rfl, hv8, ht8, hr8, hb8⟩
  replace rs := rs.below hb8
  replace B3 := B3.below hb8
  replace hbW : Below w.heap.size w u8 := hbW.trans (hb8.mono hbW.size)
  have r8 := hr8.rd
  have l8 := prod_len ly1 ly2 ht8 l1' l2' hv8
  clear hr8 hb8 p1 p2 p3 p4 p5 p6
  go_wp2_with fail
  refine (slow_any (k + l + 1) _ _ _ _ _ _ _ _ rs r8 (by rw [hv8]; exact Nat.mul_ne_zero y10 y20) lss (by omega) (by omega)).mono ?_
  rintro e u9 ⟨v9, rfl, hF, hb9⟩
  replace B3 := B3.below hb9
  replace hbW : Below w.heap.size w u9 := hbW.trans (hb9.mono hbW.size)
  clear hb9
  rw [hvm1, hvm2] at hvs
  rw [qv_sum y10 y20 hv8 hvs, e1, e2] at hF
  obtain ⟨q1, q2, q3, q4, q5, q6⟩ := B3.cells
  have hs := B3.lt
  obtain ⟨n3, x3, y3, ⟨a3, c3, b3, d3, rfl, hx3, hy3⟩, hF⟩ := hF
  go_wp2
  exact ret3 (v := .agg #[.bool n3, .slice a3 x3.length c3, .slice b3 y3.length d3]) B3 rfl (fun U hU => by obtain ⟨r1, r2, r3, _⟩ := hU.cells; simp [results, Tryz.results53, go_sem, r1, r2, r3]) (fun U hU hK => ⟨_, rfl, ⟨_, _, _, ⟨_, _, _, _, rfl, hK _ _ _ hx3, hK _ _ _ hy3⟩, hF⟩, hU _ _ hbW (by omega)⟩)

set_option maxHeartbeats 2000000 in
set_option maxRecDepth 100000 in
theorem squo_any (k l : Nat) (q r : Rat) (v v' : Value) (w : World) (h : Ct w v k q) (h' : Ct w v' l r) (hk : k ≤ 1000000) (hl : l ≤ 1000000) (hk2 : 2 ≤ k) (hl2 : 2 ≤ l) :
    Calls Tryz.prog 51 #[v, v'] w fun e w' => ∃ v', e = .returned (.tuple #[v', .bool (decide (r ≠ 0))]) ∧ Fr w' v' (k + l) (q / r) ∧ Below w.heap.size w w' := by
  have hX := h
  have hY := h'
  obtain ⟨n, xs, ys, ⟨a, c, a', c', rfl, _, _⟩, _⟩ := h
  obtain ⟨m, ps, qs, ⟨b, d, b', d', rfl, _, _⟩, _⟩ := h'
  go_enter Tryz.func51, Tryz.ntmps51
  go_wp2_with fail
  refine (sfair_any k q _ _ (hX.below (al3 _ _ _)) (by omega) hk2).mono ?_
  rintro e u1 ⟨v1, rfl, hF1, hb1⟩
  replace hY := (hY.below (al3 _ _ _)).below hb1
  obtain ⟨B1, B2, B3, hbW⟩ := after3 hb1
  clear hb1 hX
  obtain ⟨p1, p2, p3, p4, p5, p6⟩ := B1.cells
  obtain ⟨q1, q2, q3, _⟩ := B2.cells
  have hs1 := B1.lt
  obtain ⟨n1, x1, y1, ⟨a1, c1, b1, d1, rfl, hx1, hy1⟩, f1, l1, l1', e1⟩ := hF1
  go_wp2_with fail
  obtain ⟨U, hU, B1', hbU, hK, ho⟩ := set3_world B1 (.bool n1) (.slice a1 x1.length c1) (.slice b1 y1.length d1)
  rw [← hU]
  replace B2 := B2.other ho (by omega)
  replace B3 := B3.other ho (by omega)
  replace hbW := hbU _ _ hbW (by omega)
  replace hx1 := hK _ _ _ hx1
  replace hy1 := hK _ _ _ hy1
  replace hY := hY.keep hK
  clear hU hbU hK ho B1 p1 p2 p3 p4 p5 p6 q1 q2 q3 hs1
  refine (sfair_any l r _ _ hY (by omega) hl2).mono ?_
  rintro e u2 ⟨v2, rfl, hF2, hb2⟩
  replace hx1 := hx1.below hb2
  replace hy1 := hy1.below hb2
  replace B1' := B1'.below hb2
  replace B2 := B2.below hb2
  replace B3 := B3.below hb2
  replace hbW : Below w.heap.size w u2 := hbW.trans (hb2.mono hbW.size)
  clear hb2 hY
  obtain ⟨n2, x2, y2, ⟨a2, c2, b2, d2, rfl, hx2, hy2⟩, f2, l2, l2', e2⟩ := hF2
  have y10 := f1.den
  have y20 := f2.den
  obtain ⟨p4, p5, p6, p7, p8, p9⟩ := B2.cells
  have hs2 := B2.lt
  have hz : r = 0 ↔ x2 = [] := by rw [← e2]; exact Fr.zero_iff (w := w) f2
  by_cases h0 : x2 = []
  · have hr0 := hz.2 h0
    have g0 : x2.length = 0 := by rw [h0]; rfl
    rw [g0]
    go_wp2_with fail
    refine (szero_any _).mono ?_
    rintro e u3 ⟨v3, rfl, hF, hb3⟩
    have B3' := (B3.other (set3_other u2 (w.heap.size + 1) (.bool n2) (.slice a2 0 c2) (.slice b2 y2.length d2)) (by omega)).below hb3
    have hbW' : Below w.heap.size w u3 := (below_set3 hbW (by omega) _ _ _).trans (hb3.mono (below_set3 hbW (Nat.le_succ _) (.bool n2) (.slice a2 0 c2) (.slice b2 y2.length d2)).size)
    obtain ⟨q1, q2, q3, q4, q5, q6⟩ := B3'.cells
    have hs' := B3'.lt
    obtain ⟨n', xs', ys', ⟨c1, f1, c2, f2, rfl, hx'', hy''⟩, hf', lx', ly', he'⟩ := hF
    clear hb3 p4 p5 p6 p7 p8 p9
    go_wp2
    refine ret3 (v := .tuple #[.agg #[.bool n', .slice c1 xs'.length f1, .slice c2 ys'.length f2], .bool false]) B3' rfl (fun U hU => by obtain ⟨r1, r2, r3, _⟩ := hU.cells; simp [results, Tryz.results51, go_sem, r1, r2, r3]) (fun U hU hK => ⟨_, by simp [hr0], ⟨_, _, _, ⟨_, _, _, _, rfl, hK _ _ _ hx'', hK _ _ _ hy''⟩, hf', by omega, by omega, by rw [he', hr0]; simp [Rat.div_def]⟩, hU _ _ hbW' (by omega)⟩)
  have hr0 : r ≠ 0 := fun h => h0 (hz.1 h)
  have hv2 : V x2 ≠ 0 := V_ne_of f2.1 h0
  have g1 : ((x2.length : Int) == 0) = false := beq_eq_false_iff_ne.2 (by have := List.length_pos_iff.2 h0; omega)
  go_wp2_with fail
  obtain ⟨U, hU, B2', hbU, hK, ho⟩ := set3_world B2 (.bool n2) (.slice a2 x2.length c2) (.slice b2 y2.length d2)
  rw [← hU]
  replace B1' := B1'.other ho (by omega)
  replace B3 := B3.other ho (by omega)
  replace hbW := hbU _ _ hbW (by omega)
  replace hx1 := hK _ _ _ hx1
  replace hy1 := hK _ _ _ hy1
  replace hx2 := hK _ _ _ hx2
  replace hy2 := hK _ _ _ hy2
  clear hU hbU hK ho B2 p4 p5 p6 p7 p8 p9 hs2
  obtain ⟨p1, p2, p3, _⟩ := B1'.cells
  obtain ⟨p4, p5, p6, _⟩ := B2'.cells
  have lx1 := hx1.lim
  have ly1 := hy1.lim
  have lx2 := hx2.lim
  have ly2 := hy2.lim
  have st : Stg 0 := rfl
  go_region_held3 (fun u => u.cell? ⟨w.heap.size, 0, none⟩ = some (.bool n1) ∧ u.cell? ⟨w.heap.size, 1, none⟩ = some (.slice a1 x1.length c1) ∧ u.cell? ⟨w.heap.size, 2, none⟩ = some (.slice b1 y1.length d1) ∧ u.cell? ⟨w.heap.size + 1, 0, none⟩ = some (.bool n2) ∧ u.cell? ⟨w.heap.size + 1, 1, none⟩ = some (.slice a2 x2.length c2) ∧ u.cell? ⟨w.heap.size + 1, 2, none⟩ = some (.slice b2 y2.length d2)) (first | (go_keep; done) | (refine ⟨(cell_set3 (by omega)).trans p1, (cell_set3 (by omega)).trans p2, (cell_set3 (by omega)).trans p3, (cell_set3 (by omega)).trans p4, (cell_set3 (by omega)).trans p5, (cell_set3 (by omega)).trans p6⟩))
    (first
      | (go_at_call 76
         have _sg : Stg 0 := st
         refine (rmul_any _ _ _ _ _ _ _ (hx1.below Below.drew1) (hy2.below Below.drew1) ?_ ?_).mono ?_
         · omega
         · omega
         rintro e um1 ⟨am1, cm1, zs1, rfl, hvm1, htm1, hrm1, hbm1⟩
         replace hbm1 : Below U.heap.size U um1 := Below.drew1.trans hbm1
         replace hx1 := hx1.below hbm1
         replace hy1 := hy1.below hbm1
         replace hx2 := hx2.below hbm1
         replace hy2 := hy2.below hbm1
         replace B1' := B1'.below hbm1
         replace B2' := B2'.below hbm1
         replace B3 := B3.below hbm1
         replace hbW : Below w.heap.size w um1 := hbW.trans (hbm1.mono hbW.size)
         have rm1 := hrm1.rd
         clear hrm1 hbm1 st _sg
         have st : Stg 1 := rfl
         clear p1 p2 p3 p4 p5 p6
         obtain ⟨p1, p2, p3, _⟩ := B1'.cells
         obtain ⟨p4, p5, p6, _⟩ := B2'.cells)
      | (go_at_call 76
         have _sg : Stg 1 := st
         refine (rmul_any _ _ _ _ _ _ _ hy1 hx2 ?_ ?_).mono ?_
         · omega
         · omega
         rintro e um2 ⟨am2, cm2, zs2, rfl, hvm2, htm2, hrm2, hbm2⟩
         replace hx1 := hx1.below hbm2
         replace hy1 := hy1.below hbm2
         replace hx2 := hx2.below hbm2
         replace hy2 := hy2.below hbm2
         replace B1' := B1'.below hbm2
         replace B2' := B2'.below hbm2
         replace B3 := B3.below hbm2
         replace rm1 := rm1.below hbm2
         replace hbW : Below w.heap.size w um2 := hbW.trans (hbm2.mono hbW.size)
         have rm2 := hrm2.rd
         clear hrm2 hbm2 st _sg
         have st : Stg 2 := rfl
         clear p1 p2 p3 p4 p5 p6
         obtain ⟨p1, p2, p3, _⟩ := B1'.cells
         obtain ⟨p4, p5, p6, _⟩ := B2'.cells)
      | (go_at_call 71
         have _sg : Stg 2 := st
         refine (slow_any (k + l) _ _ _ _ _ _ _ _ rm1 rm2 (by rw [hvm2]; exact Nat.mul_ne_zero y10 hv2) (prod_len lx1 ly2 htm1 l1 l2' hvm1) (prod_len ly1 lx2 htm2 l1' l2 hvm2) ?_).mono ?_
         · omega
         rintro e ul ⟨vl, rfl, hF, hbl⟩
         replace hx1 := hx1.below hbl
         replace hy1 := hy1.below hbl
         replace hx2 := hx2.below hbl
         replace hy2 := hy2.below hbl
         replace B1' := B1'.below hbl
         replace B2' := B2'.below hbl
         replace B3 := B3.below hbl
         replace hbW : Below w.heap.size w ul := hbW.trans (hbl.mono hbW.size)
         clear hbl st _sg
         have st : Stg 3 := rfl
         clear p1 p2 p3 p4 p5 p6
         obtain ⟨p1, p2, p3, _⟩ := B1'.cells
         obtain ⟨p4, p5, p6, _⟩ := B2'.cells
         obtain ⟨q1, q2, q3, q4, q5, q6⟩ := B3.cells
         have hs := B3.lt
         obtain ⟨n3, x3, y3, ⟨a3, c3, b3, d3, rfl, hx3, hy3⟩, hF⟩ := hF))
  rw [qv_times hvm1 hvm2, e1, qv_inv _ _ _ hv2, e2, ← Rat.div_def] at hF
  go_wp2
  exact ret3 (v := .tuple #[.agg #[.bool n3, .slice a3 x3.length c3, .slice b3 y3.length d3], .bool true]) B3 rfl (fun U hU => by obtain ⟨r1, r2, r3, _⟩ := hU.cells; simp [results, Tryz.results51, go_sem, r1, r2, r3]) (fun U hU hK => ⟨.agg #[.bool n3, .slice a3 x3.length c3, .slice b3 y3.length d3], by simp [hr0], ⟨_, _, _, ⟨_, _, _, _, rfl, hK _ _ _ hx3, hK _ _ _ hy3⟩, hF⟩, hU _ _ hbW (by omega)⟩)

theorem fmd_opp {n : Bool} {xs ys : List Nat} (h : Fmd n xs ys) : Fmd (!n && decide (0 < xs.length)) xs ys ∧ qv (!n && decide (0 < xs.length)) xs ys = - qv n xs ys := by
  by_cases hx : xs = []
  · subst hx
    have e : (!n && decide (0 < ([] : List Nat).length)) = false := by simp
    rw [e]
    refine ⟨⟨h.1, h.2.1, h.2.2.1, by simp, h.2.2.2.2⟩, ?_⟩
    have z : ∀ m, qv m [] ys = 0 := by intro m; unfold qv; rw [show V [] = 0 from rfl, sg_zero]; simp
    rw [z, z]; rfl
  · have e : (!n && decide (0 < xs.length)) = !n := by simp [List.length_pos_iff, hx]
    rw [e]
    exact ⟨⟨h.1, h.2.1, h.2.2.1, fun h2 => hx h2.2, h.2.2.2.2⟩, qv_neg n xs ys⟩

theorem set0_world {t : TypeId} {u : World} {b : Nat} {n : Bool} {a a' : Option Addr} {l c l' c' : Nat} (B : Box t u b (.bool n) (.slice a l c) (.slice a' l' c')) (x' : Value) :
    ∃ U, U = u.setCell ⟨b, 0, none⟩ x' ∧ (∀ B w, Below B w u → B ≤ b → Below B w U) ∧ (∀ a c xs, Rd u a c xs → Rd U a c xs) ∧ (∀ j, j ≠ b → U.heap[j]? = u.heap[j]?) := by
  have ho : ∀ j, j ≠ b → (u.setCell ⟨b, 0, none⟩ x').heap[j]? = u.heap[j]? := fun j hj => Below.heap_setCell _ ⟨b, 0, none⟩ x' j hj
  exact ⟨_, rfl, fun _ _ h hb => h.setCell (p := ⟨b, 0, none⟩) hb x', fun _ _ _ h => Rd.apart B (by simp [World.setCell]) ho h, ho⟩

set_option maxHeartbeats 1000000 in
set_option maxRecDepth 100000 in
theorem sopp_any (k : Nat) (q : Rat) (v : Value) (w : World) (h : Ct w v k q) (hk : k ≤ 1000000) (hk2 : 2 ≤ k) :
    Calls Tryz.prog 80 #[v] w fun e w' => ∃ v', e = .returned v' ∧ Fr w' v' k (-q) ∧ Below w.heap.size w w' := by
  have hX := h
  obtain ⟨n, xs, ys, ⟨a, c, a', c', rfl, _, _⟩, _⟩ := h
  go_enter Tryz.func80, Tryz.ntmps80
  go_wp2_with fail
  refine (sfair_any k q _ _ (hX.below (al2 _ _)) (by omega) hk2).mono ?_
  rintro e u1 ⟨v1, rfl, hF1, hb1⟩
  obtain ⟨B1, B2, hbW⟩ := after2 hb1
  clear hb1 hX
  obtain ⟨p1, p2, p3, p4, p5, p6⟩ := B1.cells
  obtain ⟨q1, q2, q3, q4, q5, q6⟩ := B2.cells
  have hs1 := B1.lt
  have hs2 := B2.lt
  obtain ⟨n1, x1, y1, ⟨a1, c1, b1, d1, rfl, hx1, hy1⟩, f1, l1, l1', e1⟩ := hF1
  have hO := fmd_opp f1
  rw [e1] at hO
  cases n1 with
  | true =>
    go_wp2
    obtain ⟨U, hU, B1', hbU, hK, ho⟩ := set3_world B1 (.bool true) (.slice a1 x1.length c1) (.slice b1 y1.length d1)
    rw [← hU]
    obtain ⟨U2, hU2, hbU2, hK2, ho2⟩ := set0_world B1' (.bool false)
    rw [← hU2]
    have B2' := (B2.other ho (by omega)).other ho2 (by omega)
    exact ret3 (v := .agg #[.bool false, .slice a1 x1.length c1, .slice b1 y1.length d1]) B2' rfl (fun U hU => by obtain ⟨r1, r2, r3, _⟩ := hU.cells; simp [results, Tryz.results80, go_sem, r1, r2, r3]) (fun U hU hK' => ⟨_, rfl, ⟨_, _, _, ⟨_, _, _, _, rfl, hK' _ _ _ (hK2 _ _ _ (hK _ _ _ hx1)), hK' _ _ _ (hK2 _ _ _ (hK _ _ _ hy1))⟩, hO.1, l1, l1', hO.2⟩, hU _ _ (hbU2 _ _ (hbU _ _ hbW (by omega)) (by omega)) (by omega)⟩)
  | false =>
    go_wp2
    obtain ⟨U, hU, B1', hbU, hK, ho⟩ := set3_world B1 (.bool false) (.slice a1 x1.length c1) (.slice b1 y1.length d1)
    rw [← hU]
    obtain ⟨U2, hU2, hbU2, hK2, ho2⟩ := set0_world B1' (.bool (decide (0 < x1.length)))
    rw [← hU2]
    have B2' := (B2.other ho (by omega)).other ho2 (by omega)
    have hO' : Fmd (decide (0 < x1.length)) x1 y1 ∧ qv (decide (0 < x1.length)) x1 y1 = -q := by simpa using hO
    exact ret3 (v := .agg #[.bool (decide (0 < x1.length)), .slice a1 x1.length c1, .slice b1 y1.length d1]) B2' rfl (fun U hU => by obtain ⟨r1, r2, r3, _⟩ := hU.cells; simp [results, Tryz.results80, go_sem, r1, r2, r3]) (fun U hU hK' => ⟨_, rfl, ⟨_, _, _, ⟨_, _, _, _, rfl, hK' _ _ _ (hK2 _ _ _ (hK _ _ _ hx1)), hK' _ _ _ (hK2 _ _ _ (hK _ _ _ hy1))⟩, hO'.1, l1, l1', hO'.2⟩, hU _ _ (hbU2 _ _ (hbU _ _ hbW (by omega)) (by omega)) (by omega)⟩)

set_option maxHeartbeats 2000000 in
set_option maxRecDepth 100000 in
theorem ssub_any (k l : Nat) (q r : Rat) (v v' : Value) (w : World) (h : Ct w v k q) (h' : Ct w v' l r) (hk : k ≤ 1000000) (hl : l ≤ 1000000) (hk2 : 2 ≤ k) (hl2 : 2 ≤ l) :
    Calls Tryz.prog 52 #[v, v'] w fun e w' => ∃ v', e = .returned v' ∧ Fr w' v' (k + l + 1) (q - r) ∧ Below w.heap.size w w' := by
  have hX := h
  have hY := h'
  obtain ⟨n, xs, ys, ⟨a, c, a', c', rfl, _, _⟩, _⟩ := h
  obtain ⟨m, ps, qs, ⟨b, d, b', d', rfl, _, _⟩, _⟩ := h'
  go_enter Tryz.func52, Tryz.ntmps52
  go_wp2_with fail
  obtain ⟨W, hW, B1, B2, B3, hbW⟩ := boxes3 45 45 45 w (.bool n) (.slice a xs.length c) (.slice a' ys.length c') (.bool m) (.slice b ps.length d) (.slice b' qs.length d') (.bool false) (.slice none 0 0) (.slice none 0 0)
  rw [← hW]
  clear hW
  replace hX := hX.below hbW
  replace hY := hY.below hbW
  obtain ⟨p1, p2, p3, _⟩ := B1.cells
  obtain ⟨p4, p5, p6, _⟩ := B2.cells
  go_region_held3 (fun u => u.cell? ⟨w.heap.size, 0, none⟩ = some (.bool n) ∧ u.cell? ⟨w.heap.size, 1, none⟩ = some (.slice a xs.length c) ∧ u.cell? ⟨w.heap.size, 2, none⟩ = some (.slice a' ys.length c') ∧ u.cell? ⟨w.heap.size + 1, 0, none⟩ = some (.bool m) ∧ u.cell? ⟨w.heap.size + 1, 1, none⟩ = some (.slice b ps.length d) ∧ u.cell? ⟨w.heap.size + 1, 2, none⟩ = some (.slice b' qs.length d')) (first | (go_keep; done) | (refine ⟨(cell_set3 (by omega)).trans p1, (cell_set3 (by omega)).trans p2, (cell_set3 (by omega)).trans p3, (cell_set3 (by omega)).trans p4, (cell_set3 (by omega)).trans p5, (cell_set3 (by omega)).trans p6⟩))
    (first
      | (go_at_call 80
         refine (sopp_any l r _ _ (hY.below Below.drew1) ?_ ?_).mono ?_
         · omega
         · omega
         rintro e u1 ⟨v1, rfl, hF1, hb1⟩
         replace hb1 : Below W.heap.size W u1 := Below.drew1.trans hb1
         replace hX := hX.below hb1
         replace B1 := B1.below hb1
         replace B2 := B2.below hb1
         replace B3 := B3.below hb1
         replace hbW : Below w.heap.size w u1 := hbW.trans (hb1.mono hbW.size)
         clear hb1 hY p1 p2 p3 p4 p5 p6
         obtain ⟨p1, p2, p3, _⟩ := B1.cells
         obtain ⟨p4, p5, p6, _⟩ := B2.cells)
      | (go_at_call 53
         refine (sadd_any k l q (-r) _ _ _ hX hF1.ct hk hl hk2 hl2).mono ?_
         rintro e u2 ⟨v2, rfl, hF, hb2⟩
         replace B1 := B1.below hb2
         replace B2 := B2.below hb2
         replace B3 := B3.below hb2
         replace hbW : Below w.heap.size w u2 := hbW.trans (hb2.mono hbW.size)
         clear hb2 hX hF1 p1 p2 p3 p4 p5 p6
         obtain ⟨p1, p2, p3, _⟩ := B1.cells
         obtain ⟨p4, p5, p6, _⟩ := B2.cells
         obtain ⟨q1, q2, q3, q4, q5, q6⟩ := B3.cells
         have hs := B3.lt
         obtain ⟨n3, x3, y3, ⟨a3, c3, b3, d3, rfl, hx3, hy3⟩, hF⟩ := hF))
  rw [← Rat.sub_eq_add_neg] at hF
  go_wp2
  exact ret3 (v := .agg #[.bool n3, .slice a3 x3.length c3, .slice b3 y3.length d3]) B3 rfl (fun U hU => by obtain ⟨r1, r2, r3, _⟩ := hU.cells; simp [results, Tryz.results52, go_sem, r1, r2, r3]) (fun U hU hK => ⟨_, rfl, ⟨_, _, _, ⟨_, _, _, _, rfl, hK _ _ _ hx3, hK _ _ _ hy3⟩, hF⟩, hU _ _ hbW (by omega)⟩)

end Go.Proofs.YtdpafdeoepbhaaaGreat

namespace Go.Proofs.YtdpafdeoepbhaaaGreat
open Go.RowKit Classical
set_option linter.unusedSimpArgs false
set_option linter.unusedVariables false

set_option maxHeartbeats 1000000 in
set_option maxRecDepth 100000 in
theorem ssign_any (k : Nat) (q : Rat) (v : Value) (w : World) (h : Ct w v k q) (hk : k ≤ 1000000) (hk2 : 2 ≤ k) :
    Calls Tryz.prog 70 #[v] w fun e w' => e = .returned (.int .i64 (sgnQ q)) ∧ Below w.heap.size w w' := by
  have hX := h
  obtain ⟨n, xs, ys, ⟨a, c, a', c', rfl, _, _⟩, _⟩ := h
  go_enter Tryz.func70, Tryz.ntmps70
  go_wp2_with fail
  refine (sfair_any k q _ _ (hX.below (al1 _)) (by omega) hk2).mono ?_
  rintro e u1 ⟨v1, rfl, hF1, hb1⟩
  obtain ⟨B1, hbW⟩ := after1 hb1
  clear hb1 hX
  obtain ⟨p1, p2, p3, p4, p5, p6⟩ := B1.cells
  have hs1 := B1.lt
  obtain ⟨n1, x1, y1, ⟨a1, c1, b1, d1, rfl, hx1, hy1⟩, f1, l1, l1', e1⟩ := hF1
  have e := sgn_lo (n := n1) f1.1 f1.den
  rw [e1] at e
  have k1 : x1.length ≤ 1000000 := by omega
  have hbF := below_set3 hbW (Nat.le_refl _) (.bool n1) (.slice a1 x1.length c1) (.slice b1 y1.length d1)
  by_cases h0 : x1.length = 0
  · rw [if_pos h0] at e
    rw [h0] at hbF ⊢
    go_wp2
    go_ret
    exact ⟨ret_i64 e.symm, hbF⟩
  · rw [if_neg h0] at e
    have g1 : ((x1.length : Int) == 0) = false := beq_eq_false_iff_ne.2 (by omega)
    cases n1 with
    | true =>
      simp at e
      go_wp2
      go_ret
      exact ⟨ret_i64 e.symm, hbF⟩
    | false =>
      simp at e
      go_wp2
      go_ret
      exact ⟨ret_i64 e.symm, hbF⟩

set_option maxHeartbeats 1000000 in
set_option maxRecDepth 100000 in
theorem scmp_any (k l : Nat) (q r : Rat) (v v' : Value) (w : World) (h : Ct w v k q) (h' : Ct w v' l r) (hk : k ≤ 100000) (hl : l ≤ 100000) (hk2 : 2 ≤ k) (hl2 : 2 ≤ l) :
    Calls Tryz.prog 32 #[v, v'] w fun e w' => e = .returned (.int .i64 (sgnQ (q - r))) ∧ Below w.heap.size w w' := by
  have hX := h
  have hY := h'
  obtain ⟨n, xs, ys, ⟨a, c, a', c', rfl, _, _⟩, hz1⟩ := h
  obtain ⟨m, ps, qs, ⟨b, d, b', d', rfl, _, _⟩, hz2⟩ := h'
  clear hz1 hz2
  go_enter Tryz.func32, Tryz.ntmps32
  go_wp2_with fail
  refine (ssub_any k l q r _ _ _ (hX.below (al2 _ _)) (hY.below (al2 _ _)) (by omega) (by omega) hk2 hl2).mono ?_
  rintro e u1 ⟨v1, rfl, hF1, hb1⟩
  obtain ⟨B1, B2, hbW⟩ := after2 hb1
  clear hb1
  go_wp2_with fail
  refine (ssign_any (k + l + 1) _ _ _ hF1.ct (by omega) (by omega)).mono ?_
  rintro e u2 ⟨rfl, hb2⟩
  replace hbW : Below w.heap.size w u2 := hbW.trans (hb2.mono hbW.size)
  go_wp2
  go_ret
  exact ⟨rfl, hbW⟩

end Go.Proofs.YtdpafdeoepbhaaaGreat
