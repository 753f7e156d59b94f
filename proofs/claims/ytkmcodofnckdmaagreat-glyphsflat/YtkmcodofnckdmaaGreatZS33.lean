/-
  foundryref02.sum, Mul, Add, Quo, Opposite, Sub: the walks.
  foundryref02.sum, Add, Quo, Opposite, Sub: the walks.
  foundryref02.Sign, Cmp: the walks.
  foundryref02.Floor, Round, Text: the walks.
  foundryref03.Coordinate: the walk.
  foundryref03.Coordinate, Of14, Of16, Clamp, Field, To14, near, Between: the walks.
-/
import Derived.Test.YtkmcodofnckdmaaGreatZS32
import Derived.Test.YtkmcodofnckdmaaGreatZS6
import Derived.Test.YtkmcodofnckdmaaGreatZS31
import Derived.Deep.RegionHeld3
import Derived.Test.YtkmcodofnckdmaaGreatZS5
set_option maxHeartbeats 4000000
set_option maxRecDepth 100000
set_option linter.unusedSimpArgs false
set_option linter.unusedVariables false
namespace Go.Proofs.YtkmcodofnckdmaaGreat
open Go.RowKit
theorem smul_any (k l : Nat) (q r : Rat) (v v' : Value) (w : World) (h : Ct w v k q) (h' : Ct w v' l r) (hk : k ≤ 1000000) (hl : l ≤ 1000000) (hk2 : 2 ≤ k) (hl2 : 2 ≤ l) :
    Calls Tryz.prog 125 #[v, v'] w fun e w' => ∃ v', e = .returned v' ∧ Fr w' v' (k + l) (q * r) ∧ Below w.heap.size w w' := by
 have hX := h
 have hY := h'
 obtain ⟨n, xs, ys, ⟨a, c, a', c', rfl, _, _⟩, _⟩ := h; obtain ⟨m, ps, qs, ⟨b, d, b', d', rfl, _, _⟩, _⟩ := h'
 go_enter Tryz.func125, Tryz.ntmps125
 go_wp2_with fail
 refine (sfair_any k q _ _ (hX.below (al3 _ _ _)) (by omega) hk2).mono ?_
 rintro e u1 ⟨v1, rfl, hF1, hb1⟩
 replace hY := (hY.below (al3 _ _ _)).below hb1
 obtain ⟨B1, B2, B3, hbW⟩ := after3 hb1
 clear hb1 hX; obtain ⟨p1, p2, p3, p4, p5, p6⟩ := B1.cells; obtain ⟨q1, q2, q3, _⟩ := B2.cells
 have hs1 := B1.lt
 obtain ⟨n1, x1, y1, ⟨a1, c1, b1, d1, rfl, hx1, hy1⟩, f1, l1, l1', e1⟩ := hF1
 go_wp2_with fail
 obtain ⟨U, hU, B1', hbU, hK, ho⟩ := set3_world B1 (.bool n1) (.slice a1 x1.length c1) (.slice b1 y1.length d1)
 rw [← hU]
 replace B2 := B2.other ho (by omega)
 replace B3 := B3.other ho (by omega)
 replace hbW := hbU _ _ hbW (by omega)
 replace hx1 := hK _ _ _ hx1
 replace hy1 := hK _ _ _ hy1
 replace hY := hY.keep hK
 clear hU hbU hK ho B1 p1 p2 p3 p4 p5 p6 q1 q2 q3 hs1
 refine (sfair_any l r _ _ hY (by omega) hl2).mono ?_
 rintro e u2 ⟨v2, rfl, hF2, hb2⟩; replace hx1 := hx1.below hb2; replace hy1 := hy1.below hb2
 replace B1' := B1'.below hb2
 replace B2 := B2.below hb2; replace B3 := B3.below hb2
 replace hbW : Below w.heap.size w u2 := hbW.trans (hb2.mono hbW.size)
 clear hb2 hY; obtain ⟨n2, x2, y2, ⟨a2, c2, b2, d2, rfl, hx2, hy2⟩, f2, l2, l2', e2⟩ := hF2
 have y10 := f1.den
 have y20 := f2.den
 obtain ⟨p4, p5, p6, p7, p8, p9⟩ := B2.cells
 have hs2 := B2.lt
 go_wp2_with fail
 obtain ⟨U, hU, B2', hbU, hK, ho⟩ := set3_world B2 (.bool n2) (.slice a2 x2.length c2) (.slice b2 y2.length d2)
 rw [← hU]
 replace B1' := B1'.other ho (by omega)
 replace B3 := B3.other ho (by omega)
 replace hbW := hbU _ _ hbW (by omega)
 replace hx1 := hK _ _ _ hx1
 replace hy1 := hK _ _ _ hy1
 replace hx2 := hK _ _ _ hx2
 replace hy2 := hK _ _ _ hy2
 clear hU hbU hK ho B2 p4 p5 p6 p7 p8 p9 hs2; obtain ⟨p1, p2, p3, _⟩ := B1'.cells; obtain ⟨p4, p5, p6, _⟩ := B2'.cells
 have lx1 := hx1.lim
 have ly1 := hy1.lim
 have lx2 := hx2.lim
 have ly2 := hy2.lim
 have st : Stg 0 := rfl
 go_region_held3 (fun u => u.cell? ⟨w.heap.size, 0, none⟩ = some (.bool n1) ∧ u.cell? ⟨w.heap.size, 1, none⟩ = some (.slice a1 x1.length c1) ∧ u.cell? ⟨w.heap.size, 2, none⟩ = some (.slice b1 y1.length d1) ∧ u.cell? ⟨w.heap.size + 1, 0, none⟩ = some (.bool n2) ∧ u.cell? ⟨w.heap.size + 1, 1, none⟩ = some (.slice a2 x2.length c2) ∧ u.cell? ⟨w.heap.size + 1, 2, none⟩ = some (.slice b2 y2.length d2)) (first | (go_keep; done) | (refine ⟨(cell_set3 (by omega)).trans p1, (cell_set3 (by omega)).trans p2, (cell_set3 (by omega)).trans p3, (cell_set3 (by omega)).trans p4, (cell_set3 (by omega)).trans p5, (cell_set3 (by omega)).trans p6⟩))
  (first
   | (go_at_call 173
      have _sg : Stg 0 := st
      refine (rmul_any _ _ _ _ _ _ _ (hx1.below Below.drew1) (hx2.below Below.drew1) ?_ ?_).mono ?_
      · omega
      · omega
      rintro e um1 ⟨am1, cm1, zs1, rfl, hvm1, htm1, hrm1, hbm1⟩
      replace hbm1 : Below U.heap.size U um1 := Below.drew1.trans hbm1
      replace hx1 := hx1.below hbm1; replace hy1 := hy1.below hbm1; replace hx2 := hx2.below hbm1; replace hy2 := hy2.below hbm1
      replace B1' := B1'.below hbm1
      replace B2' := B2'.below hbm1
      replace B3 := B3.below hbm1
      replace hbW : Below w.heap.size w um1 := hbW.trans (hbm1.mono hbW.size)
      have rm1 := hrm1.rd
      clear hrm1 hbm1 st _sg
      have st : Stg 1 := rfl
      clear p1 p2 p3 p4 p5 p6; obtain ⟨p1, p2, p3, _⟩ := B1'.cells
      obtain ⟨p4, p5, p6, _⟩ := B2'.cells)
   | (go_at_call 173
      have _sg : Stg 1 := st
      refine (rmul_any _ _ _ _ _ _ _ hy1 hy2 ?_ ?_).mono ?_
      · omega
      · omega
      rintro e um2 ⟨am2, cm2, zs2, rfl, hvm2, htm2, hrm2, hbm2⟩; replace hx1 := hx1.below hbm2; replace hy1 := hy1.below hbm2; replace hx2 := hx2.below hbm2; replace hy2 := hy2.below hbm2
      replace B1' := B1'.below hbm2
      replace B2' := B2'.below hbm2
      replace B3 := B3.below hbm2; replace rm1 := rm1.below hbm2
      replace hbW : Below w.heap.size w um2 := hbW.trans (hbm2.mono hbW.size)
      have rm2 := hrm2.rd
      clear hrm2 hbm2 st _sg
      have st : Stg 2 := rfl
      clear p1 p2 p3 p4 p5 p6; obtain ⟨p1, p2, p3, _⟩ := B1'.cells
      obtain ⟨p4, p5, p6, _⟩ := B2'.cells)
   | (go_at_call 174
      have _sg : Stg 2 := st
      refine (slow_any (k + l) _ _ _ _ _ _ _ _ rm1 rm2 (by rw [hvm2]; exact Nat.mul_ne_zero y10 y20) (prod_len lx1 lx2 htm1 l1 l2 hvm1) (prod_len ly1 ly2 htm2 l1' l2' hvm2) ?_).mono ?_
      · omega
      rintro e ul ⟨vl, rfl, hF, hbl⟩; replace hx1 := hx1.below hbl; replace hy1 := hy1.below hbl; replace hx2 := hx2.below hbl; replace hy2 := hy2.below hbl
      replace B1' := B1'.below hbl
      replace B2' := B2'.below hbl
      replace B3 := B3.below hbl
      replace hbW : Below w.heap.size w ul := hbW.trans (hbl.mono hbW.size)
      clear hbl st _sg
      have st : Stg 3 := rfl
      clear p1 p2 p3 p4 p5 p6; obtain ⟨p1, p2, p3, _⟩ := B1'.cells; obtain ⟨p4, p5, p6, _⟩ := B2'.cells; obtain ⟨q1, q2, q3, q4, q5, q6⟩ := B3.cells
      have hs := B3.lt
      obtain ⟨n3, x3, y3, ⟨a3, c3, b3, d3, rfl, hx3, hy3⟩, hF⟩ := hF))
 rw [qv_times hvm1 hvm2, e1, e2] at hF; go_wp2
 exact ret3 (v := .agg #[.bool n3, .slice a3 x3.length c3, .slice b3 y3.length d3]) B3 rfl (fun U hU => by obtain ⟨r1, r2, r3, _⟩ := hU.cells; simp [results, Tryz.results125, go_sem, r1, r2, r3]) (fun U hU hK => ⟨_, rfl, ⟨_, _, _, ⟨_, _, _, _, rfl, hK _ _ _ hx3, hK _ _ _ hy3⟩, hF⟩, hU _ _ hbW (by omega)⟩)
open Classical
theorem sg_add_same (n : Bool) (a b : Nat) : sg n (a + b) = sg n a + sg n b := by cases n <;> simp [sg]; omega
theorem sg_sub_more {n m : Bool} (h : n ≠ m) {a b : Nat} (hl : ¬ a < b) : sg n (a - b) = sg n a + sg m b := by
 cases n <;> cases m <;> simp [sg] at h ⊢ <;> omega
theorem sg_sub_less {n m : Bool} (h : n ≠ m) {a b : Nat} (hl : a < b) : sg m (b - a) = sg n a + sg m b := by
 cases n <;> cases m <;> simp [sg] at h ⊢ <;> omega
theorem ssum_any (k : Nat) (n m : Bool) (a : Option Addr) (c : Nat) (xs : List Nat) (b : Option Addr) (d : Nat) (ps : List Nat) (w : World) (hx : Rd w a c xs) (hp : Rd w b d ps) (lx : xs.length ≤ k) (lp : ps.length ≤ k) (hk : k ≤ 10000000) :
    Calls Tryz.prog 172 #[.bool n, .slice a xs.length c, .bool m, .slice b ps.length d] w fun e w' => ∃ s a' c' zs, e = .returned (.tuple #[.bool s, .slice a' zs.length c']) ∧ sg s (V zs) = sg n (V xs) + sg m (V ps) ∧ Tr zs ∧ zs.length ≤ k + 1 ∧ Rd w' a' c' zs ∧ Below w.heap.size w w' := by
 have l1 := hx.lim
 have l2 := hp.lim
 by_cases hnm : n = m
 · subst hnm
   have e0 : (n == n) = true := by simp
   go_enter Tryz.func172, Tryz.ntmps172
   go_wp2_with fail
   refine (radd_any _ _ _ _ _ _ _ hx hp (by omega) (by omega)).mono ?_
   rintro e u ⟨a1, c1, zs, rfl, hv, ht, hr, hb⟩; go_wp2
   go_ret2
   exact ⟨_, _, _, _, rfl, by rw [hv]; exact sg_add_same _ _ _, ht, sum_len l1 l2 ht lx lp (by omega), hr.rd, hb⟩
 · have e0 : (n == m) = false := by simpa using hnm
   go_enter Tryz.func172, Tryz.ntmps172
   go_wp2_with fail
   refine (rcmp_any _ _ _ _ _ _ _ hx hp).mono ?_
   rintro e u ⟨rfl, rfl⟩
   by_cases hlt : V xs < V ps
   · have ec : cmpN (V xs) (V ps) = -1 := by unfold cmpN; rw [if_pos hlt]
     rw [ec]; clear ec
     go_wp2_with fail
     refine (rsub_any _ _ _ _ _ _ _ hp hx (by omega) (by omega)).mono ?_
     rintro e u ⟨a1, c1, zs, rfl, hv, ht, hr, hb⟩; go_wp2
     go_ret2
     exact ⟨_, _, _, _, rfl, by rw [hv]; exact sg_sub_less hnm hlt, ht, sum_len l1 l2 ht lx lp (by omega), hr.rd, hb⟩
   · have ec : 0 ≤ cmpN (V xs) (V ps) := by unfold cmpN; rw [if_neg hlt]; split <;> decide
     generalize cmpN (V xs) (V ps) = cc at ec ⊢
     go_wp2_with fail
     refine (rsub_any _ _ _ _ _ _ _ hx hp (by omega) (by omega)).mono ?_
     rintro e u ⟨a1, c1, zs, rfl, hv, ht, hr, hb⟩; go_wp2
     go_ret2
     exact ⟨_, _, _, _, rfl, by rw [hv]; exact sg_sub_more hnm hlt, ht, sum_len l1 l2 ht lx lp (by omega), hr.rd, hb⟩
theorem sg_mul_nat (n : Bool) (a b : Nat) : sg n (a * b) = sg n a * (b : Int) := by cases n <;> simp [sg]; grind
theorem qv_sum {s n m : Bool} {zs ts xs ys ps qs : List Nat} (hy : V ys ≠ 0) (hq : V qs ≠ 0) (ht : V ts = V ys * V qs) (h : sg s (V zs) = sg n (V xs * V qs) + sg m (V ps * V ys)) : qv s zs ts = qv n xs ys + qv m ps qs := by
 unfold qv
 rw [Rat.mkRat_add_mkRat _ _ hy hq, ht, h, sg_mul_nat, sg_mul_nat]
theorem sadd_any (k l : Nat) (q r : Rat) (v v' : Value) (w : World) (h : Ct w v k q) (h' : Ct w v' l r) (hk : k ≤ 1000000) (hl : l ≤ 1000000) (hk2 : 2 ≤ k) (hl2 : 2 ≤ l) :
    Calls Tryz.prog 115 #[v, v'] w fun e w' => ∃ v', e = .returned v' ∧ Fr w' v' (k + l + 1) (q + r) ∧ Below w.heap.size w w' := by
 have hX := h
 have hY := h'
 obtain ⟨n, xs, ys, ⟨a, c, a', c', rfl, _, _⟩, _⟩ := h; obtain ⟨m, ps, qs, ⟨b, d, b', d', rfl, _, _⟩, _⟩ := h'
 go_enter Tryz.func115, Tryz.ntmps115
 go_wp2_with fail
 refine (sfair_any k q _ _ (hX.below (al3 _ _ _)) (by omega) hk2).mono ?_
 rintro e u1 ⟨v1, rfl, hF1, hb1⟩
 replace hY := (hY.below (al3 _ _ _)).below hb1
 obtain ⟨B1, B2, B3, hbW⟩ := after3 hb1
 clear hb1 hX; obtain ⟨p1, p2, p3, p4, p5, p6⟩ := B1.cells; obtain ⟨q1, q2, q3, _⟩ := B2.cells
 have hs1 := B1.lt
 obtain ⟨n1, x1, y1, ⟨a1, c1, b1, d1, rfl, hx1, hy1⟩, f1, l1, l1', e1⟩ := hF1
 go_wp2_with fail
 obtain ⟨U, hU, B1', hbU, hK, ho⟩ := set3_world B1 (.bool n1) (.slice a1 x1.length c1) (.slice b1 y1.length d1)
 rw [← hU]
 replace B2 := B2.other ho (by omega)
 replace B3 := B3.other ho (by omega)
 replace hbW := hbU _ _ hbW (by omega)
 replace hx1 := hK _ _ _ hx1
 replace hy1 := hK _ _ _ hy1
 replace hY := hY.keep hK
 clear hU hbU hK ho B1 p1 p2 p3 p4 p5 p6 q1 q2 q3 hs1
 refine (sfair_any l r _ _ hY (by omega) hl2).mono ?_
 rintro e u2 ⟨v2, rfl, hF2, hb2⟩; replace hx1 := hx1.below hb2; replace hy1 := hy1.below hb2
 replace B1' := B1'.below hb2
 replace B2 := B2.below hb2; replace B3 := B3.below hb2
 replace hbW : Below w.heap.size w u2 := hbW.trans (hb2.mono hbW.size)
 clear hb2 hY; obtain ⟨n2, x2, y2, ⟨a2, c2, b2, d2, rfl, hx2, hy2⟩, f2, l2, l2', e2⟩ := hF2
 have y10 := f1.den
 have y20 := f2.den
 obtain ⟨p4, p5, p6, p7, p8, p9⟩ := B2.cells
 have hs2 := B2.lt
 go_wp2_with fail
 obtain ⟨U, hU, B2', hbU, hK, ho⟩ := set3_world B2 (.bool n2) (.slice a2 x2.length c2) (.slice b2 y2.length d2)
 rw [← hU]
 replace B1' := B1'.other ho (by omega)
 replace B3 := B3.other ho (by omega)
 replace hbW := hbU _ _ hbW (by omega)
 replace hx1 := hK _ _ _ hx1
 replace hy1 := hK _ _ _ hy1
 replace hx2 := hK _ _ _ hx2
 replace hy2 := hK _ _ _ hy2
 clear hU hbU hK ho B2 p4 p5 p6 p7 p8 p9 hs2; obtain ⟨p1, p2, p3, _⟩ := B1'.cells; obtain ⟨p4, p5, p6, _⟩ := B2'.cells
 have lx1 := hx1.lim
 have ly1 := hy1.lim
 have lx2 := hx2.lim
 have ly2 := hy2.lim
 have st : Stg 0 := rfl
 go_region_held3 (fun u => u.cell? ⟨w.heap.size, 0, none⟩ = some (.bool n1) ∧ u.cell? ⟨w.heap.size, 1, none⟩ = some (.slice a1 x1.length c1) ∧ u.cell? ⟨w.heap.size, 2, none⟩ = some (.slice b1 y1.length d1) ∧ u.cell? ⟨w.heap.size + 1, 0, none⟩ = some (.bool n2) ∧ u.cell? ⟨w.heap.size + 1, 1, none⟩ = some (.slice a2 x2.length c2) ∧ u.cell? ⟨w.heap.size + 1, 2, none⟩ = some (.slice b2 y2.length d2)) (first | (go_keep; done) | (refine ⟨(cell_set3 (by omega)).trans p1, (cell_set3 (by omega)).trans p2, (cell_set3 (by omega)).trans p3, (cell_set3 (by omega)).trans p4, (cell_set3 (by omega)).trans p5, (cell_set3 (by omega)).trans p6⟩))
  (first
   | (go_at_call 173
      have _sg : Stg 0 := st
      refine (rmul_any _ _ _ _ _ _ _ (hx1.below Below.drew1) (hy2.below Below.drew1) ?_ ?_).mono ?_
      · omega
      · omega
      rintro e um1 ⟨am1, cm1, zs1, rfl, hvm1, htm1, hrm1, hbm1⟩
      replace hbm1 : Below U.heap.size U um1 := Below.drew1.trans hbm1
      replace hx1 := hx1.below hbm1; replace hy1 := hy1.below hbm1; replace hx2 := hx2.below hbm1; replace hy2 := hy2.below hbm1
      replace B1' := B1'.below hbm1
      replace B2' := B2'.below hbm1
      replace B3 := B3.below hbm1
      replace hbW : Below w.heap.size w um1 := hbW.trans (hbm1.mono hbW.size)
      have rm1 := hrm1.rd
      clear hrm1 hbm1 st _sg
      have st : Stg 1 := rfl
      clear p1 p2 p3 p4 p5 p6; obtain ⟨p1, p2, p3, _⟩ := B1'.cells
      obtain ⟨p4, p5, p6, _⟩ := B2'.cells)
   | (go_at_call 173
      have _sg : Stg 1 := st
      refine (rmul_any _ _ _ _ _ _ _ hx2 hy1 ?_ ?_).mono ?_
      · omega
      · omega
      rintro e um2 ⟨am2, cm2, zs2, rfl, hvm2, htm2, hrm2, hbm2⟩; replace hx1 := hx1.below hbm2; replace hy1 := hy1.below hbm2; replace hx2 := hx2.below hbm2; replace hy2 := hy2.below hbm2
      replace B1' := B1'.below hbm2
      replace B2' := B2'.below hbm2
      replace B3 := B3.below hbm2; replace rm1 := rm1.below hbm2
      replace hbW : Below w.heap.size w um2 := hbW.trans (hbm2.mono hbW.size)
      have rm2 := hrm2.rd
      clear hrm2 hbm2 st _sg
      have st : Stg 2 := rfl
      clear p1 p2 p3 p4 p5 p6; obtain ⟨p1, p2, p3, _⟩ := B1'.cells
      obtain ⟨p4, p5, p6, _⟩ := B2'.cells)
   | (go_at_call 172
      have _sg : Stg 2 := st
      refine (ssum_any (k + l) _ _ _ _ _ _ _ _ _ rm1 rm2 (prod_len lx1 ly2 htm1 l1 l2' hvm1) ?_ ?_).mono ?_
      · have := prod_len lx2 ly1 htm2 l2 l1' hvm2
        omega
      · omega
      rintro e us ⟨s3, a7, c7, ss, rfl, hvs, hts, lss, rs, hbs⟩; replace hx1 := hx1.below hbs; replace hy1 := hy1.below hbs; replace hx2 := hx2.below hbs; replace hy2 := hy2.below hbs
      replace B1' := B1'.below hbs
      replace B2' := B2'.below hbs
      replace B3 := B3.below hbs
      replace hbW : Below w.heap.size w us := hbW.trans (hbs.mono hbW.size)
      clear hbs st _sg
      have st : Stg 3 := rfl
      clear p1 p2 p3 p4 p5 p6; obtain ⟨p1, p2, p3, _⟩ := B1'.cells
      obtain ⟨p4, p5, p6, _⟩ := B2'.cells))
 go_wp2_with fail
 refine (rmul_any _ _ _ _ _ _ _ hy1 hy2 (by omega) (by omega)).mono ?_
 rintro e u8 ⟨a8, c8, z8, rfl, hv8, ht8, hr8, hb8⟩; replace rs := rs.below hb8; replace B3 := B3.below hb8
 replace hbW : Below w.heap.size w u8 := hbW.trans (hb8.mono hbW.size)
 have r8 := hr8.rd
 have l8 := prod_len ly1 ly2 ht8 l1' l2' hv8
 clear hr8 hb8 p1 p2 p3 p4 p5 p6
 go_wp2_with fail
 refine (slow_any (k + l + 1) _ _ _ _ _ _ _ _ rs r8 (by rw [hv8]; exact Nat.mul_ne_zero y10 y20) lss (by omega) (by omega)).mono ?_
 rintro e u9 ⟨v9, rfl, hF, hb9⟩; replace B3 := B3.below hb9
 replace hbW : Below w.heap.size w u9 := hbW.trans (hb9.mono hbW.size)
 clear hb9; rw [hvm1, hvm2] at hvs; rw [qv_sum y10 y20 hv8 hvs, e1, e2] at hF; obtain ⟨q1, q2, q3, q4, q5, q6⟩ := B3.cells
 have hs := B3.lt
 obtain ⟨n3, x3, y3, ⟨a3, c3, b3, d3, rfl, hx3, hy3⟩, hF⟩ := hF; go_wp2
 exact ret3 (v := .agg #[.bool n3, .slice a3 x3.length c3, .slice b3 y3.length d3]) B3 rfl (fun U hU => by obtain ⟨r1, r2, r3, _⟩ := hU.cells; simp [results, Tryz.results115, go_sem, r1, r2, r3]) (fun U hU hK => ⟨_, rfl, ⟨_, _, _, ⟨_, _, _, _, rfl, hK _ _ _ hx3, hK _ _ _ hy3⟩, hF⟩, hU _ _ hbW (by omega)⟩)
theorem back_two {m : Nat} (h : m ≤ 9223372036854775808) : wrap64 (-(wrap64 (m : Int))) = -(m : Int) := by
 by_cases h9 : m = 9223372036854775808
 · subst h9; decide +kernel
 · rw [back_pos (by omega)]
   unfold wrap64
   omega
theorem sfloor_any (k : Nat) (q : Rat) (v : Value) (w : World) (h : Ct w v k q) (hk : k ≤ 1000000) (hk2 : 2 ≤ k) :
    Calls Tryz.prog 169 #[v] w fun e w' => e = .returned (.tuple #[.int .i64 (flN q.floor), .bool (flB q.floor)]) ∧ Below w.heap.size w w' := by
 have hX := h
 obtain ⟨n, xs, ys, ⟨a, c, a', c', rfl, _, _⟩, hz1⟩ := h; clear hz1
 go_enter Tryz.func169, Tryz.ntmps169
 go_wp2_with fail
 refine (sfair_any k q _ _ (hX.below (al1 _)) (by omega) hk2).mono ?_
 rintro e u1 ⟨v1, rfl, hF1, hb1⟩
 obtain ⟨B0, hbW⟩ := after1 hb1
 clear hb1 hX; obtain ⟨p1, p2, p3, p4, p5, p6⟩ := B0.cells
 have hs1 := B0.lt
 obtain ⟨n1, x1, y1, ⟨a1, c1, b1, d1, rfl, hx1, hy1⟩, f1, l1, l1', e1⟩ := hF1
 have y0 := f1.den
 go_wp2_with fail
 obtain ⟨U, hU, B1, hbU, hK, ho⟩ := set3_world B0 (.bool n1) (.slice a1 x1.length c1) (.slice b1 y1.length d1)
 rw [← hU]
 replace hbW := hbU _ _ hbW (by omega)
 replace hx1 := hK _ _ _ hx1
 replace hy1 := hK _ _ _ hy1
 clear hU hbU hK ho B0 p1 p2 p3 p4 p5 p6 hs1
 refine (rdiv_any _ _ _ _ _ _ _ hx1 hy1 (by omega) (by omega)).mono ?_
 rintro e u2 ⟨a2, c2, zs, a3, c3, rs, rfl, hv1, hv2, ht1, ht2, hr1, hr2, hb2⟩
 have lz : zs.length ≤ k := len_le_of_V ht1 (Nat.lt_of_le_of_lt (by rw [hv1]; exact Nat.div_le_self _ _) (V_len_le hx1.lim l1))
 have lr : rs.length ≤ k := len_le_of_V ht2 (Nat.lt_of_le_of_lt (by rw [hv2, remN_pos _ (by omega)]; exact Nat.mod_le _ _) (V_len_le hx1.lim l1))
 have rz := hr1.rd
 rw [remN_pos _ (by omega)] at hv2
 replace B1 := B1.below hb2
 replace hbW : Below w.heap.size w u2 := hbW.trans (hb2.mono hbW.size)
 clear hr1 hr2 hb2 hx1 hy1; obtain ⟨p1, p2, p3, _⟩ := B1.cells; subst e1
 cases n1 with
 | false =>
     have HF : Hid ((qv false x1 y1).floor = ((V zs : Nat) : Int)) := by show _ = _; rw [floor_pos y0, hv1]
     clear hv1 hv2
     go_wp2_with fail
     refine (rsmall_any _ _ _ _ rz (by omega)).mono ?_
     rintro e u7 ⟨rfl, hb7⟩; replace B1 := B1.below hb7
     replace hbW : Below w.heap.size w u7 := hbW.trans (hb7.mono hbW.size)
     clear hb7 p1 p2 p3; obtain ⟨p1, p2, p3, _⟩ := B1.cells
     generalize V zs = m at HF ⊢
     clear rz
     by_cases hm : m < 9223372036854775808
     · rw [smallN_lt (by omega), isSmall_lt (by omega)]
       have HM : Hid (m < 9223372036854775808) := hm
       obtain ⟨z, hz⟩ : ∃ z : Int, (m : Int) = z := ⟨_, rfl⟩
       have g1 : ¬ 9223372036854775808 < z := by omega
       have g2 : (z == 9223372036854775808) = false := beq_eq_false_iff_ne.2 (by omega)
       rw [hz]
       have HZ : Hid ((m : Int) = z) := hz
       clear hz hm; go_wp2
       go_ret2
       exact ⟨ret_two (by rw [HF.out, flN_pos, if_pos HM.out, ← HZ.out]; exact back_pos HM.out) (by rw [HF.out, flB_pos]; simp [HM.out]), hbW⟩
     · by_cases hm2 : m < 18446744073709551616
       · rw [smallN_lt hm2, isSmall_lt hm2]
         by_cases hm3 : m = 9223372036854775808
         · subst hm3
           go_wp2
           go_ret2
           exact ⟨ret_two (by rw [HF.out, flN_pos, if_neg (by decide)]) (by rw [HF.out, flB_pos]; simp), hbW⟩
         · have g1 : (9223372036854775808 : Int) < (m : Int) := by omega
           have HM : Hid (¬ m < 9223372036854775808) := hm
           clear hm hm2 hm3; go_wp2
           go_ret2
           exact ⟨ret_two (by rw [HF.out, flN_pos, if_neg HM.out]) (by rw [HF.out, flB_pos]; simp [HM.out]), hbW⟩
       · rw [smallN_ge hm2, isSmall_ge hm2]
         go_wp2
         go_ret2
         exact ⟨ret_two (by rw [HF.out, flN_pos, if_neg hm]) (by rw [HF.out, flB_pos]; simp [hm]), hbW⟩
 | true =>
  by_cases hrs : rs.length = 0
  · have hr0 : V rs = 0 := by rw [List.length_eq_zero_iff.1 hrs]; rfl
    have HF : Hid ((qv true x1 y1).floor = -((V zs : Nat) : Int)) := by show _ = _; rw [floor_neg y0, hv1, ← hv2, hr0]; simp
    have g0 : ¬ (0 : Int) < (rs.length : Int) := by omega
    clear hv1 hv2 hr0 hrs
    go_wp2_with fail
    refine (rsmall_any _ _ _ _ rz (by omega)).mono ?_
    rintro e u7 ⟨rfl, hb7⟩; replace B1 := B1.below hb7
    replace hbW : Below w.heap.size w u7 := hbW.trans (hb7.mono hbW.size)
    clear hb7 p1 p2 p3; obtain ⟨p1, p2, p3, _⟩ := B1.cells
    generalize V zs = m at HF ⊢
    clear rz
    by_cases hm : m ≤ 9223372036854775808
    · rw [smallN_lt (by omega), isSmall_lt (by omega)]
      have HM : Hid (m ≤ 9223372036854775808) := hm
      obtain ⟨z, hz⟩ : ∃ z : Int, (m : Int) = z := ⟨_, rfl⟩
      have g1 : ¬ 9223372036854775808 < z := by omega
      have HB : Hid (wrap64 (-(wrap64 z)) = -z) := by show _ = _; rw [← hz]; exact back_two hm
      rw [hz]
      have HZ : Hid ((m : Int) = z) := hz
      clear hz hm
      by_cases hz9 : z = 9223372036854775808
      · have g2 : (z == 9223372036854775808) = true := beq_iff_eq.2 hz9
        clear hz9; go_wp2
        go_ret2
        exact ⟨ret_two (by rw [HF.out, flN_neg, if_pos HM.out, HZ.out]; exact HB.out) (by rw [HF.out, flB_neg]; simp [HM.out]), hbW⟩
      · have g2 : (z == 9223372036854775808) = false := beq_eq_false_iff_ne.2 hz9
        clear hz9; go_wp2
        go_ret2
        exact ⟨ret_two (by rw [HF.out, flN_neg, if_pos HM.out, HZ.out]; exact HB.out) (by rw [HF.out, flB_neg]; simp [HM.out]), hbW⟩
    · by_cases hm2 : m < 18446744073709551616
      · rw [smallN_lt hm2, isSmall_lt hm2]
        have g1 : (9223372036854775808 : Int) < (m : Int) := by omega
        have HM : Hid (¬ m ≤ 9223372036854775808) := hm
        clear hm hm2; go_wp2
        go_ret2
        exact ⟨ret_two (by rw [HF.out, flN_neg, if_neg HM.out]) (by rw [HF.out, flB_neg]; simp [HM.out]), hbW⟩
      · rw [smallN_ge hm2, isSmall_ge hm2]
        go_wp2
        go_ret2
        exact ⟨ret_two (by rw [HF.out, flN_neg, if_neg hm]) (by rw [HF.out, flB_neg]; simp [hm]), hbW⟩
  · have hr0 : 0 < V rs := by
      have := V_ne_of ht2 fun h => hrs (by rw [h]; rfl)
      omega
    have g0 : (0 : Int) < (rs.length : Int) := by omega
    go_wp2_with fail
    refine (sone_any _).mono ?_
    rintro e u3 ⟨a4, c4, os, rfl, ho1, hto, ro, hb3⟩; replace rz := rz.below hb3; replace B1 := B1.below hb3
    replace hbW : Below w.heap.size w u3 := hbW.trans (hb3.mono hbW.size)
    have lo := len_two hto (by omega)
    clear hb3 p1 p2 p3
    go_wp2_with fail
    refine (radd_any _ _ _ _ _ _ _ rz ro (by omega) (by omega)).mono ?_
    rintro e u4 ⟨a5, c5, ws, rfl, hv4, ht4, hr4, hb4⟩
    have rw4 := hr4.rd
    replace B1 := B1.below hb4
    replace hbW : Below w.heap.size w u4 := hbW.trans (hb4.mono hbW.size)
    have lw : ws.length ≤ k + 1 := sum_len rz.lim ro.lim ht4 lz (by omega) (by omega)
    have HF : Hid ((qv true x1 y1).floor = -((V ws : Nat) : Int)) := by show _ = _; rw [floor_neg y0, hv4, hv1, ho1, ← hv2, if_pos hr0]
    clear hv1 hv2 hr0 hr4 hb4 rz ro hv4 ho1 hrs; obtain ⟨p1, p2, p3, _⟩ := B1.cells
    go_wp2_with fail
    refine (rsmall_any _ _ _ _ rw4 (by omega)).mono ?_
    rintro e u7 ⟨rfl, hb7⟩; replace B1 := B1.below hb7
    replace hbW : Below w.heap.size w u7 := hbW.trans (hb7.mono hbW.size)
    clear hb7 p1 p2 p3; obtain ⟨p1, p2, p3, _⟩ := B1.cells
    generalize V ws = m at HF ⊢
    clear rw4
    by_cases hm : m ≤ 9223372036854775808
    · rw [smallN_lt (by omega), isSmall_lt (by omega)]
      have HM : Hid (m ≤ 9223372036854775808) := hm
      obtain ⟨z, hz⟩ : ∃ z : Int, (m : Int) = z := ⟨_, rfl⟩
      have g1 : ¬ 9223372036854775808 < z := by omega
      have HB : Hid (wrap64 (-(wrap64 z)) = -z) := by show _ = _; rw [← hz]; exact back_two hm
      rw [hz]
      have HZ : Hid ((m : Int) = z) := hz
      clear hz hm
      by_cases hz9 : z = 9223372036854775808
      · have g2 : (z == 9223372036854775808) = true := beq_iff_eq.2 hz9
        clear hz9; go_wp2
        go_ret2
        exact ⟨ret_two (by rw [HF.out, flN_neg, if_pos HM.out, HZ.out]; exact HB.out) (by rw [HF.out, flB_neg]; simp [HM.out]), hbW⟩
      · have g2 : (z == 9223372036854775808) = false := beq_eq_false_iff_ne.2 hz9
        clear hz9; go_wp2
        go_ret2
        exact ⟨ret_two (by rw [HF.out, flN_neg, if_pos HM.out, HZ.out]; exact HB.out) (by rw [HF.out, flB_neg]; simp [HM.out]), hbW⟩
    · by_cases hm2 : m < 18446744073709551616
      · rw [smallN_lt hm2, isSmall_lt hm2]
        have g1 : (9223372036854775808 : Int) < (m : Int) := by omega
        have HM : Hid (¬ m ≤ 9223372036854775808) := hm
        clear hm hm2; go_wp2
        go_ret2
        exact ⟨ret_two (by rw [HF.out, flN_neg, if_neg HM.out]) (by rw [HF.out, flB_neg]; simp [HM.out]), hbW⟩
      · rw [smallN_ge hm2, isSmall_ge hm2]
        go_wp2
        go_ret2
        exact ⟨ret_two (by rw [HF.out, flN_neg, if_neg hm]) (by rw [HF.out, flB_neg]; simp [hm]), hbW⟩
theorem sround_any (k : Nat) (q : Rat) (v : Value) (w : World) (h : Ct w v k q) (hk : k ≤ 100000) (hk2 : 2 ≤ k) :
    Calls Tryz.prog 114 #[v] w fun e w' => e = .returned (.tuple #[.int .i64 (flN (q + 1 / 2).floor), .bool (flB (q + 1 / 2).floor)]) ∧ Below w.heap.size w w' := by
 have hX := h
 obtain ⟨n, xs, ys, ⟨a, c, a', c', rfl, _, _⟩, hz1⟩ := h; clear hz1
 go_enter Tryz.func114, Tryz.ntmps114
 go_wp2_with fail
 obtain ⟨W, hW, B1, hbW⟩ : ∃ W, W = w.alloc (.cells #[.bool n, .slice a xs.length c, .slice a' ys.length c'] 130) ∧ Box 130 W w.heap.size (.bool n) (.slice a xs.length c) (.slice a' ys.length c') ∧ Below w.heap.size w W := ⟨_, rfl, Box.new _ _ _ _ _, al1 _⟩
 rw [← hW]; clear hW; replace hX := hX.below hbW; obtain ⟨p1, p2, p3, _⟩ := B1.cells
 go_region_held3 (fun u => u.cell? ⟨w.heap.size, 0, none⟩ = some (.bool n) ∧ u.cell? ⟨w.heap.size, 1, none⟩ = some (.slice a xs.length c) ∧ u.cell? ⟨w.heap.size, 2, none⟩ = some (.slice a' ys.length c')) (go_keep)
  (first
   | (go_at_call 170
      refine (smake_any 1 2 _ (by decide) (by decide) (by decide) (by decide)).mono ?_
      rintro e u1 ⟨v1, rfl, hF1, hb1⟩
      replace hb1 : Below W.heap.size W u1 := Below.drew1.trans hb1
      have hH : Ct u1 v1 2 (1 / 2) := hF1.ct
      replace hX := hX.below hb1; replace B1 := B1.below hb1
      replace hbW : Below w.heap.size w u1 := hbW.trans (hb1.mono hbW.size)
      clear hb1 hF1 p1 p2 p3
      obtain ⟨p1, p2, p3, _⟩ := B1.cells)
   | (go_at_call 115
      refine (sadd_any k 2 q (1 / 2) _ _ _ hX hH ?_ (by decide) hk2 (by decide)).mono ?_
      · omega
      rintro e u2 ⟨v2, rfl, hF2, hb2⟩; replace B1 := B1.below hb2
      replace hbW : Below w.heap.size w u2 := hbW.trans (hb2.mono hbW.size)
      clear hb2 hX hH p1 p2 p3
      obtain ⟨p1, p2, p3, _⟩ := B1.cells)
   | (go_at_call 169
      refine (sfloor_any (k + 2 + 1) _ _ _ hF2.ct ?_ ?_).mono ?_
      · omega
      · omega
      rintro e u3 ⟨rfl, hb3⟩; replace B1 := B1.below hb3
      replace hbW : Below w.heap.size w u3 := hbW.trans (hb3.mono hbW.size)
      clear hb3 hF2 p1 p2 p3
      obtain ⟨p1, p2, p3, _⟩ := B1.cells))
 go_wp2
 go_ret2
 exact ⟨rfl, hbW⟩
theorem scoord_any (z : Int) (w : World) : Calls Tryz.prog 200 #[.int .i64 z] w fun e w' => e = .returned (.bool (crd z)) ∧ w = w' := by
 by_cases h1 : -16384 ≤ z
 · go_enter Tryz.func200, Tryz.ntmps200
   go_wp2
   go_ret
   exact ⟨ret_bool (by simp [crd, h1]), rfl⟩
 · go_enter Tryz.func200, Tryz.ntmps200
   go_wp2
   go_ret
   exact ⟨ret_bool (by simp [crd]; omega), rfl⟩
theorem snear_any (z : Int) (w : World) : Calls Tryz.prog 279 #[.int .i64 z] w fun e w' => e = .returned (.bool (nr z)) ∧ w = w' := by
 by_cases h1 : -1099511627776 ≤ z
 · go_enter Tryz.func279, Tryz.ntmps279
   go_wp2
   go_ret
   exact ⟨ret_bool (by simp [nr, h1]), rfl⟩
 · go_enter Tryz.func279, Tryz.ntmps279
   go_wp2
   go_ret
   exact ⟨ret_bool (by simp [nr]; omega), rfl⟩
theorem sfield_any (k : Nat) (q : Rat) (v : Value) (w : World) (h : Ct w v k q) (hk : k ≤ 100000) (hk2 : 2 ≤ k) :
    Calls Tryz.prog 69 #[v] w fun e w' => e = .returned (.tuple #[.int .i64 (fldN (q + 1 / 2).floor), .int .i64 (fldE (q + 1 / 2).floor)]) ∧ Below w.heap.size w w' := by
 have hX := h
 obtain ⟨n, xs, ys, ⟨a, c, a', c', rfl, _, _⟩, hz1⟩ := h; clear hz1
 obtain ⟨z, hz⟩ : ∃ z, (q + 1 / 2).floor = z := ⟨_, rfl⟩
 rw [hz]
 have HZ : Hid ((q + 1 / 2).floor = z) := hz
 clear hz
 have e34 : (-32768 ≤ z ∧ z ≤ 32767 ∧ fldN z = z ∧ fldE z = 0 ∧ flB z = true ∧ flN z = z) ∨ (¬ (-32768 ≤ z ∧ z ≤ 32767) ∧ fldN z = 0 ∧ fldE z = 4) := by
  by_cases h1 : -32768 ≤ z ∧ z ≤ 32767
  · have e1 : flB z = true := by unfold flB; exact decide_eq_true (by omega)
    exact .inl ⟨h1.1, h1.2, by unfold fldN; rw [if_pos h1], by unfold fldE; rw [if_pos h1], e1, by unfold flN; rw [if_pos e1]⟩
  · exact .inr ⟨h1, by unfold fldN; rw [if_neg h1], by unfold fldE; rw [if_neg h1]⟩
 rcases e34 with ⟨h1, h2, e3, e4, e1, e2⟩ | ⟨h1, e3, e4⟩
 · rw [e3, e4]
   have E1 : Hid (flB z = true ∧ flN z = z) := ⟨e1, e2⟩
   clear e1 e2 e3 e4
   go_enter Tryz.func69, Tryz.ntmps69
   go_wp2_with fail
   refine (sround_any k q _ _ (hX.below (al1 _)) hk hk2).mono ?_
   rintro e u1 ⟨rfl, hb1⟩
   obtain ⟨B1, hbW⟩ := after1 hb1
   clear hb1 hX; rw [HZ.out, E1.out.1, E1.out.2]; go_wp2
   go_ret2
   exact ⟨rfl, hbW⟩
 rw [e3, e4]; clear e3 e4
 by_cases h2 : flB z = true
 · have e2 : flN z = z := by unfold flN; rw [if_pos h2]
   have E1 : Hid (flB z = true ∧ flN z = z) := ⟨h2, e2⟩
   clear h2 e2
   rcases (show z < -32768 ∨ (-32768 ≤ z ∧ 32767 < z) by omega) with h3 | ⟨h3, h4⟩
   all_goals
    clear h1
    go_enter Tryz.func69, Tryz.ntmps69
    go_wp2_with fail
    refine (sround_any k q _ _ (hX.below (al1 _)) hk hk2).mono ?_
    rintro e u1 ⟨rfl, hb1⟩
    obtain ⟨B1, hbW⟩ := after1 hb1
    clear hb1 hX; rw [HZ.out, E1.out.1, E1.out.2]; go_wp2
    go_ret2
    exact ⟨rfl, hbW⟩
 · have e1 : flB z = false := by simpa using h2
   have E1 : Hid (flB z = false) := e1
   clear h2 e1 h1
   go_enter Tryz.func69, Tryz.ntmps69
   go_wp2_with fail
   refine (sround_any k q _ _ (hX.below (al1 _)) hk hk2).mono ?_
   rintro e u1 ⟨rfl, hb1⟩
   obtain ⟨B1, hbW⟩ := after1 hb1
   clear hb1 hX; rw [HZ.out, E1.out]
   generalize flN z = y
   go_wp2
   go_ret2
   exact ⟨rfl, hbW⟩
theorem sbetween_any (a b n d : Int) (w : World) (ha : -9223372036854775808 ≤ a ∧ a < 9223372036854775808) (hb : -9223372036854775808 ≤ b ∧ b < 9223372036854775808) (hn : -9223372036854775808 ≤ n ∧ n < 9223372036854775808) (hd : -9223372036854775808 ≤ d ∧ d < 9223372036854775808) :
    Calls Tryz.prog 268 #[.int .i64 a, .int .i64 b, .int .i64 n, .int .i64 d] w fun e w' => ∃ v', e = .returned v' ∧ Fr w' v' 7 (btw a b n d) ∧ Below w.heap.size w w' := by
 have zero : nr4 a b n d = false → ∀ u : World, Box 130 u w.heap.size (.bool false) (.slice none 0 0) (.slice none 0 0) → Below w.heap.size w u →
     Calls Tryz.prog 177 #[] u fun e w' => ∃ n' xs' ys' b1 d1 b2 d2, e = .returned (.agg #[.bool n', .slice b1 (List.length xs') d1, .slice b2 (List.length ys') d2]) ∧ Rd w' b1 d1 xs' ∧ Rd w' b2 d2 ys' ∧ (Fmd n' xs' ys' ∧ xs'.length ≤ 7 ∧ ys'.length ≤ 7 ∧ qv n' xs' ys' = btw a b n d) ∧ Box 130 w' w.heap.size (.bool false) (.slice none 0 0) (.slice none 0 0) ∧ Below w.heap.size w w' := by
  intro h4 u B1 hbW
  refine (szero_any u).mono ?_
  rintro e u1 ⟨v1, rfl, hF1, hb1⟩
  replace hF1 := (hF1.eq (r := btw a b n d) (by unfold btw; rw [h4]; rfl)).le (show 2 ≤ 7 by decide)
  obtain ⟨n', xs', ys', ⟨b, d, b', d', rfl, hx', hy'⟩, hF⟩ := hF1
  exact ⟨n', xs', ys', b, d, b', d', rfl, hx', hy', hF, B1.below hb1, hbW.trans (hb1.mono hbW.size)⟩
 obtain ⟨za, hza⟩ : ∃ z, nr a = z := ⟨_, rfl⟩
 obtain ⟨zb, hzb⟩ : ∃ z, nr b = z := ⟨_, rfl⟩
 obtain ⟨zn, hzn⟩ : ∃ z, nr n = z := ⟨_, rfl⟩
 obtain ⟨zd, hzd⟩ : ∃ z, nr d = z := ⟨_, rfl⟩
 have h4 : nr4 a b n d = (za && (zb && (zn && zd))) := by simp [nr4, hza, hzb, hzn, hzd]
 have N1 : Hid (nr a = za ∧ nr b = zb ∧ nr n = zn ∧ nr d = zd) := ⟨hza, hzb, hzn, hzd⟩
 have HZ : Hid (nr4 a b n d = false → ∀ u : World, Box 130 u w.heap.size (.bool false) (.slice none 0 0) (.slice none 0 0) → Below w.heap.size w u →
     Calls Tryz.prog 177 #[] u fun e w' => ∃ n' xs' ys' b1 d1 b2 d2, e = .returned (.agg #[.bool n', .slice b1 (List.length xs') d1, .slice b2 (List.length ys') d2]) ∧ Rd w' b1 d1 xs' ∧ Rd w' b2 d2 ys' ∧ (Fmd n' xs' ys' ∧ xs'.length ≤ 7 ∧ ys'.length ≤ 7 ∧ qv n' xs' ys' = btw a b n d) ∧ Box 130 w' w.heap.size (.bool false) (.slice none 0 0) (.slice none 0 0) ∧ Below w.heap.size w w') := zero
 clear zero hza hzb hzn hzd
 have H4 : Hid (nr4 a b n d = (za && (zb && (zn && zd)))) := h4
 clear h4
 by_cases hall : (za && (zb && (zn && zd))) = true
 · have h4 : nr4 a b n d = true := by rw [H4.out, hall]
   obtain ⟨ra, rb, rn, rd⟩ := nr4_all h4
   have HB : Hid (btw a b n d = (a : Rat) + ((b - a : Int) : Rat) * ((n : Rat) / (d : Rat))) := by
    show btw a b n d = _
    unfold btw
    rw [if_pos h4]
   obtain ⟨rfl, rfl, rfl, rfl⟩ : za = true ∧ zb = true ∧ zn = true ∧ zd = true := by simpa using hall
   clear h4 hall H4 HZ
   go_enter Tryz.func268, Tryz.ntmps268
   go_wp2_with fail
   refine (snear_any a _).mono ?_
   rintro e u ⟨rfl, rfl⟩; rw [N1.out.1]
   go_wp2_with fail
   refine (snear_any b _).mono ?_
   rintro e u ⟨rfl, rfl⟩; rw [N1.out.2.1]
   go_wp2_with fail
   refine (snear_any n _).mono ?_
   rintro e u ⟨rfl, rfl⟩; rw [N1.out.2.2.1]
   go_wp2_with fail
   refine (snear_any d _).mono ?_
   rintro e u ⟨rfl, rfl⟩; rw [N1.out.2.2.2]
   obtain ⟨W, hW, B1, hbW⟩ : ∃ W, W = w.alloc (.cells #[.bool false, .slice none 0 0, .slice none 0 0] 130) ∧ Box 130 W w.heap.size (.bool false) (.slice none 0 0) (.slice none 0 0) ∧ Below w.heap.size w W := ⟨_, rfl, Box.new _ _ _ _ _, al1 _⟩
   rw [← hW]; clear hW
   go_wp2_with fail
   refine (swhole_any (b - a) _ (by omega) (by omega)).mono ?_
   rintro e u1 ⟨v1, rfl, hF1, hb1⟩; replace B1 := B1.below hb1
   replace hbW : Below w.heap.size w u1 := hbW.trans (hb1.mono hbW.size)
   clear hb1
   go_wp2_with fail
   refine (smake_any n d _ (by omega) (by omega) (by omega) (by omega)).mono ?_
   rintro e u2 ⟨v2, rfl, hF2, hb2⟩; replace B1 := B1.below hb2; replace hF1 := hF1.below hb2
   replace hbW : Below w.heap.size w u2 := hbW.trans (hb2.mono hbW.size)
   clear hb2
   go_wp2_with fail
   refine (smul_any 2 2 _ _ _ _ _ hF1.ct hF2.ct (by decide) (by decide) (by decide) (by decide)).mono ?_
   rintro e u3 ⟨v3, rfl, hF3, hb3⟩; replace B1 := B1.below hb3
   replace hbW : Below w.heap.size w u3 := hbW.trans (hb3.mono hbW.size)
   clear hb3 hF1 hF2
   have hX := hF3.ct
   obtain ⟨n3, x3, y3, ⟨a3, c3, b3, d3, rfl, _, _⟩, _⟩ := hF3
   have hs := B1.lt
   go_wp2_with fail
   obtain ⟨W2, hW2, B2, hb3⟩ : ∃ W2, W2 = u3.alloc (.cells #[.bool n3, .slice a3 x3.length c3, .slice b3 y3.length d3] 130) ∧ Box 130 W2 u3.heap.size (.bool n3) (.slice a3 x3.length c3) (.slice b3 y3.length d3) ∧ Below u3.heap.size u3 W2 := ⟨_, rfl, Box.new _ _ _ _ _, al1 _⟩
   rw [← hW2]; clear hW2; replace B1 := B1.below hb3; replace hX := hX.below hb3
   replace hbW : Below w.heap.size w W2 := hbW.trans (hb3.mono hbW.size)
   clear hb3
   have hne : u3.heap.size ≠ w.heap.size := by omega
   clear hs
   generalize u3.heap.size = g at B2 hne ⊢
   obtain ⟨p1, p2, p3, _⟩ := B2.cells
   go_region_held3 (fun u => u.cell? ⟨g, 0, none⟩ = some (.bool n3) ∧ u.cell? ⟨g, 1, none⟩ = some (.slice a3 x3.length c3) ∧ u.cell? ⟨g, 2, none⟩ = some (.slice b3 y3.length d3)) (first | (go_keep; done) | (refine ⟨(cell_set3 hne).trans p1, (cell_set3 hne).trans p2, (cell_set3 hne).trans p3⟩))
    (first
     | (go_at_call 116
        refine (swhole_any a _ ?_ ?_).mono ?_
        · omega
        · omega
        rintro e u4 ⟨v4, rfl, hF4, hb4⟩
        replace hb4 : Below W2.heap.size W2 u4 := Below.drew1.trans hb4
        replace hX := hX.below hb4; replace B1 := B1.below hb4; replace B2 := B2.below hb4
        replace hbW : Below w.heap.size w u4 := hbW.trans (hb4.mono hbW.size)
        clear hb4 p1 p2 p3
        obtain ⟨p1, p2, p3, _⟩ := B2.cells)
     | (go_at_call 115
        refine (sadd_any 2 4 _ _ _ _ _ hF4.ct hX (by decide) (by decide) (by decide) (by decide)).mono ?_
        rintro e u5 ⟨v5, rfl, hF5, hb5⟩; replace B1 := B1.below hb5; replace B2 := B2.below hb5
        replace hbW : Below w.heap.size w u5 := hbW.trans (hb5.mono hbW.size)
        replace hF5 := hF5.eq HB.out.symm
        clear hb5 hF4 hX p1 p2 p3; obtain ⟨p1, p2, p3, _⟩ := B2.cells; obtain ⟨q1, q2, q3, q4, q5, q6⟩ := B1.cells
        have hs := B1.lt
        obtain ⟨n', xs', ys', ⟨e1, f1, e2, f2, rfl, hx', hy'⟩, hF⟩ := hF5))
   go_wp2
   refine ret3 (v := .agg #[.bool n', .slice e1 xs'.length f1, .slice e2 ys'.length f2]) B1 rfl (fun U hU => by obtain ⟨r1, r2, r3, _⟩ := hU.cells; simp [results, Tryz.results268, go_sem, r1, r2, r3]) (fun U hU hK => ⟨_, rfl, ⟨_, _, _, ⟨_, _, _, _, rfl, hK _ _ _ hx', hK _ _ _ hy'⟩, hF⟩, hU _ _ hbW (by omega)⟩)
 · have h4 : nr4 a b n d = false := by rw [H4.out]; simpa using hall
   replace HZ : Hid (∀ u : World, Box 130 u w.heap.size (.bool false) (.slice none 0 0) (.slice none 0 0) → Below w.heap.size w u →
    Calls Tryz.prog 177 #[] u fun e w' => ∃ n' xs' ys' b1 d1 b2 d2, e = .returned (.agg #[.bool n', .slice b1 (List.length xs') d1, .slice b2 (List.length ys') d2]) ∧ Rd w' b1 d1 xs' ∧ Rd w' b2 d2 ys' ∧ (Fmd n' xs' ys' ∧ xs'.length ≤ 7 ∧ ys'.length ≤ 7 ∧ qv n' xs' ys' = btw a b n d) ∧ Box 130 w' w.heap.size (.bool false) (.slice none 0 0) (.slice none 0 0) ∧ Below w.heap.size w w') := HZ.out h4
   have hc : za = false ∨ (za = true ∧ zb = false) ∨ (za = true ∧ zb = true ∧ zn = false) ∨ (za = true ∧ zb = true ∧ zn = true ∧ zd = false) := by
    cases za <;> cases zb <;> cases zn <;> cases zd <;> simp_all
   clear h4 hall H4
   rcases hc with rfl | ⟨rfl, rfl⟩ | ⟨rfl, rfl, rfl⟩ | ⟨rfl, rfl, rfl, rfl⟩
   · go_enter Tryz.func268, Tryz.ntmps268
     obtain ⟨W, hW, B1, hbW⟩ : ∃ W, W = w.alloc (.cells #[.bool false, .slice none 0 0, .slice none 0 0] 130) ∧ Box 130 W w.heap.size (.bool false) (.slice none 0 0) (.slice none 0 0) ∧ Below w.heap.size w W := ⟨_, rfl, Box.new _ _ _ _ _, al1 _⟩
     go_wp2_with fail
     refine (snear_any a _).mono ?_
     rintro e u ⟨rfl, rfl⟩; rw [N1.out.1]; rw [← hW]; clear hW
     go_wp2_with fail
     refine (HZ.out _ B1 hbW).mono ?_
     clear B1 hbW; rintro e u1 ⟨n', xs', ys', b1, d1, b2, d2, rfl, hx', hy', hF, B1, hbW⟩
     have hs := B1.lt
     obtain ⟨q1, q2, q3, q4, q5, q6⟩ := B1.cells; go_wp2
     refine ret3 (v := .agg #[.bool n', .slice b1 xs'.length d1, .slice b2 ys'.length d2]) B1 rfl (fun U hU => by obtain ⟨r1, r2, r3, _⟩ := hU.cells; simp [results, Tryz.results268, go_sem, r1, r2, r3]) (fun U hU hK => ⟨_, rfl, ⟨_, _, _, ⟨_, _, _, _, rfl, hK _ _ _ hx', hK _ _ _ hy'⟩, hF⟩, hU _ _ hbW (by omega)⟩)
   · go_enter Tryz.func268, Tryz.ntmps268
     obtain ⟨W, hW, B1, hbW⟩ : ∃ W, W = w.alloc (.cells #[.bool false, .slice none 0 0, .slice none 0 0] 130) ∧ Box 130 W w.heap.size (.bool false) (.slice none 0 0) (.slice none 0 0) ∧ Below w.heap.size w W := ⟨_, rfl, Box.new _ _ _ _ _, al1 _⟩
     go_wp2_with fail
     refine (snear_any a _).mono ?_
     rintro e u ⟨rfl, rfl⟩; rw [N1.out.1]
     go_wp2_with fail
     refine (snear_any b _).mono ?_
     rintro e u ⟨rfl, rfl⟩; rw [N1.out.2.1]; rw [← hW]; clear hW
     go_wp2_with fail
     refine (HZ.out _ B1 hbW).mono ?_
     clear B1 hbW; rintro e u1 ⟨n', xs', ys', b1, d1, b2, d2, rfl, hx', hy', hF, B1, hbW⟩
     have hs := B1.lt
     obtain ⟨q1, q2, q3, q4, q5, q6⟩ := B1.cells; go_wp2
     refine ret3 (v := .agg #[.bool n', .slice b1 xs'.length d1, .slice b2 ys'.length d2]) B1 rfl (fun U hU => by obtain ⟨r1, r2, r3, _⟩ := hU.cells; simp [results, Tryz.results268, go_sem, r1, r2, r3]) (fun U hU hK => ⟨_, rfl, ⟨_, _, _, ⟨_, _, _, _, rfl, hK _ _ _ hx', hK _ _ _ hy'⟩, hF⟩, hU _ _ hbW (by omega)⟩)
   · go_enter Tryz.func268, Tryz.ntmps268
     obtain ⟨W, hW, B1, hbW⟩ : ∃ W, W = w.alloc (.cells #[.bool false, .slice none 0 0, .slice none 0 0] 130) ∧ Box 130 W w.heap.size (.bool false) (.slice none 0 0) (.slice none 0 0) ∧ Below w.heap.size w W := ⟨_, rfl, Box.new _ _ _ _ _, al1 _⟩
     go_wp2_with fail
     refine (snear_any a _).mono ?_
     rintro e u ⟨rfl, rfl⟩; rw [N1.out.1]
     go_wp2_with fail
     refine (snear_any b _).mono ?_
     rintro e u ⟨rfl, rfl⟩; rw [N1.out.2.1]
     go_wp2_with fail
     refine (snear_any n _).mono ?_
     rintro e u ⟨rfl, rfl⟩; rw [N1.out.2.2.1]; rw [← hW]; clear hW
     go_wp2_with fail
     refine (HZ.out _ B1 hbW).mono ?_
     clear B1 hbW; rintro e u1 ⟨n', xs', ys', b1, d1, b2, d2, rfl, hx', hy', hF, B1, hbW⟩
     have hs := B1.lt
     obtain ⟨q1, q2, q3, q4, q5, q6⟩ := B1.cells; go_wp2
     refine ret3 (v := .agg #[.bool n', .slice b1 xs'.length d1, .slice b2 ys'.length d2]) B1 rfl (fun U hU => by obtain ⟨r1, r2, r3, _⟩ := hU.cells; simp [results, Tryz.results268, go_sem, r1, r2, r3]) (fun U hU hK => ⟨_, rfl, ⟨_, _, _, ⟨_, _, _, _, rfl, hK _ _ _ hx', hK _ _ _ hy'⟩, hF⟩, hU _ _ hbW (by omega)⟩)
   · go_enter Tryz.func268, Tryz.ntmps268
     obtain ⟨W, hW, B1, hbW⟩ : ∃ W, W = w.alloc (.cells #[.bool false, .slice none 0 0, .slice none 0 0] 130) ∧ Box 130 W w.heap.size (.bool false) (.slice none 0 0) (.slice none 0 0) ∧ Below w.heap.size w W := ⟨_, rfl, Box.new _ _ _ _ _, al1 _⟩
     go_wp2_with fail
     refine (snear_any a _).mono ?_
     rintro e u ⟨rfl, rfl⟩; rw [N1.out.1]
     go_wp2_with fail
     refine (snear_any b _).mono ?_
     rintro e u ⟨rfl, rfl⟩; rw [N1.out.2.1]
     go_wp2_with fail
     refine (snear_any n _).mono ?_
     rintro e u ⟨rfl, rfl⟩; rw [N1.out.2.2.1]
     go_wp2_with fail
     refine (snear_any d _).mono ?_
     rintro e u ⟨rfl, rfl⟩; rw [N1.out.2.2.2]; rw [← hW]; clear hW
     go_wp2_with fail
     refine (HZ.out _ B1 hbW).mono ?_
     clear B1 hbW; rintro e u1 ⟨n', xs', ys', b1, d1, b2, d2, rfl, hx', hy', hF, B1, hbW⟩
     have hs := B1.lt
     obtain ⟨q1, q2, q3, q4, q5, q6⟩ := B1.cells; go_wp2
     refine ret3 (v := .agg #[.bool n', .slice b1 xs'.length d1, .slice b2 ys'.length d2]) B1 rfl (fun U hU => by obtain ⟨r1, r2, r3, _⟩ := hU.cells; simp [results, Tryz.results268, go_sem, r1, r2, r3]) (fun U hU hK => ⟨_, rfl, ⟨_, _, _, ⟨_, _, _, _, rfl, hK _ _ _ hx', hK _ _ _ hy'⟩, hF⟩, hU _ _ hbW (by omega)⟩)
end Go.Proofs.YtkmcodofnckdmaaGreat
