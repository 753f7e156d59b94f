/-
  foundryref01.double, Mul: the walks.
  foundryref02.sum, Mul, Add, Quo, Opposite, Sub: the walks.
  foundryref02.sum, Add, Quo, Opposite, Sub: the walks.
  foundryref02.Sign, Cmp: the walks.
  foundryref01.Text: the walk.
-/
import Derived.Test.YthoildjecoppgaaGreatDoorZ21
import Derived.Test.YthoildjecoppgaaGreatDoorZ20
import Derived.Test.YthoildjecoppgaaGreatDoorZ3
import Derived.Laws.BitsAllLaws
import Derived.Test.YthoildjecoppgaaGreatDoorZ9
import Derived.Deep.RegionHeld3
import Derived.Test.YthoildjecoppgaaGreatDoorZ8
import Derived.Lib.ItoaMem
import Derived.Laws.Concat
import Derived.Laws.IdiomStrings
namespace Go.Proofs.YthoildjecoppgaaGreatDoor
open Go.RowKit
set_option linter.unusedSimpArgs false
set_option linter.unusedVariables false

set_option maxHeartbeats 400000 in
set_option maxRecDepth 100000 in
theorem rdouble_any (a : Option Addr) (cap : Nat) (xs : List Nat) (w : World) (h : Rd w a cap xs) (hl : xs.length ≤ 500000000) :
    Calls Tryz.prog 109 #[.slice a xs.length cap, .int .u32 0] w fun e w' => ∃ a' cap' zs, e = .returned (.slice a' zs.length cap') ∧ V zs = 2 * V xs ∧ Tr zs ∧ Res 101 w.heap.size w' a' cap' zs ∧ Below w.heap.size w w' := by
  go_enter Tryz.func109, Tryz.ntmps109
  go_wp2_with fail
  refine (radd_any _ _ _ _ _ _ _ h h hl hl).mono ?_
  rintro e w1 ⟨a1, c1, z1, rfl, hv1, ht1, hr1, hb1⟩
  go_wp2
  go_ret
  exact ⟨a1, c1, z1, rfl, by omega, ht1, hr1, hb1⟩


theorem len_of_mul {zs xs ys : List Nat} {q : Nat} (ht : Tr zs) (lx : Lim xs) (ly : Lim ys) (hv : V zs = V xs * q) (hq : q ≤ V ys) : zs.length ≤ xs.length + ys.length := by
  refine len_le_of_V ht ?_
  rw [hv, Nat.pow_add]
  have h1 := V_lt lx
  have h2 := V_lt ly
  calc V xs * q ≤ V xs * V ys := Nat.mul_le_mul_left _ hq
    _ < 4294967296 ^ xs.length * 4294967296 ^ ys.length := Nat.mul_lt_mul'' h1 h2

set_option maxHeartbeats 1000000 in
set_option maxRecDepth 100000 in
theorem rmul_any (a : Option Addr) (cap : Nat) (xs : List Nat) (b : Option Addr) (cbp : Nat) (ys : List Nat) (w : World) (ha : Rd w a cap xs) (hb : Rd w b cbp ys) (hla : xs.length ≤ 100000000) (hlb : ys.length ≤ 100000000) :
    Calls Tryz.prog 88 #[.slice a xs.length cap, .slice b ys.length cbp] w fun e w' =>
      ∃ a' cap' zs, e = .returned (.slice a' zs.length cap') ∧ V zs = V xs * V ys ∧ Tr zs ∧ Res 101 w.heap.size w' a' cap' zs ∧ Below w.heap.size w w' := by
  go_enter Tryz.func88, Tryz.ntmps88
  go_wp2_with fail
  refine (rbits_any _ _ _ _ (by omega)).mono ?_
  rintro e w' ⟨rfl, rfl⟩
  go_wp2
  go_loopw [5, 6] (fun out i wr => ∃ (k : Nat) (q : Int) (a' : Option Addr) (cap' : Nat) (zs : List Nat), k ≤ 32 * ys.length ∧ q = (k : Int) - 1 ∧ i = .int .i64 q ∧ out = .slice a' zs.length cap' ∧ Tr zs ∧ V zs = V xs * (V ys / 2 ^ k) ∧ Res 101 w.heap.size wr a' cap' zs ∧ Below w.heap.size w wr) (fun _ i _ => (intOf i + 1).toNat)
  case atStart =>
    refine ⟨32 * ys.length, _, none, 0, [], Nat.le_refl _, ?_, rfl, rfl, tr_nil, ?_, ⟨Lim.nil, World.ownsRow_nil _ _ _ _⟩, Below.refl _ _⟩
    · omega
    · rw [Nat.div_eq_of_lt (by rw [← pow_32]; exact V_lt hb.lim)]; rfl
  case round =>
    obtain ⟨k, q, a', cap', zs, hk, hq, rfl, rfl, htr, hv, hres, hnx⟩ := hrel
    have HV : Hid (V zs = V xs * (V ys / 2 ^ k)) := hv
    have hzl := len_of_mul htr ha.lim hb.lim hv (Nat.div_le_self _ _)
    have hsz := hnx.size
    clear hv
    by_cases hk0 : k = 0
    · subst hk0
      obtain rfl : q = -1 := by omega
      clear hq
      go_wp2
      go_ret
      refine ⟨a', cap', zs, rfl, ?_, htr, hres, hnx⟩
      rw [HV.out, Nat.pow_zero, Nat.div_one]
    · obtain ⟨j, rfl⟩ : ∃ j, k = j + 1 := ⟨k - 1, by omega⟩
      obtain rfl : q = (j : Int) := by omega
      clear hq
      have hstep : V ys / 2 ^ j = 2 * (V ys / 2 ^ (j + 1)) + V ys / 2 ^ j % 2 := by
        rw [Nat.pow_succ, ← Nat.div_div_eq_div_mul]; omega
      have HS : Hid (V ys / 2 ^ j = 2 * (V ys / 2 ^ (j + 1)) + V ys / 2 ^ j % 2) := hstep
      clear hstep
      go_wp2_with fail
      refine (rdouble_any _ _ _ _ hres.rd (by omega)).mono ?_
      rintro e w1 ⟨a1, c1, z1, rfl, hv1, ht1, hr1, hb1⟩
      have hb1' : Below w.heap.size w w1 := hnx.trans (hb1.mono hsz)
      have HV1 : Hid (V z1 = V xs * (2 * (V ys / 2 ^ (j + 1)))) := by show _ = _; rw [hv1, HV.out]; exact Nat.mul_left_comm _ _ _
      have hz1 := len_of_mul ht1 ha.lim hb.lim HV1.out (by have := HS.out; have := Nat.div_le_self (V ys) (2 ^ j); omega)
      clear hv1
      go_wp2_with fail
      refine (rbit_any _ _ _ _ _ (hb.below hb1') (by omega)).mono ?_
      rintro e w' ⟨rfl, rfl⟩
      rcases Nat.mod_two_eq_zero_or_one (V ys / 2 ^ j) with hb0 | hb0
      · rw [hb0]
        have HB : Hid (V ys / 2 ^ j % 2 = 0) := hb0
        clear hb0
        go_wp2
        go_roundw
        case rel =>
          refine ⟨j, _, a1, c1, z1, by omega, rfl, by go_num, rfl, ht1, ?_, hr1.mono hsz, hb1'⟩
          have := HS.out; rw [HB.out, Nat.add_zero] at this
          rw [HV1.out, this]
        case measure => simp [intOf]
      · rw [hb0]
        have HB : Hid (V ys / 2 ^ j % 2 = 1) := hb0
        clear hb0
        go_wp2_with fail
        refine (radd_any _ _ _ _ _ _ _ hr1.rd (ha.below hb1') (by omega) (by omega)).mono ?_
        rintro e w2 ⟨a2, c2, z2, rfl, hv2, ht2, hr2, hb2⟩
        have hb2' : Below w.heap.size w w2 := hb1'.trans (hb2.mono hb1'.size)
        have HV2 : Hid (V z2 = V xs * (V ys / 2 ^ j)) := by
          show _ = _
          have := HS.out; rw [HB.out] at this
          rw [hv2, HV1.out, this, Nat.mul_add]; omega
        clear hv2
        go_wp2
        go_roundw
        case rel => exact ⟨j, _, a2, c2, z2, by omega, rfl, by go_num, rfl, ht2, HV2.out, hr2.mono hb1'.size, hb2'⟩
        case measure => simp [intOf]

end Go.Proofs.YthoildjecoppgaaGreatDoor

namespace Go.Proofs.YthoildjecoppgaaGreatDoor
open Go.RowKit
set_option linter.unusedSimpArgs false
set_option linter.unusedVariables false

set_option maxHeartbeats 2000000 in
set_option maxRecDepth 100000 in
theorem smul_any (k l : Nat) (q r : Rat) (v v' : Value) (w : World) (h : Ct w v k q) (h' : Ct w v' l r) (hk : k ≤ 1000000) (hl : l ≤ 1000000) (hk2 : 2 ≤ k) (hl2 : 2 ≤ l) :
    Calls Tryz.prog 62 #[v, v'] w fun e w' => ∃ v', e = .returned v' ∧ Fr w' v' (k + l) (q * r) ∧ Below w.heap.size w w' := by
  have hX := h
  have hY := h'
  obtain ⟨n, xs, ys, ⟨a, c, a', c', rfl, _, _⟩, _⟩ := h
  obtain ⟨m, ps, qs, ⟨b, d, b', d', rfl, _, _⟩, _⟩ := h'
  go_enter Tryz.func62, Tryz.ntmps62
  go_wp2_with fail
  refine (sfair_any k q _ _ (hX.below (al3 _ _ _)) (by omega) hk2).mono ?_
  rintro e u1 ⟨v1, rfl, hF1, hb1⟩
  replace hY := (hY.below (al3 _ _ _)).below hb1
  obtain ⟨B1, B2, B3, hbW⟩ := after3 hb1
  clear hb1 hX
  obtain ⟨p1, p2, p3, p4, p5, p6⟩ := B1.cells
  obtain ⟨q1, q2, q3, _⟩ := B2.cells
  have hs1 := B1.lt
  obtain ⟨n1, x1, y1, ⟨a1, c1, b1, d1, rfl, hx1, hy1⟩, f1, l1, l1', e1⟩ := hF1
  go_wp2_with fail
  obtain ⟨U, hU, B1', hbU, hK, ho⟩ := set3_world B1 (.bool n1) (.slice a1 x1.length c1) (.slice b1 y1.length d1)
  rw [← hU]
  replace B2 := B2.other ho (by omega)
  replace B3 := B3.other ho (by omega)
  replace hbW := hbU _ _ hbW (by omega)
  replace hx1 := hK _ _ _ hx1
  replace hy1 := hK _ _ _ hy1
  replace hY := hY.keep hK
  clear hU hbU hK ho B1 p1 p2 p3 p4 p5 p6 q1 q2 q3 hs1
  refine (sfair_any l r _ _ hY (by omega) hl2).mono ?_
  rintro e u2 ⟨v2, rfl, hF2, hb2⟩
  replace hx1 := hx1.below hb2
  replace hy1 := hy1.below hb2
  replace B1' := B1'.below hb2
  replace B2 := B2.below hb2
  replace B3 := B3.below hb2
  replace hbW : Below w.heap.size w u2 := hbW.trans (hb2.mono hbW.size)
  clear hb2 hY
  obtain ⟨n2, x2, y2, ⟨a2, c2, b2, d2, rfl, hx2, hy2⟩, f2, l2, l2', e2⟩ := hF2
  have y10 := f1.den
  have y20 := f2.den
  obtain ⟨p4, p5, p6, p7, p8, p9⟩ := B2.cells
  have hs2 := B2.lt
  go_wp2_with fail
  obtain ⟨U, hU, B2', hbU, hK, ho⟩ := set3_world B2 (.bool n2) (.slice a2 x2.length c2) (.slice b2 y2.length d2)
  rw [← hU]
  replace B1' := B1'.other ho (by omega)
  replace B3 := B3.other ho (by omega)
  replace hbW := hbU _ _ hbW (by omega)
  replace hx1 := hK _ _ _ hx1
  replace hy1 := hK _ _ _ hy1
  replace hx2 := hK _ _ _ hx2
  replace hy2 := hK _ _ _ hy2
  clear hU hbU hK ho B2 p4 p5 p6 p7 p8 p9 hs2
  obtain ⟨p1, p2, p3, _⟩ := B1'.cells
  obtain ⟨p4, p5, p6, _⟩ := B2'.cells
  have lx1 := hx1.lim
  have ly1 := hy1.lim
  have lx2 := hx2.lim
  have ly2 := hy2.lim
  have st : Stg 0 := rfl
  go_region_held3 (fun u => u.cell? ⟨w.heap.size, 0, none⟩ = some (.bool n1) ∧ u.cell? ⟨w.heap.size, 1, none⟩ = some (.slice a1 x1.length c1) ∧ u.cell? ⟨w.heap.size, 2, none⟩ = some (.slice b1 y1.length d1) ∧ u.cell? ⟨w.heap.size + 1, 0, none⟩ = some (.bool n2) ∧ u.cell? ⟨w.heap.size + 1, 1, none⟩ = some (.slice a2 x2.length c2) ∧ u.cell? ⟨w.heap.size + 1, 2, none⟩ = some (.slice b2 y2.length d2)) (first | (go_keep; done) | (refine ⟨(cell_set3 (by omega)).trans p1, (cell_set3 (by omega)).trans p2, (cell_set3 (by omega)).trans p3, (cell_set3 (by omega)).trans p4, (cell_set3 (by omega)).trans p5, (cell_set3 (by omega)).trans p6⟩))
    (first
      | (go_at_call 88
         have _sg : Stg 0 := st
         refine (rmul_any _ _ _ _ _ _ _ (hx1.below Below.drew1) (hx2.below Below.drew1) ?_ ?_).mono ?_
         · omega
         · omega
         rintro e um1 ⟨am1, cm1, zs1, rfl, hvm1, htm1, hrm1, hbm1⟩
         replace hbm1 : Below U.heap.size U um1 := Below.drew1.trans hbm1
         replace hx1 := hx1.below hbm1
         replace hy1 := hy1.below hbm1
         replace hx2 := hx2.below hbm1
         replace hy2 := hy2.below hbm1
         replace B1' := B1'.below hbm1
         replace B2' := B2'.below hbm1
         replace B3 := B3.below hbm1
         replace hbW : Below w.heap.size w um1 := hbW.trans (hbm1.mono hbW.size)
         have rm1 := hrm1.rd
         clear hrm1 hbm1 st _sg
         have st : Stg 1 := rfl
         clear p1 p2 p3 p4 p5 p6
         obtain ⟨p1, p2, p3, _⟩ := B1'.cells
         obtain ⟨p4, p5, p6, _⟩ := B2'.cells)
      | (go_at_call 88
         have _sg : Stg 1 := st
         refine (rmul_any _ _ _ _ _ _ _ hy1 hy2 ?_ ?_).mono ?_
         · omega
         · omega
         rintro e um2 ⟨am2, cm2, zs2, rfl, hvm2, htm2, hrm2, hbm2⟩
         replace hx1 := hx1.below hbm2
         replace hy1 := hy1.below hbm2
         replace hx2 := hx2.below hbm2
         replace hy2 := hy2.below hbm2
         replace B1' := B1'.below hbm2
         replace B2' := B2'.below hbm2
         replace B3 := B3.below hbm2
         replace rm1 := rm1.below hbm2
         replace hbW : Below w.heap.size w um2 := hbW.trans (hbm2.mono hbW.size)
         have rm2 := hrm2.rd
         clear hrm2 hbm2 st _sg
         have st : Stg 2 := rfl
         clear p1 p2 p3 p4 p5 p6
         obtain ⟨p1, p2, p3, _⟩ := B1'.cells
         obtain ⟨p4, p5, p6, _⟩ := B2'.cells)
      | (go_at_call 42
         have _sg : Stg 2 := st
         refine (slow_any (k + l) _ _ _ _ _ _ _ _ rm1 rm2 (by rw [hvm2]; exact Nat.mul_ne_zero y10 y20) (prod_len lx1 lx2 htm1 l1 l2 hvm1) (prod_len ly1 ly2 htm2 l1' l2' hvm2) ?_).mono ?_
         · omega
         rintro e ul ⟨vl, rfl, hF, hbl⟩
         replace hx1 := hx1.below hbl
         replace hy1 := hy1.below hbl
         replace hx2 := hx2.below hbl
         replace hy2 := hy2.below hbl
         replace B1' := B1'.below hbl
         replace B2' := B2'.below hbl
         replace B3 := B3.below hbl
         replace hbW : Below w.heap.size w ul := hbW.trans (hbl.mono hbW.size)
         clear hbl st _sg
         have st : Stg 3 := rfl
         clear p1 p2 p3 p4 p5 p6
         obtain ⟨p1, p2, p3, _⟩ := B1'.cells
         obtain ⟨p4, p5, p6, _⟩ := B2'.cells
         obtain ⟨q1, q2, q3, q4, q5, q6⟩ := B3.cells
         have hs := B3.lt
         obtain ⟨n3, x3, y3, ⟨a3, c3, b3, d3, rfl, hx3, hy3⟩, hF⟩ := hF))
  rw [qv_times hvm1 hvm2, e1, e2] at hF
  go_wp2
  exact ret3 (v := .agg #[.bool n3, .slice a3 x3.length c3, .slice b3 y3.length d3]) B3 rfl (fun U hU => by obtain ⟨r1, r2, r3, _⟩ := hU.cells; simp [results, Tryz.results62, go_sem, r1, r2, r3]) (fun U hU hK => ⟨_, rfl, ⟨_, _, _, ⟨_, _, _, _, rfl, hK _ _ _ hx3, hK _ _ _ hy3⟩, hF⟩, hU _ _ hbW (by omega)⟩)

end Go.Proofs.YthoildjecoppgaaGreatDoor

namespace Go.Proofs.YthoildjecoppgaaGreatDoor
open Go.RowKit Classical
set_option linter.unusedSimpArgs false
set_option linter.unusedVariables false

theorem sg_add_same (n : Bool) (a b : Nat) : sg n (a + b) = sg n a + sg n b := by cases n <;> simp [sg]; omega
theorem sg_sub_more {n m : Bool} (h : n ≠ m) {a b : Nat} (hl : ¬ a < b) : sg n (a - b) = sg n a + sg m b := by
  cases n <;> cases m <;> simp [sg] at h ⊢ <;> omega
theorem sg_sub_less {n m : Bool} (h : n ≠ m) {a b : Nat} (hl : a < b) : sg m (b - a) = sg n a + sg m b := by
  cases n <;> cases m <;> simp [sg] at h ⊢ <;> omega

set_option maxHeartbeats 1000000 in
set_option maxRecDepth 100000 in
theorem ssum_any (k : Nat) (n m : Bool) (a : Option Addr) (c : Nat) (xs : List Nat) (b : Option Addr) (d : Nat) (ps : List Nat) (w : World) (hx : Rd w a c xs) (hp : Rd w b d ps) (lx : xs.length ≤ k) (lp : ps.length ≤ k) (hk : k ≤ 10000000) :
    Calls Tryz.prog 89 #[.bool n, .slice a xs.length c, .bool m, .slice b ps.length d] w fun e w' => ∃ s a' c' zs, e = .returned (.tuple #[.bool s, .slice a' zs.length c']) ∧ sg s (V zs) = sg n (V xs) + sg m (V ps) ∧ Tr zs ∧ zs.length ≤ k + 1 ∧ Rd w' a' c' zs ∧ Below w.heap.size w w' := by
  have l1 := hx.lim
  have l2 := hp.lim
  by_cases hnm : n = m
  · subst hnm
    have e0 : (n == n) = true := by simp
    go_enter Tryz.func89, Tryz.ntmps89
    go_wp2_with fail
    refine (radd_any _ _ _ _ _ _ _ hx hp (by omega) (by omega)).mono ?_
    rintro e u ⟨a1, c1, zs, rfl, hv, ht, hr, hb⟩
    go_wp2
    go_ret2
    exact ⟨_, _, _, _, rfl, by rw [hv]; exact sg_add_same _ _ _, ht, sum_len l1 l2 ht lx lp (by omega), hr.rd, hb⟩
  · have e0 : (n == m) = false := by simpa using hnm
    go_enter Tryz.func89, Tryz.ntmps89
    go_wp2_with fail
    refine (rcmp_any _ _ _ _ _ _ _ hx hp).mono ?_
    rintro e u ⟨rfl, rfl⟩
    by_cases hlt : V xs < V ps
    · have ec : cmpN (V xs) (V ps) = -1 := by unfold cmpN; rw [if_pos hlt]
      rw [ec]
      clear ec
      go_wp2_with fail
      refine (rsub_any _ _ _ _ _ _ _ hp hx (by omega) (by omega)).mono ?_
      rintro e u ⟨a1, c1, zs, rfl, hv, ht, hr, hb⟩
      go_wp2
      go_ret2
      exact ⟨_, _, _, _, rfl, by rw [hv]; exact sg_sub_less hnm hlt, ht, sum_len l1 l2 ht lx lp (by omega), hr.rd, hb⟩
    · have ec : 0 ≤ cmpN (V xs) (V ps) := by unfold cmpN; rw [if_neg hlt]; split <;> decide
      generalize cmpN (V xs) (V ps) = cc at ec ⊢
      go_wp2_with fail
      refine (rsub_any _ _ _ _ _ _ _ hx hp (by omega) (by omega)).mono ?_
      rintro e u ⟨a1, c1, zs, rfl, hv, ht, hr, hb⟩
      go_wp2
      go_ret2
      exact ⟨_, _, _, _, rfl, by rw [hv]; exact sg_sub_more hnm hlt, ht, sum_len l1 l2 ht lx lp (by omega), hr.rd, hb⟩

theorem sg_mul_nat (n : Bool) (a b : Nat) : sg n (a * b) = sg n a * (b : Int) := by cases n <;> simp [sg]; grind
theorem qv_sum {s n m : Bool} {zs ts xs ys ps qs : List Nat} (hy : V ys ≠ 0) (hq : V qs ≠ 0) (ht : V ts = V ys * V qs) (h : sg s (V zs) = sg n (V xs * V qs) + sg m (V ps * V ys)) : qv s zs ts = qv n xs ys + qv m ps qs := by
  unfold qv
  rw [Rat.mkRat_add_mkRat _ _ hy hq, ht, h, sg_mul_nat, sg_mul_nat]

set_option maxHeartbeats 2000000 in
set_option maxRecDepth 100000 in
theorem sadd_any (k l : Nat) (q r : Rat) (v v' : Value) (w : World) (h : Ct w v k q) (h' : Ct w v' l r) (hk : k ≤ 1000000) (hl : l ≤ 1000000) (hk2 : 2 ≤ k) (hl2 : 2 ≤ l) :
    Calls Tryz.prog 64 #[v, v'] w fun e w' => ∃ v', e = .returned v' ∧ Fr w' v' (k + l + 1) (q + r) ∧ Below w.heap.size w w' := by
  have hX := h
  have hY := h'
  obtain ⟨n, xs, ys, ⟨a, c, a', c', rfl, _, _⟩, _⟩ := h
  obtain ⟨m, ps, qs, ⟨b, d, b', d', rfl, _, _⟩, _⟩ := h'
  go_enter Tryz.func64, Tryz.ntmps64
  go_wp2_with fail
  refine (sfair_any k q _ _ (hX.below (al3 _ _ _)) (by omega) hk2).mono ?_
  rintro e u1 ⟨v1, rfl, hF1, hb1⟩
  replace hY := (hY.below (al3 _ _ _)).below hb1
  obtain ⟨B1, B2, B3, hbW⟩ := after3 hb1
  clear hb1 hX
  obtain ⟨p1, p2, p3, p4, p5, p6⟩ := B1.cells
  obtain ⟨q1, q2, q3, _⟩ := B2.cells
  have hs1 := B1.lt
  obtain ⟨n1, x1, y1, ⟨a1, c1, b1, d1, rfl, hx1, hy1⟩, f1, l1, l1', e1⟩ := hF1
  go_wp2_with fail
  obtain ⟨U, hU, B1', hbU, hK, ho⟩ := set3_world B1 (.bool n1) (.slice a1 x1.length c1) (.slice b1 y1.length d1)
  rw [← hU]
  replace B2 := B2.other ho (by omega)
  replace B3 := B3.other ho (by omega)
  replace hbW := hbU _ _ hbW (by omega)
  replace hx1 := hK _ _ _ hx1
  replace hy1 := hK _ _ _ hy1
  replace hY := hY.keep hK
  clear hU hbU hK ho B1 p1 p2 p3 p4 p5 p6 q1 q2 q3 hs1
  refine (sfair_any l r _ _ hY (by omega) hl2).mono ?_
  rintro e u2 ⟨v2, rfl, hF2, hb2⟩
  replace hx1 := hx1.below hb2
  replace hy1 := hy1.below hb2
  replace B1' := B1'.below hb2
  replace B2 := B2.below hb2
  replace B3 := B3.below hb2
  replace hbW : Below w.heap.size w u2 := hbW.trans (hb2.mono hbW.size)
  clear hb2 hY
  obtain ⟨n2, x2, y2, ⟨a2, c2, b2, d2, rfl, hx2, hy2⟩, f2, l2, l2', e2⟩ := hF2
  have y10 := f1.den
  have y20 := f2.den
  obtain ⟨p4, p5, p6, p7, p8, p9⟩ := B2.cells
  have hs2 := B2.lt
  go_wp2_with fail
  obtain ⟨U, hU, B2', hbU, hK, ho⟩ := set3_world B2 (.bool n2) (.slice a2 x2.length c2) (.slice b2 y2.length d2)
  rw [← hU]
  replace B1' := B1'.other ho (by omega)
  replace B3 := B3.other ho (by omega)
  replace hbW := hbU _ _ hbW (by omega)
  replace hx1 := hK _ _ _ hx1
  replace hy1 := hK _ _ _ hy1
  replace hx2 := hK _ _ _ hx2
  replace hy2 := hK _ _ _ hy2
  clear hU hbU hK ho B2 p4 p5 p6 p7 p8 p9 hs2
  obtain ⟨p1, p2, p3, _⟩ := B1'.cells
  obtain ⟨p4, p5, p6, _⟩ := B2'.cells
  have lx1 := hx1.lim
  have ly1 := hy1.lim
  have lx2 := hx2.lim
  have ly2 := hy2.lim
  have st : Stg 0 := rfl
  go_region_held3 (fun u => u.cell? ⟨w.heap.size, 0, none⟩ = some (.bool n1) ∧ u.cell? ⟨w.heap.size, 1, none⟩ = some (.slice a1 x1.length c1) ∧ u.cell? ⟨w.heap.size, 2, none⟩ = some (.slice b1 y1.length d1) ∧ u.cell? ⟨w.heap.size + 1, 0, none⟩ = some (.bool n2) ∧ u.cell? ⟨w.heap.size + 1, 1, none⟩ = some (.slice a2 x2.length c2) ∧ u.cell? ⟨w.heap.size + 1, 2, none⟩ = some (.slice b2 y2.length d2)) (first | (go_keep; done) | (refine ⟨(cell_set3 (by omega)).trans p1, (cell_set3 (by omega)).trans p2, (cell_set3 (by omega)).trans p3, (cell_set3 (by omega)).trans p4, (cell_set3 (by omega)).trans p5, (cell_set3 (by omega)).trans p6⟩))
    (first
      | (go_at_call 88
         have _sg : Stg 0 := st
         refine (rmul_any _ _ _ _ _ _ _ (hx1.below Below.drew1) (hy2.below Below.drew1) ?_ ?_).mono ?_
         · omega
         · omega
         rintro e um1 ⟨am1, cm1, zs1, rfl, hvm1, htm1, hrm1, hbm1⟩
         replace hbm1 : Below U.heap.size U um1 := Below.drew1.trans hbm1
         replace hx1 := hx1.below hbm1
         replace hy1 := hy1.below hbm1
         replace hx2 := hx2.below hbm1
         replace hy2 := hy2.below hbm1
         replace B1' := B1'.below hbm1
         replace B2' := B2'.below hbm1
         replace B3 := B3.below hbm1
         replace hbW : Below w.heap.size w um1 := hbW.trans (hbm1.mono hbW.size)
         have rm1 := hrm1.rd
         clear hrm1 hbm1 st _sg
         have st : Stg 1 := rfl
         clear p1 p2 p3 p4 p5 p6
         obtain ⟨p1, p2, p3, _⟩ := B1'.cells
         obtain ⟨p4, p5, p6, _⟩ := B2'.cells)
      | (go_at_call 88
         have _sg : Stg 1 := st
         refine (rmul_any _ _ _ _ _ _ _ hx2 hy1 ?_ ?_).mono ?_
         · omega
         · omega
         rintro e um2 ⟨am2, cm2, zs2, rfl, hvm2, htm2, hrm2, hbm2⟩
         replace hx1 := hx1.below hbm2
         replace hy1 := hy1.below hbm2
         replace hx2 := hx2.below hbm2
         replace hy2 := hy2.below hbm2
         replace B1' := B1'.below hbm2
         replace B2' := B2'.below hbm2
         replace B3 := B3.below hbm2
         replace rm1 := rm1.below hbm2
         replace hbW : Below w.heap.size w um2 := hbW.trans (hbm2.mono hbW.size)
         have rm2 := hrm2.rd
         clear hrm2 hbm2 st _sg
         have st : Stg 2 := rfl
         clear p1 p2 p3 p4 p5 p6
         obtain ⟨p1, p2, p3, _⟩ := B1'.cells
         obtain ⟨p4, p5, p6, _⟩ := B2'.cells)
      | (go_at_call 89
         have _sg : Stg 2 := st
         refine (ssum_any (k + l) _ _ _ _ _ _ _ _ _ rm1 rm2 (prod_len lx1 ly2 htm1 l1 l2' hvm1) ?_ ?_).mono ?_
         · have := prod_len lx2 ly1 htm2 l2 l1' hvm2
           omega
         · omega
         rintro e us ⟨s3, a7, c7, ss, rfl, hvs, hts, lss, rs, hbs⟩
         replace hx1 := hx1.below hbs
         replace hy1 := hy1.below hbs
         replace hx2 := hx2.below hbs
         replace hy2 := hy2.below hbs
         replace B1' := B1'.below hbs
         replace B2' := B2'.below hbs
         replace B3 := B3.below hbs
         replace hbW : Below w.heap.size w us := hbW.trans (hbs.mono hbW.size)
         clear hbs st _sg
         have st : Stg 3 := rfl
         clear p1 p2 p3 p4 p5 p6
         obtain ⟨p1, p2, p3, _⟩ := B1'.cells
         obtain ⟨p4, p5, p6, _⟩ := B2'.cells))
  go_wp2_with fail
  refine (rmul_any _ _ _ _ _ _ _ hy1 hy2 (by omega) (by omega)).mono ?_
  rintro e u8 ⟨a8, c8, z8, rfl, hv8, ht8, hr8, hb8⟩
  replace rs := rs.below hb8
  replace B3 := B3.below hb8
  replace hbW : Below w.heap.size w u8 := hbW.trans (hb8.mono hbW.size)
  have r8 := hr8.rd
  have l8 := prod_len ly1 ly2 ht8 l1' l2' hv8
  clear hr8 hb8 p1 p2 p3 p4 p5 p6
  go_wp2_with fail
  refine (slow_any (k + l + 1) _ _ _ _ _ _ _ _ rs r8 (by rw [hv8]; exact Nat.mul_ne_zero y10 y20) lss (by omega) (by omega)).mono ?_
  rintro e u9 ⟨v9, rfl, hF, hb9⟩
  replace B3 := B3.below hb9
  replace hbW : Below w.heap.size w u9 := hbW.trans (hb9.mono hbW.size)
  clear hb9
  rw [hvm1, hvm2] at hvs
  rw [qv_sum y10 y20 hv8 hvs, e1, e2] at hF
  obtain ⟨q1, q2, q3, q4, q5, q6⟩ := B3.cells
  have hs := B3.lt
  obtain ⟨n3, x3, y3, ⟨a3, c3, b3, d3, rfl, hx3, hy3⟩, hF⟩ := hF
  go_wp2
  exact ret3 (v := .agg #[.bool n3, .slice a3 x3.length c3, .slice b3 y3.length d3]) B3 rfl (fun U hU => by obtain ⟨r1, r2, r3, _⟩ := hU.cells; simp [results, Tryz.results64, go_sem, r1, r2, r3]) (fun U hU hK => ⟨_, rfl, ⟨_, _, _, ⟨_, _, _, _, rfl, hK _ _ _ hx3, hK _ _ _ hy3⟩, hF⟩, hU _ _ hbW (by omega)⟩)

theorem fmd_opp {n : Bool} {xs ys : List Nat} (h : Fmd n xs ys) : Fmd (!n && decide (0 < xs.length)) xs ys ∧ qv (!n && decide (0 < xs.length)) xs ys = - qv n xs ys := by
  by_cases hx : xs = []
  · subst hx
    have e : (!n && decide (0 < ([] : List Nat).length)) = false := by simp
    rw [e]
    refine ⟨⟨h.1, h.2.1, h.2.2.1, by simp, h.2.2.2.2⟩, ?_⟩
    have z : ∀ m, qv m [] ys = 0 := by intro m; unfold qv; rw [show V [] = 0 from rfl, sg_zero]; simp
    rw [z, z]; rfl
  · have e : (!n && decide (0 < xs.length)) = !n := by simp [List.length_pos_iff, hx]
    rw [e]
    exact ⟨⟨h.1, h.2.1, h.2.2.1, fun h2 => hx h2.2, h.2.2.2.2⟩, qv_neg n xs ys⟩

theorem set0_world {t : TypeId} {u : World} {b : Nat} {n : Bool} {a a' : Option Addr} {l c l' c' : Nat} (B : Box t u b (.bool n) (.slice a l c) (.slice a' l' c')) (x' : Value) :
    ∃ U, U = u.setCell ⟨b, 0, none⟩ x' ∧ (∀ B w, Below B w u → B ≤ b → Below B w U) ∧ (∀ a c xs, Rd u a c xs → Rd U a c xs) ∧ (∀ j, j ≠ b → U.heap[j]? = u.heap[j]?) := by
  have ho : ∀ j, j ≠ b → (u.setCell ⟨b, 0, none⟩ x').heap[j]? = u.heap[j]? := fun j hj => Below.heap_setCell _ ⟨b, 0, none⟩ x' j hj
  exact ⟨_, rfl, fun _ _ h hb => h.setCell (p := ⟨b, 0, none⟩) hb x', fun _ _ _ h => Rd.apart B (by simp [World.setCell]) ho h, ho⟩

end Go.Proofs.YthoildjecoppgaaGreatDoor

namespace Go.Proofs.YthoildjecoppgaaGreatDoor
open Go.RowKit Classical
set_option linter.unusedSimpArgs false
set_option linter.unusedVariables false
end Go.Proofs.YthoildjecoppgaaGreatDoor

namespace Go.Proofs.YthoildjecoppgaaGreatDoor
open Go.RowKit Go.Lib
set_option linter.unusedSimpArgs false
set_option linter.unusedVariables false

/-- The digits; of 0 none. -/
def pre (n : Nat) : List UInt8 := if n = 0 then [] else decDigits n
theorem pre_zero : pre 0 = [] := rfl
theorem pre_pos {n : Nat} (h : n ≠ 0) : pre n = decDigits n := by unfold pre; rw [if_neg h]
theorem pre_step {n : Nat} (h : n ≠ 0) : pre n = pre (n / 10) ++ [UInt8.ofNat (48 + n % 10)] := by
  rw [pre_pos h]
  by_cases h1 : n < 10
  · rw [Nat.div_eq_of_lt h1, pre_zero, decDigits_one h1, Nat.mod_eq_of_lt h1, List.nil_append]
  · rw [dec_big h1, pre_pos (by omega)]

theorem nDigits_le : ∀ (k v : Nat), v < 2 ^ k → nDigits v ≤ k + 1 := by
  intro k
  induction k with
  | zero => intro v h; rw [nDigits_small (by omega)]; omega
  | succ k ih =>
    intro v h
    by_cases h1 : v < 10
    · rw [nDigits_small h1]; omega
    · rw [nDigits_big h1]
      have := ih (v / 10) (by rw [Nat.pow_succ] at h; omega)
      omega

theorem byte_toNat {d : Nat} (h : d < 10) : ((UInt8.ofNat (48 + d)).toNat : Int) = 48 + (d : Int) := by
  rw [UInt8.toNat_ofNat']
  omega

theorem str_one (w : World) (q : Int) (d : Nat) (hd : d < 10) (hq : q = 48 + (d : Int)) :
    (convert 96 9 (.slice (some ⟨w.heap.size, 0, none⟩) 1 1)).run Tryz.prog (w.alloc (.cells #[.int .u8 q] 5)) = .ok (.string ⟨#[UInt8.ofNat (48 + d)]⟩) (w.alloc (.cells #[.int .u8 q] 5)) := by
  subst hq
  refine run_convert_bytes_back (P := Tryz.prog) _ 96 9 5 ⟨w.heap.size, 0, none⟩ 1 [UInt8.ofNat (48 + d)] Tryz.underlying96 Tryz.underlying5 Tryz.underlying9 (fun j hj => ?_)
  obtain rfl : j = 0 := by simp at hj; exact hj
  rw [Lib.add_plain, World.cell?_alloc_new, List.getElem_cons_zero, byte_toNat hd]
  rfl

end Go.Proofs.YthoildjecoppgaaGreatDoor
