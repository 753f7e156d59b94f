/-
  ratio.Make, times: the walks.
  ratio.minus, sign, Add, Sub, Mul, Quo, Cmp, Sign: the walks.
  ratio.Add, Sub, Mul, Cmp, Sign: the walks.
  ratio.Quo: the walk.
-/
import Derived.Test.YtchdoakoelfenaaGreatZX11
import Derived.Deep.RegionHeld3
namespace Go.Proofs.YtchdoakoelfenaaGreat
open Go.RowKit
set_option linter.unusedSimpArgs false
set_option linter.unusedVariables false

theorem sg_mul (n m : Bool) (a b : Nat) : sg n a * sg m b = sg (!(n == m)) (a * b) := by
  cases n <;> cases m <;> simp [sg] <;> grind

theorem qv_make {z d : Int} {xs ys : List Nat} (hx : V xs = z.natAbs) (hy : V ys = d.natAbs) (hd : d ≠ 0) : qv (!(decide (z < 0) == decide (d < 0))) xs ys = (z : Rat) / (d : Rat) := by
  unfold qv
  rw [hx, hy, ← Rat.divInt_ofNat, ← Rat.divInt_eq_div, Rat.divInt_eq_divInt_iff (by omega) hd]
  have e : sg (!(decide (z < 0) == decide (d < 0))) z.natAbs = sg (decide (z < 0)) z.natAbs * sg (decide (d < 0)) 1 := by rw [sg_mul, Nat.mul_one]
  rw [e, sg_abs, Int.mul_assoc]
  congr 1
  unfold sg
  by_cases h : d < 0
  · simp [h]; omega
  · simp [h]; omega

theorem qv_times {n m : Bool} {xs ys ps qs rs ts : List Nat} (hr : V rs = V xs * V ps) (ht : V ts = V ys * V qs) : qv (!(n == m)) rs ts = qv n xs ys * qv m ps qs := by
  unfold qv
  rw [Rat.mkRat_mul_mkRat, sg_mul, hr, ht]

theorem qv_plus_same {n : Bool} {xs ys ps qs rs ts : List Nat} (hy : V ys ≠ 0) (hq : V qs ≠ 0) (hr : V rs = V xs * V qs + V ps * V ys) (ht : V ts = V ys * V qs) : qv n rs ts = qv n xs ys + qv n ps qs := by
  unfold qv
  rw [Rat.mkRat_add_mkRat _ _ hy hq, hr, ht]
  congr 1
  cases n <;> simp [sg] <;> grind
theorem qv_plus_less {n m : Bool} (hnm : n ≠ m) {xs ys ps qs rs ts : List Nat} (hy : V ys ≠ 0) (hq : V qs ≠ 0) (hl : V xs * V qs < V ps * V ys) (hr : V rs = V ps * V ys - V xs * V qs) (ht : V ts = V ys * V qs) : qv m rs ts = qv n xs ys + qv m ps qs := by
  unfold qv
  rw [Rat.mkRat_add_mkRat _ _ hy hq, hr, ht]
  congr 1
  cases n <;> cases m <;> simp [sg] at hnm ⊢ <;> grind
theorem qv_plus_more {n m : Bool} (hnm : n ≠ m) {xs ys ps qs rs ts : List Nat} (hy : V ys ≠ 0) (hq : V qs ≠ 0) (hl : ¬ V xs * V qs < V ps * V ys) (hr : V rs = V xs * V qs - V ps * V ys) (ht : V ts = V ys * V qs) : qv n rs ts = qv n xs ys + qv m ps qs := by
  unfold qv
  rw [Rat.mkRat_add_mkRat _ _ hy hq, hr, ht]
  congr 1
  cases n <;> cases m <;> simp [sg] at hnm ⊢ <;> grind

theorem V_len_le {xs : List Nat} (l : Lim xs) {k : Nat} (h : xs.length ≤ k) : V xs < 4294967296 ^ k :=
  Nat.lt_of_lt_of_le (V_lt l) (Nat.pow_le_pow_right (by decide) h)
theorem prod_len {xs ys zs : List Nat} (lx : Lim xs) (ly : Lim ys) (t : Tr zs) {k l : Nat} (hx : xs.length ≤ k) (hy : ys.length ≤ l) (h : V zs = V xs * V ys) : zs.length ≤ k + l := by
  refine len_le_of_V t ?_
  rw [h, Nat.pow_add]
  exact Nat.mul_lt_mul'' (V_len_le lx hx) (V_len_le ly hy)
theorem sum_len {xs ys zs : List Nat} (lx : Lim xs) (ly : Lim ys) (t : Tr zs) {k : Nat} (hx : xs.length ≤ k) (hy : ys.length ≤ k) (h : V zs ≤ V xs + V ys) : zs.length ≤ k + 1 := by
  refine len_le_of_V t ?_
  have h1 := V_len_le lx hx
  have h2 := V_len_le ly hy
  rw [Nat.pow_succ]
  omega

set_option maxHeartbeats 1000000 in
set_option maxRecDepth 100000 in
theorem make_any (z d : Int) (w : World) (h1 : -9223372036854775808 ≤ z) (h2 : z < 9223372036854775808) (h3 : -9223372036854775808 ≤ d) (h4 : d < 9223372036854775808) :
    Calls Tryz.prog 126 #[.int .i64 z, .int .i64 d] w fun e w' => ∃ v', e = .returned v' ∧ Fr w' v' 2 ((z : Rat) / (d : Rat)) ∧ Below w.heap.size w w' := by
  by_cases hd : d = 0
  · subst hd
    go_enter Tryz.func126, Tryz.ntmps126
    go_wp2_with fail
    refine (whole_any 0 _ (by decide) (by decide)).mono ?_
    rintro e u2 ⟨v2, rfl, hF, hb2⟩
    obtain ⟨B2, hbW⟩ := after1 hb2
    obtain ⟨q1, q2, q3, q4, q5, q6⟩ := B2.cells
    have hs' := B2.lt
    obtain ⟨n', xs', ys', ⟨b, d, b', d', rfl, hx', hy'⟩, hf', lx', ly', he⟩ := hF
    clear hb2
    go_wp2
    refine ret3 (v := .agg #[.bool n', .slice b xs'.length d, .slice b' ys'.length d']) B2 rfl (fun U hU => by obtain ⟨r1, r2, r3, _⟩ := hU.cells; simp [results, Tryz.results126, go_sem, r1, r2, r3]) (fun U hU hK => ⟨_, rfl, ⟨_, _, _, ⟨_, _, _, _, rfl, hK _ _ _ hx', hK _ _ _ hy'⟩, hf', by omega, by omega, by rw [he]; simp [Rat.div_def]⟩, hU _ _ hbW (by omega)⟩)
  · have hd0 : (d == 0) = false := beq_eq_false_iff_ne.2 hd
    go_enter Tryz.func126, Tryz.ntmps126
    go_wp2_with fail
    refine (mag_any z _ h1 h2).mono ?_
    rintro e u ⟨rfl, rfl⟩
    go_wp2_with fail
    refine (of_any z.natAbs _ (by omega)).mono ?_
    rintro e u1 ⟨a1, c1, xs, rfl, hv1, ht1, hr1, hb1⟩
    obtain ⟨B1, hbW⟩ := after1 hb1
    have rx := hr1.rd
    clear hr1 hb1
    go_wp2_with fail
    refine (mag_any d _ h3 h4).mono ?_
    rintro e u ⟨rfl, rfl⟩
    go_wp2_with fail
    refine (of_any d.natAbs _ (by omega)).mono ?_
    rintro e u2 ⟨a2, c2, ys, rfl, hv2, ht2, hr2, hb2⟩
    have ry := hr2.rd
    replace rx := rx.below hb2
    replace B1 := B1.below hb2
    replace hbW : Below w.heap.size w u2 := hbW.trans (hb2.mono hbW.size)
    clear hr2 hb2
    have hL : Lo u2 (.agg #[.bool (!(decide (z < 0) == decide (d < 0))), .slice a1 xs.length c1, .slice a2 ys.length c2]) 2 ((z : Rat) / (d : Rat)) :=
      ⟨_, _, _, ⟨_, _, _, _, rfl, rx, ry⟩, ht1, ht2, by omega, len_two ht1 (by omega), len_two ht2 (by omega), qv_make hv1 hv2 hd⟩
    go_wp2_with fail
    refine (reduced_any 2 _ _ _ hL (by decide)).mono ?_
    rintro e u3 ⟨v3, rfl, hF, hb3⟩
    replace B1 := B1.below hb3
    replace hbW : Below w.heap.size w u3 := hbW.trans (hb3.mono hbW.size)
    obtain ⟨q1, q2, q3, q4, q5, q6⟩ := B1.cells
    have hs' := B1.lt
    obtain ⟨n', xs', ys', ⟨b, d, b', d', rfl, hx', hy'⟩, hf', lx', ly', he⟩ := hF
    clear hb3 hL rx ry
    go_wp2
    refine ret3 (v := .agg #[.bool n', .slice b xs'.length d, .slice b' ys'.length d']) B1 rfl (fun U hU => by obtain ⟨r1, r2, r3, _⟩ := hU.cells; simp [results, Tryz.results126, go_sem, r1, r2, r3]) (fun U hU hK => ⟨_, rfl, ⟨_, _, _, ⟨_, _, _, _, rfl, hK _ _ _ hx', hK _ _ _ hy'⟩, hf', by omega, by omega, he⟩, hU _ _ hbW (by omega)⟩)

set_option maxHeartbeats 1000000 in
set_option maxRecDepth 100000 in
theorem times_any (k l : Nat) (q r : Rat) (v v' : Value) (w : World) (h : Lo w v k q) (h' : Lo w v' l r) (hk : k ≤ 100000000) (hl : l ≤ 100000000) :
    Calls Tryz.prog 114 #[v, v'] w fun e w' => ∃ v', e = .returned v' ∧ Lo w' v' (k + l) (q * r) ∧ Below w.heap.size w w' := by
  obtain ⟨n, xs, ys, ⟨a, c, a', c', rfl, hx, hy⟩, tx, ty, y0, lx, ly, rfl⟩ := h
  obtain ⟨m, ps, qs, ⟨b, d, b', d', rfl, hp, hq⟩, tp, tq, q0, lp, lq, rfl⟩ := h'
  have lx0 := hx.lim
  have ly0 := hy.lim
  have lp0 := hp.lim
  have lq0 := hq.lim
  go_enter Tryz.func114, Tryz.ntmps114
  go_wp2_with fail
  obtain ⟨W, hW, B1, B2, B3, hbW⟩ := boxes3 109 109 109 w (.bool n) (.slice a xs.length c) (.slice a' ys.length c') (.bool m) (.slice b ps.length d) (.slice b' qs.length d') (.bool false) (.slice none 0 0) (.slice none 0 0)
  rw [← hW]
  clear hW
  replace hx := hx.below hbW
  replace hy := hy.below hbW
  replace hp := hp.below hbW
  replace hq := hq.below hbW
  obtain ⟨p1, p2, p3, _⟩ := B1.cells
  obtain ⟨p4, p5, p6, _⟩ := B2.cells
  go_region_held3 (fun u => u.cell? ⟨w.heap.size, 0, none⟩ = some (.bool n) ∧ u.cell? ⟨w.heap.size, 1, none⟩ = some (.slice a xs.length c) ∧ u.cell? ⟨w.heap.size, 2, none⟩ = some (.slice a' ys.length c') ∧ u.cell? ⟨w.heap.size + 1, 0, none⟩ = some (.bool m) ∧ u.cell? ⟨w.heap.size + 1, 1, none⟩ = some (.slice b ps.length d) ∧ u.cell? ⟨w.heap.size + 1, 2, none⟩ = some (.slice b' qs.length d')) (first | (go_keep; done) | (refine ⟨(cell_set3 (by omega)).trans p1, (cell_set3 (by omega)).trans p2, (cell_set3 (by omega)).trans p3, (cell_set3 (by omega)).trans p4, (cell_set3 (by omega)).trans p5, (cell_set3 (by omega)).trans p6⟩))
    (first
      | (go_at_call_of 106 (Value.slice a xs.length c)
         refine (mul_any _ _ _ _ _ _ _ (hx.below Below.drew1) (hp.below Below.drew1) ?_ ?_).mono ?_
         · omega
         · omega
         rintro e u1 ⟨a1, c1, rs, rfl, hv1, ht1, hr1, hb1⟩
         have hb1' : Below W.heap.size W u1 := Below.drew1.trans hb1
         replace hy := hy.below hb1'
         replace hq := hq.below hb1'
         replace B1 := B1.below hb1'
         replace B2 := B2.below hb1'
         replace B3 := B3.below hb1'
         replace hbW : Below w.heap.size w u1 := hbW.trans (hb1'.mono hbW.size)
         have rr := hr1.rd
         clear hr1 hb1 hb1' hx hp p1 p2 p3 p4 p5 p6
         obtain ⟨p1, p2, p3, _⟩ := B1.cells
         obtain ⟨p4, p5, p6, _⟩ := B2.cells)
      | (go_at_call_of 106 (Value.slice a' ys.length c')
         refine (mul_any _ _ _ _ _ _ _ hy hq ?_ ?_).mono ?_
         · omega
         · omega
         rintro e u2 ⟨a2, c2, ts, rfl, hv2, ht2, hr2, hb2⟩
         have rt := hr2.rd
         replace rr := rr.below hb2
         replace B1 := B1.below hb2
         replace B2 := B2.below hb2
         replace B3 := B3.below hb2
         replace hbW : Below w.heap.size w u2 := hbW.trans (hb2.mono hbW.size)
         clear hr2 hb2 hy hq p1 p2 p3 p4 p5 p6
         obtain ⟨p1, p2, p3, _⟩ := B1.cells
         obtain ⟨p4, p5, p6, _⟩ := B2.cells
         obtain ⟨q1, q2, q3, q4, q5, q6⟩ := B3.cells
         have hs := B3.lt))
  go_wp2
  refine ret3 (v := .agg #[.bool (!(n == m)), .slice a1 rs.length c1, .slice a2 ts.length c2]) B3 rfl (fun U hU => by obtain ⟨r1, r2, r3, _⟩ := hU.cells; simp [results, Tryz.results114, go_sem, r1, r2, r3]) (fun U hU hK => ⟨_, rfl, ⟨_, _, _, ⟨_, _, _, _, rfl, hK _ _ _ rr, hK _ _ _ rt⟩, ht1, ht2, ?_, ?_, ?_, ?_⟩, hU _ _ hbW (by omega)⟩)
  · rw [hv2]; exact Nat.mul_ne_zero y0 q0
  · exact prod_len lx0 lp0 ht1 lx lp hv1
  · exact prod_len ly0 lq0 ht2 ly lq hv2
  · exact qv_times hv1 hv2

set_option maxHeartbeats 2000000 in
set_option maxRecDepth 100000 in
theorem plus_any (k l : Nat) (q r : Rat) (v v' : Value) (w : World) (h : Lo w v k q) (h' : Lo w v' l r) (hk : k ≤ 100000000) (hl : l ≤ 100000000) :
    Calls Tryz.prog 89 #[v, v'] w fun e w' => ∃ v', e = .returned v' ∧ Lo w' v' (k + l + 1) (q + r) ∧ Below w.heap.size w w' := by
  obtain ⟨n, xs, ys, ⟨a, c, a', c', rfl, hx, hy⟩, tx, ty, y0, lx, ly, rfl⟩ := h
  obtain ⟨m, ps, qs, ⟨b, d, b', d', rfl, hp, hq⟩, tp, tq, q0, lp, lq, rfl⟩ := h'
  have lx0 := hx.lim
  have ly0 := hy.lim
  have lp0 := hp.lim
  have lq0 := hq.lim
  go_enter Tryz.func89, Tryz.ntmps89
  go_wp2_with fail
  obtain ⟨W, hW, B1, B2, B3, hbW⟩ := boxes3 109 109 109 w (.bool n) (.slice a xs.length c) (.slice a' ys.length c') (.bool m) (.slice b ps.length d) (.slice b' qs.length d') (.bool false) (.slice none 0 0) (.slice none 0 0)
  rw [← hW]
  clear hW
  replace hx := hx.below hbW
  replace hy := hy.below hbW
  replace hp := hp.below hbW
  replace hq := hq.below hbW
  obtain ⟨p1, p2, p3, _⟩ := B1.cells
  obtain ⟨p4, p5, p6, _⟩ := B2.cells
  go_region_held3 (fun u => u.cell? ⟨w.heap.size, 0, none⟩ = some (.bool n) ∧ u.cell? ⟨w.heap.size, 1, none⟩ = some (.slice a xs.length c) ∧ u.cell? ⟨w.heap.size, 2, none⟩ = some (.slice a' ys.length c') ∧ u.cell? ⟨w.heap.size + 1, 0, none⟩ = some (.bool m) ∧ u.cell? ⟨w.heap.size + 1, 1, none⟩ = some (.slice b ps.length d) ∧ u.cell? ⟨w.heap.size + 1, 2, none⟩ = some (.slice b' qs.length d')) (first | (go_keep; done) | (refine ⟨(cell_set3 (by omega)).trans p1, (cell_set3 (by omega)).trans p2, (cell_set3 (by omega)).trans p3, (cell_set3 (by omega)).trans p4, (cell_set3 (by omega)).trans p5, (cell_set3 (by omega)).trans p6⟩))
    (first
      | (go_at_call_of 106 (Value.slice a xs.length c)
         refine (mul_any _ _ _ _ _ _ _ (hx.below Below.drew1) (hq.below Below.drew1) ?_ ?_).mono ?_
         · omega
         · omega
         rintro e u1 ⟨a1, c1, zs, rfl, hv1, ht1, hr1, hb1⟩
         have hb1' : Below W.heap.size W u1 := Below.drew1.trans hb1
         replace hy := hy.below hb1'
         replace hq := hq.below hb1'
         replace hp := hp.below hb1'
         replace B1 := B1.below hb1'
         replace B2 := B2.below hb1'
         replace B3 := B3.below hb1'
         replace hbW : Below w.heap.size w u1 := hbW.trans (hb1'.mono hbW.size)
         have ra := hr1.rd
         clear hr1 hb1 hb1' hx p1 p2 p3 p4 p5 p6
         obtain ⟨p1, p2, p3, _⟩ := B1.cells
         obtain ⟨p4, p5, p6, _⟩ := B2.cells)
      | (go_at_call_of 106 (Value.slice b ps.length d)
         refine (mul_any _ _ _ _ _ _ _ hp hy ?_ ?_).mono ?_
         · omega
         · omega
         rintro e u2 ⟨a2, c2, bs, rfl, hv2, ht2, hr2, hb2⟩
         have rb := hr2.rd
         replace ra := ra.below hb2
         replace hy := hy.below hb2
         replace hq := hq.below hb2
         replace B1 := B1.below hb2
         replace B2 := B2.below hb2
         replace B3 := B3.below hb2
         replace hbW : Below w.heap.size w u2 := hbW.trans (hb2.mono hbW.size)
         clear hr2 hb2 hp p1 p2 p3 p4 p5 p6
         obtain ⟨p1, p2, p3, _⟩ := B1.cells
         obtain ⟨p4, p5, p6, _⟩ := B2.cells))
  go_wp2_with fail
  refine (mul_any _ _ _ _ _ _ _ hy hq (by omega) (by omega)).mono ?_
  rintro e u3 ⟨a3, c3, ds, rfl, hv3, ht3, hr3, hb3⟩
  have rd := hr3.rd
  replace ra := ra.below hb3
  replace rb := rb.below hb3
  replace B1 := B1.below hb3
  replace B2 := B2.below hb3
  replace B3 := B3.below hb3
  replace hbW : Below w.heap.size w u3 := hbW.trans (hb3.mono hbW.size)
  clear hr3 hb3 hy hq p1 p2 p3 p4 p5 p6
  obtain ⟨p1, p2, p3, _⟩ := B1.cells
  obtain ⟨p4, p5, p6, _⟩ := B2.cells
  have d0 : V ds ≠ 0 := by rw [hv3]; exact Nat.mul_ne_zero y0 q0
  have ld : ds.length ≤ k + l := prod_len ly0 lq0 ht3 ly lq hv3
  have la : zs.length ≤ k + l := prod_len lx0 lq0 ht1 lx lq hv1
  have lb : bs.length ≤ k + l := by have := prod_len lp0 ly0 ht2 lp ly hv2; omega
  by_cases hnm : n = m
  · subst hnm
    have e0 : (n == n) = true := by simp
    go_wp2_with fail
    go_region_held3 (fun u => u.cell? ⟨w.heap.size, 0, none⟩ = some (.bool n) ∧ u.cell? ⟨w.heap.size, 1, none⟩ = some (.slice a xs.length c) ∧ u.cell? ⟨w.heap.size, 2, none⟩ = some (.slice a' ys.length c') ∧ u.cell? ⟨w.heap.size + 1, 0, none⟩ = some (.bool n) ∧ u.cell? ⟨w.heap.size + 1, 1, none⟩ = some (.slice b ps.length d) ∧ u.cell? ⟨w.heap.size + 1, 2, none⟩ = some (.slice b' qs.length d')) (first | (go_keep; done) | (refine ⟨(cell_set3 (by omega)).trans p1, (cell_set3 (by omega)).trans p2, (cell_set3 (by omega)).trans p3, (cell_set3 (by omega)).trans p4, (cell_set3 (by omega)).trans p5, (cell_set3 (by omega)).trans p6⟩))
      (first
        | (go_at_call 105
           refine (add_any _ _ _ _ _ _ _ (ra.below Below.drew1) (rb.below Below.drew1) ?_ ?_).mono ?_
           · omega
           · omega
           rintro e u5 ⟨a4, c4, rs, rfl, hv4, ht4, hr4, hb4⟩
           have rr := hr4.rd
           have lr : rs.length ≤ k + l + 1 := sum_len ra.lim rb.lim ht4 la lb (by omega)
           replace hb4 : Below u3.heap.size u3 u5 := Below.drew1.trans hb4
           replace rd := rd.below hb4
           replace B1 := B1.below hb4
           replace B2 := B2.below hb4
           replace B3 := B3.below hb4
           replace hbW : Below w.heap.size w u5 := hbW.trans (hb4.mono hbW.size)
           clear hr4 hb4 p1 p2 p3 p4 p5 p6
           obtain ⟨p1, p2, p3, _⟩ := B1.cells
           obtain ⟨p4, p5, p6, _⟩ := B2.cells
           obtain ⟨q1, q2, q3, q4, q5, q6⟩ := B3.cells
           have hs := B3.lt))
    go_wp2
    refine ret3 (v := .agg #[.bool n, .slice a4 rs.length c4, .slice a3 ds.length c3]) B3 rfl (fun U hU => by obtain ⟨r1, r2, r3, _⟩ := hU.cells; simp [results, Tryz.results89, go_sem, r1, r2, r3]) (fun U hU hK => ⟨_, rfl, ⟨_, _, _, ⟨_, _, _, _, rfl, hK _ _ _ rr, hK _ _ _ rd⟩, ht4, ht3, d0, lr, by omega, ?_⟩, hU _ _ hbW (by omega)⟩)
    exact qv_plus_same y0 q0 (by rw [hv4, hv1, hv2]) hv3
  · have e0 : (n == m) = false := by simpa using hnm
    go_wp2_with fail
    refine (cmp_any _ _ _ _ _ _ _ ra rb).mono ?_
    rintro e u4 ⟨rfl, hb4⟩
    replace rd := rd.below hb4
    replace ra := ra.below hb4
    replace rb := rb.below hb4
    replace B1 := B1.below hb4
    replace B2 := B2.below hb4
    replace B3 := B3.below hb4
    replace hbW : Below w.heap.size w u4 := hbW.trans (hb4.mono hbW.size)
    clear hb4 p1 p2 p3 p4 p5 p6
    obtain ⟨p1, p2, p3, _⟩ := B1.cells
    obtain ⟨p4, p5, p6, _⟩ := B2.cells
    by_cases hlt : V zs < V bs
    · have ec : cmpN (V zs) (V bs) = -1 := by unfold cmpN; rw [if_pos hlt]
      rw [ec]
      clear ec
      go_wp2_with fail
      go_region_held3 (fun u => u.cell? ⟨w.heap.size, 0, none⟩ = some (.bool n) ∧ u.cell? ⟨w.heap.size, 1, none⟩ = some (.slice a xs.length c) ∧ u.cell? ⟨w.heap.size, 2, none⟩ = some (.slice a' ys.length c') ∧ u.cell? ⟨w.heap.size + 1, 0, none⟩ = some (.bool m) ∧ u.cell? ⟨w.heap.size + 1, 1, none⟩ = some (.slice b ps.length d) ∧ u.cell? ⟨w.heap.size + 1, 2, none⟩ = some (.slice b' qs.length d')) (first | (go_keep; done) | (refine ⟨(cell_set3 (by omega)).trans p1, (cell_set3 (by omega)).trans p2, (cell_set3 (by omega)).trans p3, (cell_set3 (by omega)).trans p4, (cell_set3 (by omega)).trans p5, (cell_set3 (by omega)).trans p6⟩))
        (first
          | (go_at_call 108
             refine (sub_any _ _ _ _ _ _ _ (rb.below Below.drew1) (ra.below Below.drew1) ?_ ?_).mono ?_
             · omega
             · omega
             rintro e u5 ⟨a4, c4, rs, rfl, hv4, ht4, hr4, hb4⟩
             have rr := hr4.rd
             have lr : rs.length ≤ k + l + 1 := sum_len ra.lim rb.lim ht4 la lb (by omega)
             replace hb4 : Below u4.heap.size u4 u5 := Below.drew1.trans hb4
             replace rd := rd.below hb4
             replace B1 := B1.below hb4
             replace B2 := B2.below hb4
             replace B3 := B3.below hb4
             replace hbW : Below w.heap.size w u5 := hbW.trans (hb4.mono hbW.size)
             clear hr4 hb4 p1 p2 p3 p4 p5 p6
             obtain ⟨p1, p2, p3, _⟩ := B1.cells
             obtain ⟨p4, p5, p6, _⟩ := B2.cells
             obtain ⟨q1, q2, q3, q4, q5, q6⟩ := B3.cells
             have hs := B3.lt))
      go_wp2
      refine ret3 (v := .agg #[.bool m, .slice a4 rs.length c4, .slice a3 ds.length c3]) B3 rfl (fun U hU => by obtain ⟨r1, r2, r3, _⟩ := hU.cells; simp [results, Tryz.results89, go_sem, r1, r2, r3]) (fun U hU hK => ⟨_, rfl, ⟨_, _, _, ⟨_, _, _, _, rfl, hK _ _ _ rr, hK _ _ _ rd⟩, ht4, ht3, d0, lr, by omega, ?_⟩, hU _ _ hbW (by omega)⟩)
      exact qv_plus_less hnm y0 q0 (by rw [← hv1, ← hv2]; exact hlt) (by rw [hv4, hv1, hv2]) hv3
    · have ec : ¬ cmpN (V zs) (V bs) < 0 := by unfold cmpN; rw [if_neg hlt]; split <;> decide
      generalize cmpN (V zs) (V bs) = cc at ec ⊢
      go_wp2_with fail
      go_region_held3 (fun u => u.cell? ⟨w.heap.size, 0, none⟩ = some (.bool n) ∧ u.cell? ⟨w.heap.size, 1, none⟩ = some (.slice a xs.length c) ∧ u.cell? ⟨w.heap.size, 2, none⟩ = some (.slice a' ys.length c') ∧ u.cell? ⟨w.heap.size + 1, 0, none⟩ = some (.bool m) ∧ u.cell? ⟨w.heap.size + 1, 1, none⟩ = some (.slice b ps.length d) ∧ u.cell? ⟨w.heap.size + 1, 2, none⟩ = some (.slice b' qs.length d')) (first | (go_keep; done) | (refine ⟨(cell_set3 (by omega)).trans p1, (cell_set3 (by omega)).trans p2, (cell_set3 (by omega)).trans p3, (cell_set3 (by omega)).trans p4, (cell_set3 (by omega)).trans p5, (cell_set3 (by omega)).trans p6⟩))
        (first
          | (go_at_call 108
             refine (sub_any _ _ _ _ _ _ _ (ra.below Below.drew1) (rb.below Below.drew1) ?_ ?_).mono ?_
             · omega
             · omega
             rintro e u5 ⟨a4, c4, rs, rfl, hv4, ht4, hr4, hb4⟩
             have rr := hr4.rd
             have lr : rs.length ≤ k + l + 1 := sum_len ra.lim rb.lim ht4 la lb (by omega)
             replace hb4 : Below u4.heap.size u4 u5 := Below.drew1.trans hb4
             replace rd := rd.below hb4
             replace B1 := B1.below hb4
             replace B2 := B2.below hb4
             replace B3 := B3.below hb4
             replace hbW : Below w.heap.size w u5 := hbW.trans (hb4.mono hbW.size)
             clear hr4 hb4 p1 p2 p3 p4 p5 p6
             obtain ⟨p1, p2, p3, _⟩ := B1.cells
             obtain ⟨p4, p5, p6, _⟩ := B2.cells
             obtain ⟨q1, q2, q3, q4, q5, q6⟩ := B3.cells
             have hs := B3.lt))
      go_wp2
      refine ret3 (v := .agg #[.bool n, .slice a4 rs.length c4, .slice a3 ds.length c3]) B3 rfl (fun U hU => by obtain ⟨r1, r2, r3, _⟩ := hU.cells; simp [results, Tryz.results89, go_sem, r1, r2, r3]) (fun U hU hK => ⟨_, rfl, ⟨_, _, _, ⟨_, _, _, _, rfl, hK _ _ _ rr, hK _ _ _ rd⟩, ht4, ht3, d0, lr, by omega, ?_⟩, hU _ _ hbW (by omega)⟩)
      exact qv_plus_more hnm y0 q0 (by rw [← hv1, ← hv2]; exact hlt) (by rw [hv4, hv1, hv2]) hv3

end Go.Proofs.YtchdoakoelfenaaGreat

namespace Go.Proofs.YtchdoakoelfenaaGreat
open Go.RowKit
set_option linter.unusedSimpArgs false
set_option linter.unusedVariables false

/-- -1, 0, 1. -/
def sgnQ (q : Rat) : Int := if q = 0 then 0 else if q < 0 then -1 else 1

theorem sgn_lo {n : Bool} {xs ys : List Nat} (tx : Tr xs) (hy : V ys ≠ 0) : sgnQ (qv n xs ys) = if xs.length = 0 then 0 else if n = true then -1 else 1 := by
  have h0 : qv n xs ys = 0 ↔ xs.length = 0 := by
    unfold qv
    rw [Rat.mkRat_eq_zero hy]
    refine ⟨fun h => ?_, fun h => ?_⟩
    · have := congrArg Int.natAbs h
      rw [sg_natAbs] at this
      rw [eq_nil_of_V tx this]; rfl
    · rw [List.length_eq_zero_iff.1 h]; exact sg_zero n
  have h1 : xs.length ≠ 0 → (qv n xs ys < 0 ↔ n = true) := by
    intro hx
    have hv : V xs ≠ 0 := V_ne_of tx fun h => hx (by rw [h]; rfl)
    have key : 0 ≤ qv n xs ys ↔ 0 ≤ sg n (V xs) := by
      unfold qv
      rw [← Rat.divInt_ofNat]
      exact Rat.divInt_nonneg_iff_of_pos_right (by omega)
    rw [← Rat.not_le, key]
    cases n <;> simp [sg] <;> omega
  unfold sgnQ
  by_cases hx : xs.length = 0
  · rw [if_pos (h0.2 hx), if_pos hx]
  · rw [if_neg (fun h => hx (h0.1 h)), if_neg hx]
    by_cases hn : n = true
    · rw [if_pos ((h1 hx).2 hn), if_pos hn]
    · rw [if_neg (fun h => hn ((h1 hx).1 h)), if_neg hn]

set_option maxHeartbeats 1000000 in
set_option maxRecDepth 100000 in
theorem sign_any (k : Nat) (q : Rat) (v : Value) (w : World) (h : Lo w v k q) (hk : k ≤ 400000000) :
    Calls Tryz.prog 113 #[v] w fun e w' => e = .returned (.int .i64 (sgnQ q)) ∧ Below w.heap.size w w' := by
  obtain ⟨n, xs, ys, ⟨a, c, a', c', rfl, hx, hy⟩, tx, ty, y0, lx, ly, rfl⟩ := h
  have e := sgn_lo (n := n) tx y0
  have k1 : xs.length ≤ 400000000 := by omega
  generalize sgnQ (qv n xs ys) = sq at e
  by_cases h0 : xs.length = 0
  · rw [if_pos h0] at e
    subst e
    rw [h0]
    go_enter Tryz.func113, Tryz.ntmps113
    go_wp2
    go_ret
    exact ⟨rfl, al1 _⟩
  · rw [if_neg h0] at e
    have g1 : ((xs.length : Int) == 0) = false := beq_eq_false_iff_ne.2 (by omega)
    cases n with
    | true =>
      simp at e
      subst e
      go_enter Tryz.func113, Tryz.ntmps113
      go_wp2
      go_ret
      exact ⟨rfl, al1 _⟩
    | false =>
      simp at e
      subst e
      go_enter Tryz.func113, Tryz.ntmps113
      go_wp2
      go_ret
      exact ⟨rfl, al1 _⟩

theorem qv_neg (n : Bool) (xs ys : List Nat) : qv (!n) xs ys = - qv n xs ys := by
  unfold qv
  rw [Rat.neg_mkRat]
  congr 1
  cases n <;> simp [sg]
theorem Lo.neg {w : World} {n : Bool} {xs ys : List Nat} {a a' : Option Addr} {c c' k : Nat} {q : Rat} (hx : Rd w a c xs) (hy : Rd w a' c' ys) (tx : Tr xs) (ty : Tr ys) (y0 : V ys ≠ 0) (lx : xs.length ≤ k) (ly : ys.length ≤ k) (e : qv n xs ys = q) :
    Lo w (.agg #[.bool (!n), .slice a xs.length c, .slice a' ys.length c']) k (-q) := ⟨_, _, _, ⟨_, _, _, _, rfl, hx, hy⟩, tx, ty, y0, lx, ly, by rw [qv_neg, e]⟩

end Go.Proofs.YtchdoakoelfenaaGreat

namespace Go.Proofs.YtchdoakoelfenaaGreat
open Go.RowKit
set_option linter.unusedSimpArgs false
set_option linter.unusedVariables false

set_option maxHeartbeats 2000000 in
set_option maxRecDepth 100000 in
theorem qadd_any (k l : Nat) (q r : Rat) (v v' : Value) (w : World) (h : Ct w v k q) (h' : Ct w v' l r) (hk : k ≤ 100000000) (hl : l ≤ 100000000) (hk2 : 2 ≤ k) (hl2 : 2 ≤ l) :
    Calls Tryz.prog 72 #[v, v'] w fun e w' => ∃ v', e = .returned v' ∧ Fr w' v' (k + l + 1) (q + r) ∧ Below w.heap.size w w' := by
  have hX := h
  have hY := h'
  obtain ⟨n, xs, ys, ⟨a, c, a', c', rfl, hx, hy⟩, lx, ly, hq⟩ := h
  obtain ⟨m, ps, qs, ⟨b, d, b', d', rfl, hp, hqs⟩, lp, lq, hr⟩ := h'
  clear hq hr hx hy hp hqs lx ly lp lq
  go_enter Tryz.func72, Tryz.ntmps72
  go_wp2_with fail
  obtain ⟨W, hW, B1, B2, B3, hbW⟩ := boxes3 109 109 109 w (.bool n) (.slice a xs.length c) (.slice a' ys.length c') (.bool m) (.slice b ps.length d) (.slice b' qs.length d') (.bool false) (.slice none 0 0) (.slice none 0 0)
  rw [← hW]
  clear hW
  replace hX := hX.below hbW
  replace hY := hY.below hbW
  obtain ⟨p1, p2, p3, _⟩ := B1.cells
  obtain ⟨p4, p5, p6, _⟩ := B2.cells
  go_region_held3 (fun u => u.cell? ⟨w.heap.size, 0, none⟩ = some (.bool n) ∧ u.cell? ⟨w.heap.size, 1, none⟩ = some (.slice a xs.length c) ∧ u.cell? ⟨w.heap.size, 2, none⟩ = some (.slice a' ys.length c') ∧ u.cell? ⟨w.heap.size + 1, 0, none⟩ = some (.bool m) ∧ u.cell? ⟨w.heap.size + 1, 1, none⟩ = some (.slice b ps.length d) ∧ u.cell? ⟨w.heap.size + 1, 2, none⟩ = some (.slice b' qs.length d')) (first | (go_keep; done) | (refine ⟨(cell_set3 (by omega)).trans p1, (cell_set3 (by omega)).trans p2, (cell_set3 (by omega)).trans p3, (cell_set3 (by omega)).trans p4, (cell_set3 (by omega)).trans p5, (cell_set3 (by omega)).trans p6⟩))
    (first
      | (go_at_call_of 90 (Value.agg #[.bool n, .slice a xs.length c, .slice a' ys.length c'])
         refine (counted_any k q _ _ (hX.below Below.drew1) ?_ ?_).mono ?_
         · omega
         · omega
         rintro e u1 ⟨v1, rfl, hF1, hb1⟩
         have hb1' : Below W.heap.size W u1 := Below.drew1.trans hb1
         replace hY := hY.below hb1'
         replace B1 := B1.below hb1'
         replace B2 := B2.below hb1'
         replace B3 := B3.below hb1'
         replace hbW : Below w.heap.size w u1 := hbW.trans (hb1'.mono hbW.size)
         clear hb1 hb1' hX
         clear p1 p2 p3 p4 p5 p6
         obtain ⟨p1, p2, p3, _⟩ := B1.cells
         obtain ⟨p4, p5, p6, _⟩ := B2.cells)
      | (go_at_call_of 90 (Value.agg #[.bool m, .slice b ps.length d, .slice b' qs.length d'])
         refine (counted_any l r _ _ hY ?_ ?_).mono ?_
         · omega
         · omega
         rintro e u2 ⟨v2, rfl, hF2, hb2⟩
         replace hF1 := hF1.below hb2
         replace B1 := B1.below hb2
         replace B2 := B2.below hb2
         replace B3 := B3.below hb2
         replace hbW : Below w.heap.size w u2 := hbW.trans (hb2.mono hbW.size)
         clear hb2 hY
         clear p1 p2 p3 p4 p5 p6
         obtain ⟨p1, p2, p3, _⟩ := B1.cells
         obtain ⟨p4, p5, p6, _⟩ := B2.cells)
      | (go_at_call 89
         refine (plus_any k l q r _ _ _ hF1.lo hF2.lo ?_ ?_).mono ?_
         · omega
         · omega
         rintro e u3 ⟨v3, rfl, hL, hb3⟩
         replace B1 := B1.below hb3
         replace B2 := B2.below hb3
         replace B3 := B3.below hb3
         replace hbW : Below w.heap.size w u3 := hbW.trans (hb3.mono hbW.size)
         clear hb3 hF1 hF2
         clear p1 p2 p3 p4 p5 p6
         obtain ⟨p1, p2, p3, _⟩ := B1.cells
         obtain ⟨p4, p5, p6, _⟩ := B2.cells)
      | (go_at_call 91
         refine (reduced_any (k + l + 1) _ _ _ hL ?_).mono ?_
         · omega
         rintro e u4 ⟨v4, rfl, hF, hb4⟩
         replace B1 := B1.below hb4
         replace B2 := B2.below hb4
         replace B3 := B3.below hb4
         replace hbW : Below w.heap.size w u4 := hbW.trans (hb4.mono hbW.size)
         clear hb4 hL
         clear p1 p2 p3 p4 p5 p6
         obtain ⟨p1, p2, p3, _⟩ := B1.cells
         obtain ⟨p4, p5, p6, _⟩ := B2.cells
         obtain ⟨q1, q2, q3, q4, q5, q6⟩ := B3.cells
         have hs := B3.lt
         obtain ⟨n1, x1, y1, ⟨b1, d1, b2, d2, rfl, hx', hy'⟩, hF⟩ := hF))
  go_wp2
  exact ret3 (v := .agg #[.bool n1, .slice b1 x1.length d1, .slice b2 y1.length d2]) B3 rfl (fun U hU => by obtain ⟨r1, r2, r3, _⟩ := hU.cells; simp [results, Tryz.results72, go_sem, r1, r2, r3]) (fun U hU hK => ⟨_, rfl, ⟨_, _, _, ⟨_, _, _, _, rfl, hK _ _ _ hx', hK _ _ _ hy'⟩, hF⟩, hU _ _ hbW (by omega)⟩)

set_option maxHeartbeats 2000000 in
set_option maxRecDepth 100000 in
theorem qmul_any (k l : Nat) (q r : Rat) (v v' : Value) (w : World) (h : Ct w v k q) (h' : Ct w v' l r) (hk : k ≤ 100000000) (hl : l ≤ 100000000) (hk2 : 2 ≤ k) (hl2 : 2 ≤ l) :
    Calls Tryz.prog 95 #[v, v'] w fun e w' => ∃ v', e = .returned v' ∧ Fr w' v' (k + l) (q * r) ∧ Below w.heap.size w w' := by
  have hX := h
  have hY := h'
  obtain ⟨n, xs, ys, ⟨a, c, a', c', rfl, hx, hy⟩, lx, ly, hq⟩ := h
  obtain ⟨m, ps, qs, ⟨b, d, b', d', rfl, hp, hqs⟩, lp, lq, hr⟩ := h'
  clear hq hr hx hy hp hqs lx ly lp lq
  go_enter Tryz.func95, Tryz.ntmps95
  go_wp2_with fail
  obtain ⟨W, hW, B1, B2, B3, hbW⟩ := boxes3 109 109 109 w (.bool n) (.slice a xs.length c) (.slice a' ys.length c') (.bool m) (.slice b ps.length d) (.slice b' qs.length d') (.bool false) (.slice none 0 0) (.slice none 0 0)
  rw [← hW]
  clear hW
  replace hX := hX.below hbW
  replace hY := hY.below hbW
  obtain ⟨p1, p2, p3, _⟩ := B1.cells
  obtain ⟨p4, p5, p6, _⟩ := B2.cells
  go_region_held3 (fun u => u.cell? ⟨w.heap.size, 0, none⟩ = some (.bool n) ∧ u.cell? ⟨w.heap.size, 1, none⟩ = some (.slice a xs.length c) ∧ u.cell? ⟨w.heap.size, 2, none⟩ = some (.slice a' ys.length c') ∧ u.cell? ⟨w.heap.size + 1, 0, none⟩ = some (.bool m) ∧ u.cell? ⟨w.heap.size + 1, 1, none⟩ = some (.slice b ps.length d) ∧ u.cell? ⟨w.heap.size + 1, 2, none⟩ = some (.slice b' qs.length d')) (first | (go_keep; done) | (refine ⟨(cell_set3 (by omega)).trans p1, (cell_set3 (by omega)).trans p2, (cell_set3 (by omega)).trans p3, (cell_set3 (by omega)).trans p4, (cell_set3 (by omega)).trans p5, (cell_set3 (by omega)).trans p6⟩))
    (first
      | (go_at_call_of 90 (Value.agg #[.bool n, .slice a xs.length c, .slice a' ys.length c'])
         refine (counted_any k q _ _ (hX.below Below.drew1) ?_ ?_).mono ?_
         · omega
         · omega
         rintro e u1 ⟨v1, rfl, hF1, hb1⟩
         have hb1' : Below W.heap.size W u1 := Below.drew1.trans hb1
         replace hY := hY.below hb1'
         replace B1 := B1.below hb1'
         replace B2 := B2.below hb1'
         replace B3 := B3.below hb1'
         replace hbW : Below w.heap.size w u1 := hbW.trans (hb1'.mono hbW.size)
         clear hb1 hb1' hX
         clear p1 p2 p3 p4 p5 p6
         obtain ⟨p1, p2, p3, _⟩ := B1.cells
         obtain ⟨p4, p5, p6, _⟩ := B2.cells)
      | (go_at_call_of 90 (Value.agg #[.bool m, .slice b ps.length d, .slice b' qs.length d'])
         refine (counted_any l r _ _ hY ?_ ?_).mono ?_
         · omega
         · omega
         rintro e u2 ⟨v2, rfl, hF2, hb2⟩
         replace hF1 := hF1.below hb2
         replace B1 := B1.below hb2
         replace B2 := B2.below hb2
         replace B3 := B3.below hb2
         replace hbW : Below w.heap.size w u2 := hbW.trans (hb2.mono hbW.size)
         clear hb2 hY
         clear p1 p2 p3 p4 p5 p6
         obtain ⟨p1, p2, p3, _⟩ := B1.cells
         obtain ⟨p4, p5, p6, _⟩ := B2.cells)
      | (go_at_call 114
         refine (times_any k l q r _ _ _ hF1.lo hF2.lo ?_ ?_).mono ?_
         · omega
         · omega
         rintro e u3 ⟨v3, rfl, hL, hb3⟩
         replace B1 := B1.below hb3
         replace B2 := B2.below hb3
         replace B3 := B3.below hb3
         replace hbW : Below w.heap.size w u3 := hbW.trans (hb3.mono hbW.size)
         clear hb3 hF1 hF2
         clear p1 p2 p3 p4 p5 p6
         obtain ⟨p1, p2, p3, _⟩ := B1.cells
         obtain ⟨p4, p5, p6, _⟩ := B2.cells)
      | (go_at_call 91
         refine (reduced_any (k + l) _ _ _ hL ?_).mono ?_
         · omega
         rintro e u4 ⟨v4, rfl, hF, hb4⟩
         replace B1 := B1.below hb4
         replace B2 := B2.below hb4
         replace B3 := B3.below hb4
         replace hbW : Below w.heap.size w u4 := hbW.trans (hb4.mono hbW.size)
         clear hb4 hL
         clear p1 p2 p3 p4 p5 p6
         obtain ⟨p1, p2, p3, _⟩ := B1.cells
         obtain ⟨p4, p5, p6, _⟩ := B2.cells
         obtain ⟨q1, q2, q3, q4, q5, q6⟩ := B3.cells
         have hs := B3.lt
         obtain ⟨n1, x1, y1, ⟨b1, d1, b2, d2, rfl, hx', hy'⟩, hF⟩ := hF))
  go_wp2
  exact ret3 (v := .agg #[.bool n1, .slice b1 x1.length d1, .slice b2 y1.length d2]) B3 rfl (fun U hU => by obtain ⟨r1, r2, r3, _⟩ := hU.cells; simp [results, Tryz.results95, go_sem, r1, r2, r3]) (fun U hU hK => ⟨_, rfl, ⟨_, _, _, ⟨_, _, _, _, rfl, hK _ _ _ hx', hK _ _ _ hy'⟩, hF⟩, hU _ _ hbW (by omega)⟩)

set_option maxHeartbeats 1000000 in
set_option maxRecDepth 100000 in
theorem qsign_any (k : Nat) (q : Rat) (v : Value) (w : World) (h : Ct w v k q) (hk : k ≤ 100000000) (hk2 : 2 ≤ k) :
    Calls Tryz.prog 94 #[v] w fun e w' => e = .returned (.int .i64 (sgnQ q)) ∧ Below w.heap.size w w' := by
  have hX := h
  obtain ⟨n, xs, ys, ⟨a, c, a', c', rfl, hx, hy⟩, lx, ly, hq⟩ := h
  clear hq hx hy lx ly
  go_enter Tryz.func94, Tryz.ntmps94
  go_wp2_with fail
  refine (counted_any k q _ _ (hX.below (al1 _)) (by omega) hk2).mono ?_
  rintro e u1 ⟨v1, rfl, hF1, hb1⟩
  obtain ⟨B1, hbW⟩ := after1 hb1
  clear hb1
  go_wp2_with fail
  refine (sign_any k q _ _ hF1.lo (by omega)).mono ?_
  rintro e u2 ⟨rfl, hb2⟩
  replace hbW : Below w.heap.size w u2 := hbW.trans (hb2.mono hbW.size)
  go_wp2
  go_ret
  exact ⟨rfl, hbW⟩

end Go.Proofs.YtchdoakoelfenaaGreat

namespace Go.Proofs.YtchdoakoelfenaaGreat
open Go.RowKit Classical
set_option linter.unusedSimpArgs false
set_option linter.unusedVariables false

theorem Box.other {t : TypeId} {u U : World} {b k : Nat} {x y z : Value} (h : Box t u k x y z) (hU : ∀ j, j ≠ b → U.heap[j]? = u.heap[j]?) (hk : k ≠ b) : Box t U k x y z := (hU k hk).trans h

/-- A fraction is stored into a block that holds one. -/
theorem set3_world {t : TypeId} {u : World} {b : Nat} {n : Bool} {a a' : Option Addr} {l c l' c' : Nat} (B : Box t u b (.bool n) (.slice a l c) (.slice a' l' c')) (x' y' z' : Value) :
    ∃ U, U = (((u.setCell ⟨b, 0, none⟩ x').setCell ⟨b, 1, none⟩ y').setCell ⟨b, 2, none⟩ z') ∧ Box t U b x' y' z' ∧ (∀ B w, Below B w u → B ≤ b → Below B w U) ∧ (∀ a c xs, Rd u a c xs → Rd U a c xs) ∧ (∀ j, j ≠ b → U.heap[j]? = u.heap[j]?) :=
  ⟨_, rfl, B.set3 x' y' z', fun _ _ h hb => below_set3 h hb x' y' z', fun _ _ _ h => Rd.apart B (by simp [World.setCell]) (set3_other u b x' y' z') h, set3_other u b x' y' z'⟩
/-- Its two parts are put anew. -/
theorem set2_world {t : TypeId} {u : World} {b : Nat} {n : Bool} {a a' : Option Addr} {l c l' c' : Nat} (B : Box t u b (.bool n) (.slice a l c) (.slice a' l' c')) (y' z' : Value) :
    ∃ U, U = ((u.setCell ⟨b, 1, none⟩ y').setCell ⟨b, 2, none⟩ z') ∧ Box t U b (.bool n) y' z' ∧ (∀ B w, Below B w u → B ≤ b → Below B w U) ∧ (∀ a c xs, Rd u a c xs → Rd U a c xs) ∧ (∀ j, j ≠ b → U.heap[j]? = u.heap[j]?) := by
  have ho : ∀ j, j ≠ b → ((u.setCell ⟨b, 1, none⟩ y').setCell ⟨b, 2, none⟩ z').heap[j]? = u.heap[j]? := by
    intro j hj
    rw [Below.heap_setCell _ ⟨b, 2, none⟩ z' j hj, Below.heap_setCell _ ⟨b, 1, none⟩ y' j hj]
  refine ⟨_, rfl, ?_, fun _ _ h hb => (h.setCell (p := ⟨b, 1, none⟩) hb y').setCell (p := ⟨b, 2, none⟩) hb z', fun _ _ _ h => Rd.apart B (by simp [World.setCell]) ho h, ho⟩
  have h1 := heap_setCell_same u b 1 _ t y' B
  have h2 := heap_setCell_same _ b 2 _ t z' h1
  exact h2

theorem sgnQ_zero {q : Rat} : sgnQ q = 0 ↔ q = 0 := by
  unfold sgnQ
  refine ⟨fun h => ?_, fun h => by rw [if_pos h]⟩
  by_cases h0 : q = 0
  · exact h0
  · rw [if_neg h0] at h; split at h <;> cases h

theorem qv_inv (n : Bool) (xs ys : List Nat) (hx : V xs ≠ 0) : qv n ys xs = (qv n xs ys)⁻¹ := by
  unfold qv
  rw [← Rat.divInt_ofNat, ← Rat.divInt_ofNat, Rat.inv_divInt]
  by_cases hy : V ys = 0
  · rw [hy, sg_zero]
    simp [Rat.zero_divInt]
  · have h1 : sg n (V xs) ≠ 0 := by intro h; have := congrArg Int.natAbs h; rw [sg_natAbs] at this; exact hx this
    rw [Rat.divInt_eq_divInt_iff (by omega) h1]
    cases n <;> simp [sg] <;> grind

theorem Fr.zero_iff {w : World} {n : Bool} {xs ys : List Nat} (h : Fmd n xs ys) : qv n xs ys = 0 ↔ xs = [] := by
  rw [← Rat.num_eq_zero, h.parts.1]
  refine ⟨fun h0 => ?_, fun h0 => by rw [h0]; exact sg_zero n⟩
  have := congrArg Int.natAbs h0
  rw [sg_natAbs] at this
  exact eq_nil_of_V h.1 this

end Go.Proofs.YtchdoakoelfenaaGreat
