/-
  foundryref02.fair, Low, size, Whole, Make: the walks.
-/
import Derived.Test.YthepikmllmfofaaS0
namespace Go.Proofs.Ythepikmllmfofaa
open Go.RowKit Classical
set_option linter.unusedSimpArgs false
set_option linter.unusedVariables false

set_option maxHeartbeats 1000000 in
theorem sfair_any (k : Nat) (q : Rat) (v : Value) (w : World) (h : Ct w v k q) (hk : k ≤ 10000000) (hk2 : 2 ≤ k) :
    Calls Try.prog 58 #[v] w fun e w' => ∃ v', e = .returned v' ∧ Fr w' v' k q ∧ Below w.heap.size w w' := by
  obtain ⟨n, xs, ys, ⟨a, c, a', c', rfl, hx, hy⟩, lx, ly, hq⟩ := h
  have HQ : Hid (q = if Fmd n xs ys then qv n xs ys else 0) := hq
  clear hq
  go_enter Try.func58, Try.ntmps58
  go_wp2_with fail
  refine (sformed_any _ _ _ _ _ _ _ _ (hx.below (al2 _ _)) (hy.below (al2 _ _)) (by omega) (by omega)).mono ?_
  rintro e u1 ⟨rfl, hb1⟩
  replace hx := (hx.below (al2 _ _)).below hb1
  replace hy := (hy.below (al2 _ _)).below hb1
  obtain ⟨B1, B2, hbW⟩ := after2 hb1
  obtain ⟨p1, p2, p3, _⟩ := B1.cells
  obtain ⟨q1, q2, q3, q4, q5, q6⟩ := B2.cells
  have hs := B2.lt
  clear hb1
  by_cases hf : Fmd n xs ys
  · have e1 : decide (Fmd n xs ys) = true := decide_eq_true hf
    rw [e1]
    clear e1
    go_wp2
    refine ret3 (v := .agg #[.bool n, .slice a xs.length c, .slice a' ys.length c']) B2 rfl (fun U hU => by obtain ⟨r1, r2, r3, _⟩ := hU.cells; simp [results, Try.results58, go_sem, r1, r2, r3]) (fun U hU hK => ⟨_, rfl, ⟨_, _, _, ⟨_, _, _, _, rfl, hK _ _ _ hx, hK _ _ _ hy⟩, hf, lx, ly, by rw [HQ.out, if_pos hf]⟩, hU _ _ hbW (by omega)⟩)
  · have e1 : decide (Fmd n xs ys) = false := decide_eq_false hf
    rw [e1]
    clear e1
    go_wp2_with fail
    refine (szero_any _).mono ?_
    rintro e u2 ⟨v2, rfl, hF, hb2⟩
    replace B2 := B2.below hb2
    replace hbW : Below w.heap.size w u2 := hbW.trans (hb2.mono hbW.size)
    clear q1 q2 q3 q4 q5 q6
    obtain ⟨q1, q2, q3, q4, q5, q6⟩ := B2.cells
    have hs' := B2.lt
    obtain ⟨n', xs', ys', ⟨b, d, b', d', rfl, hx', hy'⟩, hf', lx', ly', he⟩ := hF
    go_wp2
    refine ret3 (v := .agg #[.bool n', .slice b xs'.length d, .slice b' ys'.length d']) B2 rfl (fun U hU => by obtain ⟨r1, r2, r3, _⟩ := hU.cells; simp [results, Try.results58, go_sem, r1, r2, r3]) (fun U hU hK => ⟨_, rfl, ⟨_, _, _, ⟨_, _, _, _, rfl, hK _ _ _ hx', hK _ _ _ hy'⟩, hf', by omega, by omega, by rw [HQ.out, if_neg hf, he]⟩, hU _ _ hbW (by omega)⟩)

set_option maxHeartbeats 1000000 in
theorem slow_any (k : Nat) (n : Bool) (a : Option Addr) (c : Nat) (xs : List Nat) (a' : Option Addr) (c' : Nat) (ys : List Nat) (w : World) (hx : Rd w a c xs) (hy : Rd w a' c' ys) (y0 : V ys ≠ 0) (lx : xs.length ≤ k) (ly : ys.length ≤ k) (hk : k ≤ 10000000) :
    Calls Try.prog 55 #[.bool n, .slice a xs.length c, .slice a' ys.length c'] w fun e w' => ∃ v', e = .returned v' ∧ Fr w' v' k (qv n xs ys) ∧ Below w.heap.size w w' := by
  have hx0 := hx.lim
  have hy0 := hy.lim
  go_enter Try.func55, Try.ntmps55
  go_wp2_with fail
  refine (rgcd_any _ _ _ _ _ _ _ (hx.below (al1 _)) (hy.below (al1 _)) (by omega) (by omega)).mono ?_
  rintro e u1 ⟨a1, c1, gs, rfl, hv1, ht1, hr1, hb1⟩
  replace hx := (hx.below (al1 _)).below hb1
  replace hy := (hy.below (al1 _)).below hb1
  obtain ⟨B2, hbW⟩ := after1 hb1
  have rg := hr1.rd
  have lg : gs.length ≤ k := by
    refine len_le_of_V ht1 ?_
    have h1 := V_lt hy.lim
    have h2 : V gs ≤ V ys := by rw [hv1]; exact Nat.gcd_le_right _ (by omega)
    have h3 : 4294967296 ^ ys.length ≤ 4294967296 ^ k := Nat.pow_le_pow_right (by decide) ly
    omega
  clear hr1 hb1
  go_wp2_with fail
  refine (rdiv_any _ _ _ _ _ _ _ hx rg (by omega) (by omega)).mono ?_
  rintro e u2 ⟨a2, c2, ps, a3, c3, rs, rfl, hv2, hv3, ht2, ht3, hr2, hr3, hb2⟩
  have rp := hr2.rd
  replace hy := hy.below hb2
  replace rg := rg.below hb2
  replace B2 := B2.below hb2
  replace hbW : Below w.heap.size w u2 := hbW.trans (hb2.mono hbW.size)
  clear hb2 hr2 hr3 hv3 ht3 hx
  go_wp2_with fail
  refine (rdiv_any _ _ _ _ _ _ _ hy rg (by omega) (by omega)).mono ?_
  rintro e u3 ⟨a4, c4, qs, a5, c5, rs', rfl, hv4, hv5, ht4, ht5, hr4, hr5, hb3⟩
  have rq := hr4.rd
  replace rp := rp.below hb3
  replace B2 := B2.below hb3
  replace hbW : Below w.heap.size w u3 := hbW.trans (hb3.mono hbW.size)
  clear hb3 hr4 hr5 hv5 ht5 hy rg
  obtain ⟨q1, q2, q3, q4, q5, q6⟩ := B2.cells
  have hs := B2.lt
  have hF := fmd_reduced (n := n) (xs := xs) (ys := ys) y0 ht2 ht4 (by rw [hv2, hv1]) (by rw [hv4, hv1])
  have lp : ps.length ≤ k := len_le_of_V ht2 (Nat.lt_of_le_of_lt (by rw [hv2]; exact Nat.div_le_self _ _) (V_len_le hx0 lx))
  have lq : qs.length ≤ k := len_le_of_V ht4 (Nat.lt_of_le_of_lt (by rw [hv4]; exact Nat.div_le_self _ _) (V_len_le hy0 ly))
  have fin : ∀ (m : Bool), m = (n && decide (0 < ps.length)) → ∀ (U : World), (∀ a c xs, Rd u3 a c xs → Rd U a c xs) → Fr U (.agg #[.bool m, .slice a2 ps.length c2, .slice a4 qs.length c4]) k (qv n xs ys) := by
    rintro m rfl U hU
    exact ⟨_, ps, qs, ⟨_, _, _, _, rfl, hU _ _ _ rp, hU _ _ _ rq⟩, hF.1, lp, lq, hF.2⟩
  clear hF
  cases n with
  | false =>
    go_wp2
    refine ret3 (v := .agg #[.bool false, .slice a2 ps.length c2, .slice a4 qs.length c4]) B2 rfl (fun U hU => by obtain ⟨r1, r2, r3, _⟩ := hU.cells; simp [results, Try.results55, go_sem, r1, r2, r3]) (fun U hU hK => ⟨_, rfl, fin _ rfl U hK, hU _ _ hbW (by omega)⟩)
  | true =>
    go_wp2
    refine ret3 (v := .agg #[.bool (decide (0 < ps.length)), .slice a2 ps.length c2, .slice a4 qs.length c4]) B2 rfl (fun U hU => by obtain ⟨r1, r2, r3, _⟩ := hU.cells; simp [results, Try.results55, go_sem, r1, r2, r3]) (fun U hU hK => ⟨_, rfl, fin _ (by simp) U hK, hU _ _ hbW (by omega)⟩)

set_option maxHeartbeats 1000000 in
set_option maxRecDepth 100000 in
theorem ssize_any (z : Int) (w : World) (h1 : -9223372036854775808 ≤ z) (h2 : z < 9223372036854775808) :
    Calls Try.prog 56 #[.int .i64 z] w fun e w' => ∃ a c ys, e = .returned (.slice a ys.length c) ∧ V ys = z.natAbs ∧ Tr ys ∧ Rd w' a c ys ∧ Below w.heap.size w w' := by
  by_cases hz : z < 0
  · obtain ⟨m, hm⟩ : ∃ m : Nat, (m : Int) = -(z + 1) := ⟨(-(z + 1)).toNat, by omega⟩
    have e1 : wrap64 (z + 1) = z + 1 := by unfold wrap64; omega
    have e2 : wrap64 (-(z + 1)) = (m : Int) := by unfold wrap64; omega
    have HZ : Hid (z.natAbs = m + 1) := by show _ = _; omega
    have hm2 : m < 18446744073709551616 := by omega
    go_enter Try.func56, Try.ntmps56
    go_wp2_with fail
    rw [← hm]
    refine (rof_any m _ hm2).mono ?_
    rintro e u1 ⟨a1, c1, zs, rfl, hv1, ht1, hr1, hb1⟩
    have rz := hr1.rd
    go_wp2_with fail
    refine (sone_any _).mono ?_
    rintro e u2 ⟨a2, c2, os, rfl, ho, hto, ro, hb2⟩
    replace rz := rz.below hb2
    have hbW : Below w.heap.size w u2 := hb1.trans (hb2.mono hb1.size)
    have lz := len_two ht1 (by omega)
    have lo := len_two hto (by omega)
    clear hr1 hb1 hb2
    go_wp2_with fail
    refine (radd_any _ _ _ _ _ _ _ rz ro (by omega) (by omega)).mono ?_
    rintro e u3 ⟨a3, c3, ts, rfl, hv3, ht3, hr3, hb3⟩
    go_wp2
    go_ret
    exact ⟨_, _, _, rfl, by rw [hv3, hv1, ho, HZ.out], ht3, hr3.rd, hbW.trans (hb3.mono hbW.size)⟩
  · obtain ⟨m, rfl⟩ : ∃ m : Nat, z = (m : Int) := ⟨z.toNat, by omega⟩
    go_enter Try.func56, Try.ntmps56
    go_wp2_with fail
    refine (rof_any m _ (by omega)).mono ?_
    rintro e u1 ⟨a1, c1, ys, rfl, hv, ht, hr, hb⟩
    go_wp2
    go_ret
    exact ⟨_, _, _, rfl, by rw [hv]; simp, ht, hr.rd, hb⟩

theorem qv_whole {z : Int} {xs ys : List Nat} (hx : V xs = z.natAbs) (hy : V ys = 1) : qv (decide (z < 0)) xs ys = (z : Rat) := by
  unfold qv; rw [hx, hy, sg_abs]; exact Rat.mkRat_one z

set_option maxHeartbeats 1000000 in
theorem swhole_any (z : Int) (w : World) (h1 : -9223372036854775808 ≤ z) (h2 : z < 9223372036854775808) :
    Calls Try.prog 35 #[.int .i64 z] w fun e w' => ∃ v', e = .returned v' ∧ Fr w' v' 2 (z : Rat) ∧ Below w.heap.size w w' := by
  go_enter Try.func35, Try.ntmps35
  go_wp2_with fail
  refine (ssize_any z _ h1 h2).mono ?_
  rintro e u1 ⟨a1, c1, xs, rfl, hv1, ht1, rx, hb1⟩
  obtain ⟨B1, hbW⟩ := after1 hb1
  clear hb1
  go_wp2_with fail
  refine (sone_any _).mono ?_
  rintro e u2 ⟨a2, c2, ys, rfl, hv2, ht2, ry, hb2⟩
  replace rx := rx.below hb2
  replace B1 := B1.below hb2
  replace hbW : Below w.heap.size w u2 := hbW.trans (hb2.mono hbW.size)
  clear hb2
  go_wp2_with fail
  refine (slow_any 2 _ _ _ _ _ _ _ _ rx ry (by omega) (len_two ht1 (by omega)) (len_two ht2 (by omega)) (by decide)).mono ?_
  rintro e u3 ⟨v3, rfl, hF, hb3⟩
  rw [qv_whole hv1 hv2] at hF
  replace B1 := B1.below hb3
  replace hbW : Below w.heap.size w u3 := hbW.trans (hb3.mono hbW.size)
  clear hb3
  obtain ⟨q1, q2, q3, q4, q5, q6⟩ := B1.cells
  have hs' := B1.lt
  obtain ⟨n', xs', ys', ⟨b, d, b', d', rfl, hx', hy'⟩, hF⟩ := hF
  go_wp2
  exact ret3 (v := .agg #[.bool n', .slice b xs'.length d, .slice b' ys'.length d']) B1 rfl (fun U hU => by obtain ⟨r1, r2, r3, _⟩ := hU.cells; simp [results, Try.results35, go_sem, r1, r2, r3]) (fun U hU hK => ⟨_, rfl, ⟨_, _, _, ⟨_, _, _, _, rfl, hK _ _ _ hx', hK _ _ _ hy'⟩, hF⟩, hU _ _ hbW (by omega)⟩)

set_option maxHeartbeats 1000000 in
theorem smake_any (z d : Int) (w : World) (h1 : -9223372036854775808 ≤ z) (h2 : z < 9223372036854775808) (h3 : -9223372036854775808 ≤ d) (h4 : d < 9223372036854775808) :
    Calls Try.prog 38 #[.int .i64 z, .int .i64 d] w fun e w' => ∃ v', e = .returned v' ∧ Fr w' v' 2 ((z : Rat) / (d : Rat)) ∧ Below w.heap.size w w' := by
  by_cases hd : d = 0
  · subst hd
    go_enter Try.func38, Try.ntmps38
    go_wp2_with fail
    refine (szero_any _).mono ?_
    rintro e u2 ⟨v2, rfl, hF, hb2⟩
    obtain ⟨B2, hbW⟩ := after1 hb2
    obtain ⟨q1, q2, q3, q4, q5, q6⟩ := B2.cells
    have hs' := B2.lt
    obtain ⟨n', xs', ys', ⟨b, d, b', d', rfl, hx', hy'⟩, hf', lx', ly', he⟩ := hF
    clear hb2
    go_wp2
    refine ret3 (v := .agg #[.bool n', .slice b xs'.length d, .slice b' ys'.length d']) B2 rfl (fun U hU => by obtain ⟨r1, r2, r3, _⟩ := hU.cells; simp [results, Try.results38, go_sem, r1, r2, r3]) (fun U hU hK => ⟨_, rfl, ⟨_, _, _, ⟨_, _, _, _, rfl, hK _ _ _ hx', hK _ _ _ hy'⟩, hf', by omega, by omega, by rw [he]; simp [Rat.div_def]⟩, hU _ _ hbW (by omega)⟩)
  · have hd0 : (d == 0) = false := beq_eq_false_iff_ne.2 hd
    go_enter Try.func38, Try.ntmps38
    go_wp2_with fail
    refine (ssize_any z _ h1 h2).mono ?_
    rintro e u1 ⟨a1, c1, xs, rfl, hv1, ht1, rx, hb1⟩
    obtain ⟨B1, hbW⟩ := after1 hb1
    clear hb1
    go_wp2_with fail
    refine (ssize_any d _ h3 h4).mono ?_
    rintro e u2 ⟨a2, c2, ys, rfl, hv2, ht2, ry, hb2⟩
    replace rx := rx.below hb2
    replace B1 := B1.below hb2
    replace hbW : Below w.heap.size w u2 := hbW.trans (hb2.mono hbW.size)
    clear hb2
    go_wp2_with fail
    refine (slow_any 2 _ _ _ _ _ _ _ _ rx ry (by omega) (len_two ht1 (by omega)) (len_two ht2 (by omega)) (by decide)).mono ?_
    rintro e u3 ⟨v3, rfl, hF, hb3⟩
    rw [qv_make hv1 hv2 hd] at hF
    replace B1 := B1.below hb3
    replace hbW : Below w.heap.size w u3 := hbW.trans (hb3.mono hbW.size)
    clear hb3
    obtain ⟨q1, q2, q3, q4, q5, q6⟩ := B1.cells
    have hs' := B1.lt
    obtain ⟨n', xs', ys', ⟨b, d, b', d', rfl, hx', hy'⟩, hF⟩ := hF
    go_wp2
    exact ret3 (v := .agg #[.bool n', .slice b xs'.length d, .slice b' ys'.length d']) B1 rfl (fun U hU => by obtain ⟨r1, r2, r3, _⟩ := hU.cells; simp [results, Try.results38, go_sem, r1, r2, r3]) (fun U hU hK => ⟨_, rfl, ⟨_, _, _, ⟨_, _, _, _, rfl, hK _ _ _ hx', hK _ _ _ hy'⟩, hF⟩, hU _ _ hbW (by omega)⟩)

end Go.Proofs.Ythepikmllmfofaa
