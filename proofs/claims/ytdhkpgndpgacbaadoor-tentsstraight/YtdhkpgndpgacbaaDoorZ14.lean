/-
  foundryref02.one, Zero, Formed, fair, Low, size, Whole, Make: the walks.
  foundryref02.fair, Low, size, Whole, Make: the walks.
  foundryref09.Part: the walk.
  foundryref02.Same of formed fractions: the walk.
  Regions that draw their order, step by step: the kit's own laws with the operation taken out of a written list. Nothing here is a walk.
-/
import Derived.Test.YtdhkpgndpgacbaaDoorZ9
import Derived.Test.YtdhkpgndpgacbaaDoorZ13
import Derived.Test.YtdhkpgndpgacbaaDoorZ12
import Derived.Test.YtdhkpgndpgacbaaDoorZ11
import Derived.Test.YtdhkpgndpgacbaaDoorChecked
import Derived.Deep.RegionHeld3
import Derived.WalkKit
namespace Go.Proofs.YtdhkpgndpgacbaaDoor
open Go.RowKit Classical
set_option linter.unusedSimpArgs false
set_option linter.unusedVariables false

set_option maxHeartbeats 400000 in
set_option maxRecDepth 100000 in
theorem sone_any (w : World) :
    Calls Tryd.prog 42 #[] w fun e w' => ∃ a c ys, e = .returned (.slice a ys.length c) ∧ V ys = 1 ∧ Tr ys ∧ Rd w' a c ys ∧ Below w.heap.size w w' := by
  go_enter Tryd.func42, Tryd.ntmps42
  go_wp2_with fail
  refine (rof_any 1 _ (by decide)).mono ?_
  rintro e u ⟨a, c, ys, rfl, h1, h2, h3, h4⟩
  go_wp2
  go_ret
  exact ⟨_, _, _, rfl, h1, h2, h3.rd, h4⟩

theorem fr_zero {w : World} {a : Option Addr} {c : Nat} {ys : List Nat} (hv : V ys = 1) (ht : Tr ys) (hr : Rd w a c ys) : Fr w (.agg #[.bool false, .slice none 0 0, .slice a ys.length c]) 2 0 := by
  refine ⟨false, [], ys, ⟨_, _, _, _, rfl, Rd.nil _ _ _ (Nat.zero_le _) (fun _ => rfl), hr⟩, ⟨tr_nil, ht, ?_, by simp, by rw [hv]; simp⟩, by simp, len_two ht (by omega), ?_⟩
  · rintro rfl; simp [V] at hv
  · unfold qv; rw [hv]; rfl

set_option maxHeartbeats 400000 in
set_option maxRecDepth 100000 in
theorem szero_any (w : World) :
    Calls Tryd.prog 29 #[] w fun e w' => ∃ v', e = .returned v' ∧ Fr w' v' 2 0 ∧ Below w.heap.size w w' := by
  go_enter Tryd.func29, Tryd.ntmps29
  go_wp2_with fail
  refine (sone_any _).mono ?_
  rintro e u1 ⟨a, c, ys, rfl, h1, h2, h3, hb1⟩
  obtain ⟨B1, hbW⟩ := after1 hb1
  clear hb1
  obtain ⟨q1, q2, q3, q4, q5, q6⟩ := B1.cells
  have hs := B1.lt
  go_wp2
  exact ret3 (v := .agg #[.bool false, .slice none 0 0, .slice a ys.length c]) B1 rfl (fun U hU => by obtain ⟨r1, r2, r3, _⟩ := hU.cells; simp [results, Tryd.results29, go_sem, r1, r2, r3]) (fun U hU hK => ⟨_, rfl, fr_zero h1 h2 (hK _ _ _ h3), hU _ _ hbW (by omega)⟩)

theorem gcd_one_iff {zs os : List Nat} (ho : V os = 1) : cmpN (V zs) (V os) = 0 ↔ V zs = 1 := by
  rw [ho]
  unfold cmpN
  by_cases h : V zs < 1
  · rw [if_pos h]; simp; omega
  · rw [if_neg h]; split <;> simp <;> omega

end Go.Proofs.YtdhkpgndpgacbaaDoor

namespace Go.Proofs.YtdhkpgndpgacbaaDoor
open Go.RowKit Classical
set_option linter.unusedSimpArgs false
set_option linter.unusedVariables false
set_option maxHeartbeats 1000000 in
set_option maxRecDepth 100000 in
theorem slow_any (k : Nat) (n : Bool) (a : Option Addr) (c : Nat) (xs : List Nat) (a' : Option Addr) (c' : Nat) (ys : List Nat) (w : World) (hx : Rd w a c xs) (hy : Rd w a' c' ys) (y0 : V ys ≠ 0) (lx : xs.length ≤ k) (ly : ys.length ≤ k) (hk : k ≤ 10000000) :
    Calls Tryd.prog 43 #[.bool n, .slice a xs.length c, .slice a' ys.length c'] w fun e w' => ∃ v', e = .returned v' ∧ Fr w' v' k (qv n xs ys) ∧ Below w.heap.size w w' := by
  have hx0 := hx.lim
  have hy0 := hy.lim
  go_enter Tryd.func43, Tryd.ntmps43
  go_wp2_with fail
  refine (rgcd_any _ _ _ _ _ _ _ (hx.below (al1 _)) (hy.below (al1 _)) (by omega) (by omega)).mono ?_
  rintro e u1 ⟨a1, c1, gs, rfl, hv1, ht1, hr1, hb1⟩
  replace hx := (hx.below (al1 _)).below hb1
  replace hy := (hy.below (al1 _)).below hb1
  obtain ⟨B2, hbW⟩ := after1 hb1
  have rg := hr1.rd
  have lg : gs.length ≤ k := by
    refine len_le_of_V ht1 ?_
    have h1 := V_lt hy.lim
    have h2 : V gs ≤ V ys := by rw [hv1]; exact Nat.gcd_le_right _ (by omega)
    have h3 : 4294967296 ^ ys.length ≤ 4294967296 ^ k := Nat.pow_le_pow_right (by decide) ly
    omega
  clear hr1 hb1
  go_wp2_with fail
  refine (rdiv_any _ _ _ _ _ _ _ hx rg (by omega) (by omega)).mono ?_
  rintro e u2 ⟨a2, c2, ps, a3, c3, rs, rfl, hv2, hv3, ht2, ht3, hr2, hr3, hb2⟩
  have rp := hr2.rd
  replace hy := hy.below hb2
  replace rg := rg.below hb2
  replace B2 := B2.below hb2
  replace hbW : Below w.heap.size w u2 := hbW.trans (hb2.mono hbW.size)
  clear hb2 hr2 hr3 hv3 ht3 hx
  go_wp2_with fail
  refine (rdiv_any _ _ _ _ _ _ _ hy rg (by omega) (by omega)).mono ?_
  rintro e u3 ⟨a4, c4, qs, a5, c5, rs', rfl, hv4, hv5, ht4, ht5, hr4, hr5, hb3⟩
  have rq := hr4.rd
  replace rp := rp.below hb3
  replace B2 := B2.below hb3
  replace hbW : Below w.heap.size w u3 := hbW.trans (hb3.mono hbW.size)
  clear hb3 hr4 hr5 hv5 ht5 hy rg
  obtain ⟨q1, q2, q3, q4, q5, q6⟩ := B2.cells
  have hs := B2.lt
  have hF := fmd_reduced (n := n) (xs := xs) (ys := ys) y0 ht2 ht4 (by rw [hv2, hv1]) (by rw [hv4, hv1])
  have lp : ps.length ≤ k := len_le_of_V ht2 (Nat.lt_of_le_of_lt (by rw [hv2]; exact Nat.div_le_self _ _) (V_len_le hx0 lx))
  have lq : qs.length ≤ k := len_le_of_V ht4 (Nat.lt_of_le_of_lt (by rw [hv4]; exact Nat.div_le_self _ _) (V_len_le hy0 ly))
  have fin : ∀ (m : Bool), m = (n && decide (0 < ps.length)) → ∀ (U : World), (∀ a c xs, Rd u3 a c xs → Rd U a c xs) → Fr U (.agg #[.bool m, .slice a2 ps.length c2, .slice a4 qs.length c4]) k (qv n xs ys) := by
    rintro m rfl U hU
    exact ⟨_, ps, qs, ⟨_, _, _, _, rfl, hU _ _ _ rp, hU _ _ _ rq⟩, hF.1, lp, lq, hF.2⟩
  clear hF
  cases n with
  | false =>
    go_wp2
    refine ret3 (v := .agg #[.bool false, .slice a2 ps.length c2, .slice a4 qs.length c4]) B2 rfl (fun U hU => by obtain ⟨r1, r2, r3, _⟩ := hU.cells; simp [results, Tryd.results43, go_sem, r1, r2, r3]) (fun U hU hK => ⟨_, rfl, fin _ rfl U hK, hU _ _ hbW (by omega)⟩)
  | true =>
    go_wp2
    refine ret3 (v := .agg #[.bool (decide (0 < ps.length)), .slice a2 ps.length c2, .slice a4 qs.length c4]) B2 rfl (fun U hU => by obtain ⟨r1, r2, r3, _⟩ := hU.cells; simp [results, Tryd.results43, go_sem, r1, r2, r3]) (fun U hU hK => ⟨_, rfl, fin _ (by simp) U hK, hU _ _ hbW (by omega)⟩)

set_option maxHeartbeats 1000000 in
set_option maxRecDepth 100000 in
theorem ssize_any (z : Int) (w : World) (h1 : -9223372036854775808 ≤ z) (h2 : z < 9223372036854775808) :
    Calls Tryd.prog 44 #[.int .i64 z] w fun e w' => ∃ a c ys, e = .returned (.slice a ys.length c) ∧ V ys = z.natAbs ∧ Tr ys ∧ Rd w' a c ys ∧ Below w.heap.size w w' := by
  by_cases hz : z < 0
  · obtain ⟨m, hm⟩ : ∃ m : Nat, (m : Int) = -(z + 1) := ⟨(-(z + 1)).toNat, by omega⟩
    have e1 : wrap64 (z + 1) = z + 1 := by unfold wrap64; omega
    have e2 : wrap64 (-(z + 1)) = (m : Int) := by unfold wrap64; omega
    have HZ : Hid (z.natAbs = m + 1) := by show _ = _; omega
    have hm2 : m < 18446744073709551616 := by omega
    go_enter Tryd.func44, Tryd.ntmps44
    go_wp2_with fail
    rw [← hm]
    refine (rof_any m _ hm2).mono ?_
    rintro e u1 ⟨a1, c1, zs, rfl, hv1, ht1, hr1, hb1⟩
    have rz := hr1.rd
    go_wp2_with fail
    refine (sone_any _).mono ?_
    rintro e u2 ⟨a2, c2, os, rfl, ho, hto, ro, hb2⟩
    replace rz := rz.below hb2
    have hbW : Below w.heap.size w u2 := hb1.trans (hb2.mono hb1.size)
    have lz := len_two ht1 (by omega)
    have lo := len_two hto (by omega)
    clear hr1 hb1 hb2
    go_wp2_with fail
    refine (radd_any _ _ _ _ _ _ _ rz ro (by omega) (by omega)).mono ?_
    rintro e u3 ⟨a3, c3, ts, rfl, hv3, ht3, hr3, hb3⟩
    go_wp2
    go_ret
    exact ⟨_, _, _, rfl, by rw [hv3, hv1, ho, HZ.out], ht3, hr3.rd, hbW.trans (hb3.mono hbW.size)⟩
  · obtain ⟨m, rfl⟩ : ∃ m : Nat, z = (m : Int) := ⟨z.toNat, by omega⟩
    go_enter Tryd.func44, Tryd.ntmps44
    go_wp2_with fail
    refine (rof_any m _ (by omega)).mono ?_
    rintro e u1 ⟨a1, c1, ys, rfl, hv, ht, hr, hb⟩
    go_wp2
    go_ret
    exact ⟨_, _, _, rfl, by rw [hv]; simp, ht, hr.rd, hb⟩

theorem qv_whole {z : Int} {xs ys : List Nat} (hx : V xs = z.natAbs) (hy : V ys = 1) : qv (decide (z < 0)) xs ys = (z : Rat) := by
  unfold qv; rw [hx, hy, sg_abs]; exact Rat.mkRat_one z

set_option maxHeartbeats 1000000 in
set_option maxRecDepth 100000 in
theorem swhole_any (z : Int) (w : World) (h1 : -9223372036854775808 ≤ z) (h2 : z < 9223372036854775808) :
    Calls Tryd.prog 30 #[.int .i64 z] w fun e w' => ∃ v', e = .returned v' ∧ Fr w' v' 2 (z : Rat) ∧ Below w.heap.size w w' := by
  go_enter Tryd.func30, Tryd.ntmps30
  go_wp2_with fail
  refine (ssize_any z _ h1 h2).mono ?_
  rintro e u1 ⟨a1, c1, xs, rfl, hv1, ht1, rx, hb1⟩
  obtain ⟨B1, hbW⟩ := after1 hb1
  clear hb1
  go_wp2_with fail
  refine (sone_any _).mono ?_
  rintro e u2 ⟨a2, c2, ys, rfl, hv2, ht2, ry, hb2⟩
  replace rx := rx.below hb2
  replace B1 := B1.below hb2
  replace hbW : Below w.heap.size w u2 := hbW.trans (hb2.mono hbW.size)
  clear hb2
  go_wp2_with fail
  refine (slow_any 2 _ _ _ _ _ _ _ _ rx ry (by omega) (len_two ht1 (by omega)) (len_two ht2 (by omega)) (by decide)).mono ?_
  rintro e u3 ⟨v3, rfl, hF, hb3⟩
  rw [qv_whole hv1 hv2] at hF
  replace B1 := B1.below hb3
  replace hbW : Below w.heap.size w u3 := hbW.trans (hb3.mono hbW.size)
  clear hb3
  obtain ⟨q1, q2, q3, q4, q5, q6⟩ := B1.cells
  have hs' := B1.lt
  obtain ⟨n', xs', ys', ⟨b, d, b', d', rfl, hx', hy'⟩, hF⟩ := hF
  go_wp2
  exact ret3 (v := .agg #[.bool n', .slice b xs'.length d, .slice b' ys'.length d']) B1 rfl (fun U hU => by obtain ⟨r1, r2, r3, _⟩ := hU.cells; simp [results, Tryd.results30, go_sem, r1, r2, r3]) (fun U hU hK => ⟨_, rfl, ⟨_, _, _, ⟨_, _, _, _, rfl, hK _ _ _ hx', hK _ _ _ hy'⟩, hF⟩, hU _ _ hbW (by omega)⟩)

set_option maxHeartbeats 1000000 in
set_option maxRecDepth 100000 in
theorem smake_any (z d : Int) (w : World) (h1 : -9223372036854775808 ≤ z) (h2 : z < 9223372036854775808) (h3 : -9223372036854775808 ≤ d) (h4 : d < 9223372036854775808) :
    Calls Tryd.prog 31 #[.int .i64 z, .int .i64 d] w fun e w' => ∃ v', e = .returned v' ∧ Fr w' v' 2 ((z : Rat) / (d : Rat)) ∧ Below w.heap.size w w' := by
  by_cases hd : d = 0
  · subst hd
    go_enter Tryd.func31, Tryd.ntmps31
    go_wp2_with fail
    refine (szero_any _).mono ?_
    rintro e u2 ⟨v2, rfl, hF, hb2⟩
    obtain ⟨B2, hbW⟩ := after1 hb2
    obtain ⟨q1, q2, q3, q4, q5, q6⟩ := B2.cells
    have hs' := B2.lt
    obtain ⟨n', xs', ys', ⟨b, d, b', d', rfl, hx', hy'⟩, hf', lx', ly', he⟩ := hF
    clear hb2
    go_wp2
    refine ret3 (v := .agg #[.bool n', .slice b xs'.length d, .slice b' ys'.length d']) B2 rfl (fun U hU => by obtain ⟨r1, r2, r3, _⟩ := hU.cells; simp [results, Tryd.results31, go_sem, r1, r2, r3]) (fun U hU hK => ⟨_, rfl, ⟨_, _, _, ⟨_, _, _, _, rfl, hK _ _ _ hx', hK _ _ _ hy'⟩, hf', by omega, by omega, by rw [he]; simp [Rat.div_def]⟩, hU _ _ hbW (by omega)⟩)
  · have hd0 : (d == 0) = false := beq_eq_false_iff_ne.2 hd
    go_enter Tryd.func31, Tryd.ntmps31
    go_wp2_with fail
    refine (ssize_any z _ h1 h2).mono ?_
    rintro e u1 ⟨a1, c1, xs, rfl, hv1, ht1, rx, hb1⟩
    obtain ⟨B1, hbW⟩ := after1 hb1
    clear hb1
    go_wp2_with fail
    refine (ssize_any d _ h3 h4).mono ?_
    rintro e u2 ⟨a2, c2, ys, rfl, hv2, ht2, ry, hb2⟩
    replace rx := rx.below hb2
    replace B1 := B1.below hb2
    replace hbW : Below w.heap.size w u2 := hbW.trans (hb2.mono hbW.size)
    clear hb2
    go_wp2_with fail
    refine (slow_any 2 _ _ _ _ _ _ _ _ rx ry (by omega) (len_two ht1 (by omega)) (len_two ht2 (by omega)) (by decide)).mono ?_
    rintro e u3 ⟨v3, rfl, hF, hb3⟩
    rw [qv_make hv1 hv2 hd] at hF
    replace B1 := B1.below hb3
    replace hbW : Below w.heap.size w u3 := hbW.trans (hb3.mono hbW.size)
    clear hb3
    obtain ⟨q1, q2, q3, q4, q5, q6⟩ := B1.cells
    have hs' := B1.lt
    obtain ⟨n', xs', ys', ⟨b, d, b', d', rfl, hx', hy'⟩, hF⟩ := hF
    go_wp2
    exact ret3 (v := .agg #[.bool n', .slice b xs'.length d, .slice b' ys'.length d']) B1 rfl (fun U hU => by obtain ⟨r1, r2, r3, _⟩ := hU.cells; simp [results, Tryd.results31, go_sem, r1, r2, r3]) (fun U hU hK => ⟨_, rfl, ⟨_, _, _, ⟨_, _, _, _, rfl, hK _ _ _ hx', hK _ _ _ hy'⟩, hF⟩, hU _ _ hbW (by omega)⟩)

end Go.Proofs.YtdhkpgndpgacbaaDoor

namespace Go.Proofs.YtdhkpgndpgacbaaDoor
open Go.RowKit Go.Maps
set_option linter.unusedSimpArgs false
set_option linter.unusedVariables false

set_option maxHeartbeats 2000000 in
set_option maxRecDepth 100000 in
theorem spart_any (t : Te) (c : Int) (w : World) (hc : I64 c) :
    Calls Tryd.prog 13 #[.agg #[.int .i64 t.st, .int .i64 t.pk, .int .i64 t.en], .int .i64 c] w fun e w' => ∃ v', e = .returned v' ∧ Fr w' v' 2 (paQ t c) ∧ Below w.heap.size w w' := by
  have hfo := fun U => sformT_any t U
  obtain ⟨W, hW, X1, B1, hbW⟩ := boxes2 23 30 w (.int .i64 t.st) (.int .i64 t.pk) (.int .i64 t.en) (.bool false) (.slice none 0 0) (.slice none 0 0)
  cases hf : tfB t with
  | false =>
    have HP : Hid ((0 : Rat) = paQ t c) := (paQ_no (fun h => by rw [hf] at h; cases h.1)).symm
    simp only [hf] at hfo
    clear hf
    obtain ⟨st, pk, en⟩ := t
    dsimp only at *
    go_enter Tryd.func13, Tryd.ntmps13
    go_wp2_with fail
    rw [← hW]
    clear hW
    refine (hfo _).mono ?_
    rintro e u1 ⟨rfl, hb1⟩
    replace X1 := X1.below hb1
    replace B1 := B1.below hb1
    replace hbW := hbW.trans (hb1.mono hbW.size)
    clear hb1 hfo
    obtain ⟨p0, p1, p2, _⟩ := X1.cells
    go_wp2_with fail
    refine (szero_any _).mono ?_
    rintro e u3 ⟨v3, rfl, hF3, hb3⟩
    replace B1 := B1.below hb3
    replace hbW := hbW.trans (hb3.mono hbW.size)
    rw [HP.out] at hF3
    clear hb3 X1
    obtain ⟨n3, xs, ys, ⟨a3, c3, b3, d3, rfl, hx3, hy3⟩, f1, f2, f3, f4⟩ := hF3
    obtain ⟨q1, q2, q3, q4, q5, q6⟩ := B1.cells
    have hs := B1.lt
    go_wp2
    refine ret3 (v := .agg #[.bool n3, .slice a3 xs.length c3, .slice b3 ys.length d3]) B1 rfl (fun U hU => by obtain ⟨r1, r2, r3, _⟩ := hU.cells; simp [results, Tryd.results13, go_sem, r1, r2, r3]) (fun U hU hK => ⟨_, rfl, ⟨_, _, _, ⟨_, _, _, _, rfl, hK _ _ _ hx3, hK _ _ _ hy3⟩, f1, f2, f3, f4⟩, hU _ _ hbW (by omega)⟩)
  | true =>
    have hbd := tfB_iff.1 hf
    unfold TfT at hbd
    simp only [hf] at hfo
    cases hcc : crd c with
    | false =>
      have HP : Hid ((0 : Rat) = paQ t c) := (paQ_no (fun h => by rw [hcc] at h; cases h.2)).symm
      clear hf hbd
      obtain ⟨st, pk, en⟩ := t
      dsimp only at *
      go_enter Tryd.func13, Tryd.ntmps13
      go_wp2_with fail
      rw [← hW]
      clear hW
      refine (hfo _).mono ?_
      rintro e u1 ⟨rfl, hb1⟩
      replace X1 := X1.below hb1
      replace B1 := B1.below hb1
      replace hbW := hbW.trans (hb1.mono hbW.size)
      clear hb1 hfo
      obtain ⟨p0, p1, p2, _⟩ := X1.cells
      go_wp2_with fail
      refine (scoord_any c _).mono ?_
      rintro e u2 ⟨rfl, rfl⟩
      rw [hcc]
      clear hcc
      go_wp2_with fail
      refine (szero_any _).mono ?_
      rintro e u3 ⟨v3, rfl, hF3, hb3⟩
      replace B1 := B1.below hb3
      replace hbW := hbW.trans (hb3.mono hbW.size)
      rw [HP.out] at hF3
      clear hb3 X1
      obtain ⟨n3, xs, ys, ⟨a3, c3, b3, d3, rfl, hx3, hy3⟩, f1, f2, f3, f4⟩ := hF3
      obtain ⟨q1, q2, q3, q4, q5, q6⟩ := B1.cells
      have hs := B1.lt
      go_wp2
      refine ret3 (v := .agg #[.bool n3, .slice a3 xs.length c3, .slice b3 ys.length d3]) B1 rfl (fun U hU => by obtain ⟨r1, r2, r3, _⟩ := hU.cells; simp [results, Tryd.results13, go_sem, r1, r2, r3]) (fun U hU hK => ⟨_, rfl, ⟨_, _, _, ⟨_, _, _, _, rfl, hK _ _ _ hx3, hK _ _ _ hy3⟩, f1, f2, f3, f4⟩, hU _ _ hbW (by omega)⟩)
    | true =>
      have hcd := crdT.1 hcc
      by_cases h1 : t.pk = 0
      · have HP : Hid (((1 : Int) : Rat) = paQ t c) := paQ_one hf hcc (.inl h1)
        have g1 : (t.pk == 0) = true := by simp [h1]
        clear hf hbd hcd h1
        obtain ⟨st, pk, en⟩ := t
        dsimp only at *
        go_enter Tryd.func13, Tryd.ntmps13
        go_wp2_with fail
        rw [← hW]
        clear hW
        refine (hfo _).mono ?_
        rintro e u1 ⟨rfl, hb1⟩
        replace X1 := X1.below hb1
        replace B1 := B1.below hb1
        replace hbW := hbW.trans (hb1.mono hbW.size)
        clear hb1 hfo
        obtain ⟨p0, p1, p2, _⟩ := X1.cells
        go_wp2_with fail
        refine (scoord_any c _).mono ?_
        rintro e u2 ⟨rfl, rfl⟩
        rw [hcc]
        clear hcc
        go_wp2_with fail
        refine (swhole_any 1 _ (by decide) (by decide)).mono ?_
        rintro e u3 ⟨v3, rfl, hF3, hb3⟩
        replace B1 := B1.below hb3
        replace hbW := hbW.trans (hb3.mono hbW.size)
        rw [HP.out] at hF3
        clear hb3 X1
        obtain ⟨n3, xs, ys, ⟨a3, c3, b3, d3, rfl, hx3, hy3⟩, f1, f2, f3, f4⟩ := hF3
        obtain ⟨q1, q2, q3, q4, q5, q6⟩ := B1.cells
        have hs := B1.lt
        go_wp2
        refine ret3 (v := .agg #[.bool n3, .slice a3 xs.length c3, .slice b3 ys.length d3]) B1 rfl (fun U hU => by obtain ⟨r1, r2, r3, _⟩ := hU.cells; simp [results, Tryd.results13, go_sem, r1, r2, r3]) (fun U hU hK => ⟨_, rfl, ⟨_, _, _, ⟨_, _, _, _, rfl, hK _ _ _ hx3, hK _ _ _ hy3⟩, f1, f2, f3, f4⟩, hU _ _ hbW (by omega)⟩)
      · by_cases h2 : c = t.pk
        · have HP : Hid (((1 : Int) : Rat) = paQ t c) := paQ_one hf hcc (.inr h2)
          have g1 : (t.pk == 0) = false := by simp [h1]
          have g2 : (c == t.pk) = true := by simp [h2]
          clear h1 h2 hf hbd hcd
          obtain ⟨st, pk, en⟩ := t
          dsimp only at *
          go_enter Tryd.func13, Tryd.ntmps13
          go_wp2_with fail
          rw [← hW]
          clear hW
          refine (hfo _).mono ?_
          rintro e u1 ⟨rfl, hb1⟩
          replace X1 := X1.below hb1
          replace B1 := B1.below hb1
          replace hbW := hbW.trans (hb1.mono hbW.size)
          clear hb1 hfo
          obtain ⟨p0, p1, p2, _⟩ := X1.cells
          go_wp2_with fail
          refine (scoord_any c _).mono ?_
          rintro e u2 ⟨rfl, rfl⟩
          rw [hcc]
          clear hcc
          go_wp2_with fail
          refine (swhole_any 1 _ (by decide) (by decide)).mono ?_
          rintro e u3 ⟨v3, rfl, hF3, hb3⟩
          replace B1 := B1.below hb3
          replace hbW := hbW.trans (hb3.mono hbW.size)
          rw [HP.out] at hF3
          clear hb3 X1
          obtain ⟨n3, xs, ys, ⟨a3, c3, b3, d3, rfl, hx3, hy3⟩, f1, f2, f3, f4⟩ := hF3
          obtain ⟨q1, q2, q3, q4, q5, q6⟩ := B1.cells
          have hs := B1.lt
          go_wp2
          refine ret3 (v := .agg #[.bool n3, .slice a3 xs.length c3, .slice b3 ys.length d3]) B1 rfl (fun U hU => by obtain ⟨r1, r2, r3, _⟩ := hU.cells; simp [results, Tryd.results13, go_sem, r1, r2, r3]) (fun U hU hK => ⟨_, rfl, ⟨_, _, _, ⟨_, _, _, _, rfl, hK _ _ _ hx3, hK _ _ _ hy3⟩, f1, f2, f3, f4⟩, hU _ _ hbW (by omega)⟩)
        · have h12 : ¬ (t.pk = 0 ∨ c = t.pk) := by omega
          by_cases h3 : c ≤ t.st
          · have HP : Hid ((0 : Rat) = paQ t c) := paQ_off hf hcc h12 (.inl h3)
            have g1 : (t.pk == 0) = false := by simp [h1]
            have g2 : (c == t.pk) = false := by simp [h2]
            have g3 : decide (c ≤ t.st) = true := decide_eq_true h3
            clear h1 h2 hf hbd hcd h12
            obtain ⟨st, pk, en⟩ := t
            dsimp only at *
            go_enter Tryd.func13, Tryd.ntmps13
            go_wp2_with fail
            rw [← hW]
            clear hW
            refine (hfo _).mono ?_
            rintro e u1 ⟨rfl, hb1⟩
            replace X1 := X1.below hb1
            replace B1 := B1.below hb1
            replace hbW := hbW.trans (hb1.mono hbW.size)
            clear hb1 hfo
            obtain ⟨p0, p1, p2, _⟩ := X1.cells
            go_wp2_with fail
            refine (scoord_any c _).mono ?_
            rintro e u2 ⟨rfl, rfl⟩
            rw [hcc]
            clear hcc
            go_wp2_with fail
            refine (szero_any _).mono ?_
            rintro e u3 ⟨v3, rfl, hF3, hb3⟩
            replace B1 := B1.below hb3
            replace hbW := hbW.trans (hb3.mono hbW.size)
            rw [HP.out] at hF3
            clear hb3 X1
            obtain ⟨n3, xs, ys, ⟨a3, c3, b3, d3, rfl, hx3, hy3⟩, f1, f2, f3, f4⟩ := hF3
            obtain ⟨q1, q2, q3, q4, q5, q6⟩ := B1.cells
            have hs := B1.lt
            go_wp2
            refine ret3 (v := .agg #[.bool n3, .slice a3 xs.length c3, .slice b3 ys.length d3]) B1 rfl (fun U hU => by obtain ⟨r1, r2, r3, _⟩ := hU.cells; simp [results, Tryd.results13, go_sem, r1, r2, r3]) (fun U hU hK => ⟨_, rfl, ⟨_, _, _, ⟨_, _, _, _, rfl, hK _ _ _ hx3, hK _ _ _ hy3⟩, f1, f2, f3, f4⟩, hU _ _ hbW (by omega)⟩)
          · by_cases h4 : t.en ≤ c
            · have HP : Hid ((0 : Rat) = paQ t c) := paQ_off hf hcc h12 (.inr h4)
              have g1 : (t.pk == 0) = false := by simp [h1]
              have g2 : (c == t.pk) = false := by simp [h2]
              have g3 : decide (c ≤ t.st) = false := decide_eq_false h3
              have g4 : decide (t.en ≤ c) = true := decide_eq_true h4
              clear h1 h2 hf hbd hcd h12
              obtain ⟨st, pk, en⟩ := t
              dsimp only at *
              go_enter Tryd.func13, Tryd.ntmps13
              go_wp2_with fail
              rw [← hW]
              clear hW
              refine (hfo _).mono ?_
              rintro e u1 ⟨rfl, hb1⟩
              replace X1 := X1.below hb1
              replace B1 := B1.below hb1
              replace hbW := hbW.trans (hb1.mono hbW.size)
              clear hb1 hfo
              obtain ⟨p0, p1, p2, _⟩ := X1.cells
              go_wp2_with fail
              refine (scoord_any c _).mono ?_
              rintro e u2 ⟨rfl, rfl⟩
              rw [hcc]
              clear hcc
              go_wp2_with fail
              refine (szero_any _).mono ?_
              rintro e u3 ⟨v3, rfl, hF3, hb3⟩
              replace B1 := B1.below hb3
              replace hbW := hbW.trans (hb3.mono hbW.size)
              rw [HP.out] at hF3
              clear hb3 X1
              obtain ⟨n3, xs, ys, ⟨a3, c3, b3, d3, rfl, hx3, hy3⟩, f1, f2, f3, f4⟩ := hF3
              obtain ⟨q1, q2, q3, q4, q5, q6⟩ := B1.cells
              have hs := B1.lt
              go_wp2
              refine ret3 (v := .agg #[.bool n3, .slice a3 xs.length c3, .slice b3 ys.length d3]) B1 rfl (fun U hU => by obtain ⟨r1, r2, r3, _⟩ := hU.cells; simp [results, Tryd.results13, go_sem, r1, r2, r3]) (fun U hU hK => ⟨_, rfl, ⟨_, _, _, ⟨_, _, _, _, rfl, hK _ _ _ hx3, hK _ _ _ hy3⟩, f1, f2, f3, f4⟩, hU _ _ hbW (by omega)⟩)
            · have h34 : ¬ (c ≤ t.st ∨ t.en ≤ c) := by omega
              by_cases h5 : c < t.pk
              · have HP : Hid (((c - t.st : Int) : Rat) / ((t.pk - t.st : Int) : Rat) = paQ t c) := paQ_up hf hcc h12 h34 h5
                have g1 : (t.pk == 0) = false := by simp [h1]
                have g2 : (c == t.pk) = false := by simp [h2]
                have g3 : decide (c ≤ t.st) = false := decide_eq_false h3
                have g4 : decide (t.en ≤ c) = false := decide_eq_false h4
                clear hf h12 h34
                have k1 : IntKind.i64.wrap (c - t.st) = c - t.st := wrapi64 (by omega) (by omega)
                have k2 : IntKind.i64.wrap (t.pk - t.st) = t.pk - t.st := wrapi64 (by omega) (by omega)
                have hm := fun U => smake_any (c - t.st) (t.pk - t.st) U (by omega) (by omega) (by omega) (by omega)
                clear h1 h2 hbd hcd
                obtain ⟨st, pk, en⟩ := t
                dsimp only at *
                go_enter Tryd.func13, Tryd.ntmps13
                go_wp2_with fail
                rw [← hW]
                clear hW
                refine (hfo _).mono ?_
                rintro e u1 ⟨rfl, hb1⟩
                replace X1 := X1.below hb1
                replace B1 := B1.below hb1
                replace hbW := hbW.trans (hb1.mono hbW.size)
                clear hb1 hfo
                obtain ⟨p0, p1, p2, _⟩ := X1.cells
                go_wp2_with fail
                refine (scoord_any c _).mono ?_
                rintro e u2 ⟨rfl, rfl⟩
                rw [hcc]
                clear hcc
                go_wp2_with fail
                refine (hm _).mono ?_
                rintro e u3 ⟨v3, rfl, hF3, hb3⟩
                replace B1 := B1.below hb3
                replace hbW := hbW.trans (hb3.mono hbW.size)
                rw [HP.out] at hF3
                clear hb3 X1
                obtain ⟨n3, xs, ys, ⟨a3, c3, b3, d3, rfl, hx3, hy3⟩, f1, f2, f3, f4⟩ := hF3
                obtain ⟨q1, q2, q3, q4, q5, q6⟩ := B1.cells
                have hs := B1.lt
                go_wp2
                refine ret3 (v := .agg #[.bool n3, .slice a3 xs.length c3, .slice b3 ys.length d3]) B1 rfl (fun U hU => by obtain ⟨r1, r2, r3, _⟩ := hU.cells; simp [results, Tryd.results13, go_sem, r1, r2, r3]) (fun U hU hK => ⟨_, rfl, ⟨_, _, _, ⟨_, _, _, _, rfl, hK _ _ _ hx3, hK _ _ _ hy3⟩, f1, f2, f3, f4⟩, hU _ _ hbW (by omega)⟩)
              · have HP : Hid (((t.en - c : Int) : Rat) / ((t.en - t.pk : Int) : Rat) = paQ t c) := paQ_down hf hcc h12 h34 h5
                have g1 : (t.pk == 0) = false := by simp [h1]
                have g2 : (c == t.pk) = false := by simp [h2]
                have g3 : decide (c ≤ t.st) = false := decide_eq_false h3
                have g4 : decide (t.en ≤ c) = false := decide_eq_false h4
                clear hf h12 h34
                have k1 : IntKind.i64.wrap (t.en - c) = t.en - c := wrapi64 (by omega) (by omega)
                have k2 : IntKind.i64.wrap (t.en - t.pk) = t.en - t.pk := wrapi64 (by omega) (by omega)
                have hm := fun U => smake_any (t.en - c) (t.en - t.pk) U (by omega) (by omega) (by omega) (by omega)
                clear h1 h2 hbd hcd
                obtain ⟨st, pk, en⟩ := t
                dsimp only at *
                go_enter Tryd.func13, Tryd.ntmps13
                go_wp2_with fail
                rw [← hW]
                clear hW
                refine (hfo _).mono ?_
                rintro e u1 ⟨rfl, hb1⟩
                replace X1 := X1.below hb1
                replace B1 := B1.below hb1
                replace hbW := hbW.trans (hb1.mono hbW.size)
                clear hb1 hfo
                obtain ⟨p0, p1, p2, _⟩ := X1.cells
                go_wp2_with fail
                refine (scoord_any c _).mono ?_
                rintro e u2 ⟨rfl, rfl⟩
                rw [hcc]
                clear hcc
                go_wp2_with fail
                refine (hm _).mono ?_
                rintro e u3 ⟨v3, rfl, hF3, hb3⟩
                replace B1 := B1.below hb3
                replace hbW := hbW.trans (hb3.mono hbW.size)
                rw [HP.out] at hF3
                clear hb3 X1
                obtain ⟨n3, xs, ys, ⟨a3, c3, b3, d3, rfl, hx3, hy3⟩, f1, f2, f3, f4⟩ := hF3
                obtain ⟨q1, q2, q3, q4, q5, q6⟩ := B1.cells
                have hs := B1.lt
                go_wp2
                refine ret3 (v := .agg #[.bool n3, .slice a3 xs.length c3, .slice b3 ys.length d3]) B1 rfl (fun U hU => by obtain ⟨r1, r2, r3, _⟩ := hU.cells; simp [results, Tryd.results13, go_sem, r1, r2, r3]) (fun U hU hK => ⟨_, rfl, ⟨_, _, _, ⟨_, _, _, _, rfl, hK _ _ _ hx3, hK _ _ _ hy3⟩, f1, f2, f3, f4⟩, hU _ _ hbW (by omega)⟩)

end Go.Proofs.YtdhkpgndpgacbaaDoor

namespace Go.Proofs.YtdhkpgndpgacbaaDoor
open Go.RowKit
set_option linter.unusedSimpArgs false
set_option linter.unusedVariables false

/-- foundryref02.Same, of formed fractions of one number. -/
theorem same3_any (k l : Nat) (q r : Rat) (v v' : Value) (w : World) (h : Fr w v k q) (h' : Fr w v' l r) (hqr : q = r) :
    Calls Tryd.prog 10 #[v, v'] w fun e w' => e = .returned (.bool true) ∧ Below w.heap.size w w' := by
  obtain ⟨n, xs, ys, ⟨a, c, a', c', rfl, hx, hy⟩, f1, _, _, e1⟩ := h
  obtain ⟨m, ps, qs, ⟨b, d, b', d', rfl, hp, hq⟩, f2, _, _, e2⟩ := h'
  obtain ⟨rfl, rfl, rfl⟩ := f1.uniq f2 hx.lim hy.lim hp.lim hq.lim (by rw [e1, e2, hqr])
  refine (alike2_any _ _ _ _ _ _ _ _ _ _ _ _ _ _ _ hx hy hp hq).mono ?_
  rintro e u ⟨rfl, hb⟩
  exact ⟨ret_bool (by simp), hb⟩

end Go.Proofs.YtdhkpgndpgacbaaDoor

namespace Go.Proofs.YtdhkpgndpgacbaaDoor
open Go.RowKit

/-- The operation at a place of a list. -/
def nth : List Oper → Nat → Option Oper
  | [], _ => none
  | o :: _, 0 => some o
  | _ :: l, n + 1 => nth l n
theorem nth_eq : ∀ (l : List Oper) (i : Nat), nth l i = l.toArray[i]? := by
  intro l
  induction l with
  | nil => intro i; simp [nth]
  | cons o l ih =>
    intro i
    cases i with
    | zero => simp [nth]
    | succ i => simp [nth, ih i]

theorem hTake {P : Program} {md : Region.Mode} {l : List Oper} {Q : Exit → Act → World → Prop} {S : World → Prop} {i : Nat} {o : Oper} {v : Value} {fuel : Nat} {listed : Array Bool} {a : Act} {w : World} (hi : nth l i = some o)
    (hs : Region.noSelect l.toArray = true) (hf : Region.free md l.toArray listed i = true) (hr : (Region.ready md l.toArray listed).contains i = true)
    (hQ : ∀ c a w, Q (.panic c) (a.put o.dst v) w → Q (.panic c) a w) (hy : YieldsIf P l.toArray S o v a) (hS : S w)
    (h : wpAnyH P md l.toArray Q S fuel (listed.setIfInBounds i true) (a.put o.dst v) w) : wpAnyH P md l.toArray Q S (fuel + 1) listed a w :=
  wpAnyH_take ((nth_eq l i).symm.trans hi) hs hf hr hQ hy hS h

theorem hCall {P : Program} {md : Region.Mode} {l : List Oper} {Q : Exit → Act → World → Prop} {S : World → Prop} {i : Nat} {o : Oper} {fuel : Nat} {listed : Array Bool} {a : Act} {w : World} (hi : nth l i = some o)
    (hr : Region.ready md l.toArray listed = [i]) (hw : Region.wanted o (yielded l.toArray a.tmps) = true)
    (h : ∀ K : Act → World → Prop, Shut (∀ a w, S w → (S w → wpAnyH P md l.toArray Q S fuel (listed.setIfInBounds i true) a w) → K a w) → Oper.wp P o a w K Q) :
    wpAnyH P md l.toArray Q S (fuel + 1) listed a w :=
  wpAnyH_ready hr (by simp) (AllReadyH.cons ((nth_eq l i).symm.trans hi) (fun K hK => by rw [if_pos hw]; exact h K hK) AllReadyH.nil)

theorem hCons {P : Program} {md : Region.Mode} {l : List Oper} {Q : Exit → Act → World → Prop} {S : World → Prop} {i : Nat} {o : Oper} {fuel : Nat} {listed : Array Bool} {a : Act} {w : World} {rs : List Nat} (hi : nth l i = some o)
    (hw : Region.wanted o (yielded l.toArray a.tmps) = true)
    (h : ∀ K : Act → World → Prop, Shut (∀ a w, S w → (S w → wpAnyH P md l.toArray Q S fuel (listed.setIfInBounds i true) a w) → K a w) → Oper.wp P o a w K Q)
    (hs : AllReadyH P md l.toArray Q S fuel listed a w rs) : AllReadyH P md l.toArray Q S fuel listed a w (i :: rs) :=
  AllReadyH.cons ((nth_eq l i).symm.trans hi) (fun K hK => by rw [if_pos hw]; exact h K hK) hs

/-- An operation that is carried out and only reads. -/
theorem hT {P : Program} {md : Region.Mode} {l : List Oper} {Q : Exit → Act → World → Prop} {S : World → Prop} (i : Nat) {o : Oper} {v : Value} {fuel : Nat} {listed : Array Bool} {a a2 : Act} {w : World} (hS : S w)
    (h : wpAnyH P md l.toArray Q S fuel (listed.setIfInBounds i true) a2 w)
    (hi : nth l i = some o := by rfl) (hs : Region.noSelect l.toArray = true := by kernel_rfl) (hf : Region.free md l.toArray listed i = true := by kernel_rfl) (hr : (Region.ready md l.toArray listed).contains i = true := by kernel_rfl)
    (hQ : ∀ c a w, Q (.panic c) (a.put o.dst v) w → Q (.panic c) a w := by exact fun _ _ _ h => h) (hw : Region.wanted o (yielded l.toArray a.tmps) = true := by rfl)
    (hy : ∀ w9, S w9 → (execOp a.eval o).run P w9 = .ok (.value v) w9 := by intro w9 hSw; (try dsimp only at hSw); go_simp; try with_reducible rfl)
    (ha : a.put o.dst v = a2 := by (try simp only [Act.put, List.setIfInBounds_toArray, List.set_cons_zero, List.set_cons_succ]); try rfl) : wpAnyH P md l.toArray Q S (fuel + 1) listed a w := by
  subst ha
  exact wpAnyH_take ((nth_eq l i).symm.trans hi) hs hf hr hQ (Or.inl ⟨hw, hy⟩) hS h

/-- An operation that is not wanted. -/
theorem hN {P : Program} {md : Region.Mode} {l : List Oper} {Q : Exit → Act → World → Prop} {S : World → Prop} (i : Nat) {o : Oper} {fuel : Nat} {listed : Array Bool} {a a2 : Act} {w : World} (hS : S w)
    (h : wpAnyH P md l.toArray Q S fuel (listed.setIfInBounds i true) a2 w)
    (hi : nth l i = some o := by rfl) (hs : Region.noSelect l.toArray = true := by kernel_rfl) (hf : Region.free md l.toArray listed i = true := by kernel_rfl) (hr : (Region.ready md l.toArray listed).contains i = true := by kernel_rfl)
    (hQ : ∀ c a w, Q (.panic c) (a.put o.dst undef) w → Q (.panic c) a w := by exact fun _ _ _ h => h) (hw : Region.wanted o (yielded l.toArray a.tmps) = false := by rfl)
    (ha : a.put o.dst undef = a2 := by (try simp only [Act.put, List.setIfInBounds_toArray, List.set_cons_zero, List.set_cons_succ]); try rfl) : wpAnyH P md l.toArray Q S (fuel + 1) listed a w := by
  subst ha
  exact wpAnyH_take ((nth_eq l i).symm.trans hi) hs hf hr hQ (Or.inr ⟨hw, rfl⟩) hS h

end Go.Proofs.YtdhkpgndpgacbaaDoor
