/-
  foundryref02.one, Zero, Formed, fair, Low, size, Whole, Make: the walks.
  foundryref02.fair, Low, size, Whole, Make: the walks.
  foundryref09.Part: the walk.
  For foundrylaw02.RatioOnce: two sums in two new blocks; texts tell numbers apart.
-/
import Derived.Test.YtkbbdkecillnpaaGreatZD15
import Derived.Test.YtkbbdkecillnpaaGreatZD28
import Derived.Test.YtkbbdkecillnpaaGreatZD27
import Derived.Test.YtkbbdkecillnpaaGreatZD19
namespace Go.Proofs.YtkbbdkecillnpaaGreat
open Go.RowKit Classical
set_option linter.unusedSimpArgs false
set_option linter.unusedVariables false

set_option maxHeartbeats 400000 in
set_option maxRecDepth 100000 in
theorem sone_any (w : World) :
    Calls Tryz.prog 97 #[] w fun e w' => ∃ a c ys, e = .returned (.slice a ys.length c) ∧ V ys = 1 ∧ Tr ys ∧ Rd w' a c ys ∧ Below w.heap.size w w' := by
  go_enter Tryz.func97, Tryz.ntmps97
  go_wp2_with fail
  refine (rof_any 1 _ (by decide)).mono ?_
  rintro e u ⟨a, c, ys, rfl, h1, h2, h3, h4⟩
  go_wp2
  go_ret
  exact ⟨_, _, _, rfl, h1, h2, h3.rd, h4⟩

theorem fr_zero {w : World} {a : Option Addr} {c : Nat} {ys : List Nat} (hv : V ys = 1) (ht : Tr ys) (hr : Rd w a c ys) : Fr w (.agg #[.bool false, .slice none 0 0, .slice a ys.length c]) 2 0 := by
  refine ⟨false, [], ys, ⟨_, _, _, _, rfl, Rd.nil _ _ _ (Nat.zero_le _) (fun _ => rfl), hr⟩, ⟨tr_nil, ht, ?_, by simp, by rw [hv]; simp⟩, by simp, len_two ht (by omega), ?_⟩
  · rintro rfl; simp [V] at hv
  · unfold qv; rw [hv]; rfl

set_option maxHeartbeats 400000 in
set_option maxRecDepth 100000 in
theorem szero_any (w : World) :
    Calls Tryz.prog 98 #[] w fun e w' => ∃ v', e = .returned v' ∧ Fr w' v' 2 0 ∧ Below w.heap.size w w' := by
  go_enter Tryz.func98, Tryz.ntmps98
  go_wp2_with fail
  refine (sone_any _).mono ?_
  rintro e u1 ⟨a, c, ys, rfl, h1, h2, h3, hb1⟩
  obtain ⟨B1, hbW⟩ := after1 hb1
  clear hb1
  obtain ⟨q1, q2, q3, q4, q5, q6⟩ := B1.cells
  have hs := B1.lt
  go_wp2
  exact ret3 (v := .agg #[.bool false, .slice none 0 0, .slice a ys.length c]) B1 rfl (fun U hU => by obtain ⟨r1, r2, r3, _⟩ := hU.cells; simp [results, Tryz.results98, go_sem, r1, r2, r3]) (fun U hU hK => ⟨_, rfl, fr_zero h1 h2 (hK _ _ _ h3), hU _ _ hbW (by omega)⟩)

theorem gcd_one_iff {zs os : List Nat} (ho : V os = 1) : cmpN (V zs) (V os) = 0 ↔ V zs = 1 := by
  rw [ho]
  unfold cmpN
  by_cases h : V zs < 1
  · rw [if_pos h]; simp; omega
  · rw [if_neg h]; split <;> simp <;> omega

set_option maxHeartbeats 2000000 in
set_option maxRecDepth 100000 in
theorem sformed_any (n : Bool) (a : Option Addr) (c : Nat) (xs : List Nat) (a' : Option Addr) (c' : Nat) (ys : List Nat) (w : World) (hx : Rd w a c xs) (hy : Rd w a' c' ys) (lx : xs.length ≤ 10000000) (ly : ys.length ≤ 10000000) :
    Calls Tryz.prog 117 #[.agg #[.bool n, .slice a xs.length c, .slice a' ys.length c']] w fun e w' => e = .returned (.bool (decide (Fmd n xs ys))) ∧ Below w.heap.size w w' := by
  have fin : Tr xs → Tr ys → ys ≠ [] → ¬ (n = true ∧ xs = []) → ∀ (W : World), Below w.heap.size w W → ∀ a1 c1 (zs : List Nat) a2 c2 (os : List Nat), Rd W a1 c1 zs → Rd W a2 c2 os → V os = 1 → V zs = Nat.gcd (V xs) (V ys) →
      Calls Tryz.prog 118 #[.slice a1 zs.length c1, .slice a2 os.length c2] W fun e w' => ∃ s : Int, e = .returned (.int .i64 s) ∧ (s == 0) = decide (Fmd n xs ys) ∧ Below w.heap.size w w' := by
    intro tx ty y0 hn W hb a1 c1 zs a2 c2 os r1 r2 ho hz
    refine (rcmp_any _ _ _ _ _ _ _ r1 r2).mono ?_
    rintro e u ⟨rfl, rfl⟩
    refine ⟨_, rfl, ?_, hb⟩
    have h1 := gcd_one_iff (zs := zs) ho
    have h2 : V zs = 1 ↔ Fmd n xs ys := by rw [hz]; exact ⟨fun h => ⟨tx, ty, y0, hn, h⟩, fun h => h.2.2.2.2⟩
    have h3 := h1.trans h2
    by_cases h : Fmd n xs ys
    · simp [h, h3.2 h]
    · have : ¬ cmpN (V zs) (V os) = 0 := fun h4 => h (h3.1 h4)
      simp [h, this]
  have k1 := hx.le
  have k2 := hx.cap
  have k3 := hy.le
  have k4 := hy.cap
  unfold maxLen at k2 k4
  obtain ⟨p1, p2, p3, _⟩ := (Box.new 124 w (.bool n) (.slice a xs.length c) (.slice a' ys.length c')).cells
  by_cases y0 : ys = []
  · subst y0
    go_enter Tryz.func117, Tryz.ntmps117
    go_wp2_with fail
    go_quiet (fail)
    go_wp2
    go_ret
    exact ⟨ret_bool (by simp [Fmd]), below_drewN (al1 _) _⟩
  have hyl : 0 < ys.length := List.length_pos_iff.2 y0
  obtain ⟨m, hm⟩ : ∃ m, ys.length = m + 1 := ⟨ys.length - 1, by omega⟩
  have hty := tr_iff y0
  have fy := hy.fm
  rw [hm] at hty
  simp only [Nat.add_sub_cancel] at hty
  obtain ⟨b, off, rfl, hb, hc⟩ := fy.at (Below.refl _ _) m (by omega)
  obtain ⟨z, hz⟩ : ∃ z, ys.getD m 0 = z := ⟨_, rfl⟩
  rw [hz] at hc hty
  have g1 : ((m : Int) + 1 == 0) = false := beq_eq_false_iff_ne.2 (by omega)
  have hc' : (w.alloc (.cells #[.bool n, .slice a xs.length c, .slice (some ⟨b, off, none⟩) ys.length c'] 124)).cell? ⟨b, off + m, none⟩ = some (.int .u32 (z : Int)) := (World.cell?_of_block (w := w) (a := ⟨b, off + m, none⟩) (Below.heap_alloc _ _ _ hb)).trans hc
  have hne : ¬ b = w.heap.size := by omega
  rw [hm] at hc' k3 p1 p2 p3
  by_cases z0 : z = 0
  · have hnt : ¬ Tr ys := fun h => hty.1 h z0
    subst z0
    rw [hm]
    clear hx hy fy fin
    go_enter Tryz.func117, Tryz.ntmps117
    go_wp2_with fail
    go_quiet (fail)
    go_wp2
    go_ret
    exact ⟨ret_bool (by simp [Fmd, hnt]), below_drewN (al1 _) _⟩
  have ty : Tr ys := hty.2 z0
  have gz : ((z : Int) == 0) = false := beq_eq_false_iff_ne.2 (by omega)
  by_cases x0 : xs = []
  · subst x0
    cases n with
    | true =>
      rw [hm]
      clear hx hy fy fin
      go_enter Tryz.func117, Tryz.ntmps117
      go_wp2_with fail
      go_quiet (fail)
      go_wp2
      go_ret
      exact ⟨ret_bool (by simp [Fmd]), below_drewN (al1 _) _⟩
    | false =>
      have fin' := fin tr_nil ty y0 (by simp)
      clear fin fy
      have hy' := hy
      rw [hm]
      go_enter Tryz.func117, Tryz.ntmps117
      go_wp2_with fail
      go_quiet (fail)
      go_wp2_with fail
      rw [← hm]
      refine (rgcd_any _ _ _ _ _ _ _ (hx.below (below_drewN (al1 _) _)) (hy'.below (below_drewN (al1 _) _)) lx ly).mono ?_
      rintro e u1 ⟨a1, c1, zs, rfl, hv1, ht1, hr1, hb1⟩
      have hbW : Below w.heap.size w u1 := (below_drewN (al1 _) _).trans (hb1.mono (by simp))
      have rz := hr1.rd
      clear hr1 hb1 hx hy hy'
      go_wp2_with fail
      refine (sone_any _).mono ?_
      rintro e u2 ⟨a2, c2, os, rfl, ho, hto, ro, hb2⟩
      replace rz := rz.below hb2
      replace hbW : Below w.heap.size w u2 := hbW.trans (hb2.mono hbW.size)
      clear hb2
      go_wp2_with fail
      refine (fin' _ hbW _ _ _ _ _ _ rz ro ho hv1).mono ?_
      rintro e u3 ⟨s, rfl, hs, hb3⟩
      go_wp2
      go_ret
      exact ⟨rfl, hb3⟩
  have hxl : 0 < xs.length := List.length_pos_iff.2 x0
  obtain ⟨l, hl⟩ : ∃ l, xs.length = l + 1 := ⟨xs.length - 1, by omega⟩
  have htx := tr_iff x0
  have fx := hx.fm
  rw [hl] at htx
  simp only [Nat.add_sub_cancel] at htx
  obtain ⟨b2, off2, rfl, hb2, hc2⟩ := fx.at (Below.refl _ _) l (by omega)
  obtain ⟨x, hxx⟩ : ∃ x, xs.getD l 0 = x := ⟨_, rfl⟩
  rw [hxx] at hc2 htx
  have g2 : ((l : Int) + 1 == 0) = false := beq_eq_false_iff_ne.2 (by omega)
  have hc2' : (w.alloc (.cells #[.bool n, .slice (some ⟨b2, off2, none⟩) xs.length c, .slice (some ⟨b, off, none⟩) ys.length c'] 124)).cell? ⟨b2, off2 + l, none⟩ = some (.int .u32 (x : Int)) := (World.cell?_of_block (w := w) (a := ⟨b2, off2 + l, none⟩) (Below.heap_alloc _ _ _ hb2)).trans hc2
  have hne2 : ¬ b2 = w.heap.size := by omega
  rw [hl, hm] at hc2'
  rw [hl] at hc' k1 p1 p2 p3
  by_cases xz : x = 0
  · have hnt : ¬ Tr xs := fun h => htx.1 h xz
    subst xz
    rw [hm, hl]
    clear hx hy fy fx fin
    go_enter Tryz.func117, Tryz.ntmps117
    go_wp2_with fail
    go_quiet (fail)
    go_wp2
    go_ret
    exact ⟨ret_bool (by simp [Fmd, hnt]), below_drewN (al1 _) _⟩
  have tx : Tr xs := htx.2 xz
  have gx : ((x : Int) == 0) = false := beq_eq_false_iff_ne.2 (by omega)
  have fin' := fin tx ty y0 (fun h => x0 h.2)
  have hy' := hy
  clear fin fy fx
  have key : ∀ i j : Nat, i = xs.length → j = ys.length → Calls Tryz.prog 117 #[.agg #[.bool n, .slice (some ⟨b2, off2, none⟩) i c, .slice (some ⟨b, off, none⟩) j c']] w fun e w' => e = .returned (.bool (decide (Fmd n xs ys))) ∧ Below w.heap.size w w' := by
    intro i j hi hj
    rw [hl] at hi
    rw [hm] at hj
    subst hi hj
    go_enter Tryz.func117, Tryz.ntmps117
    go_wp2_with fail
    go_quiet (fail)
    go_wp2_with fail
    rw [← hl, ← hm]
    refine (rgcd_any _ _ _ _ _ _ _ (hx.below (below_drewN (al1 _) _)) (hy'.below (below_drewN (al1 _) _)) lx ly).mono ?_
    rintro e u1 ⟨a1, c1, zs, rfl, hv1, ht1, hr1, hb1⟩
    have hbW : Below w.heap.size w u1 := (below_drewN (al1 _) _).trans (hb1.mono (by simp))
    have rz := hr1.rd
    clear hr1 hb1 hx hy hy'
    go_wp2_with fail
    refine (sone_any _).mono ?_
    rintro e u2 ⟨a2, c2, os, rfl, ho, hto, ro, hb2⟩
    replace rz := rz.below hb2
    replace hbW : Below w.heap.size w u2 := hbW.trans (hb2.mono hbW.size)
    clear hb2
    go_wp2_with fail
    refine (fin' _ hbW _ _ _ _ _ _ rz ro ho hv1).mono ?_
    rintro e u3 ⟨s, rfl, hs, hb3⟩
    go_wp2
    go_ret
    exact ⟨rfl, hb3⟩
  exact key _ _ rfl rfl

end Go.Proofs.YtkbbdkecillnpaaGreat

namespace Go.Proofs.YtkbbdkecillnpaaGreat
open Go.RowKit Classical
set_option linter.unusedSimpArgs false
set_option linter.unusedVariables false

set_option maxHeartbeats 1000000 in
set_option maxRecDepth 100000 in
theorem sfair_any (k : Nat) (q : Rat) (v : Value) (w : World) (h : Ct w v k q) (hk : k ≤ 10000000) (hk2 : 2 ≤ k) :
    Calls Tryz.prog 92 #[v] w fun e w' => ∃ v', e = .returned v' ∧ Fr w' v' k q ∧ Below w.heap.size w w' := by
  obtain ⟨n, xs, ys, ⟨a, c, a', c', rfl, hx, hy⟩, lx, ly, hq⟩ := h
  have HQ : Hid (q = if Fmd n xs ys then qv n xs ys else 0) := hq
  clear hq
  go_enter Tryz.func92, Tryz.ntmps92
  go_wp2_with fail
  refine (sformed_any _ _ _ _ _ _ _ _ (hx.below (al2 _ _)) (hy.below (al2 _ _)) (by omega) (by omega)).mono ?_
  rintro e u1 ⟨rfl, hb1⟩
  replace hx := (hx.below (al2 _ _)).below hb1
  replace hy := (hy.below (al2 _ _)).below hb1
  obtain ⟨B1, B2, hbW⟩ := after2 hb1
  obtain ⟨p1, p2, p3, _⟩ := B1.cells
  obtain ⟨q1, q2, q3, q4, q5, q6⟩ := B2.cells
  have hs := B2.lt
  clear hb1
  by_cases hf : Fmd n xs ys
  · have e1 : decide (Fmd n xs ys) = true := decide_eq_true hf
    rw [e1]
    clear e1
    go_wp2
    refine ret3 (v := .agg #[.bool n, .slice a xs.length c, .slice a' ys.length c']) B2 rfl (fun U hU => by obtain ⟨r1, r2, r3, _⟩ := hU.cells; simp [results, Tryz.results92, go_sem, r1, r2, r3]) (fun U hU hK => ⟨_, rfl, ⟨_, _, _, ⟨_, _, _, _, rfl, hK _ _ _ hx, hK _ _ _ hy⟩, hf, lx, ly, by rw [HQ.out, if_pos hf]⟩, hU _ _ hbW (by omega)⟩)
  · have e1 : decide (Fmd n xs ys) = false := decide_eq_false hf
    rw [e1]
    clear e1
    go_wp2_with fail
    refine (szero_any _).mono ?_
    rintro e u2 ⟨v2, rfl, hF, hb2⟩
    replace B2 := B2.below hb2
    replace hbW : Below w.heap.size w u2 := hbW.trans (hb2.mono hbW.size)
    clear q1 q2 q3 q4 q5 q6
    obtain ⟨q1, q2, q3, q4, q5, q6⟩ := B2.cells
    have hs' := B2.lt
    obtain ⟨n', xs', ys', ⟨b, d, b', d', rfl, hx', hy'⟩, hf', lx', ly', he⟩ := hF
    go_wp2
    refine ret3 (v := .agg #[.bool n', .slice b xs'.length d, .slice b' ys'.length d']) B2 rfl (fun U hU => by obtain ⟨r1, r2, r3, _⟩ := hU.cells; simp [results, Tryz.results92, go_sem, r1, r2, r3]) (fun U hU hK => ⟨_, rfl, ⟨_, _, _, ⟨_, _, _, _, rfl, hK _ _ _ hx', hK _ _ _ hy'⟩, hf', by omega, by omega, by rw [HQ.out, if_neg hf, he]⟩, hU _ _ hbW (by omega)⟩)

set_option maxHeartbeats 1000000 in
set_option maxRecDepth 100000 in
theorem slow_any (k : Nat) (n : Bool) (a : Option Addr) (c : Nat) (xs : List Nat) (a' : Option Addr) (c' : Nat) (ys : List Nat) (w : World) (hx : Rd w a c xs) (hy : Rd w a' c' ys) (y0 : V ys ≠ 0) (lx : xs.length ≤ k) (ly : ys.length ≤ k) (hk : k ≤ 10000000) :
    Calls Tryz.prog 95 #[.bool n, .slice a xs.length c, .slice a' ys.length c'] w fun e w' => ∃ v', e = .returned v' ∧ Fr w' v' k (qv n xs ys) ∧ Below w.heap.size w w' := by
  have hx0 := hx.lim
  have hy0 := hy.lim
  go_enter Tryz.func95, Tryz.ntmps95
  go_wp2_with fail
  refine (rgcd_any _ _ _ _ _ _ _ (hx.below (al1 _)) (hy.below (al1 _)) (by omega) (by omega)).mono ?_
  rintro e u1 ⟨a1, c1, gs, rfl, hv1, ht1, hr1, hb1⟩
  replace hx := (hx.below (al1 _)).below hb1
  replace hy := (hy.below (al1 _)).below hb1
  obtain ⟨B2, hbW⟩ := after1 hb1
  have rg := hr1.rd
  have lg : gs.length ≤ k := by
    refine len_le_of_V ht1 ?_
    have h1 := V_lt hy.lim
    have h2 : V gs ≤ V ys := by rw [hv1]; exact Nat.gcd_le_right _ (by omega)
    have h3 : 4294967296 ^ ys.length ≤ 4294967296 ^ k := Nat.pow_le_pow_right (by decide) ly
    omega
  clear hr1 hb1
  go_wp2_with fail
  refine (rdiv_any _ _ _ _ _ _ _ hx rg (by omega) (by omega)).mono ?_
  rintro e u2 ⟨a2, c2, ps, a3, c3, rs, rfl, hv2, hv3, ht2, ht3, hr2, hr3, hb2⟩
  have rp := hr2.rd
  replace hy := hy.below hb2
  replace rg := rg.below hb2
  replace B2 := B2.below hb2
  replace hbW : Below w.heap.size w u2 := hbW.trans (hb2.mono hbW.size)
  clear hb2 hr2 hr3 hv3 ht3 hx
  go_wp2_with fail
  refine (rdiv_any _ _ _ _ _ _ _ hy rg (by omega) (by omega)).mono ?_
  rintro e u3 ⟨a4, c4, qs, a5, c5, rs', rfl, hv4, hv5, ht4, ht5, hr4, hr5, hb3⟩
  have rq := hr4.rd
  replace rp := rp.below hb3
  replace B2 := B2.below hb3
  replace hbW : Below w.heap.size w u3 := hbW.trans (hb3.mono hbW.size)
  clear hb3 hr4 hr5 hv5 ht5 hy rg
  obtain ⟨q1, q2, q3, q4, q5, q6⟩ := B2.cells
  have hs := B2.lt
  have hF := fmd_reduced (n := n) (xs := xs) (ys := ys) y0 ht2 ht4 (by rw [hv2, hv1]) (by rw [hv4, hv1])
  have lp : ps.length ≤ k := len_le_of_V ht2 (Nat.lt_of_le_of_lt (by rw [hv2]; exact Nat.div_le_self _ _) (V_len_le hx0 lx))
  have lq : qs.length ≤ k := len_le_of_V ht4 (Nat.lt_of_le_of_lt (by rw [hv4]; exact Nat.div_le_self _ _) (V_len_le hy0 ly))
  have fin : ∀ (m : Bool), m = (n && decide (0 < ps.length)) → ∀ (U : World), (∀ a c xs, Rd u3 a c xs → Rd U a c xs) → Fr U (.agg #[.bool m, .slice a2 ps.length c2, .slice a4 qs.length c4]) k (qv n xs ys) := by
    rintro m rfl U hU
    exact ⟨_, ps, qs, ⟨_, _, _, _, rfl, hU _ _ _ rp, hU _ _ _ rq⟩, hF.1, lp, lq, hF.2⟩
  clear hF
  cases n with
  | false =>
    go_wp2
    refine ret3 (v := .agg #[.bool false, .slice a2 ps.length c2, .slice a4 qs.length c4]) B2 rfl (fun U hU => by obtain ⟨r1, r2, r3, _⟩ := hU.cells; simp [results, Tryz.results95, go_sem, r1, r2, r3]) (fun U hU hK => ⟨_, rfl, fin _ rfl U hK, hU _ _ hbW (by omega)⟩)
  | true =>
    go_wp2
    refine ret3 (v := .agg #[.bool (decide (0 < ps.length)), .slice a2 ps.length c2, .slice a4 qs.length c4]) B2 rfl (fun U hU => by obtain ⟨r1, r2, r3, _⟩ := hU.cells; simp [results, Tryz.results95, go_sem, r1, r2, r3]) (fun U hU hK => ⟨_, rfl, fin _ (by simp) U hK, hU _ _ hbW (by omega)⟩)

set_option maxHeartbeats 1000000 in
set_option maxRecDepth 100000 in
theorem ssize_any (z : Int) (w : World) (h1 : -9223372036854775808 ≤ z) (h2 : z < 9223372036854775808) :
    Calls Tryz.prog 96 #[.int .i64 z] w fun e w' => ∃ a c ys, e = .returned (.slice a ys.length c) ∧ V ys = z.natAbs ∧ Tr ys ∧ Rd w' a c ys ∧ Below w.heap.size w w' := by
  by_cases hz : z < 0
  · obtain ⟨m, hm⟩ : ∃ m : Nat, (m : Int) = -(z + 1) := ⟨(-(z + 1)).toNat, by omega⟩
    have e1 : wrap64 (z + 1) = z + 1 := by unfold wrap64; omega
    have e2 : wrap64 (-(z + 1)) = (m : Int) := by unfold wrap64; omega
    have HZ : Hid (z.natAbs = m + 1) := by show _ = _; omega
    have hm2 : m < 18446744073709551616 := by omega
    go_enter Tryz.func96, Tryz.ntmps96
    go_wp2_with fail
    rw [← hm]
    refine (rof_any m _ hm2).mono ?_
    rintro e u1 ⟨a1, c1, zs, rfl, hv1, ht1, hr1, hb1⟩
    have rz := hr1.rd
    go_wp2_with fail
    refine (sone_any _).mono ?_
    rintro e u2 ⟨a2, c2, os, rfl, ho, hto, ro, hb2⟩
    replace rz := rz.below hb2
    have hbW : Below w.heap.size w u2 := hb1.trans (hb2.mono hb1.size)
    have lz := len_two ht1 (by omega)
    have lo := len_two hto (by omega)
    clear hr1 hb1 hb2
    go_wp2_with fail
    refine (radd_any _ _ _ _ _ _ _ rz ro (by omega) (by omega)).mono ?_
    rintro e u3 ⟨a3, c3, ts, rfl, hv3, ht3, hr3, hb3⟩
    go_wp2
    go_ret
    exact ⟨_, _, _, rfl, by rw [hv3, hv1, ho, HZ.out], ht3, hr3.rd, hbW.trans (hb3.mono hbW.size)⟩
  · obtain ⟨m, rfl⟩ : ∃ m : Nat, z = (m : Int) := ⟨z.toNat, by omega⟩
    go_enter Tryz.func96, Tryz.ntmps96
    go_wp2_with fail
    refine (rof_any m _ (by omega)).mono ?_
    rintro e u1 ⟨a1, c1, ys, rfl, hv, ht, hr, hb⟩
    go_wp2
    go_ret
    exact ⟨_, _, _, rfl, by rw [hv]; simp, ht, hr.rd, hb⟩

theorem qv_whole {z : Int} {xs ys : List Nat} (hx : V xs = z.natAbs) (hy : V ys = 1) : qv (decide (z < 0)) xs ys = (z : Rat) := by
  unfold qv; rw [hx, hy, sg_abs]; exact Rat.mkRat_one z

set_option maxHeartbeats 1000000 in
set_option maxRecDepth 100000 in
theorem swhole_any (z : Int) (w : World) (h1 : -9223372036854775808 ≤ z) (h2 : z < 9223372036854775808) :
    Calls Tryz.prog 77 #[.int .i64 z] w fun e w' => ∃ v', e = .returned v' ∧ Fr w' v' 2 (z : Rat) ∧ Below w.heap.size w w' := by
  go_enter Tryz.func77, Tryz.ntmps77
  go_wp2_with fail
  refine (ssize_any z _ h1 h2).mono ?_
  rintro e u1 ⟨a1, c1, xs, rfl, hv1, ht1, rx, hb1⟩
  obtain ⟨B1, hbW⟩ := after1 hb1
  clear hb1
  go_wp2_with fail
  refine (sone_any _).mono ?_
  rintro e u2 ⟨a2, c2, ys, rfl, hv2, ht2, ry, hb2⟩
  replace rx := rx.below hb2
  replace B1 := B1.below hb2
  replace hbW : Below w.heap.size w u2 := hbW.trans (hb2.mono hbW.size)
  clear hb2
  go_wp2_with fail
  refine (slow_any 2 _ _ _ _ _ _ _ _ rx ry (by omega) (len_two ht1 (by omega)) (len_two ht2 (by omega)) (by decide)).mono ?_
  rintro e u3 ⟨v3, rfl, hF, hb3⟩
  rw [qv_whole hv1 hv2] at hF
  replace B1 := B1.below hb3
  replace hbW : Below w.heap.size w u3 := hbW.trans (hb3.mono hbW.size)
  clear hb3
  obtain ⟨q1, q2, q3, q4, q5, q6⟩ := B1.cells
  have hs' := B1.lt
  obtain ⟨n', xs', ys', ⟨b, d, b', d', rfl, hx', hy'⟩, hF⟩ := hF
  go_wp2
  exact ret3 (v := .agg #[.bool n', .slice b xs'.length d, .slice b' ys'.length d']) B1 rfl (fun U hU => by obtain ⟨r1, r2, r3, _⟩ := hU.cells; simp [results, Tryz.results77, go_sem, r1, r2, r3]) (fun U hU hK => ⟨_, rfl, ⟨_, _, _, ⟨_, _, _, _, rfl, hK _ _ _ hx', hK _ _ _ hy'⟩, hF⟩, hU _ _ hbW (by omega)⟩)

set_option maxHeartbeats 1000000 in
set_option maxRecDepth 100000 in
theorem smake_any (z d : Int) (w : World) (h1 : -9223372036854775808 ≤ z) (h2 : z < 9223372036854775808) (h3 : -9223372036854775808 ≤ d) (h4 : d < 9223372036854775808) :
    Calls Tryz.prog 91 #[.int .i64 z, .int .i64 d] w fun e w' => ∃ v', e = .returned v' ∧ Fr w' v' 2 ((z : Rat) / (d : Rat)) ∧ Below w.heap.size w w' := by
  by_cases hd : d = 0
  · subst hd
    go_enter Tryz.func91, Tryz.ntmps91
    go_wp2_with fail
    refine (szero_any _).mono ?_
    rintro e u2 ⟨v2, rfl, hF, hb2⟩
    obtain ⟨B2, hbW⟩ := after1 hb2
    obtain ⟨q1, q2, q3, q4, q5, q6⟩ := B2.cells
    have hs' := B2.lt
    obtain ⟨n', xs', ys', ⟨b, d, b', d', rfl, hx', hy'⟩, hf', lx', ly', he⟩ := hF
    clear hb2
    go_wp2
    refine ret3 (v := .agg #[.bool n', .slice b xs'.length d, .slice b' ys'.length d']) B2 rfl (fun U hU => by obtain ⟨r1, r2, r3, _⟩ := hU.cells; simp [results, Tryz.results91, go_sem, r1, r2, r3]) (fun U hU hK => ⟨_, rfl, ⟨_, _, _, ⟨_, _, _, _, rfl, hK _ _ _ hx', hK _ _ _ hy'⟩, hf', by omega, by omega, by rw [he]; simp [Rat.div_def]⟩, hU _ _ hbW (by omega)⟩)
  · have hd0 : (d == 0) = false := beq_eq_false_iff_ne.2 hd
    go_enter Tryz.func91, Tryz.ntmps91
    go_wp2_with fail
    refine (ssize_any z _ h1 h2).mono ?_
    rintro e u1 ⟨a1, c1, xs, rfl, hv1, ht1, rx, hb1⟩
    obtain ⟨B1, hbW⟩ := after1 hb1
    clear hb1
    go_wp2_with fail
    refine (ssize_any d _ h3 h4).mono ?_
    rintro e u2 ⟨a2, c2, ys, rfl, hv2, ht2, ry, hb2⟩
    replace rx := rx.below hb2
    replace B1 := B1.below hb2
    replace hbW : Below w.heap.size w u2 := hbW.trans (hb2.mono hbW.size)
    clear hb2
    go_wp2_with fail
    refine (slow_any 2 _ _ _ _ _ _ _ _ rx ry (by omega) (len_two ht1 (by omega)) (len_two ht2 (by omega)) (by decide)).mono ?_
    rintro e u3 ⟨v3, rfl, hF, hb3⟩
    rw [qv_make hv1 hv2 hd] at hF
    replace B1 := B1.below hb3
    replace hbW : Below w.heap.size w u3 := hbW.trans (hb3.mono hbW.size)
    clear hb3
    obtain ⟨q1, q2, q3, q4, q5, q6⟩ := B1.cells
    have hs' := B1.lt
    obtain ⟨n', xs', ys', ⟨b, d, b', d', rfl, hx', hy'⟩, hF⟩ := hF
    go_wp2
    exact ret3 (v := .agg #[.bool n', .slice b xs'.length d, .slice b' ys'.length d']) B1 rfl (fun U hU => by obtain ⟨r1, r2, r3, _⟩ := hU.cells; simp [results, Tryz.results91, go_sem, r1, r2, r3]) (fun U hU hK => ⟨_, rfl, ⟨_, _, _, ⟨_, _, _, _, rfl, hK _ _ _ hx', hK _ _ _ hy'⟩, hF⟩, hU _ _ hbW (by omega)⟩)

end Go.Proofs.YtkbbdkecillnpaaGreat

namespace Go.Proofs.YtkbbdkecillnpaaGreat
open Go.RowKit Go.Maps
set_option linter.unusedSimpArgs false
set_option linter.unusedVariables false

set_option maxHeartbeats 2000000 in
set_option maxRecDepth 100000 in
theorem spart_any (t : Te) (c : Int) (w : World) (hc : I64 c) :
    Calls Tryz.prog 125 #[.agg #[.int .i64 t.st, .int .i64 t.pk, .int .i64 t.en], .int .i64 c] w fun e w' => ∃ v', e = .returned v' ∧ Fr w' v' 2 (paQ t c) ∧ Below w.heap.size w w' := by
  have hfo := fun U => sformT_any t U
  obtain ⟨W, hW, X1, B1, hbW⟩ := boxes2 166 124 w (.int .i64 t.st) (.int .i64 t.pk) (.int .i64 t.en) (.bool false) (.slice none 0 0) (.slice none 0 0)
  cases hf : tfB t with
  | false =>
    have HP : Hid ((0 : Rat) = paQ t c) := (paQ_no (fun h => by rw [hf] at h; cases h.1)).symm
    simp only [hf] at hfo
    clear hf
    obtain ⟨st, pk, en⟩ := t
    dsimp only at *
    go_enter Tryz.func125, Tryz.ntmps125
    go_wp2_with fail
    rw [← hW]
    clear hW
    refine (hfo _).mono ?_
    rintro e u1 ⟨rfl, hb1⟩
    replace X1 := X1.below hb1
    replace B1 := B1.below hb1
    replace hbW := hbW.trans (hb1.mono hbW.size)
    clear hb1 hfo
    obtain ⟨p0, p1, p2, _⟩ := X1.cells
    go_wp2_with fail
    refine (szero_any _).mono ?_
    rintro e u3 ⟨v3, rfl, hF3, hb3⟩
    replace B1 := B1.below hb3
    replace hbW := hbW.trans (hb3.mono hbW.size)
    rw [HP.out] at hF3
    clear hb3 X1
    obtain ⟨n3, xs, ys, ⟨a3, c3, b3, d3, rfl, hx3, hy3⟩, f1, f2, f3, f4⟩ := hF3
    obtain ⟨q1, q2, q3, q4, q5, q6⟩ := B1.cells
    have hs := B1.lt
    go_wp2
    refine ret3 (v := .agg #[.bool n3, .slice a3 xs.length c3, .slice b3 ys.length d3]) B1 rfl (fun U hU => by obtain ⟨r1, r2, r3, _⟩ := hU.cells; simp [results, Tryz.results125, go_sem, r1, r2, r3]) (fun U hU hK => ⟨_, rfl, ⟨_, _, _, ⟨_, _, _, _, rfl, hK _ _ _ hx3, hK _ _ _ hy3⟩, f1, f2, f3, f4⟩, hU _ _ hbW (by omega)⟩)
  | true =>
    have hbd := tfB_iff.1 hf
    unfold TfT at hbd
    simp only [hf] at hfo
    cases hcc : crd c with
    | false =>
      have HP : Hid ((0 : Rat) = paQ t c) := (paQ_no (fun h => by rw [hcc] at h; cases h.2)).symm
      clear hf hbd
      obtain ⟨st, pk, en⟩ := t
      dsimp only at *
      go_enter Tryz.func125, Tryz.ntmps125
      go_wp2_with fail
      rw [← hW]
      clear hW
      refine (hfo _).mono ?_
      rintro e u1 ⟨rfl, hb1⟩
      replace X1 := X1.below hb1
      replace B1 := B1.below hb1
      replace hbW := hbW.trans (hb1.mono hbW.size)
      clear hb1 hfo
      obtain ⟨p0, p1, p2, _⟩ := X1.cells
      go_wp2_with fail
      refine (scoord_any c _).mono ?_
      rintro e u2 ⟨rfl, rfl⟩
      rw [hcc]
      clear hcc
      go_wp2_with fail
      refine (szero_any _).mono ?_
      rintro e u3 ⟨v3, rfl, hF3, hb3⟩
      replace B1 := B1.below hb3
      replace hbW := hbW.trans (hb3.mono hbW.size)
      rw [HP.out] at hF3
      clear hb3 X1
      obtain ⟨n3, xs, ys, ⟨a3, c3, b3, d3, rfl, hx3, hy3⟩, f1, f2, f3, f4⟩ := hF3
      obtain ⟨q1, q2, q3, q4, q5, q6⟩ := B1.cells
      have hs := B1.lt
      go_wp2
      refine ret3 (v := .agg #[.bool n3, .slice a3 xs.length c3, .slice b3 ys.length d3]) B1 rfl (fun U hU => by obtain ⟨r1, r2, r3, _⟩ := hU.cells; simp [results, Tryz.results125, go_sem, r1, r2, r3]) (fun U hU hK => ⟨_, rfl, ⟨_, _, _, ⟨_, _, _, _, rfl, hK _ _ _ hx3, hK _ _ _ hy3⟩, f1, f2, f3, f4⟩, hU _ _ hbW (by omega)⟩)
    | true =>
      have hcd := crdT.1 hcc
      by_cases h1 : t.pk = 0
      · have HP : Hid (((1 : Int) : Rat) = paQ t c) := paQ_one hf hcc (.inl h1)
        have g1 : (t.pk == 0) = true := by simp [h1]
        clear hf hbd hcd h1
        obtain ⟨st, pk, en⟩ := t
        dsimp only at *
        go_enter Tryz.func125, Tryz.ntmps125
        go_wp2_with fail
        rw [← hW]
        clear hW
        refine (hfo _).mono ?_
        rintro e u1 ⟨rfl, hb1⟩
        replace X1 := X1.below hb1
        replace B1 := B1.below hb1
        replace hbW := hbW.trans (hb1.mono hbW.size)
        clear hb1 hfo
        obtain ⟨p0, p1, p2, _⟩ := X1.cells
        go_wp2_with fail
        refine (scoord_any c _).mono ?_
        rintro e u2 ⟨rfl, rfl⟩
        rw [hcc]
        clear hcc
        go_wp2_with fail
        refine (swhole_any 1 _ (by decide) (by decide)).mono ?_
        rintro e u3 ⟨v3, rfl, hF3, hb3⟩
        replace B1 := B1.below hb3
        replace hbW := hbW.trans (hb3.mono hbW.size)
        rw [HP.out] at hF3
        clear hb3 X1
        obtain ⟨n3, xs, ys, ⟨a3, c3, b3, d3, rfl, hx3, hy3⟩, f1, f2, f3, f4⟩ := hF3
        obtain ⟨q1, q2, q3, q4, q5, q6⟩ := B1.cells
        have hs := B1.lt
        go_wp2
        refine ret3 (v := .agg #[.bool n3, .slice a3 xs.length c3, .slice b3 ys.length d3]) B1 rfl (fun U hU => by obtain ⟨r1, r2, r3, _⟩ := hU.cells; simp [results, Tryz.results125, go_sem, r1, r2, r3]) (fun U hU hK => ⟨_, rfl, ⟨_, _, _, ⟨_, _, _, _, rfl, hK _ _ _ hx3, hK _ _ _ hy3⟩, f1, f2, f3, f4⟩, hU _ _ hbW (by omega)⟩)
      · by_cases h2 : c = t.pk
        · have HP : Hid (((1 : Int) : Rat) = paQ t c) := paQ_one hf hcc (.inr h2)
          have g1 : (t.pk == 0) = false := by simp [h1]
          have g2 : (c == t.pk) = true := by simp [h2]
          clear h1 h2 hf hbd hcd
          obtain ⟨st, pk, en⟩ := t
          dsimp only at *
          go_enter Tryz.func125, Tryz.ntmps125
          go_wp2_with fail
          rw [← hW]
          clear hW
          refine (hfo _).mono ?_
          rintro e u1 ⟨rfl, hb1⟩
          replace X1 := X1.below hb1
          replace B1 := B1.below hb1
          replace hbW := hbW.trans (hb1.mono hbW.size)
          clear hb1 hfo
          obtain ⟨p0, p1, p2, _⟩ := X1.cells
          go_wp2_with fail
          refine (scoord_any c _).mono ?_
          rintro e u2 ⟨rfl, rfl⟩
          rw [hcc]
          clear hcc
          go_wp2_with fail
          refine (swhole_any 1 _ (by decide) (by decide)).mono ?_
          rintro e u3 ⟨v3, rfl, hF3, hb3⟩
          replace B1 := B1.below hb3
          replace hbW := hbW.trans (hb3.mono hbW.size)
          rw [HP.out] at hF3
          clear hb3 X1
          obtain ⟨n3, xs, ys, ⟨a3, c3, b3, d3, rfl, hx3, hy3⟩, f1, f2, f3, f4⟩ := hF3
          obtain ⟨q1, q2, q3, q4, q5, q6⟩ := B1.cells
          have hs := B1.lt
          go_wp2
          refine ret3 (v := .agg #[.bool n3, .slice a3 xs.length c3, .slice b3 ys.length d3]) B1 rfl (fun U hU => by obtain ⟨r1, r2, r3, _⟩ := hU.cells; simp [results, Tryz.results125, go_sem, r1, r2, r3]) (fun U hU hK => ⟨_, rfl, ⟨_, _, _, ⟨_, _, _, _, rfl, hK _ _ _ hx3, hK _ _ _ hy3⟩, f1, f2, f3, f4⟩, hU _ _ hbW (by omega)⟩)
        · have h12 : ¬ (t.pk = 0 ∨ c = t.pk) := by omega
          by_cases h3 : c ≤ t.st
          · have HP : Hid ((0 : Rat) = paQ t c) := paQ_off hf hcc h12 (.inl h3)
            have g1 : (t.pk == 0) = false := by simp [h1]
            have g2 : (c == t.pk) = false := by simp [h2]
            have g3 : decide (c ≤ t.st) = true := decide_eq_true h3
            clear h1 h2 hf hbd hcd h12
            obtain ⟨st, pk, en⟩ := t
            dsimp only at *
            go_enter Tryz.func125, Tryz.ntmps125
            go_wp2_with fail
            rw [← hW]
            clear hW
            refine (hfo _).mono ?_
            rintro e u1 ⟨rfl, hb1⟩
            replace X1 := X1.below hb1
            replace B1 := B1.below hb1
            replace hbW := hbW.trans (hb1.mono hbW.size)
            clear hb1 hfo
            obtain ⟨p0, p1, p2, _⟩ := X1.cells
            go_wp2_with fail
            refine (scoord_any c _).mono ?_
            rintro e u2 ⟨rfl, rfl⟩
            rw [hcc]
            clear hcc
            go_wp2_with fail
            refine (szero_any _).mono ?_
            rintro e u3 ⟨v3, rfl, hF3, hb3⟩
            replace B1 := B1.below hb3
            replace hbW := hbW.trans (hb3.mono hbW.size)
            rw [HP.out] at hF3
            clear hb3 X1
            obtain ⟨n3, xs, ys, ⟨a3, c3, b3, d3, rfl, hx3, hy3⟩, f1, f2, f3, f4⟩ := hF3
            obtain ⟨q1, q2, q3, q4, q5, q6⟩ := B1.cells
            have hs := B1.lt
            go_wp2
            refine ret3 (v := .agg #[.bool n3, .slice a3 xs.length c3, .slice b3 ys.length d3]) B1 rfl (fun U hU => by obtain ⟨r1, r2, r3, _⟩ := hU.cells; simp [results, Tryz.results125, go_sem, r1, r2, r3]) (fun U hU hK => ⟨_, rfl, ⟨_, _, _, ⟨_, _, _, _, rfl, hK _ _ _ hx3, hK _ _ _ hy3⟩, f1, f2, f3, f4⟩, hU _ _ hbW (by omega)⟩)
          · by_cases h4 : t.en ≤ c
            · have HP : Hid ((0 : Rat) = paQ t c) := paQ_off hf hcc h12 (.inr h4)
              have g1 : (t.pk == 0) = false := by simp [h1]
              have g2 : (c == t.pk) = false := by simp [h2]
              have g3 : decide (c ≤ t.st) = false := decide_eq_false h3
              have g4 : decide (t.en ≤ c) = true := decide_eq_true h4
              clear h1 h2 hf hbd hcd h12
              obtain ⟨st, pk, en⟩ := t
              dsimp only at *
              go_enter Tryz.func125, Tryz.ntmps125
              go_wp2_with fail
              rw [← hW]
              clear hW
              refine (hfo _).mono ?_
              rintro e u1 ⟨rfl, hb1⟩
              replace X1 := X1.below hb1
              replace B1 := B1.below hb1
              replace hbW := hbW.trans (hb1.mono hbW.size)
              clear hb1 hfo
              obtain ⟨p0, p1, p2, _⟩ := X1.cells
              go_wp2_with fail
              refine (scoord_any c _).mono ?_
              rintro e u2 ⟨rfl, rfl⟩
              rw [hcc]
              clear hcc
              go_wp2_with fail
              refine (szero_any _).mono ?_
              rintro e u3 ⟨v3, rfl, hF3, hb3⟩
              replace B1 := B1.below hb3
              replace hbW := hbW.trans (hb3.mono hbW.size)
              rw [HP.out] at hF3
              clear hb3 X1
              obtain ⟨n3, xs, ys, ⟨a3, c3, b3, d3, rfl, hx3, hy3⟩, f1, f2, f3, f4⟩ := hF3
              obtain ⟨q1, q2, q3, q4, q5, q6⟩ := B1.cells
              have hs := B1.lt
              go_wp2
              refine ret3 (v := .agg #[.bool n3, .slice a3 xs.length c3, .slice b3 ys.length d3]) B1 rfl (fun U hU => by obtain ⟨r1, r2, r3, _⟩ := hU.cells; simp [results, Tryz.results125, go_sem, r1, r2, r3]) (fun U hU hK => ⟨_, rfl, ⟨_, _, _, ⟨_, _, _, _, rfl, hK _ _ _ hx3, hK _ _ _ hy3⟩, f1, f2, f3, f4⟩, hU _ _ hbW (by omega)⟩)
            · have h34 : ¬ (c ≤ t.st ∨ t.en ≤ c) := by omega
              by_cases h5 : c < t.pk
              · have HP : Hid (((c - t.st : Int) : Rat) / ((t.pk - t.st : Int) : Rat) = paQ t c) := paQ_up hf hcc h12 h34 h5
                have g1 : (t.pk == 0) = false := by simp [h1]
                have g2 : (c == t.pk) = false := by simp [h2]
                have g3 : decide (c ≤ t.st) = false := decide_eq_false h3
                have g4 : decide (t.en ≤ c) = false := decide_eq_false h4
                clear hf h12 h34
                have k1 : IntKind.i64.wrap (c - t.st) = c - t.st := wrapi64 (by omega) (by omega)
                have k2 : IntKind.i64.wrap (t.pk - t.st) = t.pk - t.st := wrapi64 (by omega) (by omega)
                have hm := fun U => smake_any (c - t.st) (t.pk - t.st) U (by omega) (by omega) (by omega) (by omega)
                clear h1 h2 hbd hcd
                obtain ⟨st, pk, en⟩ := t
                dsimp only at *
                go_enter Tryz.func125, Tryz.ntmps125
                go_wp2_with fail
                rw [← hW]
                clear hW
                refine (hfo _).mono ?_
                rintro e u1 ⟨rfl, hb1⟩
                replace X1 := X1.below hb1
                replace B1 := B1.below hb1
                replace hbW := hbW.trans (hb1.mono hbW.size)
                clear hb1 hfo
                obtain ⟨p0, p1, p2, _⟩ := X1.cells
                go_wp2_with fail
                refine (scoord_any c _).mono ?_
                rintro e u2 ⟨rfl, rfl⟩
                rw [hcc]
                clear hcc
                go_wp2_with fail
                refine (hm _).mono ?_
                rintro e u3 ⟨v3, rfl, hF3, hb3⟩
                replace B1 := B1.below hb3
                replace hbW := hbW.trans (hb3.mono hbW.size)
                rw [HP.out] at hF3
                clear hb3 X1
                obtain ⟨n3, xs, ys, ⟨a3, c3, b3, d3, rfl, hx3, hy3⟩, f1, f2, f3, f4⟩ := hF3
                obtain ⟨q1, q2, q3, q4, q5, q6⟩ := B1.cells
                have hs := B1.lt
                go_wp2
                refine ret3 (v := .agg #[.bool n3, .slice a3 xs.length c3, .slice b3 ys.length d3]) B1 rfl (fun U hU => by obtain ⟨r1, r2, r3, _⟩ := hU.cells; simp [results, Tryz.results125, go_sem, r1, r2, r3]) (fun U hU hK => ⟨_, rfl, ⟨_, _, _, ⟨_, _, _, _, rfl, hK _ _ _ hx3, hK _ _ _ hy3⟩, f1, f2, f3, f4⟩, hU _ _ hbW (by omega)⟩)
              · have HP : Hid (((t.en - c : Int) : Rat) / ((t.en - t.pk : Int) : Rat) = paQ t c) := paQ_down hf hcc h12 h34 h5
                have g1 : (t.pk == 0) = false := by simp [h1]
                have g2 : (c == t.pk) = false := by simp [h2]
                have g3 : decide (c ≤ t.st) = false := decide_eq_false h3
                have g4 : decide (t.en ≤ c) = false := decide_eq_false h4
                clear hf h12 h34
                have k1 : IntKind.i64.wrap (t.en - c) = t.en - c := wrapi64 (by omega) (by omega)
                have k2 : IntKind.i64.wrap (t.en - t.pk) = t.en - t.pk := wrapi64 (by omega) (by omega)
                have hm := fun U => smake_any (t.en - c) (t.en - t.pk) U (by omega) (by omega) (by omega) (by omega)
                clear h1 h2 hbd hcd
                obtain ⟨st, pk, en⟩ := t
                dsimp only at *
                go_enter Tryz.func125, Tryz.ntmps125
                go_wp2_with fail
                rw [← hW]
                clear hW
                refine (hfo _).mono ?_
                rintro e u1 ⟨rfl, hb1⟩
                replace X1 := X1.below hb1
                replace B1 := B1.below hb1
                replace hbW := hbW.trans (hb1.mono hbW.size)
                clear hb1 hfo
                obtain ⟨p0, p1, p2, _⟩ := X1.cells
                go_wp2_with fail
                refine (scoord_any c _).mono ?_
                rintro e u2 ⟨rfl, rfl⟩
                rw [hcc]
                clear hcc
                go_wp2_with fail
                refine (hm _).mono ?_
                rintro e u3 ⟨v3, rfl, hF3, hb3⟩
                replace B1 := B1.below hb3
                replace hbW := hbW.trans (hb3.mono hbW.size)
                rw [HP.out] at hF3
                clear hb3 X1
                obtain ⟨n3, xs, ys, ⟨a3, c3, b3, d3, rfl, hx3, hy3⟩, f1, f2, f3, f4⟩ := hF3
                obtain ⟨q1, q2, q3, q4, q5, q6⟩ := B1.cells
                have hs := B1.lt
                go_wp2
                refine ret3 (v := .agg #[.bool n3, .slice a3 xs.length c3, .slice b3 ys.length d3]) B1 rfl (fun U hU => by obtain ⟨r1, r2, r3, _⟩ := hU.cells; simp [results, Tryz.results125, go_sem, r1, r2, r3]) (fun U hU hK => ⟨_, rfl, ⟨_, _, _, ⟨_, _, _, _, rfl, hK _ _ _ hx3, hK _ _ _ hy3⟩, f1, f2, f3, f4⟩, hU _ _ hbW (by omega)⟩)

end Go.Proofs.YtkbbdkecillnpaaGreat

namespace Go.Proofs.YtkbbdkecillnpaaGreat
open Go.RowKit Go.Lib Classical
set_option linter.unusedSimpArgs false
set_option linter.unusedVariables false

theorem cell_alloc1 {u : World} {o : Obj} {k i : Nat} (hk : k < u.heap.size) : (u.alloc o).cell? ⟨k, i, none⟩ = u.cell? ⟨k, i, none⟩ :=
  World.cell?_of_block (w := u) (a := ⟨k, i, none⟩) (Below.heap_alloc _ _ _ hk)
theorem cell_alloc2 {u : World} {o o' : Obj} {k i : Nat} (hk : k < u.heap.size) : ((u.alloc o).alloc o').cell? ⟨k, i, none⟩ = u.cell? ⟨k, i, none⟩ :=
  (cell_alloc1 (by simp; omega)).trans (cell_alloc1 hk)
theorem cell_s2 {u : World} {b b' : Nat} {x y z x' y' z' : Value} {k i : Nat} (hk : k ≠ b) (hk' : k ≠ b') :
    ((((((u.setCell ⟨b, 0, none⟩ x).setCell ⟨b, 1, none⟩ y).setCell ⟨b, 2, none⟩ z).setCell ⟨b', 0, none⟩ x').setCell ⟨b', 1, none⟩ y').setCell ⟨b', 2, none⟩ z').cell? ⟨k, i, none⟩ = u.cell? ⟨k, i, none⟩ :=
  (cell_set3 hk').trans (cell_set3 hk)
theorem cell_sa {u : World} {b : Nat} {x y z : Value} {o : Obj} {k i : Nat} (hk : k ≠ b) (hk' : k < u.heap.size) :
    ((((u.setCell ⟨b, 0, none⟩ x).setCell ⟨b, 1, none⟩ y).setCell ⟨b, 2, none⟩ z).alloc o).cell? ⟨k, i, none⟩ = u.cell? ⟨k, i, none⟩ :=
  (cell_alloc1 (by simpa [World.setCell] using hk')).trans (cell_set3 hk)
theorem sto_new' (t : TypeId) (u : World) (x y z : Value) {k : Nat} (h : u.heap.size = k) : Sto t u (u.alloc (.cells #[x, y, z] t)) k x y z := h ▸ sto_new t u x y z
/-- Two blocks, one behind the other. -/
theorem Sto.two {t : TypeId} {u U V : World} {b b' : Nat} {x y z x' y' z' : Value} (s : Sto t u U b x y z) (r : Sto t U V b' x' y' z') (h : b ≠ b') :
    ∃ W, W = V ∧ Box t W b x y z ∧ Box t W b' x' y' z' ∧ (∀ B w, Below B w u → B ≤ b → B ≤ b' → Below B w W) ∧ (∀ a c xs, Rd u a c xs → Rd W a c xs) ∧ (∀ t' k x y z, k ≠ b → k ≠ b' → Box t' u k x y z → Box t' W k x y z) :=
  ⟨V, rfl, r.2.2.2 _ _ _ _ _ h s.1, r.1, fun _ _ hb h1 h2 => r.2.1 _ _ (s.2.1 _ _ hb h1) h2, fun _ _ _ hr => r.2.2.1 _ _ _ (s.2.2.1 _ _ _ hr), fun _ _ _ _ _ h1 h2 hB => r.2.2.2 _ _ _ _ _ h2 (s.2.2.2 _ _ _ _ _ h1 hB)⟩
theorem Ct.keep {u U : World} {v : Value} {k : Nat} {q : Rat} (h : Ct u v k q) (hK : ∀ a c xs, Rd u a c xs → Rd U a c xs) : Ct U v k q := by
  obtain ⟨n0, x0, y0, ⟨e1, e2, e3, e4, e5, e6, e7⟩, e8⟩ := h
  exact ⟨n0, x0, y0, ⟨e1, e2, e3, e4, e5, hK _ _ _ e6, hK _ _ _ e7⟩, e8⟩
theorem after2d {t s : TypeId} {w u : World} {x y z x' y' z' : Value} (hb : Below ((w.alloc (.cells #[x, y, z] t)).alloc (.cells #[x', y', z'] s)).drew.heap.size ((w.alloc (.cells #[x, y, z] t)).alloc (.cells #[x', y', z'] s)).drew u) :
    Box t u w.heap.size x y z ∧ Box s u (w.heap.size + 1) x' y' z' ∧ Below w.heap.size w u := after2 (Below.drew1.trans hb)

theorem formedF_any (k : Nat) (q : Rat) (v : Value) (w : World) (h : Fr w v k q) (hk : k ≤ 400000000) :
    Calls Tryz.prog 108 #[v] w fun e w' => e = .returned (.bool true) ∧ Below w.heap.size w w' := by
  obtain ⟨n, xs, ys, ⟨a, c, a', c', rfl, hx, hy⟩, hf, lx, ly, _⟩ := h
  refine (formed_any _ _ _ _ _ _ _ _ hx hy (by omega) (by omega)).mono ?_
  rintro e u ⟨rfl, hb⟩
  exact ⟨ret_bool (decide_eq_true hf), hb⟩

/-- Two formed writings of one number. -/
def Two (w : World) (n : Bool) (a : Option Addr) (c : Nat) (xs : List Nat) (a' : Option Addr) (c' : Nat) (ys : List Nat) (m : Bool) (b : Option Addr) (d : Nat) (ps : List Nat) (b' : Option Addr) (d' : Nat) (qs : List Nat) (q : Rat) : Prop :=
  Rd w a c xs ∧ Rd w a' c' ys ∧ Rd w b d ps ∧ Rd w b' d' qs ∧ Fmd n xs ys ∧ xs.length ≤ 9 ∧ ys.length ≤ 9 ∧ qv n xs ys = q ∧ Fmd m ps qs ∧ ps.length ≤ 9 ∧ qs.length ≤ 9 ∧ qv m ps qs = q

end Go.Proofs.YtkbbdkecillnpaaGreat
