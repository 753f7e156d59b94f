/-
  foundryref02.Floor, Round, Text: the walks.
  foundryref03.Coordinate, Of14, Of16, Clamp, Field, To14, near, Between: the walks.
  axes.Clamp, foundryref06.Clamp, foundryref06.SameInts, foundryref06.Same: the walks.
-/
import Derived.Test.YtdpafdeoepbhaaaGreatZ22
import Derived.Deep.RegionHeld3
import Derived.Test.YtdpafdeoepbhaaaGreatZ19
import Derived.Test.YtdpafdeoepbhaaaGreatZ15
import Derived.Laws.MakeOwn
namespace Go.Proofs.YtdpafdeoepbhaaaGreat
open Go.RowKit
set_option linter.unusedSimpArgs false
set_option linter.unusedVariables false

theorem back_two {m : Nat} (h : m ≤ 9223372036854775808) : wrap64 (-(wrap64 (m : Int))) = -(m : Int) := by
  by_cases h9 : m = 9223372036854775808
  · subst h9; decide +kernel
  · rw [back_pos (by omega)]
    unfold wrap64
    omega

set_option maxHeartbeats 4000000 in
set_option maxRecDepth 100000 in
theorem sfloor_any (k : Nat) (q : Rat) (v : Value) (w : World) (h : Ct w v k q) (hk : k ≤ 1000000) (hk2 : 2 ≤ k) :
    Calls Tryz.prog 74 #[v] w fun e w' => e = .returned (.tuple #[.int .i64 (flN q.floor), .bool (flB q.floor)]) ∧ Below w.heap.size w w' := by
  have hX := h
  obtain ⟨n, xs, ys, ⟨a, c, a', c', rfl, _, _⟩, hz1⟩ := h
  clear hz1
  go_enter Tryz.func74, Tryz.ntmps74
  go_wp2_with fail
  refine (sfair_any k q _ _ (hX.below (al1 _)) (by omega) hk2).mono ?_
  rintro e u1 ⟨v1, rfl, hF1, hb1⟩
  obtain ⟨B0, hbW⟩ := after1 hb1
  clear hb1 hX
  obtain ⟨p1, p2, p3, p4, p5, p6⟩ := B0.cells
  have hs1 := B0.lt
  obtain ⟨n1, x1, y1, ⟨a1, c1, b1, d1, rfl, hx1, hy1⟩, f1, l1, l1', e1⟩ := hF1
  have y0 := f1.den
  go_wp2_with fail
  obtain ⟨U, hU, B1, hbU, hK, ho⟩ := set3_world B0 (.bool n1) (.slice a1 x1.length c1) (.slice b1 y1.length d1)
  rw [← hU]
  replace hbW := hbU _ _ hbW (by omega)
  replace hx1 := hK _ _ _ hx1
  replace hy1 := hK _ _ _ hy1
  clear hU hbU hK ho B0 p1 p2 p3 p4 p5 p6 hs1
  refine (rdiv_any _ _ _ _ _ _ _ hx1 hy1 (by omega) (by omega)).mono ?_
  rintro e u2 ⟨a2, c2, zs, a3, c3, rs, rfl, hv1, hv2, ht1, ht2, hr1, hr2, hb2⟩
  have lz : zs.length ≤ k := len_le_of_V ht1 (Nat.lt_of_le_of_lt (by rw [hv1]; exact Nat.div_le_self _ _) (V_len_le hx1.lim l1))
  have lr : rs.length ≤ k := len_le_of_V ht2 (Nat.lt_of_le_of_lt (by rw [hv2, remN_pos _ (by omega)]; exact Nat.mod_le _ _) (V_len_le hx1.lim l1))
  have rz := hr1.rd
  rw [remN_pos _ (by omega)] at hv2
  replace B1 := B1.below hb2
  replace hbW : Below w.heap.size w u2 := hbW.trans (hb2.mono hbW.size)
  clear hr1 hr2 hb2 hx1 hy1
  obtain ⟨p1, p2, p3, _⟩ := B1.cells
  subst e1
  cases n1 with
  | false =>
      have HF : Hid ((qv false x1 y1).floor = ((V zs : Nat) : Int)) := by show _ = _; rw [floor_pos y0, hv1]
      clear hv1 hv2
      go_wp2_with fail
      refine (rsmall_any _ _ _ _ rz (by omega)).mono ?_
      rintro e u7 ⟨rfl, hb7⟩
      replace B1 := B1.below hb7
      replace hbW : Below w.heap.size w u7 := hbW.trans (hb7.mono hbW.size)
      clear hb7 p1 p2 p3
      obtain ⟨p1, p2, p3, _⟩ := B1.cells
      generalize V zs = m at HF ⊢
      clear rz
      by_cases hm : m < 9223372036854775808
      · rw [smallN_lt (by omega), isSmall_lt (by omega)]
        have HM : Hid (m < 9223372036854775808) := hm
        obtain ⟨z, hz⟩ : ∃ z : Int, (m : Int) = z := ⟨_, rfl⟩
        have g1 : ¬ 9223372036854775808 < z := by omega
        have g2 : (z == 9223372036854775808) = false := beq_eq_false_iff_ne.2 (by omega)
        rw [hz]
        have HZ : Hid ((m : Int) = z) := hz
        clear hz hm
        go_wp2
        go_ret2
        exact ⟨ret_two (by rw [HF.out, flN_pos, if_pos HM.out, ← HZ.out]; exact back_pos HM.out) (by rw [HF.out, flB_pos]; simp [HM.out]), hbW⟩
      · by_cases hm2 : m < 18446744073709551616
        · rw [smallN_lt hm2, isSmall_lt hm2]
          by_cases hm3 : m = 9223372036854775808
          · subst hm3
            go_wp2
            go_ret2
            exact ⟨ret_two (by rw [HF.out, flN_pos, if_neg (by decide)]) (by rw [HF.out, flB_pos]; simp), hbW⟩
          · have g1 : (9223372036854775808 : Int) < (m : Int) := by omega
            have HM : Hid (¬ m < 9223372036854775808) := hm
            clear hm hm2 hm3
            go_wp2
            go_ret2
            exact ⟨ret_two (by rw [HF.out, flN_pos, if_neg HM.out]) (by rw [HF.out, flB_pos]; simp [HM.out]), hbW⟩
        · rw [smallN_ge hm2, isSmall_ge hm2]
          go_wp2
          go_ret2
          exact ⟨ret_two (by rw [HF.out, flN_pos, if_neg hm]) (by rw [HF.out, flB_pos]; simp [hm]), hbW⟩
  | true =>
    by_cases hrs : rs.length = 0
    · have hr0 : V rs = 0 := by rw [List.length_eq_zero_iff.1 hrs]; rfl
      have HF : Hid ((qv true x1 y1).floor = -((V zs : Nat) : Int)) := by show _ = _; rw [floor_neg y0, hv1, ← hv2, hr0]; simp
      have g0 : ¬ (0 : Int) < (rs.length : Int) := by omega
      clear hv1 hv2 hr0 hrs
      go_wp2_with fail
      refine (rsmall_any _ _ _ _ rz (by omega)).mono ?_
      rintro e u7 ⟨rfl, hb7⟩
      replace B1 := B1.below hb7
      replace hbW : Below w.heap.size w u7 := hbW.trans (hb7.mono hbW.size)
      clear hb7 p1 p2 p3
      obtain ⟨p1, p2, p3, _⟩ := B1.cells
      generalize V zs = m at HF ⊢
      clear rz
      by_cases hm : m ≤ 9223372036854775808
      · rw [smallN_lt (by omega), isSmall_lt (by omega)]
        have HM : Hid (m ≤ 9223372036854775808) := hm
        obtain ⟨z, hz⟩ : ∃ z : Int, (m : Int) = z := ⟨_, rfl⟩
        have g1 : ¬ 9223372036854775808 < z := by omega
        have HB : Hid (wrap64 (-(wrap64 z)) = -z) := by show _ = _; rw [← hz]; exact back_two hm
        rw [hz]
        have HZ : Hid ((m : Int) = z) := hz
        clear hz hm
        by_cases hz9 : z = 9223372036854775808
        · have g2 : (z == 9223372036854775808) = true := beq_iff_eq.2 hz9
          clear hz9
          go_wp2
          go_ret2
          exact ⟨ret_two (by rw [HF.out, flN_neg, if_pos HM.out, HZ.out]; exact HB.out) (by rw [HF.out, flB_neg]; simp [HM.out]), hbW⟩
        · have g2 : (z == 9223372036854775808) = false := beq_eq_false_iff_ne.2 hz9
          clear hz9
          go_wp2
          go_ret2
          exact ⟨ret_two (by rw [HF.out, flN_neg, if_pos HM.out, HZ.out]; exact HB.out) (by rw [HF.out, flB_neg]; simp [HM.out]), hbW⟩
      · by_cases hm2 : m < 18446744073709551616
        · rw [smallN_lt hm2, isSmall_lt hm2]
          have g1 : (9223372036854775808 : Int) < (m : Int) := by omega
          have HM : Hid (¬ m ≤ 9223372036854775808) := hm
          clear hm hm2
          go_wp2
          go_ret2
          exact ⟨ret_two (by rw [HF.out, flN_neg, if_neg HM.out]) (by rw [HF.out, flB_neg]; simp [HM.out]), hbW⟩
        · rw [smallN_ge hm2, isSmall_ge hm2]
          go_wp2
          go_ret2
          exact ⟨ret_two (by rw [HF.out, flN_neg, if_neg hm]) (by rw [HF.out, flB_neg]; simp [hm]), hbW⟩
    · have hr0 : 0 < V rs := by
        have := V_ne_of ht2 fun h => hrs (by rw [h]; rfl)
        omega
      have g0 : (0 : Int) < (rs.length : Int) := by omega
      go_wp2_with fail
      refine (sone_any _).mono ?_
      rintro e u3 ⟨a4, c4, os, rfl, ho1, hto, ro, hb3⟩
      replace rz := rz.below hb3
      replace B1 := B1.below hb3
      replace hbW : Below w.heap.size w u3 := hbW.trans (hb3.mono hbW.size)
      have lo := len_two hto (by omega)
      clear hb3 p1 p2 p3
      go_wp2_with fail
      refine (radd_any _ _ _ _ _ _ _ rz ro (by omega) (by omega)).mono ?_
      rintro e u4 ⟨a5, c5, ws, rfl, hv4, ht4, hr4, hb4⟩
      have rw4 := hr4.rd
      replace B1 := B1.below hb4
      replace hbW : Below w.heap.size w u4 := hbW.trans (hb4.mono hbW.size)
      have lw : ws.length ≤ k + 1 := sum_len rz.lim ro.lim ht4 lz (by omega) (by omega)
      have HF : Hid ((qv true x1 y1).floor = -((V ws : Nat) : Int)) := by show _ = _; rw [floor_neg y0, hv4, hv1, ho1, ← hv2, if_pos hr0]
      clear hv1 hv2 hr0 hr4 hb4 rz ro hv4 ho1 hrs
      obtain ⟨p1, p2, p3, _⟩ := B1.cells
      go_wp2_with fail
      refine (rsmall_any _ _ _ _ rw4 (by omega)).mono ?_
      rintro e u7 ⟨rfl, hb7⟩
      replace B1 := B1.below hb7
      replace hbW : Below w.heap.size w u7 := hbW.trans (hb7.mono hbW.size)
      clear hb7 p1 p2 p3
      obtain ⟨p1, p2, p3, _⟩ := B1.cells
      generalize V ws = m at HF ⊢
      clear rw4
      by_cases hm : m ≤ 9223372036854775808
      · rw [smallN_lt (by omega), isSmall_lt (by omega)]
        have HM : Hid (m ≤ 9223372036854775808) := hm
        obtain ⟨z, hz⟩ : ∃ z : Int, (m : Int) = z := ⟨_, rfl⟩
        have g1 : ¬ 9223372036854775808 < z := by omega
        have HB : Hid (wrap64 (-(wrap64 z)) = -z) := by show _ = _; rw [← hz]; exact back_two hm
        rw [hz]
        have HZ : Hid ((m : Int) = z) := hz
        clear hz hm
        by_cases hz9 : z = 9223372036854775808
        · have g2 : (z == 9223372036854775808) = true := beq_iff_eq.2 hz9
          clear hz9
          go_wp2
          go_ret2
          exact ⟨ret_two (by rw [HF.out, flN_neg, if_pos HM.out, HZ.out]; exact HB.out) (by rw [HF.out, flB_neg]; simp [HM.out]), hbW⟩
        · have g2 : (z == 9223372036854775808) = false := beq_eq_false_iff_ne.2 hz9
          clear hz9
          go_wp2
          go_ret2
          exact ⟨ret_two (by rw [HF.out, flN_neg, if_pos HM.out, HZ.out]; exact HB.out) (by rw [HF.out, flB_neg]; simp [HM.out]), hbW⟩
      · by_cases hm2 : m < 18446744073709551616
        · rw [smallN_lt hm2, isSmall_lt hm2]
          have g1 : (9223372036854775808 : Int) < (m : Int) := by omega
          have HM : Hid (¬ m ≤ 9223372036854775808) := hm
          clear hm hm2
          go_wp2
          go_ret2
          exact ⟨ret_two (by rw [HF.out, flN_neg, if_neg HM.out]) (by rw [HF.out, flB_neg]; simp [HM.out]), hbW⟩
        · rw [smallN_ge hm2, isSmall_ge hm2]
          go_wp2
          go_ret2
          exact ⟨ret_two (by rw [HF.out, flN_neg, if_neg hm]) (by rw [HF.out, flB_neg]; simp [hm]), hbW⟩

set_option maxHeartbeats 2000000 in
set_option maxRecDepth 100000 in
theorem sround_any (k : Nat) (q : Rat) (v : Value) (w : World) (h : Ct w v k q) (hk : k ≤ 100000) (hk2 : 2 ≤ k) :
    Calls Tryz.prog 34 #[v] w fun e w' => e = .returned (.tuple #[.int .i64 (flN (q + 1 / 2).floor), .bool (flB (q + 1 / 2).floor)]) ∧ Below w.heap.size w w' := by
  have hX := h
  obtain ⟨n, xs, ys, ⟨a, c, a', c', rfl, _, _⟩, hz1⟩ := h
  clear hz1
  go_enter Tryz.func34, Tryz.ntmps34
  go_wp2_with fail
  obtain ⟨W, hW, B1, hbW⟩ : ∃ W, W = w.alloc (.cells #[.bool n, .slice a xs.length c, .slice a' ys.length c'] 45) ∧ Box 45 W w.heap.size (.bool n) (.slice a xs.length c) (.slice a' ys.length c') ∧ Below w.heap.size w W := ⟨_, rfl, Box.new _ _ _ _ _, al1 _⟩
  rw [← hW]
  clear hW
  replace hX := hX.below hbW
  obtain ⟨p1, p2, p3, _⟩ := B1.cells
  go_region_held3 (fun u => u.cell? ⟨w.heap.size, 0, none⟩ = some (.bool n) ∧ u.cell? ⟨w.heap.size, 1, none⟩ = some (.slice a xs.length c) ∧ u.cell? ⟨w.heap.size, 2, none⟩ = some (.slice a' ys.length c')) (go_keep)
    (first
      | (go_at_call 48
         refine (smake_any 1 2 _ (by decide) (by decide) (by decide) (by decide)).mono ?_
         rintro e u1 ⟨v1, rfl, hF1, hb1⟩
         replace hb1 : Below W.heap.size W u1 := Below.drew1.trans hb1
         have hH : Ct u1 v1 2 (1 / 2) := hF1.ct
         replace hX := hX.below hb1
         replace B1 := B1.below hb1
         replace hbW : Below w.heap.size w u1 := hbW.trans (hb1.mono hbW.size)
         clear hb1 hF1 p1 p2 p3
         obtain ⟨p1, p2, p3, _⟩ := B1.cells)
      | (go_at_call 53
         refine (sadd_any k 2 q (1 / 2) _ _ _ hX hH ?_ (by decide) hk2 (by decide)).mono ?_
         · omega
         rintro e u2 ⟨v2, rfl, hF2, hb2⟩
         replace B1 := B1.below hb2
         replace hbW : Below w.heap.size w u2 := hbW.trans (hb2.mono hbW.size)
         clear hb2 hX hH p1 p2 p3
         obtain ⟨p1, p2, p3, _⟩ := B1.cells)
      | (go_at_call 74
         refine (sfloor_any (k + 2 + 1) _ _ _ hF2.ct ?_ ?_).mono ?_
         · omega
         · omega
         rintro e u3 ⟨rfl, hb3⟩
         replace B1 := B1.below hb3
         replace hbW : Below w.heap.size w u3 := hbW.trans (hb3.mono hbW.size)
         clear hb3 hF2 p1 p2 p3
         obtain ⟨p1, p2, p3, _⟩ := B1.cells))
  go_wp2
  go_ret2
  exact ⟨rfl, hbW⟩

end Go.Proofs.YtdpafdeoepbhaaaGreat

namespace Go.Proofs.YtdpafdeoepbhaaaGreat
open Go.RowKit Classical
set_option linter.unusedSimpArgs false
set_option linter.unusedVariables false

set_option maxHeartbeats 400000 in
set_option maxRecDepth 100000 in
theorem scoord_any (z : Int) (w : World) : Calls Tryz.prog 60 #[.int .i64 z] w fun e w' => e = .returned (.bool (crd z)) ∧ w = w' := by
  by_cases h1 : -16384 ≤ z
  · go_enter Tryz.func60, Tryz.ntmps60
    go_wp2
    go_ret
    exact ⟨ret_bool (by simp [crd, h1]), rfl⟩
  · go_enter Tryz.func60, Tryz.ntmps60
    go_wp2
    go_ret
    exact ⟨ret_bool (by simp [crd]; omega), rfl⟩

set_option maxHeartbeats 400000 in
set_option maxRecDepth 100000 in
theorem sclamp_any (n a b : Int) (w : World) : Calls Tryz.prog 45 #[.int .i64 n, .int .i64 a, .int .i64 b] w fun e w' => e = .returned (.int .i64 (clp n a b)) ∧ w = w' := by
  by_cases h1 : n < a
  · by_cases h2 : b < a
    · go_enter Tryz.func45, Tryz.ntmps45
      go_wp2
      go_ret
      exact ⟨ret_num (by unfold clp; simp [h1, h2]), rfl⟩
    · go_enter Tryz.func45, Tryz.ntmps45
      go_wp2
      go_ret
      exact ⟨ret_num (by unfold clp; simp [h1]; omega), rfl⟩
  · by_cases h2 : b < n
    · go_enter Tryz.func45, Tryz.ntmps45
      go_wp2
      go_ret
      exact ⟨ret_num (by have e : (if n < a then a else n) = n := if_neg (by omega)
                         unfold clp; rw [e, if_pos (by omega)]), rfl⟩
    · go_enter Tryz.func45, Tryz.ntmps45
      go_wp2
      go_ret
      exact ⟨ret_num (by have e : (if n < a then a else n) = n := if_neg (by omega)
                         unfold clp; rw [e, if_neg (by omega)]), rfl⟩

theorem scoordB_any (z : Int) (w : World) : Calls Tryz.prog 60 #[.int .i64 z] w fun e w' => e = .returned (.bool (crd z)) ∧ Below w.heap.size w w' :=
  (scoord_any z w).mono fun e w' h => ⟨h.1, h.2 ▸ Below.refl _ _⟩
theorem sclampB_any (n a b : Int) (w : World) : Calls Tryz.prog 45 #[.int .i64 n, .int .i64 a, .int .i64 b] w fun e w' => e = .returned (.int .i64 (clp n a b)) ∧ Below w.heap.size w w' :=
  (sclamp_any n a b w).mono fun e w' h => ⟨h.1, h.2 ▸ Below.refl _ _⟩

set_option maxHeartbeats 1000000 in
set_option maxRecDepth 100000 in
theorem sof14_any (z : Int) (w : World) (h1 : -9223372036854775808 ≤ z) (h2 : z < 9223372036854775808) :
    Calls Tryz.prog 50 #[.int .i64 z] w fun e w' => ∃ v', e = .returned v' ∧ Fr w' v' 2 ((z : Rat) / ((16384 : Int) : Rat)) ∧ Below w.heap.size w w' := by
  go_enter Tryz.func50, Tryz.ntmps50
  go_wp2_with fail
  refine (smake_any z 16384 _ h1 h2 (by decide) (by decide)).mono ?_
  rintro e u3 ⟨v3, rfl, hF, hb3⟩
  obtain ⟨B1, hbW⟩ := after1 hb3
  obtain ⟨q1, q2, q3, q4, q5, q6⟩ := B1.cells
  have hs' := B1.lt
  obtain ⟨n', xs', ys', ⟨b, d, b', d', rfl, hx', hy'⟩, hF⟩ := hF
  clear hb3
  go_wp2
  refine ret3 (v := .agg #[.bool n', .slice b xs'.length d, .slice b' ys'.length d']) B1 rfl (fun U hU => by obtain ⟨r1, r2, r3, _⟩ := hU.cells; simp [results, Tryz.results50, go_sem, r1, r2, r3]) (fun U hU hK => ⟨_, rfl, ⟨_, _, _, ⟨_, _, _, _, rfl, hK _ _ _ hx', hK _ _ _ hy'⟩, hF⟩, hU _ _ hbW (by omega)⟩)

theorem sgn_ge {q : Rat} : 0 ≤ sgnQ q ↔ 0 ≤ q := by
  unfold sgnQ
  split
  · simp; grind
  · split
    · simp; grind
    · simp; grind
theorem sgn_le {q : Rat} : sgnQ q ≤ 0 ↔ q ≤ 0 := by
  unfold sgnQ
  split
  · simp; grind
  · split
    · simp; grind
    · simp; grind

theorem to14_one {q : Rat} (h : 1 ≤ q) : to14 q = 16384 := by
  have f2 := Rat.lt_floor (x := q * 16384 + 1 / 2)
  unfold to14
  generalize (q * 16384 + 1 / 2).floor = z at f2
  have : ((16383 : Int) : Rat) < ((z : Int) : Rat) := by grind
  have := Rat.intCast_lt_intCast.1 this
  unfold c14
  rw [if_neg (by omega)]
  split <;> omega
theorem to14_mone {q : Rat} (h : q ≤ -1) : to14 q = -16384 := by
  have f1 := Rat.floor_le (q * 16384 + 1 / 2)
  unfold to14
  generalize (q * 16384 + 1 / 2).floor = z at f1
  have : ((z : Int) : Rat) < ((-16383 : Int) : Rat) := by grind
  have := Rat.intCast_lt_intCast.1 this
  unfold c14
  split
  · rfl
  · rw [if_neg (by omega)]; omega
theorem to14_mid {q : Rat} (h1 : -1 < q) (h2 : q < 1) : flN (q * 16384 + 1 / 2).floor = to14 q := by
  have f1 := Rat.floor_le (q * 16384 + 1 / 2)
  have f2 := Rat.lt_floor (x := q * 16384 + 1 / 2)
  unfold to14
  generalize (q * 16384 + 1 / 2).floor = z at f1 f2
  have g1 : ((-16385 : Int) : Rat) < ((z : Int) : Rat) := by grind
  have g2 : ((z : Int) : Rat) < ((16385 : Int) : Rat) := by grind
  have := Rat.intCast_lt_intCast.1 g1
  have := Rat.intCast_lt_intCast.1 g2
  unfold c14 flN flB
  rw [if_pos (by simp; omega), if_neg (by omega), if_neg (by omega)]

set_option maxHeartbeats 2000000 in
set_option maxRecDepth 100000 in
theorem sto14_any (k : Nat) (q : Rat) (v : Value) (w : World) (h : Ct w v k q) (hk : k ≤ 10000) (hk2 : 2 ≤ k) :
    Calls Tryz.prog 15 #[v] w fun e w' => e = .returned (.int .i64 (to14 q)) ∧ Below w.heap.size w w' := by
  have hX := h
  obtain ⟨n, xs, ys, ⟨a, c, a', c', rfl, _, _⟩, hz1⟩ := h
  clear hz1
  obtain ⟨z, hz⟩ : ∃ z, to14 q = z := ⟨_, rfl⟩
  rw [hz]
  have HZ : Hid (to14 q = z) := hz
  clear hz
  obtain ⟨s1, hs1⟩ : ∃ s, sgnQ (q - ((1 : Int) : Rat)) = s := ⟨_, rfl⟩
  obtain ⟨s2, hs2⟩ : ∃ s, sgnQ (q - ((-1 : Int) : Rat)) = s := ⟨_, rfl⟩
  have HS1 : Hid (sgnQ (q - ((1 : Int) : Rat)) = s1) := hs1
  have HS2 : Hid (sgnQ (q - ((-1 : Int) : Rat)) = s2) := hs2
  clear hs1 hs2
  go_enter Tryz.func15, Tryz.ntmps15
  go_wp2_with fail
  obtain ⟨W, hW, B1, hbW⟩ : ∃ W, W = w.alloc (.cells #[.bool n, .slice a xs.length c, .slice a' ys.length c'] 45) ∧ Box 45 W w.heap.size (.bool n) (.slice a xs.length c) (.slice a' ys.length c') ∧ Below w.heap.size w W := ⟨_, rfl, Box.new _ _ _ _ _, al1 _⟩
  rw [← hW]
  clear hW
  replace hX := hX.below hbW
  obtain ⟨p1, p2, p3, _⟩ := B1.cells
  go_region_held3 (fun u => u.cell? ⟨w.heap.size, 0, none⟩ = some (.bool n) ∧ u.cell? ⟨w.heap.size, 1, none⟩ = some (.slice a xs.length c) ∧ u.cell? ⟨w.heap.size, 2, none⟩ = some (.slice a' ys.length c')) (go_keep)
    (first
      | (go_at_call 33
         refine (swhole_any (1) _ (by decide) (by decide)).mono ?_
         rintro e u1 ⟨v1, rfl, hF1, hb1⟩
         replace hb1 : Below W.heap.size W u1 := Below.drew1.trans hb1
         replace hX := hX.below hb1
         replace B1 := B1.below hb1
         replace hbW : Below w.heap.size w u1 := hbW.trans (hb1.mono hbW.size)
         clear hb1 p1 p2 p3
         obtain ⟨p1, p2, p3, _⟩ := B1.cells)
      | (go_at_call 32
         refine (scmp_any k 2 q ((1 : Int) : Rat) _ _ _ hX hF1.ct ?_ (by decide) hk2 (by decide)).mono ?_
         · omega
         rintro e u2 ⟨rfl, hb2⟩
         rw [HS1.out]
         replace hX := hX.below hb2
         replace B1 := B1.below hb2
         replace hbW : Below w.heap.size w u2 := hbW.trans (hb2.mono hbW.size)
         clear hb2 hF1 p1 p2 p3
         obtain ⟨p1, p2, p3, _⟩ := B1.cells))
  by_cases h1 : 1 ≤ q
  · have g1 : (0 : Int) ≤ s1 := by rw [← HS1.out]; exact sgn_ge.2 (by grind)
    have HQ : Hid (to14 q = 16384) := to14_one h1
    clear h1
    go_wp2
    go_ret
    exact ⟨ret_num (by rw [← HZ.out, HQ.out]), hbW⟩
  have g1 : s1 < 0 := by
    rw [← HS1.out]
    refine Int.not_le.1 fun hh => h1 ?_
    have := sgn_ge.1 hh
    grind
  have L1 : Hid (q < 1) := by show q < 1; grind
  clear h1
  go_wp2_with fail
  go_region_held3 (fun u => u.cell? ⟨w.heap.size, 0, none⟩ = some (.bool n) ∧ u.cell? ⟨w.heap.size, 1, none⟩ = some (.slice a xs.length c) ∧ u.cell? ⟨w.heap.size, 2, none⟩ = some (.slice a' ys.length c')) (go_keep)
    (first
      | (go_at_call 33
         refine (swhole_any (-1) _ (by decide) (by decide)).mono ?_
         rintro e u3 ⟨v1, rfl, hF1, hb1⟩
         replace hb1 : Below u2.heap.size u2 u3 := Below.drew1.trans hb1
         replace hX := hX.below hb1
         replace B1 := B1.below hb1
         replace hbW : Below w.heap.size w u3 := hbW.trans (hb1.mono hbW.size)
         clear hb1 p1 p2 p3
         obtain ⟨p1, p2, p3, _⟩ := B1.cells)
      | (go_at_call 32
         refine (scmp_any k 2 q ((-1 : Int) : Rat) _ _ _ hX hF1.ct ?_ (by decide) hk2 (by decide)).mono ?_
         · omega
         rintro e u4 ⟨rfl, hb2⟩
         rw [HS2.out]
         replace hX := hX.below hb2
         replace B1 := B1.below hb2
         replace hbW : Below w.heap.size w u4 := hbW.trans (hb2.mono hbW.size)
         clear hb2 hF1 p1 p2 p3
         obtain ⟨p1, p2, p3, _⟩ := B1.cells))
  clear g1
  by_cases h1 : q ≤ -1
  · have g1 : s2 ≤ 0 := by rw [← HS2.out]; exact sgn_le.2 (by grind)
    have HQ : Hid (to14 q = -16384) := to14_mone h1
    clear h1
    go_wp2
    go_ret
    exact ⟨ret_num (by rw [← HZ.out, HQ.out]), hbW⟩
  have g1 : 0 < s2 := by
    rw [← HS2.out]
    refine Int.not_le.1 fun hh => h1 ?_
    have := sgn_le.1 hh
    grind
  have L2 : Hid (-1 < q) := by show -1 < q; grind
  clear h1
  go_wp2_with fail
  go_region_held3 (fun u => u.cell? ⟨w.heap.size, 0, none⟩ = some (.bool n) ∧ u.cell? ⟨w.heap.size, 1, none⟩ = some (.slice a xs.length c) ∧ u.cell? ⟨w.heap.size, 2, none⟩ = some (.slice a' ys.length c')) (go_keep)
    (first
      | (go_at_call 33
         refine (swhole_any 16384 _ (by decide) (by decide)).mono ?_
         rintro e u5 ⟨v1, rfl, hF1, hb1⟩
         replace hb1 : Below u4.heap.size u4 u5 := Below.drew1.trans hb1
         replace hX := hX.below hb1
         replace B1 := B1.below hb1
         replace hbW : Below w.heap.size w u5 := hbW.trans (hb1.mono hbW.size)
         clear hb1 p1 p2 p3
         obtain ⟨p1, p2, p3, _⟩ := B1.cells)
      | (go_at_call 35
         refine (smul_any k 2 q ((16384 : Int) : Rat) _ _ _ hX hF1.ct ?_ (by decide) hk2 (by decide)).mono ?_
         · omega
         rintro e u6 ⟨v2, rfl, hF2, hb2⟩
         replace hX := hX.below hb2
         replace B1 := B1.below hb2
         replace hbW : Below w.heap.size w u6 := hbW.trans (hb2.mono hbW.size)
         clear hb2 hF1 p1 p2 p3
         obtain ⟨p1, p2, p3, _⟩ := B1.cells)
      | (go_at_call 34
         refine (sround_any (k + 2) (q * ((16384 : Int) : Rat)) _ _ hF2.ct ?_ ?_).mono ?_
         · omega
         · omega
         rintro e u7 ⟨rfl, hb3⟩
         replace hX := hX.below hb3
         replace B1 := B1.below hb3
         replace hbW : Below w.heap.size w u7 := hbW.trans (hb3.mono hbW.size)
         rw [show flN (q * ((16384 : Int) : Rat) + 1 / 2).floor = z from (to14_mid L2.out L1.out).trans HZ.out]
         generalize flB (q * ((16384 : Int) : Rat) + 1 / 2).floor = f7
         clear hb3 hF2 p1 p2 p3
         obtain ⟨p1, p2, p3, _⟩ := B1.cells))
  go_wp2
  go_ret
  exact ⟨rfl, hbW⟩

end Go.Proofs.YtdpafdeoepbhaaaGreat

namespace Go.Proofs.YtdpafdeoepbhaaaGreat
open Go.RowKit Go.Maps
set_option linter.unusedSimpArgs false
set_option linter.unusedVariables false

set_option maxHeartbeats 2000000 in
set_option maxRecDepth 100000 in
theorem cclampA_any (a : Option Addr) (cap : Nat) (l : List Ax) (pa : Option Addr) (pc : Nat) (ps : List Int) (w : World) (h : As w a cap l) (hp : Ri w pa pc ps) (hl : l.length ≤ 1000) (hlp : ps.length ≤ 1000) :
    Calls Tryz.prog 16 #[.slice a l.length cap, .slice pa ps.length pc] w fun e w' => ∃ a' cap', e = .returned (.slice a' (clK l ps l.length).length cap') ∧ Ri w' a' cap' (clK l ps l.length) ∧ Below w.heap.size w w' := by
  obtain ⟨i0, hi0, hz0, hz1, hz2⟩ := info_parts infoA_i64
  obtain ⟨w1, hmk, hown, hgrow⟩ := run_makeSlice_owned w w.heap.size 24 3 i0 _ 1 Tryz.underlying24 hi0 hz0 hz1 .i64 .i64 l.length (by omega) (by rw [hz2]; omega) (by unfold maxLen; omega) (Nat.le_refl _)
  have hI0 : Io w.heap.size w1 (.slice (some ⟨w.heap.size, 0, none⟩) 0 l.length) (clK l ps 0) := ⟨fun t ht => (by cases ht), hown⟩
  have hB1 : Below w.heap.size w w1 := (Below.refl _ _).grown hgrow (Nat.le_refl _) (fun k hk => by cases hk)
  clear hown hgrow hi0 hz0 hz1 hz2
  have HH : Hid (As w a cap l) := h
  have HP : Hid (Ri w pa pc ps) := hp
  clear h hp
  go_enter Tryz.func16, Tryz.ntmps16
  go_wp2
  go_loopw [5, 14] (fun v i wr => ∃ k : Nat, k ≤ l.length ∧ i = .int .i64 k ∧ Io w.heap.size wr v (clK l ps k) ∧ Below w.heap.size w wr) (fun _ i _ => l.length - (intOf i).toNat)
  case atStart => exact ⟨0, Nat.zero_le _, rfl, hI0, hB1⟩
  case round =>
    obtain ⟨k, hk, rfl, hT, hB⟩ := hrel
    obtain ⟨a2, c2, rfl, hts⟩ := hT.slice
    have hlen := clK_len l ps k
    rw [hlen] at hT ⊢
    have hll : (clK l ps k).length + 1 ≤ 1000000 := by omega
    have HT : Hid (Io w.heap.size wr (.slice a2 k c2) (clK l ps k)) := hT
    clear hT hlen hmk hI0 hB1
    by_cases hkn : k < l.length
    · clear hts
      obtain ⟨b, off, ea, hb, d0, d1, d2, d3⟩ := HH.out.at hB k hkn
      subst ea
      have hw := HH.out.w hkn
      have HVV : Hid (clV l ps k = if k < ps.length then clp (ps.getD k 0) (l.getD k Ax.none).lo (l.getD k Ax.none).hi else (l.getD k Ax.none).us) := rfl
      generalize l.getD k Ax.none = s at *
      obtain ⟨tx, lo, us, hi⟩ := s
      dsimp only at *
      have hwz := hB.size
      obtain ⟨W, hW, X1, hbR⟩ : ∃ W, W = wr.alloc (.cells #[.string tx, .int .i64 lo, .int .i64 us, .int .i64 hi] 47) ∧ BxA W wr.heap.size (.string tx) (.int .i64 lo) (.int .i64 us) (.int .i64 hi) ∧ Below wr.heap.size wr W := ⟨_, rfl, BxA.new wr _ _ _ _, bl1 _⟩
      by_cases hkp : k < ps.length
      · have gg : (k : Int) < (ps.length : Int) := by omega
        obtain ⟨pb, poff, ep, hpb, dz⟩ := HP.out.at hB k hkp
        subst ep
        have hz := HP.out.i64 hkp
        have HV : Hid (clp (ps.getD k 0) lo hi = clV l ps k) := by show _ = _; rw [HVV.out, if_pos hkp]
        have HI : Hid (I64 (clp (ps.getD k 0) lo hi)) := clp_i64 hz hw.2.1 hw.2.2.2
        generalize ps.getD k 0 = z at *
        obtain ⟨cz, hcz⟩ : ∃ x, clp z lo hi = x := ⟨_, rfl⟩
        rw [hcz] at HV HI
        have HC : Hid (clp z lo hi = cz) := hcz
        clear hcz hw
        obtain ⟨p0, p1, p2, p3, _⟩ := X1.cells
        go_wp2_with fail
        rw [← hW]
        clear hW
        have pz := (hbR.cell (p := ⟨pb, poff + k, none⟩) (Nat.lt_of_lt_of_le hpb hB.size)).trans dz
        go_region_held3 (fun u => u.cell? ⟨wr.heap.size, 1, none⟩ = some (.int .i64 lo) ∧ u.cell? ⟨wr.heap.size, 3, none⟩ = some (.int .i64 hi) ∧ u.cell? ⟨pb, poff + k, none⟩ = some (.int .i64 z)) (go_keep)
          (first
            | (go_at_call 36
               refine (clampB_any z lo hi _).mono ?_
               rintro e u2 ⟨rfl, hb2⟩
               rw [HC.out]
               replace hb2 : Below W.heap.size W u2 := Below.drew1.trans hb2
               have hT2 := (HT.out.below hbR).below hb2
               have hB2 : Below w.heap.size w u2 := (hB.trans (hbR.mono hB.size)).trans (hb2.mono (hB.trans (hbR.mono hB.size)).size)
               replace X1 := X1.below hb2
               clear p0 p1 p2 p3
               obtain ⟨p0, p1, p2, p3, _⟩ := X1.cells
               replace pz := (hb2.cell (p := ⟨pb, poff + k, none⟩) (Nat.lt_of_lt_of_le (Nat.lt_of_lt_of_le hpb hwz) hbR.size)).trans pz))
        have hT5 := hT2.below (bl1 (.cells #[.int .i64 cz] 3))
        have hN := heap_alloc_new u2 (.cells #[.int .i64 cz] 3)
        have n0 := cell_of_row _ u2.heap.size 0 _ _ (0, 0) hN
        have hbs : w.heap.size ≤ (u2.alloc (.cells #[.int .i64 cz] 3)).heap.size := by have := hB2.size; simp at this ⊢; omega
        clear hN
        go_wp2_with (at_builtin; refine wpList_append_int rfl _ _ rfl w.heap.size _ (clK l ps k) rfl hT5 u2.heap.size cz rfl n0 HI.out hll hbs ?_)
        intro v' w9 hT9 hgrow
        have hB9 : Below w.heap.size w w9 := (hB2.alloc hB2.size _).grown hgrow hbs (fun k hk => HT.out.lo hk)
        rw [HV.out] at hT9
        clear hgrow hT5 n0 hbs
        go_wp2
        go_roundw
        case rel => exact ⟨k + 1, by omega, by go_num, by rw [clK_succ]; exact hT9, hB9⟩
        case measure => simp [intOf]; omega
      · have gg : ¬ (k : Int) < (ps.length : Int) := by omega
        have HV : Hid (us = clV l ps k) := by show _ = _; rw [HVV.out, if_neg hkp]
        have HI : Hid (I64 us) := hw.2.2.1
        clear hw
        obtain ⟨p0, p1, p2, p3, _⟩ := X1.cells
        have hT2 := HT.out.below hbR
        have hB2 : Below w.heap.size w W := hB.trans (hbR.mono hB.size)
        subst hW
        have hT5 := hT2.below (bl1 (.cells #[.int .i64 us] 3))
        have hN := heap_alloc_new (wr.alloc (.cells #[.string tx, .int .i64 lo, .int .i64 us, .int .i64 hi] 47)) (.cells #[.int .i64 us] 3)
        rw [show (wr.alloc (.cells #[.string tx, .int .i64 lo, .int .i64 us, .int .i64 hi] 47)).heap.size = wr.heap.size + 1 by simp] at hN
        have n0 := cell_of_row _ (wr.heap.size + 1) 0 _ _ (0, 0) hN
        have hbs : w.heap.size ≤ ((wr.alloc (.cells #[.string tx, .int .i64 lo, .int .i64 us, .int .i64 hi] 47)).alloc (.cells #[.int .i64 us] 3)).heap.size := by have := hB2.size; simp at this ⊢; omega
        clear hN
        go_wp2_with (at_builtin; refine wpList_append_int rfl _ _ rfl w.heap.size _ (clK l ps k) rfl hT5 (wr.heap.size + 1) us rfl n0 HI.out hll hbs ?_)
        intro v' w9 hT9 hgrow
        have hB9 : Below w.heap.size w w9 := (hB2.alloc hB2.size _).grown hgrow hbs (fun k hk => HT.out.lo hk)
        rw [HV.out] at hT9
        clear hgrow hT5 n0 hbs
        go_wp2
        go_roundw
        case rel => exact ⟨k + 1, by omega, by go_num, by rw [clK_succ]; exact hT9, hB9⟩
        case measure => simp [intOf]; omega
    · obtain rfl : k = l.length := by omega
      go_wp2
      go_ret
      exact ⟨a2, c2, by rw [clK_len]; rfl, hts, hB⟩


set_option maxHeartbeats 2000000 in
set_option maxRecDepth 100000 in
theorem sclampA_any (a : Option Addr) (cap : Nat) (l : List Ax) (pa : Option Addr) (pc : Nat) (ps : List Int) (w : World) (h : As w a cap l) (hp : Ri w pa pc ps) (hl : l.length ≤ 1000) (hlp : ps.length ≤ 1000) :
    Calls Tryz.prog 20 #[.slice a l.length cap, .slice pa ps.length pc] w fun e w' => ∃ a' cap', e = .returned (.slice a' (clK l ps l.length).length cap') ∧ Ri w' a' cap' (clK l ps l.length) ∧ Below w.heap.size w w' := by
  have hI0 : Io w.heap.size w (.slice none 0 0) (clK l ps 0) := Io.nil _ _
  have hB1 : Below w.heap.size w w := Below.refl _ _
  have HH : Hid (As w a cap l) := h
  have HP : Hid (Ri w pa pc ps) := hp
  clear h hp
  go_enter Tryz.func20, Tryz.ntmps20
  go_wp2
  go_loopw [5, 6] (fun v i wr => ∃ k : Nat, k ≤ l.length ∧ i = .int .i64 k ∧ Io w.heap.size wr v (clK l ps k) ∧ Below w.heap.size w wr) (fun _ i _ => l.length - (intOf i).toNat)
  case atStart => exact ⟨0, Nat.zero_le _, rfl, hI0, hB1⟩
  case round =>
    obtain ⟨k, hk, rfl, hT, hB⟩ := hrel
    obtain ⟨a2, c2, rfl, hts⟩ := hT.slice
    have hlen := clK_len l ps k
    rw [hlen] at hT ⊢
    have hll : (clK l ps k).length + 1 ≤ 1000000 := by omega
    have HT : Hid (Io w.heap.size wr (.slice a2 k c2) (clK l ps k)) := hT
    clear hT hlen hI0 hB1
    by_cases hkn : k < l.length
    · clear hts
      obtain ⟨b, off, ea, hb, d0, d1, d2, d3⟩ := HH.out.at hB k hkn
      subst ea
      have hw := HH.out.w hkn
      have HVV : Hid (clV l ps k = if k < ps.length then clp (ps.getD k 0) (l.getD k Ax.none).lo (l.getD k Ax.none).hi else (l.getD k Ax.none).us) := rfl
      generalize l.getD k Ax.none = s at *
      obtain ⟨tx, lo, us, hi⟩ := s
      dsimp only at *
      have hwz := hB.size
      by_cases hkp : k < ps.length
      · have gg : (k : Int) < (ps.length : Int) := by omega
        obtain ⟨pb, poff, ep, hpb, dz⟩ := HP.out.at hB k hkp
        subst ep
        have hz := HP.out.i64 hkp
        have HV : Hid (clp (ps.getD k 0) lo hi = clV l ps k) := by show _ = _; rw [HVV.out, if_pos hkp]
        have HI : Hid (I64 (clp (ps.getD k 0) lo hi)) := clp_i64 hz hw.2.1 hw.2.2.2
        generalize ps.getD k 0 = z at *
        obtain ⟨cz, hcz⟩ : ∃ x, clp z lo hi = x := ⟨_, rfl⟩
        rw [hcz] at HV HI
        have HC : Hid (clp z lo hi = cz) := hcz
        clear hcz hw
        go_wp2_with fail
        have pz := dz
        go_region_held3 (fun u => u.cell? ⟨b, off + k * 4 + 1, none⟩ = some (.int .i64 lo) ∧ u.cell? ⟨b, off + k * 4 + 3, none⟩ = some (.int .i64 hi) ∧ u.cell? ⟨pb, poff + k, none⟩ = some (.int .i64 z)) (go_keep)
          (first
            | (go_at_call 45
               refine (sclampB_any z lo hi _).mono ?_
               rintro e u2 ⟨rfl, hb2⟩
               rw [HC.out]
               replace hb2 : Below wr.heap.size wr u2 := Below.drew1.trans hb2
               have hT2 := HT.out.below hb2
               have hB2 : Below w.heap.size w u2 := hB.trans (hb2.mono hB.size)
               replace d1 := (hb2.cell (p := ⟨b, off + k * 4 + 1, none⟩) (Nat.lt_of_lt_of_le hb hwz)).trans d1
               replace d3 := (hb2.cell (p := ⟨b, off + k * 4 + 3, none⟩) (Nat.lt_of_lt_of_le hb hwz)).trans d3
               replace pz := (hb2.cell (p := ⟨pb, poff + k, none⟩) (Nat.lt_of_lt_of_le hpb hwz)).trans pz))
        have hT5 := hT2.below (bl1 (.cells #[.int .i64 cz] 3))
        have hN := heap_alloc_new u2 (.cells #[.int .i64 cz] 3)
        have n0 := cell_of_row _ u2.heap.size 0 _ _ (0, 0) hN
        have hbs : w.heap.size ≤ (u2.alloc (.cells #[.int .i64 cz] 3)).heap.size := by have := hB2.size; simp at this ⊢; omega
        clear hN
        go_wp2_with (at_builtin; refine wpList_append_int rfl _ _ rfl w.heap.size _ (clK l ps k) rfl hT5 u2.heap.size cz rfl n0 HI.out hll hbs ?_)
        intro v' w9 hT9 hgrow
        have hB9 : Below w.heap.size w w9 := (hB2.alloc hB2.size _).grown hgrow hbs (fun k hk => HT.out.lo hk)
        rw [HV.out] at hT9
        clear hgrow hT5 n0 hbs
        go_wp2
        go_roundw
        case rel => exact ⟨k + 1, by omega, by go_num, by rw [clK_succ]; exact hT9, hB9⟩
        case measure => simp [intOf]; omega
      · have gg : ¬ (k : Int) < (ps.length : Int) := by omega
        have HV : Hid (us = clV l ps k) := by show _ = _; rw [HVV.out, if_neg hkp]
        have HI : Hid (I64 us) := hw.2.2.1
        clear hw
        skip
        have hT2 := HT.out
        have hB2 := hB
        skip
        have hT5 := hT2.below (bl1 (.cells #[.int .i64 us] 3))
        have hN := heap_alloc_new wr (.cells #[.int .i64 us] 3)
        have n0 := cell_of_row _ wr.heap.size 0 _ _ (0, 0) hN
        have hbs : w.heap.size ≤ (wr.alloc (.cells #[.int .i64 us] 3)).heap.size := by have := hB2.size; simp at this ⊢; omega
        clear hN
        go_wp2_with (at_builtin; refine wpList_append_int rfl _ _ rfl w.heap.size _ (clK l ps k) rfl hT5 wr.heap.size us rfl n0 HI.out hll hbs ?_)
        intro v' w9 hT9 hgrow
        have hB9 : Below w.heap.size w w9 := (hB2.alloc hB2.size _).grown hgrow hbs (fun k hk => HT.out.lo hk)
        rw [HV.out] at hT9
        clear hgrow hT5 n0 hbs
        go_wp2
        go_roundw
        case rel => exact ⟨k + 1, by omega, by go_num, by rw [clK_succ]; exact hT9, hB9⟩
        case measure => simp [intOf]; omega
    · obtain rfl : k = l.length := by omega
      go_wp2
      go_ret
      exact ⟨a2, c2, by rw [clK_len]; rfl, hts, hB⟩

end Go.Proofs.YtdpafdeoepbhaaaGreat
