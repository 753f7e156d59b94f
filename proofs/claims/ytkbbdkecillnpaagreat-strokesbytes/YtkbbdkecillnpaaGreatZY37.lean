/-
  foundryref02.Floor, Round, Text: the walks.
  foundryref03.Coordinate, Of14, Of16, Clamp, Field, To14, near, Between: the walks.
  foundryref10.Value, foundryref10.Rounded: the walks.
  (*foundryref18.pen).numbers: the walk (written by mk_dr1.py).
-/
import Derived.Test.YtkbbdkecillnpaaGreatZY36
import Derived.Deep.RegionHeld3
import Derived.Test.YtkbbdkecillnpaaGreatZY31
import Derived.Test.YtkbbdkecillnpaaGreatZY21
import Derived.Test.YtkbbdkecillnpaaGreatZY30
import Derived.Test.YtkbbdkecillnpaaGreatZY22
import Derived.Test.YtkbbdkecillnpaaGreatZY8
namespace Go.Proofs.YtkbbdkecillnpaaGreat
open Go.RowKit
set_option linter.unusedSimpArgs false
set_option linter.unusedVariables false

theorem back_two {m : Nat} (h : m ≤ 9223372036854775808) : wrap64 (-(wrap64 (m : Int))) = -(m : Int) := by
  by_cases h9 : m = 9223372036854775808
  · subst h9; decide +kernel
  · rw [back_pos (by omega)]
    unfold wrap64
    omega

set_option maxHeartbeats 4000000 in
set_option maxRecDepth 100000 in
theorem sfloor_any (k : Nat) (q : Rat) (v : Value) (w : World) (h : Ct w v k q) (hk : k ≤ 1000000) (hk2 : 2 ≤ k) :
    Calls Tryz.prog 90 #[v] w fun e w' => e = .returned (.tuple #[.int .i64 (flN q.floor), .bool (flB q.floor)]) ∧ Below w.heap.size w w' := by
  have hX := h
  obtain ⟨n, xs, ys, ⟨a, c, a', c', rfl, _, _⟩, hz1⟩ := h
  clear hz1
  go_enter Tryz.func90, Tryz.ntmps90
  go_wp2_with fail
  refine (sfair_any k q _ _ (hX.below (al1 _)) (by omega) hk2).mono ?_
  rintro e u1 ⟨v1, rfl, hF1, hb1⟩
  obtain ⟨B0, hbW⟩ := after1 hb1
  clear hb1 hX
  obtain ⟨p1, p2, p3, p4, p5, p6⟩ := B0.cells
  have hs1 := B0.lt
  obtain ⟨n1, x1, y1, ⟨a1, c1, b1, d1, rfl, hx1, hy1⟩, f1, l1, l1', e1⟩ := hF1
  have y0 := f1.den
  go_wp2_with fail
  obtain ⟨U, hU, B1, hbU, hK, ho⟩ := set3_world B0 (.bool n1) (.slice a1 x1.length c1) (.slice b1 y1.length d1)
  rw [← hU]
  replace hbW := hbU _ _ hbW (by omega)
  replace hx1 := hK _ _ _ hx1
  replace hy1 := hK _ _ _ hy1
  clear hU hbU hK ho B0 p1 p2 p3 p4 p5 p6 hs1
  refine (rdiv_any _ _ _ _ _ _ _ hx1 hy1 (by omega) (by omega)).mono ?_
  rintro e u2 ⟨a2, c2, zs, a3, c3, rs, rfl, hv1, hv2, ht1, ht2, hr1, hr2, hb2⟩
  have lz : zs.length ≤ k := len_le_of_V ht1 (Nat.lt_of_le_of_lt (by rw [hv1]; exact Nat.div_le_self _ _) (V_len_le hx1.lim l1))
  have lr : rs.length ≤ k := len_le_of_V ht2 (Nat.lt_of_le_of_lt (by rw [hv2, remN_pos _ (by omega)]; exact Nat.mod_le _ _) (V_len_le hx1.lim l1))
  have rz := hr1.rd
  rw [remN_pos _ (by omega)] at hv2
  replace B1 := B1.below hb2
  replace hbW : Below w.heap.size w u2 := hbW.trans (hb2.mono hbW.size)
  clear hr1 hr2 hb2 hx1 hy1
  obtain ⟨p1, p2, p3, _⟩ := B1.cells
  subst e1
  cases n1 with
  | false =>
      have HF : Hid ((qv false x1 y1).floor = ((V zs : Nat) : Int)) := by show _ = _; rw [floor_pos y0, hv1]
      clear hv1 hv2
      go_wp2_with fail
      refine (rsmall_any _ _ _ _ rz (by omega)).mono ?_
      rintro e u7 ⟨rfl, hb7⟩
      replace B1 := B1.below hb7
      replace hbW : Below w.heap.size w u7 := hbW.trans (hb7.mono hbW.size)
      clear hb7 p1 p2 p3
      obtain ⟨p1, p2, p3, _⟩ := B1.cells
      generalize V zs = m at HF ⊢
      clear rz
      by_cases hm : m < 9223372036854775808
      · rw [smallN_lt (by omega), isSmall_lt (by omega)]
        have HM : Hid (m < 9223372036854775808) := hm
        obtain ⟨z, hz⟩ : ∃ z : Int, (m : Int) = z := ⟨_, rfl⟩
        have g1 : ¬ 9223372036854775808 < z := by omega
        have g2 : (z == 9223372036854775808) = false := beq_eq_false_iff_ne.2 (by omega)
        rw [hz]
        have HZ : Hid ((m : Int) = z) := hz
        clear hz hm
        go_wp2
        go_ret2
        exact ⟨ret_two (by rw [HF.out, flN_pos, if_pos HM.out, ← HZ.out]; exact back_pos HM.out) (by rw [HF.out, flB_pos]; simp [HM.out]), hbW⟩
      · by_cases hm2 : m < 18446744073709551616
        · rw [smallN_lt hm2, isSmall_lt hm2]
          by_cases hm3 : m = 9223372036854775808
          · subst hm3
            go_wp2
            go_ret2
            exact ⟨ret_two (by rw [HF.out, flN_pos, if_neg (by decide)]) (by rw [HF.out, flB_pos]; simp), hbW⟩
          · have g1 : (9223372036854775808 : Int) < (m : Int) := by omega
            have HM : Hid (¬ m < 9223372036854775808) := hm
            clear hm hm2 hm3
            go_wp2
            go_ret2
            exact ⟨ret_two (by rw [HF.out, flN_pos, if_neg HM.out]) (by rw [HF.out, flB_pos]; simp [HM.out]), hbW⟩
        · rw [smallN_ge hm2, isSmall_ge hm2]
          go_wp2
          go_ret2
          exact ⟨ret_two (by rw [HF.out, flN_pos, if_neg hm]) (by rw [HF.out, flB_pos]; simp [hm]), hbW⟩
  | true =>
    by_cases hrs : rs.length = 0
    · have hr0 : V rs = 0 := by rw [List.length_eq_zero_iff.1 hrs]; rfl
      have HF : Hid ((qv true x1 y1).floor = -((V zs : Nat) : Int)) := by show _ = _; rw [floor_neg y0, hv1, ← hv2, hr0]; simp
      have g0 : ¬ (0 : Int) < (rs.length : Int) := by omega
      clear hv1 hv2 hr0 hrs
      go_wp2_with fail
      refine (rsmall_any _ _ _ _ rz (by omega)).mono ?_
      rintro e u7 ⟨rfl, hb7⟩
      replace B1 := B1.below hb7
      replace hbW : Below w.heap.size w u7 := hbW.trans (hb7.mono hbW.size)
      clear hb7 p1 p2 p3
      obtain ⟨p1, p2, p3, _⟩ := B1.cells
      generalize V zs = m at HF ⊢
      clear rz
      by_cases hm : m ≤ 9223372036854775808
      · rw [smallN_lt (by omega), isSmall_lt (by omega)]
        have HM : Hid (m ≤ 9223372036854775808) := hm
        obtain ⟨z, hz⟩ : ∃ z : Int, (m : Int) = z := ⟨_, rfl⟩
        have g1 : ¬ 9223372036854775808 < z := by omega
        have HB : Hid (wrap64 (-(wrap64 z)) = -z) := by show _ = _; rw [← hz]; exact back_two hm
        rw [hz]
        have HZ : Hid ((m : Int) = z) := hz
        clear hz hm
        by_cases hz9 : z = 9223372036854775808
        · have g2 : (z == 9223372036854775808) = true := beq_iff_eq.2 hz9
          clear hz9
          go_wp2
          go_ret2
          exact ⟨ret_two (by rw [HF.out, flN_neg, if_pos HM.out, HZ.out]; exact HB.out) (by rw [HF.out, flB_neg]; simp [HM.out]), hbW⟩
        · have g2 : (z == 9223372036854775808) = false := beq_eq_false_iff_ne.2 hz9
          clear hz9
          go_wp2
          go_ret2
          exact ⟨ret_two (by rw [HF.out, flN_neg, if_pos HM.out, HZ.out]; exact HB.out) (by rw [HF.out, flB_neg]; simp [HM.out]), hbW⟩
      · by_cases hm2 : m < 18446744073709551616
        · rw [smallN_lt hm2, isSmall_lt hm2]
          have g1 : (9223372036854775808 : Int) < (m : Int) := by omega
          have HM : Hid (¬ m ≤ 9223372036854775808) := hm
          clear hm hm2
          go_wp2
          go_ret2
          exact ⟨ret_two (by rw [HF.out, flN_neg, if_neg HM.out]) (by rw [HF.out, flB_neg]; simp [HM.out]), hbW⟩
        · rw [smallN_ge hm2, isSmall_ge hm2]
          go_wp2
          go_ret2
          exact ⟨ret_two (by rw [HF.out, flN_neg, if_neg hm]) (by rw [HF.out, flB_neg]; simp [hm]), hbW⟩
    · have hr0 : 0 < V rs := by
        have := V_ne_of ht2 fun h => hrs (by rw [h]; rfl)
        omega
      have g0 : (0 : Int) < (rs.length : Int) := by omega
      go_wp2_with fail
      refine (sone_any _).mono ?_
      rintro e u3 ⟨a4, c4, os, rfl, ho1, hto, ro, hb3⟩
      replace rz := rz.below hb3
      replace B1 := B1.below hb3
      replace hbW : Below w.heap.size w u3 := hbW.trans (hb3.mono hbW.size)
      have lo := len_two hto (by omega)
      clear hb3 p1 p2 p3
      go_wp2_with fail
      refine (radd_any _ _ _ _ _ _ _ rz ro (by omega) (by omega)).mono ?_
      rintro e u4 ⟨a5, c5, ws, rfl, hv4, ht4, hr4, hb4⟩
      have rw4 := hr4.rd
      replace B1 := B1.below hb4
      replace hbW : Below w.heap.size w u4 := hbW.trans (hb4.mono hbW.size)
      have lw : ws.length ≤ k + 1 := sum_len rz.lim ro.lim ht4 lz (by omega) (by omega)
      have HF : Hid ((qv true x1 y1).floor = -((V ws : Nat) : Int)) := by show _ = _; rw [floor_neg y0, hv4, hv1, ho1, ← hv2, if_pos hr0]
      clear hv1 hv2 hr0 hr4 hb4 rz ro hv4 ho1 hrs
      obtain ⟨p1, p2, p3, _⟩ := B1.cells
      go_wp2_with fail
      refine (rsmall_any _ _ _ _ rw4 (by omega)).mono ?_
      rintro e u7 ⟨rfl, hb7⟩
      replace B1 := B1.below hb7
      replace hbW : Below w.heap.size w u7 := hbW.trans (hb7.mono hbW.size)
      clear hb7 p1 p2 p3
      obtain ⟨p1, p2, p3, _⟩ := B1.cells
      generalize V ws = m at HF ⊢
      clear rw4
      by_cases hm : m ≤ 9223372036854775808
      · rw [smallN_lt (by omega), isSmall_lt (by omega)]
        have HM : Hid (m ≤ 9223372036854775808) := hm
        obtain ⟨z, hz⟩ : ∃ z : Int, (m : Int) = z := ⟨_, rfl⟩
        have g1 : ¬ 9223372036854775808 < z := by omega
        have HB : Hid (wrap64 (-(wrap64 z)) = -z) := by show _ = _; rw [← hz]; exact back_two hm
        rw [hz]
        have HZ : Hid ((m : Int) = z) := hz
        clear hz hm
        by_cases hz9 : z = 9223372036854775808
        · have g2 : (z == 9223372036854775808) = true := beq_iff_eq.2 hz9
          clear hz9
          go_wp2
          go_ret2
          exact ⟨ret_two (by rw [HF.out, flN_neg, if_pos HM.out, HZ.out]; exact HB.out) (by rw [HF.out, flB_neg]; simp [HM.out]), hbW⟩
        · have g2 : (z == 9223372036854775808) = false := beq_eq_false_iff_ne.2 hz9
          clear hz9
          go_wp2
          go_ret2
          exact ⟨ret_two (by rw [HF.out, flN_neg, if_pos HM.out, HZ.out]; exact HB.out) (by rw [HF.out, flB_neg]; simp [HM.out]), hbW⟩
      · by_cases hm2 : m < 18446744073709551616
        · rw [smallN_lt hm2, isSmall_lt hm2]
          have g1 : (9223372036854775808 : Int) < (m : Int) := by omega
          have HM : Hid (¬ m ≤ 9223372036854775808) := hm
          clear hm hm2
          go_wp2
          go_ret2
          exact ⟨ret_two (by rw [HF.out, flN_neg, if_neg HM.out]) (by rw [HF.out, flB_neg]; simp [HM.out]), hbW⟩
        · rw [smallN_ge hm2, isSmall_ge hm2]
          go_wp2
          go_ret2
          exact ⟨ret_two (by rw [HF.out, flN_neg, if_neg hm]) (by rw [HF.out, flB_neg]; simp [hm]), hbW⟩

set_option maxHeartbeats 2000000 in
set_option maxRecDepth 100000 in
theorem sround_any (k : Nat) (q : Rat) (v : Value) (w : World) (h : Ct w v k q) (hk : k ≤ 100000) (hk2 : 2 ≤ k) :
    Calls Tryz.prog 75 #[v] w fun e w' => e = .returned (.tuple #[.int .i64 (flN (q + 1 / 2).floor), .bool (flB (q + 1 / 2).floor)]) ∧ Below w.heap.size w w' := by
  have hX := h
  obtain ⟨n, xs, ys, ⟨a, c, a', c', rfl, _, _⟩, hz1⟩ := h
  clear hz1
  go_enter Tryz.func75, Tryz.ntmps75
  go_wp2_with fail
  obtain ⟨W, hW, B1, hbW⟩ : ∃ W, W = w.alloc (.cells #[.bool n, .slice a xs.length c, .slice a' ys.length c'] 124) ∧ Box 124 W w.heap.size (.bool n) (.slice a xs.length c) (.slice a' ys.length c') ∧ Below w.heap.size w W := ⟨_, rfl, Box.new _ _ _ _ _, al1 _⟩
  rw [← hW]
  clear hW
  replace hX := hX.below hbW
  obtain ⟨p1, p2, p3, _⟩ := B1.cells
  go_region_held3 (fun u => u.cell? ⟨w.heap.size, 0, none⟩ = some (.bool n) ∧ u.cell? ⟨w.heap.size, 1, none⟩ = some (.slice a xs.length c) ∧ u.cell? ⟨w.heap.size, 2, none⟩ = some (.slice a' ys.length c')) (go_keep)
    (first
      | (go_at_call 91
         refine (smake_any 1 2 _ (by decide) (by decide) (by decide) (by decide)).mono ?_
         rintro e u1 ⟨v1, rfl, hF1, hb1⟩
         replace hb1 : Below W.heap.size W u1 := Below.drew1.trans hb1
         have hH : Ct u1 v1 2 (1 / 2) := hF1.ct
         replace hX := hX.below hb1
         replace B1 := B1.below hb1
         replace hbW : Below w.heap.size w u1 := hbW.trans (hb1.mono hbW.size)
         clear hb1 hF1 p1 p2 p3
         obtain ⟨p1, p2, p3, _⟩ := B1.cells)
      | (go_at_call 76
         refine (sadd_any k 2 q (1 / 2) _ _ _ hX hH ?_ (by decide) hk2 (by decide)).mono ?_
         · omega
         rintro e u2 ⟨v2, rfl, hF2, hb2⟩
         replace B1 := B1.below hb2
         replace hbW : Below w.heap.size w u2 := hbW.trans (hb2.mono hbW.size)
         clear hb2 hX hH p1 p2 p3
         obtain ⟨p1, p2, p3, _⟩ := B1.cells)
      | (go_at_call 90
         refine (sfloor_any (k + 2 + 1) _ _ _ hF2.ct ?_ ?_).mono ?_
         · omega
         · omega
         rintro e u3 ⟨rfl, hb3⟩
         replace B1 := B1.below hb3
         replace hbW : Below w.heap.size w u3 := hbW.trans (hb3.mono hbW.size)
         clear hb3 hF2 p1 p2 p3
         obtain ⟨p1, p2, p3, _⟩ := B1.cells))
  go_wp2
  go_ret2
  exact ⟨rfl, hbW⟩

end Go.Proofs.YtkbbdkecillnpaaGreat

namespace Go.Proofs.YtkbbdkecillnpaaGreat
open Go.RowKit Classical
set_option linter.unusedSimpArgs false
set_option linter.unusedVariables false
set_option maxHeartbeats 1000000 in
set_option maxRecDepth 100000 in
theorem sfield_any (k : Nat) (q : Rat) (v : Value) (w : World) (h : Ct w v k q) (hk : k ≤ 100000) (hk2 : 2 ≤ k) :
    Calls Tryz.prog 65 #[v] w fun e w' => e = .returned (.tuple #[.int .i64 (fldN (q + 1 / 2).floor), .int .i64 (fldE (q + 1 / 2).floor)]) ∧ Below w.heap.size w w' := by
  have hX := h
  obtain ⟨n, xs, ys, ⟨a, c, a', c', rfl, _, _⟩, hz1⟩ := h
  clear hz1
  obtain ⟨z, hz⟩ : ∃ z, (q + 1 / 2).floor = z := ⟨_, rfl⟩
  rw [hz]
  have HZ : Hid ((q + 1 / 2).floor = z) := hz
  clear hz
  have e34 : (-32768 ≤ z ∧ z ≤ 32767 ∧ fldN z = z ∧ fldE z = 0 ∧ flB z = true ∧ flN z = z) ∨ (¬ (-32768 ≤ z ∧ z ≤ 32767) ∧ fldN z = 0 ∧ fldE z = 4) := by
    by_cases h1 : -32768 ≤ z ∧ z ≤ 32767
    · have e1 : flB z = true := by unfold flB; exact decide_eq_true (by omega)
      exact .inl ⟨h1.1, h1.2, by unfold fldN; rw [if_pos h1], by unfold fldE; rw [if_pos h1], e1, by unfold flN; rw [if_pos e1]⟩
    · exact .inr ⟨h1, by unfold fldN; rw [if_neg h1], by unfold fldE; rw [if_neg h1]⟩
  rcases e34 with ⟨h1, h2, e3, e4, e1, e2⟩ | ⟨h1, e3, e4⟩
  · rw [e3, e4]
    have E1 : Hid (flB z = true ∧ flN z = z) := ⟨e1, e2⟩
    clear e1 e2 e3 e4
    go_enter Tryz.func65, Tryz.ntmps65
    go_wp2_with fail
    refine (sround_any k q _ _ (hX.below (al1 _)) hk hk2).mono ?_
    rintro e u1 ⟨rfl, hb1⟩
    obtain ⟨B1, hbW⟩ := after1 hb1
    clear hb1 hX
    rw [HZ.out, E1.out.1, E1.out.2]
    go_wp2
    go_ret2
    exact ⟨rfl, hbW⟩
  rw [e3, e4]
  clear e3 e4
  by_cases h2 : flB z = true
  · have e2 : flN z = z := by unfold flN; rw [if_pos h2]
    have E1 : Hid (flB z = true ∧ flN z = z) := ⟨h2, e2⟩
    clear h2 e2
    rcases (show z < -32768 ∨ (-32768 ≤ z ∧ 32767 < z) by omega) with h3 | ⟨h3, h4⟩
    all_goals
      clear h1
      go_enter Tryz.func65, Tryz.ntmps65
      go_wp2_with fail
      refine (sround_any k q _ _ (hX.below (al1 _)) hk hk2).mono ?_
      rintro e u1 ⟨rfl, hb1⟩
      obtain ⟨B1, hbW⟩ := after1 hb1
      clear hb1 hX
      rw [HZ.out, E1.out.1, E1.out.2]
      go_wp2
      go_ret2
      exact ⟨rfl, hbW⟩
  · have e1 : flB z = false := by simpa using h2
    have E1 : Hid (flB z = false) := e1
    clear h2 e1 h1
    go_enter Tryz.func65, Tryz.ntmps65
    go_wp2_with fail
    refine (sround_any k q _ _ (hX.below (al1 _)) hk hk2).mono ?_
    rintro e u1 ⟨rfl, hb1⟩
    obtain ⟨B1, hbW⟩ := after1 hb1
    clear hb1 hX
    rw [HZ.out, E1.out]
    generalize flN z = y
    go_wp2
    go_ret2
    exact ⟨rfl, hbW⟩

theorem sgn_ge {q : Rat} : 0 ≤ sgnQ q ↔ 0 ≤ q := by
  unfold sgnQ
  split
  · simp; grind
  · split
    · simp; grind
    · simp; grind
theorem sgn_le {q : Rat} : sgnQ q ≤ 0 ↔ q ≤ 0 := by
  unfold sgnQ
  split
  · simp; grind
  · split
    · simp; grind
    · simp; grind

theorem to14_one {q : Rat} (h : 1 ≤ q) : to14 q = 16384 := by
  have f2 := Rat.lt_floor (x := q * 16384 + 1 / 2)
  unfold to14
  generalize (q * 16384 + 1 / 2).floor = z at f2
  have : ((16383 : Int) : Rat) < ((z : Int) : Rat) := by grind
  have := Rat.intCast_lt_intCast.1 this
  unfold c14
  rw [if_neg (by omega)]
  split <;> omega
theorem to14_mone {q : Rat} (h : q ≤ -1) : to14 q = -16384 := by
  have f1 := Rat.floor_le (q * 16384 + 1 / 2)
  unfold to14
  generalize (q * 16384 + 1 / 2).floor = z at f1
  have : ((z : Int) : Rat) < ((-16383 : Int) : Rat) := by grind
  have := Rat.intCast_lt_intCast.1 this
  unfold c14
  split
  · rfl
  · rw [if_neg (by omega)]; omega
theorem to14_mid {q : Rat} (h1 : -1 < q) (h2 : q < 1) : flN (q * 16384 + 1 / 2).floor = to14 q := by
  have f1 := Rat.floor_le (q * 16384 + 1 / 2)
  have f2 := Rat.lt_floor (x := q * 16384 + 1 / 2)
  unfold to14
  generalize (q * 16384 + 1 / 2).floor = z at f1 f2
  have g1 : ((-16385 : Int) : Rat) < ((z : Int) : Rat) := by grind
  have g2 : ((z : Int) : Rat) < ((16385 : Int) : Rat) := by grind
  have := Rat.intCast_lt_intCast.1 g1
  have := Rat.intCast_lt_intCast.1 g2
  unfold c14 flN flB
  rw [if_pos (by simp; omega), if_neg (by omega), if_neg (by omega)]

end Go.Proofs.YtkbbdkecillnpaaGreat

namespace Go.Proofs.YtkbbdkecillnpaaGreat
open Go.RowKit Go.Maps
set_option linter.unusedSimpArgs false
set_option linter.unusedVariables false

set_option maxHeartbeats 4000000 in
set_option maxRecDepth 100000 in
theorem svalueS_any (a : Option Addr) (ca : Nat) (b : Option Addr) (cb : Nat) (s : Sr) (x r : Int) (pa : Option Addr) (pc : Nat) (cs : List Int) (w : World) (hg : Tzz w a ca s.rg) (hm : Rii w b cb s.rw) (hp : Ri w pa pc cs) (hx : I64 x) (hr : I64 r) (hl : s.rg.length ≤ 40) (h8 : ∀ l ∈ s.rg, l.length ≤ 8) :
    Calls Tryz.prog 66 #[.agg #[.slice a s.rg.length ca, .slice b s.rw.length cb], .agg #[.int .i64 x, .int .i64 r], .slice pa cs.length pc] w fun e w' => ∃ v', e = .returned v' ∧ Fr w' v' 1003 (vaQ s x r cs) ∧ Below w.heap.size w w' := by
  have k3 := hp.lenB
  have HV : Hid (((x : Int) : Rat) + chQ s r cs = vaQ s x r cs) := rfl
  have hch := fun U h1 h2 h3 => schangeS_any a ca b cb s r pa pc cs U h1 h2 h3 hl h8
  obtain ⟨W, hW, X1, X2, B0, hbW⟩ : ∃ W, W = ((w.alloc (.cells #[.slice a s.rg.length ca, .slice b s.rw.length cb] 26)).alloc (.cells #[.int .i64 x, .int .i64 r] 79)).alloc (.cells #[.bool false, .slice none 0 0, .slice none 0 0] 124) ∧ BxS W w.heap.size (.slice a s.rg.length ca) (.slice b s.rw.length cb) ∧ BxL W (w.heap.size + 1) (.int .i64 x) (.int .i64 r) ∧ Box 124 W (w.heap.size + 2) (.bool false) (.slice none 0 0) (.slice none 0 0) ∧ Below w.heap.size w W := ⟨_, rfl, ((BxS.new _ _ _).below (bl1 _)).below (bl1 _), (BxL.new1 _ _ _ _).below (bl1 _), Box.new2S _ _ _ _ _ _ _, (bl2 _ _).trans ((bl1 _).mono (by simp; omega))⟩
  replace hg := hg.below hbW
  replace hm := hm.below hbW
  replace hp := hp.below hbW
  generalize chQ s r cs = qc at *
  clear h8
  go_enter Tryz.func66, Tryz.ntmps66
  go_upto_region 1 with fail
  rw [← hW]
  clear hW
  obtain ⟨p00, p01, _⟩ := X1.cells
  obtain ⟨p10, p11, _⟩ := X2.cells
  refine wp_region_held_drew (S := (fun u => u.cell? ⟨w.heap.size, 0, none⟩ = some (.slice a s.rg.length ca) ∧ u.cell? ⟨w.heap.size, 1, none⟩ = some (.slice b s.rw.length cb) ∧ u.cell? ⟨w.heap.size + 1, 0, none⟩ = some (.int .i64 x) ∧ u.cell? ⟨w.heap.size + 1, 1, none⟩ = some (.int .i64 r))) (by kernel_rfl) ?_ (fun hHeld => ?_)
  · (try dsimp only)
    go_keep
  have hdr : Below W.heap.size W W.drew := Below.drew1
  generalize W.drew = ud1 at hdr hHeld ⊢
  replace hg := hg.below hdr
  replace hm := hm.below hdr
  replace hp := hp.below hdr
  replace B0 := B0.below hdr
  replace X1 := X1.below hdr
  replace X2 := X2.below hdr
  replace hbW : Below w.heap.size w ud1 := hbW.trans (hdr.mono hbW.size)
  clear hdr
  clear p00 p01 p10 p11
  obtain ⟨p00, p01, _⟩ := X1.cells
  obtain ⟨p10, p11, _⟩ := X2.cells
  refine hT 0 hHeld ?_
  refine hT 1 hHeld ?_
  refine hT 3 hHeld ?_
  refine hT 4 hHeld ?_
  refine hT 5 hHeld ?_
  refine hT 6 hHeld ?_
  refine hCall (i := 2) rfl (by kernel_rfl) (by rfl) (fun K hK => ?_)
  go_simp
  refine (swhole_any x _ hx.1 (by have := hx.2; omega)).mono ?_
  rintro e u1 ⟨v5, rfl, hF5, hb1⟩
  replace hg := hg.below hb1
  replace hm := hm.below hb1
  replace hp := hp.below hb1
  replace B0 := B0.below hb1
  replace X1 := X1.below hb1
  replace X2 := X2.below hb1
  replace hbW : Below w.heap.size w u1 := hbW.trans (hb1.mono hbW.size)
  clear hb1
  clear p00 p01 p10 p11
  obtain ⟨p00, p01, _⟩ := X1.cells
  obtain ⟨p10, p11, _⟩ := X2.cells
  go_wp2_with fail
  refine hK.out _ _ ?_ (fun hHeld => ?_)
  · (try dsimp only)
    exact ⟨p00, p01, p10, p11⟩
  clear hK K
  try simp only [Act.put, List.setIfInBounds_toArray, List.set_cons_zero, List.set_cons_succ]
  refine hCall (i := 7) rfl (by kernel_rfl) (by rfl) (fun K hK => ?_)
  go_simp
  refine (hch _ hg hm hp).mono ?_
  rintro e u2 ⟨v6, rfl, hF6, hb2⟩
  replace hg := hg.below hb2
  replace hm := hm.below hb2
  replace hp := hp.below hb2
  replace B0 := B0.below hb2
  replace hF5 := hF5.below hb2
  replace X1 := X1.below hb2
  replace X2 := X2.below hb2
  replace hbW : Below w.heap.size w u2 := hbW.trans (hb2.mono hbW.size)
  clear hb2
  clear p00 p01 p10 p11
  obtain ⟨p00, p01, _⟩ := X1.cells
  obtain ⟨p10, p11, _⟩ := X2.cells
  go_wp2_with fail
  refine hK.out _ _ ?_ (fun hHeld => ?_)
  · (try dsimp only)
    exact ⟨p00, p01, p10, p11⟩
  clear hK K
  try simp only [Act.put, List.setIfInBounds_toArray, List.set_cons_zero, List.set_cons_succ]
  refine hCall (i := 8) rfl (by kernel_rfl) (by rfl) (fun K hK => ?_)
  go_simp
  refine (sadd_any 2 1000 _ _ _ _ _ hF5.ct hF6.ct (by decide) (by decide) (by decide) (by decide)).mono ?_
  rintro e u3 ⟨v9, rfl, hF9, hb3⟩
  replace hg := hg.below hb3
  replace hm := hm.below hb3
  replace hp := hp.below hb3
  replace B0 := B0.below hb3
  replace hF5 := hF5.below hb3
  replace hF6 := hF6.below hb3
  replace X1 := X1.below hb3
  replace X2 := X2.below hb3
  replace hbW : Below w.heap.size w u3 := hbW.trans (hb3.mono hbW.size)
  clear hb3
  rw [HV.out] at hF9
  obtain ⟨n9, x9, y9, ⟨a9, c9, b9, d9, rfl, hx9, hy9⟩, hF9⟩ := hF9
  clear p00 p01 p10 p11
  obtain ⟨p00, p01, _⟩ := X1.cells
  obtain ⟨p10, p11, _⟩ := X2.cells
  go_wp2_with fail
  refine hK.out _ _ ?_ (fun hHeld => ?_)
  · (try dsimp only)
    exact ⟨p00, p01, p10, p11⟩
  clear hK K
  try simp only [Act.put, List.setIfInBounds_toArray, List.set_cons_zero, List.set_cons_succ]
  refine hCall (i := 9) rfl (by kernel_rfl) (by rfl) (fun K hK => ?_)
  go_simp
  have hs := B0.lt
  obtain ⟨f1, f2, f3, f4, f5, f6⟩ := B0.cells
  try go_simp
  obtain ⟨u64, hU, C9, hbU, hK9, ho⟩ := set3_world B0 (.bool n9) (.slice a9 x9.length c9) (.slice b9 y9.length d9)
  rw [← hU]
  clear hU f1 f2 f3 f4 f5 f6
  replace hbW := hbU _ _ hbW (by omega)
  replace hx9 := hK9 _ _ _ hx9
  replace hy9 := hK9 _ _ _ hy9
  replace X1 : BxS u64 w.heap.size (.slice a s.rg.length ca) (.slice b s.rw.length cb) := (ho _ (by omega)).trans X1
  replace X2 : BxL u64 (w.heap.size + 1) (.int .i64 x) (.int .i64 r) := (ho _ (by omega)).trans X2
  clear hbU hK9 ho
  clear p00 p01 p10 p11
  obtain ⟨p00, p01, _⟩ := X1.cells
  obtain ⟨p10, p11, _⟩ := X2.cells
  refine hK.out _ _ ?_ (fun hHeld => ?_)
  · (try dsimp only)
    exact ⟨p00, p01, p10, p11⟩
  clear hK K
  try simp only [Act.put, List.setIfInBounds_toArray, List.set_cons_zero, List.set_cons_succ]
  refine wpAnyH_done (by kernel_rfl) ?_ _
  clear hHeld
  go_wp2
  refine bodyPost_ret (by obtain ⟨r1, r2, r3, _⟩ := C9.cells; simp [results, Tryz.results66, go_sem, r1, r2, r3]) rfl ⟨_, rfl, ⟨_, _, _, ⟨_, _, _, _, rfl, hx9, hy9⟩, hF9⟩, hbW⟩

set_option maxHeartbeats 2000000 in
set_option maxRecDepth 100000 in
theorem sroundedS_any (a : Option Addr) (ca : Nat) (b : Option Addr) (cb : Nat) (s : Sr) (x r : Int) (pa : Option Addr) (pc : Nat) (cs : List Int) (w : World) (hg : Tzz w a ca s.rg) (hm : Rii w b cb s.rw) (hp : Ri w pa pc cs) (hx : I64 x) (hr : I64 r) (hl : s.rg.length ≤ 40) (h8 : ∀ l ∈ s.rg, l.length ≤ 8) :
    Calls Tryz.prog 49 #[.agg #[.slice a s.rg.length ca, .slice b s.rw.length cb], .agg #[.int .i64 x, .int .i64 r], .slice pa cs.length pc] w fun e w' => e = .returned (.tuple #[.int .i64 (roN s x r cs), .int .i64 (roE s x r cs)]) ∧ Below w.heap.size w w' := by
  have k2 := hm.lenB
  have k3 := hp.lenB
  have hfi := fun U => sfitsS_any a ca b cb s x r U k2 hx hr
  have hva := fun U h1 h2 h3 => svalueS_any a ca b cb s x r pa pc cs U h1 h2 h3 hx hr hl h8
  obtain ⟨W, hW, X1, X2, hbW⟩ : ∃ W, W = (w.alloc (.cells #[.slice a s.rg.length ca, .slice b s.rw.length cb] 26)).alloc (.cells #[.int .i64 x, .int .i64 r] 79) ∧ BxS W w.heap.size (.slice a s.rg.length ca) (.slice b s.rw.length cb) ∧ BxL W (w.heap.size + 1) (.int .i64 x) (.int .i64 r) ∧ Below w.heap.size w W := ⟨_, rfl, (BxS.new _ _ _).below (bl1 _), BxL.new1 _ _ _ _, bl2 _ _⟩
  replace hg := hg.below hbW
  replace hm := hm.below hbW
  replace hp := hp.below hbW
  clear h8 hx hr
  cases hf : fiS s x r with
  | false =>
    have HE : Hid (roN s x r cs = 0 ∧ roE s x r cs = 1) := by
      show _ ∧ _
      constructor
      · rw [roN, hf]; rfl
      · rw [roE, hf]; rfl
    simp only [hf] at hfi
    clear hf hg hm hp hva
    go_enter Tryz.func49, Tryz.ntmps49
    go_wp2_with fail
    rw [← hW]
    clear hW
    refine (hfi _).mono ?_
    rintro e u1 ⟨rfl, hb1⟩
    replace hbW := hbW.trans (hb1.mono hbW.size)
    clear hb1 hfi
    go_wp2
    go_ret2
    exact ⟨by rw [HE.out.1, HE.out.2]; rfl, hbW⟩
  | true =>
    have HE : Hid (roN s x r cs = fldN (vaQ s x r cs + 1 / 2).floor ∧ roE s x r cs = fldE (vaQ s x r cs + 1 / 2).floor) := by
      show _ ∧ _
      constructor
      · rw [roN, hf]; rfl
      · rw [roE, hf]; rfl
    simp only [hf] at hfi
    clear hf
    go_enter Tryz.func49, Tryz.ntmps49
    go_wp2_with fail
    rw [← hW]
    clear hW
    refine (hfi _).mono ?_
    rintro e u1 ⟨rfl, hb1⟩
    replace hg := hg.below hb1
    replace hm := hm.below hb1
    replace hp := hp.below hb1
    replace X1 := X1.below hb1
    replace X2 := X2.below hb1
    replace hbW := hbW.trans (hb1.mono hbW.size)
    clear hb1 hfi
    obtain ⟨p0, p1, _⟩ := X1.cells
    obtain ⟨p2, p3, _⟩ := X2.cells
    go_wp2_with fail
    refine (hva _ hg hm hp).mono ?_
    rintro e u2 ⟨v2, rfl, hF2, hb2⟩
    replace hbW := hbW.trans (hb2.mono hbW.size)
    clear hb2 hva hg hm hp X1 X2 p0 p1 p2 p3
    generalize vaQ s x r cs = q at *
    go_wp2_with fail
    refine (sfield_any 1003 q _ _ hF2.ct (by decide) (by decide)).mono ?_
    rintro e u3 ⟨rfl, hb3⟩
    replace hbW := hbW.trans (hb3.mono hbW.size)
    rw [← HE.out.1, ← HE.out.2]
    clear hb3 hF2
    go_wp2
    go_ret2
    exact ⟨rfl, hbW⟩

end Go.Proofs.YtkbbdkecillnpaaGreat

namespace Go.Proofs.YtkbbdkecillnpaaGreat
open Go.RowKit Go.Maps
set_option linter.unusedSimpArgs false
set_option linter.unusedVariables false

/-- The cells of the reference's pen. -/
def rC (d0 d1 d2 d3 : Value) (x y st : Int) (v : Value) (er : Int) : List Value := [d0, d1, d2, d3, .int .i64 x, .int .i64 y, .int .i64 st, v, .int .i64 er]
theorem Io.growQ {base : Nat} {w : World} {v : Value} {zs : List Int} (h : Io base w v zs) {g : Nat} (hg : v.ownBlock = some g) : base ≤ g ∧ g < w.heap.size := World.ownsRow.lt h.2 g hg
theorem Io.kpQ {base B : Nat} {w w' : World} {v : Value} {zs : List Int} (h : Io base w v zs) (hB : B < base) (hk : Kp B w w') : Io base w' v zs := by
  obtain ⟨h1, h3⟩ := h
  refine ⟨h1, h3.1, ?_⟩
  rcases h3.2 with h0 | ⟨g, cap', cur, k1, k2, k3, k4⟩
  · exact .inl h0
  · exact .inr ⟨g, cap', cur, k1, k2, (hk.block (Array.getElem?_eq_some_iff.1 k3).1 (by omega)).trans k3, k4⟩
theorem Io.loQ {base : Nat} {w : World} {v : Value} {zs : List Int} (h : Io base w v zs) : ∃ a c, v = .slice a zs.length c ∧ Ri w a c zs ∧ ∀ b o, a = some ⟨b, o, none⟩ → base ≤ b := by
  obtain ⟨a, c, e, hr⟩ := h.slice
  refine ⟨a, c, e, hr, fun b o e2 => ?_⟩
  rcases h.2.2 with ⟨e0, _⟩ | ⟨g, cap, cur, e1, hb, _⟩
  · rw [e0] at e
    injection e with e
    rw [e2] at e
    cases e
  · rw [e1] at e
    injection e with e
    rw [e2] at e
    cases e
    exact hb

theorem BkIo {base g : Nat} {t : TypeId} {w : World} {v : Value} {cs : List Value} {zs : List Int} (h : Bk t w g cs) (hI : Io base w v zs) (e : v.ownBlock = some g) : t = 3 := by
  rcases hI.2.2 with ⟨e0, _⟩ | ⟨g', cap, cur, e1, hb, hg, _⟩
  · rw [e0] at e; cases e
  · rw [e1] at e
    have e2 : g' = g := by
      have e3 : some g' = some g := e
      injection e3
    rw [e2, h] at hg
    injection hg with hg
    injection hg with _ hg

set_option maxHeartbeats 1000000 in
set_option maxRecDepth 100000 in
theorem snumE_any (B : Nat) (d0 d1 d2 d3 : Value) (x y st : Int) (v : Value) (er : Int) (sd : Int) (xa : Option Addr) (xn xc : Nat) (w : World) (hP : Bk 66 w B (rC d0 d1 d2 d3 x y st v er)) (her : er ≠ 0) (hxn : xn ≤ 9223372036854775807) :
    Calls Tryz.prog 32 #[.pointer (some ⟨B, 0, none⟩), .agg #[.int .i64 sd, .slice xa xn xc]] w fun e w' => e = .returned (.slice none 0 0) ∧ Below w.heap.size w w' := by
  obtain ⟨W, hW, X1, hbW⟩ : ∃ W, W = w.alloc (.cells #[.int .i64 sd, .slice xa xn xc] 50) ∧ Bk 50 W w.heap.size [.int .i64 sd, .slice xa xn xc] ∧ Below w.heap.size w W := ⟨_, rfl, Bk.new _ _ _, bl1 _⟩
  obtain ⟨q0, q1, -⟩ := X1.two
  have hv : W.cell? ⟨B, 8, none⟩ = some (.int .i64 er) := (hP.below hbW).cell 8 (by show 8 < 9; omega)
  have g1 : (er == 0) = false := beq_eq_false_iff_ne.2 her
  clear hP her
  go_enter Tryz.func32, Tryz.ntmps32
  go_upto_region 1 with fail
  rw [← hW]
  clear hW
  go_wp2
  by_cases h0 : 0 < xn
  · have g2 : decide ((0 : Int) < (xn : Int)) = true := decide_eq_true (by omega)
    have g3 : decide (0 < xn) = true := decide_eq_true h0
    refine wp_loop_rounds 1 ?_
    rw [rounds_succ]
    go_wp2
    go_ret
    exact ⟨rfl, hbW⟩
  · have g2 : decide ((0 : Int) < (xn : Int)) = false := decide_eq_false (by omega)
    have g3 : decide (0 < xn) = false := decide_eq_false h0
    refine wp_loop_rounds 1 ?_
    rw [rounds_succ]
    go_wp2
    go_ret
    exact ⟨rfl, hbW⟩

set_option maxHeartbeats 8000000 in
set_option maxRecDepth 100000 in
theorem snum0_any (S : Nat → Prop) (B : Nat) (w0 : World) (ga : Option Addr) (gc : Nat) (ma : Option Addr) (mc : Nat) (s : Sr) (pa : Option Addr) (pc : Nat) (cs : List Int) (d0 : Value) (x y st : Int) (v : Value) (sd : Int) (xa : Option Addr) (xc : Nat) (ar : List (Int × Int)) (w : World) (hx : Gr SlE S w0 xa xc ar) (hg : Tzz w0 ga gc s.rg) (hm : Rii w0 ma mc s.rw) (hp : Ri w0 pa pc cs) (hBe : w0.heap.size = B) (hB : Below B w0 w) (hP : Bk 66 w B (rC d0 (.slice ga s.rg.length gc) (.slice ma s.rw.length mc) (.slice pa cs.length pc) x y st v 0)) (h40 : s.rg.length ≤ 40) (h8 : ∀ l ∈ s.rg, l.length ≤ 8) (h6 : ar.length ≤ 6) :
    Calls Tryz.prog 32 #[.pointer (some ⟨B, 0, none⟩), .agg #[.int .i64 sd, .slice xa ar.length xc]] w fun e w' => ∃ (L : List Int) (a' : Option Addr) (c' : Nat), e = .returned (.slice a' L.length c') ∧ Io w.heap.size w' (.slice a' L.length c') L ∧ Hid (nuE (RS s cs) ar = 0 → L = nuL (RS s cs) ar) ∧ L.length ≤ 6 ∧ Bk 66 w' B (rC d0 (.slice ga s.rg.length gc) (.slice ma s.rw.length mc) (.slice pa cs.length pc) x y st v (nuE (RS s cs) ar)) ∧ Kp B w w' := by
  have k1 := hx.lenB
  have k2 := hm.lenB
  have k3 := hg.lenB
  have k4 := hp.lenB
  have hBl : B < w.heap.size := hP.lt
  obtain ⟨W, hW, X1, hbW⟩ : ∃ W, W = w.alloc (.cells #[.int .i64 sd, .slice xa ar.length xc] 50) ∧ Bk 50 W w.heap.size [.int .i64 sd, .slice xa ar.length xc] ∧ Below w.heap.size w W := ⟨_, rfl, Bk.new _ _ _, bl1 _⟩
  obtain ⟨gs, hgs⟩ : ∃ g, w.heap.size = g := ⟨_, rfl⟩
  have HGS : Hid (w.heap.size = gs) := hgs
  rw [hgs] at X1 hBl
  have HB0 : Hid (∀ U, Kp B w U → Below w0.heap.size w0 U) := fun U hU => by
    rw [hBe]
    exact hB.trans (hU.below (by omega) (Nat.le_refl _))
  have HX : Hid (Gr SlE S w0 xa xc ar) := hx
  have HG : Hid (Tzz w0 ga gc s.rg) := hg
  have HM : Hid (Rii w0 ma mc s.rw) := hm
  have HP : Hid (Ri w0 pa pc cs) := hp
  have HBE : Hid (w0.heap.size = B) := hBe
  replace hP := hP.below hbW
  have hK : Kp B w W := Kp.of hbW
  have hbs : gs ≤ W.heap.size := by have := hbW.size; omega
  have hsl : gs < W.heap.size := X1.lt
  clear hx hg hm hp hBe hB hbW
  go_enter Tryz.func32, Tryz.ntmps32
  go_upto_region 1 with fail
  rw [← hW]
  try rw [hgs]
  clear hW hgs
  go_wp2
  go_loopw [5, 6] (fun v9 i wr => ∃ k : Nat, k ≤ ar.length ∧ i = .int .i64 k ∧ Io gs wr v9 (nuL (RS s cs) (ar.take k)) ∧ Bk 66 wr B (rC d0 (.slice ga s.rg.length gc) (.slice ma s.rw.length mc) (.slice pa cs.length pc) x y st v (nuE (RS s cs) (ar.take k))) ∧ Bk 50 wr gs [.int .i64 sd, .slice xa ar.length xc] ∧ Kp B w wr ∧ gs < wr.heap.size) (fun _ i _ => ar.length - (intOf i).toNat)
  case atStart => exact ⟨0, Nat.zero_le _, rfl, Io.nil _ _, hP, X1, hK, hsl⟩
  case round =>
    clear hP X1 hK hbs hsl
    obtain ⟨k, hk, rfl, hI, hP, hX, hK, hsl⟩ := hrel
    obtain ⟨a9, c9, e9, hri, hlo⟩ := hI.loQ
    subst e9
    rw [nuL_len] at hI ⊢
    have hlt : (ar.take k).length = k := by rw [List.length_take]; omega
    rw [hlt] at hI ⊢
    obtain ⟨q0, q1, -⟩ := hX.two
    have he8 : wr.cell? ⟨B, 8, none⟩ = some (.int .i64 (nuE (RS s cs) (ar.take k))) := hP.cell 8 (by show 8 < 9; omega)
    have HST : Hid (nuE (RS s cs) (ar.take k) ≠ 0 → nuE (RS s cs) ar = nuE (RS s cs) (ar.take k)) := fun h => nuE_stop hk h
    have HNL : Hid ((nuL (RS s cs) (ar.take k)).length = k) := by show _ = _; rw [nuL_len]; exact hlt
    by_cases hkn : k < ar.length
    rotate_left
    · have g1 : decide ((k : Int) < (ar.length : Int)) = false := decide_eq_false (by omega)
      have g2 : decide (k < ar.length) = false := decide_eq_false hkn
      have hkk : k = ar.length := by omega
      rw [hkk, List.take_length] at hP HNL hI
      have HRI : Hid (Io w.heap.size wr (.slice a9 (nuL (RS s cs) ar).length c9) (nuL (RS s cs) ar)) := by show Io _ _ _ _; rw [HGS.out, HNL.out]; exact hI
      have HPP : Hid (Bk 66 wr B (rC d0 (.slice ga s.rg.length gc) (.slice ma s.rw.length mc) (.slice pa cs.length pc) x y st v (nuE (RS s cs) ar))) := hP
      have HKE : Hid (k = ar.length) := hkk
      clear hkk hri hP hI hlo hkn hlt HST
      go_wp2
      go_ret
      exact ⟨nuL (RS s cs) ar, a9, c9, by rw [HNL.out, ← HKE.out]; rfl, HRI.out, fun _ => rfl, by rw [HNL.out]; exact h6, HPP.out, hK⟩
    have g1 : decide ((k : Int) < (ar.length : Int)) = true := decide_eq_true (by omega)
    have g2 : decide (k < ar.length) = true := decide_eq_true hkn
    by_cases hz : nuE (RS s cs) (ar.take k) = 0
    rotate_left
    · have g3 : (nuE (RS s cs) (ar.take k) == 0) = false := beq_eq_false_iff_ne.2 hz
      have HE : Hid (nuE (RS s cs) ar = nuE (RS s cs) (ar.take k)) := HST.out hz
      have HZ : Hid (¬ nuE (RS s cs) ar = 0) := by show ¬ _; rw [HE.out]; exact hz
      obtain ⟨L, hL⟩ : ∃ L, nuL (RS s cs) (ar.take k) = L := ⟨_, rfl⟩
      rw [hL] at hI HNL
      have HRI : Hid (Io w.heap.size wr (.slice a9 L.length c9) L) := by show Io _ _ _ _; rw [HGS.out, HNL.out]; exact hI
      have HPP : Hid (Bk 66 wr B (rC d0 (.slice ga s.rg.length gc) (.slice ma s.rw.length mc) (.slice pa cs.length pc) x y st v (nuE (RS s cs) ar))) := by show Bk _ _ _ _; rw [HE.out]; exact hP
      generalize nuE (RS s cs) (ar.take k) = ze at *
      clear hri hP hI hlo hlt HST hL hz HE
      go_wp2
      go_ret
      exact ⟨L, a9, c9, by rw [HNL.out]; rfl, HRI.out, fun h => absurd h HZ.out, by rw [HNL.out]; omega, HPP.out, hK⟩
    rw [hz] at hP he8
    have HNE : Hid (_) := nuE_take (R := RS s cs) hkn
    have HNT : Hid (_) := nuL_take (R := RS s cs) hkn
    rw [hz, if_pos rfl] at HNE
    obtain ⟨b1, off, ea, hb1, ⟨m1, m2⟩, e0, e1⟩ := HX.out.sl (HB0.out wr hK) k hkn
    have hro := fun U (hU : Kp B w U) => sroundedS_any ga gc ma mc s (ar.getD k (0, 0)).1 (ar.getD k (0, 0)).2 pa pc cs U (HG.out.below (HB0.out U hU)) (HM.out.below (HB0.out U hU)) (HP.out.below (HB0.out U hU)) m1 m2 h40 h8
    have HZN : Hid (-32768 ≤ roN s (ar.getD k (0, 0)).1 (ar.getD k (0, 0)).2 cs ∧ roN s (ar.getD k (0, 0)).1 (ar.getD k (0, 0)).2 cs ≤ 32767) := roN_in _ _ _ _
    have ero : (RS s cs).ro (ar.getD k (0, 0)).1 (ar.getD k (0, 0)).2 = roN s (ar.getD k (0, 0)).1 (ar.getD k (0, 0)).2 cs := rfl
    have ere : (RS s cs).re (ar.getD k (0, 0)).1 (ar.getD k (0, 0)).2 = roE s (ar.getD k (0, 0)).1 (ar.getD k (0, 0)).2 cs := rfl
    rw [ere] at HNE
    rw [ero] at HNT
    generalize roN s (ar.getD k (0, 0)).1 (ar.getD k (0, 0)).2 cs = zn at *
    generalize roE s (ar.getD k (0, 0)).1 (ar.getD k (0, 0)).2 cs = ze at *
    generalize ar.getD k (0, 0) = yy at *
    obtain ⟨L, hL⟩ : ∃ L, nuL (RS s cs) (ar.take k) = L := ⟨_, rfl⟩
    rw [hL] at hI HNT HNL
    have HOW : Hid (∀ q, (Value.slice a9 k c9).ownBlock = some q → gs ≤ q ∧ q < wr.heap.size) := fun q e => hI.growQ e
    subst ea
    have hb1B : b1 < B := by have := HBE.out; omega
    have i1 : (0 : Int) ≤ (k : Int) := by omega
    have i2 : (k : Int) < (ar.length : Int) := by omega
    have p1 : wr.cell? ⟨B, 1, none⟩ = some (.slice ga s.rg.length gc) := hP.cell 1 (by show 1 < 9; omega)
    have p2 : wr.cell? ⟨B, 2, none⟩ = some (.slice ma s.rw.length mc) := hP.cell 2 (by show 2 < 9; omega)
    have p3 : wr.cell? ⟨B, 3, none⟩ = some (.slice pa cs.length pc) := hP.cell 3 (by show 3 < 9; omega)
    clear ero ere hri hlo hlt HST hL hz
    go_upto_region 5 with fail
    refine wp_region_held_drew (S := fun w9 => ((w9.cell? ⟨B, 1, none⟩ = some (.slice ga s.rg.length gc) ∧ w9.cell? ⟨B, 2, none⟩ = some (.slice ma s.rw.length mc)) ∧ w9.cell? ⟨B, 3, none⟩ = some (.slice pa cs.length pc)) ∧ w9.cell? ⟨gs, 1, none⟩ = some (.slice (some ⟨b1, off, none⟩) ar.length xc) ∧ w9.cell? ⟨b1, off + k * 2, none⟩ = some (.int .i64 yy.1) ∧ w9.cell? ⟨b1, off + k * 2 + 1, none⟩ = some (.int .i64 yy.2)) (by kernel_rfl) ?_ (fun hHeld => ?_)
    · (try dsimp only)
      go_keep
    have hdr : Below wr.heap.size wr wr.drew := Below.drew1
    generalize wr.drew = Z at hdr hHeld ⊢
    replace hP := hP.below hdr
    replace hX := hX.below hdr
    replace hI := hI.below hdr
    replace hK := hK.trans (Kp.of hdr)
    have hsz := hdr.size
    have hro2 := hro Z hK
    have HCL : Hid (∀ U, Below Z.heap.size Z U → ((U.cell? ⟨B, 1, none⟩ = some (.slice ga s.rg.length gc) ∧ U.cell? ⟨B, 2, none⟩ = some (.slice ma s.rw.length mc)) ∧ U.cell? ⟨B, 3, none⟩ = some (.slice pa cs.length pc)) ∧ U.cell? ⟨gs, 1, none⟩ = some (.slice (some ⟨b1, off, none⟩) ar.length xc) ∧ U.cell? ⟨b1, off + k * 2, none⟩ = some (.int .i64 yy.1) ∧ U.cell? ⟨b1, off + k * 2 + 1, none⟩ = some (.int .i64 yy.2)) := fun U hU => by
      have l1 : B < Z.heap.size := hP.lt
      have l2 : gs < Z.heap.size := hX.lt
      exact ⟨⟨⟨(hU.cell (p := ⟨B, 1, none⟩) l1).trans hHeld.1.1.1, (hU.cell (p := ⟨B, 2, none⟩) l1).trans hHeld.1.1.2⟩, (hU.cell (p := ⟨B, 3, none⟩) l1).trans hHeld.1.2⟩, (hU.cell (p := ⟨gs, 1, none⟩) l2).trans hHeld.2.1, (hU.cell (p := ⟨b1, off + k * 2, none⟩) (by show b1 < _; omega)).trans hHeld.2.2.1, (hU.cell (p := ⟨b1, off + k * 2 + 1, none⟩) (by show b1 < _; omega)).trans hHeld.2.2.2⟩
    clear hdr p1 p2 p3 q0 q1 e0 e1 he8 hro
    refine hT 0 hHeld ?_
    refine hT 1 hHeld ?_
    refine hT 2 hHeld ?_
    refine hT 3 hHeld ?_
    refine hT 4 hHeld ?_
    refine hT 5 hHeld ?_
    refine hT 6 hHeld ?_
    refine hT 7 hHeld ?_
    refine hT 8 hHeld ?_
    refine hT 9 hHeld ?_
    refine hT 10 hHeld ?_
    refine hT 11 hHeld ?_
    refine hT 12 hHeld ?_
    refine hCall (i := 13) rfl (by kernel_rfl) (by rfl) (fun K hK => ?_)
    go_simp
    refine (hro2).mono ?_
    rintro e u4 ⟨rfl, hb⟩
    go_wp2_with fail
    refine hK.out _ _ ?_ (fun hHeld => ?_)
    · (try dsimp only)
      exact HCL.out _ hb
    clear hK K
    try simp only [Act.put, List.setIfInBounds_toArray, List.set_cons_zero, List.set_cons_succ]
    replace hP := hP.below hb
    replace hX := hX.below hb
    replace hI := hI.below hb
    replace hK := hK.trans (Kp.of hb)
    have hsz2 := hb.size
    refine hT 14 hHeld ?_
    refine hT 15 hHeld ?_
    refine hT 16 hHeld ?_
    refine hT 17 hHeld ?_
    refine hT 18 hHeld ?_
    refine wpAnyH_done (by kernel_rfl) ?_ _
    clear hHeld hro2 hb HCL
    have he8 : u4.cell? ⟨B, 8, none⟩ = some (.int .i64 0) := hP.cell 8 (by show 8 < 9; omega)
    have hf8 := hP.fz 8
    obtain ⟨V, hV, hP2, hX2, hI2, hK2⟩ : ∃ V, V = u4.setCell ⟨B, 8, none⟩ (.int .i64 ze) ∧ Bk 66 V B (rC d0 (.slice ga s.rg.length gc) (.slice ma s.rw.length mc) (.slice pa cs.length pc) x y st v ze) ∧ Bk 50 V gs [.int .i64 sd, .slice (some ⟨b1, off, none⟩) ar.length xc] ∧ Io gs V (.slice a9 k c9) L ∧ Kp B w V := ⟨_, rfl, hP.set 8 _, hX.other 8 _ (by omega), hI.kpQ hBl ((Kp.refl B u4).setCell 8 _), hK.setCell 8 _⟩
    have hvs : u4.heap.size = V.heap.size := by rw [hV]; simp [World.setCell]
    go_upto_region 7 with fail
    rw [← hV]
    clear hV he8 hf8 hP hX hI hK
    obtain ⟨V9, hV9, Y9, hb9⟩ : ∃ W, W = V.alloc (.cells #[.int .i64 zn] 3) ∧ Bk 3 W V.heap.size [.int .i64 zn] ∧ Below V.heap.size V W := ⟨_, rfl, Bk.new _ _ _, bl1 _⟩
    have hIb := hI2.below hb9
    have hP9 := hP2.below hb9
    have hX9 := hX2.below hb9
    have hK9 := hK2.trans (Kp.of hb9)
    have hs9 := hb9.size
    have hbs : gs ≤ V9.heap.size := by omega
    have hll : L.length + 1 ≤ 1000000 := by rw [HNL.out]; omega
    have y9 : V9.cell? ⟨V.heap.size, 0, none⟩ = some (.int .i64 zn) := Y9.cell 0 (by simp)
    have hz64 : I64 zn := by have := HZN.out; exact ⟨by omega, by omega⟩
    clear hP2 hX2 hI2 hK2
    go_wp2_with (at_builtin; rw [← hV9]; refine wpList_append_int rfl _ _ rfl gs _ L rfl hIb V.heap.size zn rfl y9 hz64 hll hbs ?_)
    intro v9 w9 hT9 hgrow
    rw [← hV9] at hgrow
    rw [← HNT.out] at hT9
    have hng : (Value.slice a9 k c9).ownBlock ≠ some B := fun e => by have := (HOW.out B e).1; omega
    have hnr : (Value.slice a9 k c9).ownBlock ≠ some gs := fun e => by have h1 := hX9.lt; have h2 := hIb.growQ e; exact absurd (BkIo hX9 hIb e) (by decide)
    have hP10 := hP9.grown hgrow hng
    have hX10 := hX9.grown hgrow hnr
    have hK10 := hK9.grown hgrow (fun q hq => by have := (HOW.out q hq).1; have := HGS.out; omega)
    rw [← HNE.out] at hP10
    have hs10 : gs < w9.heap.size := by have := hgrow.size; have := hX9.lt; omega
    clear hgrow hIb hbs hll hV9 Y9 hb9 hng hnr hP9 hX9 hK9 hs9 y9
    go_wp2
    go_roundw
    case rel => exact ⟨k + 1, by omega, by go_num, hT9, hP10, hX10, hK10, hs10⟩
    case measure => simp [intOf]; omega

end Go.Proofs.YtkbbdkecillnpaaGreat
