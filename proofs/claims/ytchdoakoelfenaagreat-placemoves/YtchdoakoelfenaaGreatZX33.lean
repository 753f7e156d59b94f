/-
  foundryref02.Floor, Round, Text: the walks.
  foundryref03.Coordinate, Of14, Of16, Clamp, Field, To14, near, Between: the walks.
  foundryref10.Value, foundryref10.Rounded: the walks.
-/
import Derived.Test.YtchdoakoelfenaaGreatZX32
import Derived.Deep.RegionHeld3
import Derived.Test.YtchdoakoelfenaaGreatZX27
import Derived.Test.YtchdoakoelfenaaGreatZX18
import Derived.Test.YtchdoakoelfenaaGreatZX25
namespace Go.Proofs.YtchdoakoelfenaaGreat
open Go.RowKit
set_option linter.unusedSimpArgs false
set_option linter.unusedVariables false

theorem back_two {m : Nat} (h : m ≤ 9223372036854775808) : wrap64 (-(wrap64 (m : Int))) = -(m : Int) := by
  by_cases h9 : m = 9223372036854775808
  · subst h9; decide +kernel
  · rw [back_pos (by omega)]
    unfold wrap64
    omega

set_option maxHeartbeats 4000000 in
set_option maxRecDepth 100000 in
theorem sfloor_any (k : Nat) (q : Rat) (v : Value) (w : World) (h : Ct w v k q) (hk : k ≤ 1000000) (hk2 : 2 ≤ k) :
    Calls Tryz.prog 59 #[v] w fun e w' => e = .returned (.tuple #[.int .i64 (flN q.floor), .bool (flB q.floor)]) ∧ Below w.heap.size w w' := by
  have hX := h
  obtain ⟨n, xs, ys, ⟨a, c, a', c', rfl, _, _⟩, hz1⟩ := h
  clear hz1
  go_enter Tryz.func59, Tryz.ntmps59
  go_wp2_with fail
  refine (sfair_any k q _ _ (hX.below (al1 _)) (by omega) hk2).mono ?_
  rintro e u1 ⟨v1, rfl, hF1, hb1⟩
  obtain ⟨B0, hbW⟩ := after1 hb1
  clear hb1 hX
  obtain ⟨p1, p2, p3, p4, p5, p6⟩ := B0.cells
  have hs1 := B0.lt
  obtain ⟨n1, x1, y1, ⟨a1, c1, b1, d1, rfl, hx1, hy1⟩, f1, l1, l1', e1⟩ := hF1
  have y0 := f1.den
  go_wp2_with fail
  obtain ⟨U, hU, B1, hbU, hK, ho⟩ := set3_world B0 (.bool n1) (.slice a1 x1.length c1) (.slice b1 y1.length d1)
  rw [← hU]
  replace hbW := hbU _ _ hbW (by omega)
  replace hx1 := hK _ _ _ hx1
  replace hy1 := hK _ _ _ hy1
  clear hU hbU hK ho B0 p1 p2 p3 p4 p5 p6 hs1
  refine (rdiv_any _ _ _ _ _ _ _ hx1 hy1 (by omega) (by omega)).mono ?_
  rintro e u2 ⟨a2, c2, zs, a3, c3, rs, rfl, hv1, hv2, ht1, ht2, hr1, hr2, hb2⟩
  have lz : zs.length ≤ k := len_le_of_V ht1 (Nat.lt_of_le_of_lt (by rw [hv1]; exact Nat.div_le_self _ _) (V_len_le hx1.lim l1))
  have lr : rs.length ≤ k := len_le_of_V ht2 (Nat.lt_of_le_of_lt (by rw [hv2, remN_pos _ (by omega)]; exact Nat.mod_le _ _) (V_len_le hx1.lim l1))
  have rz := hr1.rd
  rw [remN_pos _ (by omega)] at hv2
  replace B1 := B1.below hb2
  replace hbW : Below w.heap.size w u2 := hbW.trans (hb2.mono hbW.size)
  clear hr1 hr2 hb2 hx1 hy1
  obtain ⟨p1, p2, p3, _⟩ := B1.cells
  subst e1
  cases n1 with
  | false =>
      have HF : Hid ((qv false x1 y1).floor = ((V zs : Nat) : Int)) := by show _ = _; rw [floor_pos y0, hv1]
      clear hv1 hv2
      go_wp2_with fail
      refine (rsmall_any _ _ _ _ rz (by omega)).mono ?_
      rintro e u7 ⟨rfl, hb7⟩
      replace B1 := B1.below hb7
      replace hbW : Below w.heap.size w u7 := hbW.trans (hb7.mono hbW.size)
      clear hb7 p1 p2 p3
      obtain ⟨p1, p2, p3, _⟩ := B1.cells
      generalize V zs = m at HF ⊢
      clear rz
      by_cases hm : m < 9223372036854775808
      · rw [smallN_lt (by omega), isSmall_lt (by omega)]
        have HM : Hid (m < 9223372036854775808) := hm
        obtain ⟨z, hz⟩ : ∃ z : Int, (m : Int) = z := ⟨_, rfl⟩
        have g1 : ¬ 9223372036854775808 < z := by omega
        have g2 : (z == 9223372036854775808) = false := beq_eq_false_iff_ne.2 (by omega)
        rw [hz]
        have HZ : Hid ((m : Int) = z) := hz
        clear hz hm
        go_wp2
        go_ret2
        exact ⟨ret_two (by rw [HF.out, flN_pos, if_pos HM.out, ← HZ.out]; exact back_pos HM.out) (by rw [HF.out, flB_pos]; simp [HM.out]), hbW⟩
      · by_cases hm2 : m < 18446744073709551616
        · rw [smallN_lt hm2, isSmall_lt hm2]
          by_cases hm3 : m = 9223372036854775808
          · subst hm3
            go_wp2
            go_ret2
            exact ⟨ret_two (by rw [HF.out, flN_pos, if_neg (by decide)]) (by rw [HF.out, flB_pos]; simp), hbW⟩
          · have g1 : (9223372036854775808 : Int) < (m : Int) := by omega
            have HM : Hid (¬ m < 9223372036854775808) := hm
            clear hm hm2 hm3
            go_wp2
            go_ret2
            exact ⟨ret_two (by rw [HF.out, flN_pos, if_neg HM.out]) (by rw [HF.out, flB_pos]; simp [HM.out]), hbW⟩
        · rw [smallN_ge hm2, isSmall_ge hm2]
          go_wp2
          go_ret2
          exact ⟨ret_two (by rw [HF.out, flN_pos, if_neg hm]) (by rw [HF.out, flB_pos]; simp [hm]), hbW⟩
  | true =>
    by_cases hrs : rs.length = 0
    · have hr0 : V rs = 0 := by rw [List.length_eq_zero_iff.1 hrs]; rfl
      have HF : Hid ((qv true x1 y1).floor = -((V zs : Nat) : Int)) := by show _ = _; rw [floor_neg y0, hv1, ← hv2, hr0]; simp
      have g0 : ¬ (0 : Int) < (rs.length : Int) := by omega
      clear hv1 hv2 hr0 hrs
      go_wp2_with fail
      refine (rsmall_any _ _ _ _ rz (by omega)).mono ?_
      rintro e u7 ⟨rfl, hb7⟩
      replace B1 := B1.below hb7
      replace hbW : Below w.heap.size w u7 := hbW.trans (hb7.mono hbW.size)
      clear hb7 p1 p2 p3
      obtain ⟨p1, p2, p3, _⟩ := B1.cells
      generalize V zs = m at HF ⊢
      clear rz
      by_cases hm : m ≤ 9223372036854775808
      · rw [smallN_lt (by omega), isSmall_lt (by omega)]
        have HM : Hid (m ≤ 9223372036854775808) := hm
        obtain ⟨z, hz⟩ : ∃ z : Int, (m : Int) = z := ⟨_, rfl⟩
        have g1 : ¬ 9223372036854775808 < z := by omega
        have HB : Hid (wrap64 (-(wrap64 z)) = -z) := by show _ = _; rw [← hz]; exact back_two hm
        rw [hz]
        have HZ : Hid ((m : Int) = z) := hz
        clear hz hm
        by_cases hz9 : z = 9223372036854775808
        · have g2 : (z == 9223372036854775808) = true := beq_iff_eq.2 hz9
          clear hz9
          go_wp2
          go_ret2
          exact ⟨ret_two (by rw [HF.out, flN_neg, if_pos HM.out, HZ.out]; exact HB.out) (by rw [HF.out, flB_neg]; simp [HM.out]), hbW⟩
        · have g2 : (z == 9223372036854775808) = false := beq_eq_false_iff_ne.2 hz9
          clear hz9
          go_wp2
          go_ret2
          exact ⟨ret_two (by rw [HF.out, flN_neg, if_pos HM.out, HZ.out]; exact HB.out) (by rw [HF.out, flB_neg]; simp [HM.out]), hbW⟩
      · by_cases hm2 : m < 18446744073709551616
        · rw [smallN_lt hm2, isSmall_lt hm2]
          have g1 : (9223372036854775808 : Int) < (m : Int) := by omega
          have HM : Hid (¬ m ≤ 9223372036854775808) := hm
          clear hm hm2
          go_wp2
          go_ret2
          exact ⟨ret_two (by rw [HF.out, flN_neg, if_neg HM.out]) (by rw [HF.out, flB_neg]; simp [HM.out]), hbW⟩
        · rw [smallN_ge hm2, isSmall_ge hm2]
          go_wp2
          go_ret2
          exact ⟨ret_two (by rw [HF.out, flN_neg, if_neg hm]) (by rw [HF.out, flB_neg]; simp [hm]), hbW⟩
    · have hr0 : 0 < V rs := by
        have := V_ne_of ht2 fun h => hrs (by rw [h]; rfl)
        omega
      have g0 : (0 : Int) < (rs.length : Int) := by omega
      go_wp2_with fail
      refine (sone_any _).mono ?_
      rintro e u3 ⟨a4, c4, os, rfl, ho1, hto, ro, hb3⟩
      replace rz := rz.below hb3
      replace B1 := B1.below hb3
      replace hbW : Below w.heap.size w u3 := hbW.trans (hb3.mono hbW.size)
      have lo := len_two hto (by omega)
      clear hb3 p1 p2 p3
      go_wp2_with fail
      refine (radd_any _ _ _ _ _ _ _ rz ro (by omega) (by omega)).mono ?_
      rintro e u4 ⟨a5, c5, ws, rfl, hv4, ht4, hr4, hb4⟩
      have rw4 := hr4.rd
      replace B1 := B1.below hb4
      replace hbW : Below w.heap.size w u4 := hbW.trans (hb4.mono hbW.size)
      have lw : ws.length ≤ k + 1 := sum_len rz.lim ro.lim ht4 lz (by omega) (by omega)
      have HF : Hid ((qv true x1 y1).floor = -((V ws : Nat) : Int)) := by show _ = _; rw [floor_neg y0, hv4, hv1, ho1, ← hv2, if_pos hr0]
      clear hv1 hv2 hr0 hr4 hb4 rz ro hv4 ho1 hrs
      obtain ⟨p1, p2, p3, _⟩ := B1.cells
      go_wp2_with fail
      refine (rsmall_any _ _ _ _ rw4 (by omega)).mono ?_
      rintro e u7 ⟨rfl, hb7⟩
      replace B1 := B1.below hb7
      replace hbW : Below w.heap.size w u7 := hbW.trans (hb7.mono hbW.size)
      clear hb7 p1 p2 p3
      obtain ⟨p1, p2, p3, _⟩ := B1.cells
      generalize V ws = m at HF ⊢
      clear rw4
      by_cases hm : m ≤ 9223372036854775808
      · rw [smallN_lt (by omega), isSmall_lt (by omega)]
        have HM : Hid (m ≤ 9223372036854775808) := hm
        obtain ⟨z, hz⟩ : ∃ z : Int, (m : Int) = z := ⟨_, rfl⟩
        have g1 : ¬ 9223372036854775808 < z := by omega
        have HB : Hid (wrap64 (-(wrap64 z)) = -z) := by show _ = _; rw [← hz]; exact back_two hm
        rw [hz]
        have HZ : Hid ((m : Int) = z) := hz
        clear hz hm
        by_cases hz9 : z = 9223372036854775808
        · have g2 : (z == 9223372036854775808) = true := beq_iff_eq.2 hz9
          clear hz9
          go_wp2
          go_ret2
          exact ⟨ret_two (by rw [HF.out, flN_neg, if_pos HM.out, HZ.out]; exact HB.out) (by rw [HF.out, flB_neg]; simp [HM.out]), hbW⟩
        · have g2 : (z == 9223372036854775808) = false := beq_eq_false_iff_ne.2 hz9
          clear hz9
          go_wp2
          go_ret2
          exact ⟨ret_two (by rw [HF.out, flN_neg, if_pos HM.out, HZ.out]; exact HB.out) (by rw [HF.out, flB_neg]; simp [HM.out]), hbW⟩
      · by_cases hm2 : m < 18446744073709551616
        · rw [smallN_lt hm2, isSmall_lt hm2]
          have g1 : (9223372036854775808 : Int) < (m : Int) := by omega
          have HM : Hid (¬ m ≤ 9223372036854775808) := hm
          clear hm hm2
          go_wp2
          go_ret2
          exact ⟨ret_two (by rw [HF.out, flN_neg, if_neg HM.out]) (by rw [HF.out, flB_neg]; simp [HM.out]), hbW⟩
        · rw [smallN_ge hm2, isSmall_ge hm2]
          go_wp2
          go_ret2
          exact ⟨ret_two (by rw [HF.out, flN_neg, if_neg hm]) (by rw [HF.out, flB_neg]; simp [hm]), hbW⟩

set_option maxHeartbeats 2000000 in
set_option maxRecDepth 100000 in
theorem sround_any (k : Nat) (q : Rat) (v : Value) (w : World) (h : Ct w v k q) (hk : k ≤ 100000) (hk2 : 2 ≤ k) :
    Calls Tryz.prog 48 #[v] w fun e w' => e = .returned (.tuple #[.int .i64 (flN (q + 1 / 2).floor), .bool (flB (q + 1 / 2).floor)]) ∧ Below w.heap.size w w' := by
  have hX := h
  obtain ⟨n, xs, ys, ⟨a, c, a', c', rfl, _, _⟩, hz1⟩ := h
  clear hz1
  go_enter Tryz.func48, Tryz.ntmps48
  go_wp2_with fail
  obtain ⟨W, hW, B1, hbW⟩ : ∃ W, W = w.alloc (.cells #[.bool n, .slice a xs.length c, .slice a' ys.length c'] 91) ∧ Box 91 W w.heap.size (.bool n) (.slice a xs.length c) (.slice a' ys.length c') ∧ Below w.heap.size w W := ⟨_, rfl, Box.new _ _ _ _ _, al1 _⟩
  rw [← hW]
  clear hW
  replace hX := hX.below hbW
  obtain ⟨p1, p2, p3, _⟩ := B1.cells
  go_region_held3 (fun u => u.cell? ⟨w.heap.size, 0, none⟩ = some (.bool n) ∧ u.cell? ⟨w.heap.size, 1, none⟩ = some (.slice a xs.length c) ∧ u.cell? ⟨w.heap.size, 2, none⟩ = some (.slice a' ys.length c')) (go_keep)
    (first
      | (go_at_call 60
         refine (smake_any 1 2 _ (by decide) (by decide) (by decide) (by decide)).mono ?_
         rintro e u1 ⟨v1, rfl, hF1, hb1⟩
         replace hb1 : Below W.heap.size W u1 := Below.drew1.trans hb1
         have hH : Ct u1 v1 2 (1 / 2) := hF1.ct
         replace hX := hX.below hb1
         replace B1 := B1.below hb1
         replace hbW : Below w.heap.size w u1 := hbW.trans (hb1.mono hbW.size)
         clear hb1 hF1 p1 p2 p3
         obtain ⟨p1, p2, p3, _⟩ := B1.cells)
      | (go_at_call 49
         refine (sadd_any k 2 q (1 / 2) _ _ _ hX hH ?_ (by decide) hk2 (by decide)).mono ?_
         · omega
         rintro e u2 ⟨v2, rfl, hF2, hb2⟩
         replace B1 := B1.below hb2
         replace hbW : Below w.heap.size w u2 := hbW.trans (hb2.mono hbW.size)
         clear hb2 hX hH p1 p2 p3
         obtain ⟨p1, p2, p3, _⟩ := B1.cells)
      | (go_at_call 59
         refine (sfloor_any (k + 2 + 1) _ _ _ hF2.ct ?_ ?_).mono ?_
         · omega
         · omega
         rintro e u3 ⟨rfl, hb3⟩
         replace B1 := B1.below hb3
         replace hbW : Below w.heap.size w u3 := hbW.trans (hb3.mono hbW.size)
         clear hb3 hF2 p1 p2 p3
         obtain ⟨p1, p2, p3, _⟩ := B1.cells))
  go_wp2
  go_ret2
  exact ⟨rfl, hbW⟩

end Go.Proofs.YtchdoakoelfenaaGreat

namespace Go.Proofs.YtchdoakoelfenaaGreat
open Go.RowKit Classical
set_option linter.unusedSimpArgs false
set_option linter.unusedVariables false
set_option maxHeartbeats 1000000 in
set_option maxRecDepth 100000 in
theorem sfield_any (k : Nat) (q : Rat) (v : Value) (w : World) (h : Ct w v k q) (hk : k ≤ 100000) (hk2 : 2 ≤ k) :
    Calls Tryz.prog 39 #[v] w fun e w' => e = .returned (.tuple #[.int .i64 (fldN (q + 1 / 2).floor), .int .i64 (fldE (q + 1 / 2).floor)]) ∧ Below w.heap.size w w' := by
  have hX := h
  obtain ⟨n, xs, ys, ⟨a, c, a', c', rfl, _, _⟩, hz1⟩ := h
  clear hz1
  obtain ⟨z, hz⟩ : ∃ z, (q + 1 / 2).floor = z := ⟨_, rfl⟩
  rw [hz]
  have HZ : Hid ((q + 1 / 2).floor = z) := hz
  clear hz
  have e34 : (-32768 ≤ z ∧ z ≤ 32767 ∧ fldN z = z ∧ fldE z = 0 ∧ flB z = true ∧ flN z = z) ∨ (¬ (-32768 ≤ z ∧ z ≤ 32767) ∧ fldN z = 0 ∧ fldE z = 4) := by
    by_cases h1 : -32768 ≤ z ∧ z ≤ 32767
    · have e1 : flB z = true := by unfold flB; exact decide_eq_true (by omega)
      exact .inl ⟨h1.1, h1.2, by unfold fldN; rw [if_pos h1], by unfold fldE; rw [if_pos h1], e1, by unfold flN; rw [if_pos e1]⟩
    · exact .inr ⟨h1, by unfold fldN; rw [if_neg h1], by unfold fldE; rw [if_neg h1]⟩
  rcases e34 with ⟨h1, h2, e3, e4, e1, e2⟩ | ⟨h1, e3, e4⟩
  · rw [e3, e4]
    have E1 : Hid (flB z = true ∧ flN z = z) := ⟨e1, e2⟩
    clear e1 e2 e3 e4
    go_enter Tryz.func39, Tryz.ntmps39
    go_wp2_with fail
    refine (sround_any k q _ _ (hX.below (al1 _)) hk hk2).mono ?_
    rintro e u1 ⟨rfl, hb1⟩
    obtain ⟨B1, hbW⟩ := after1 hb1
    clear hb1 hX
    rw [HZ.out, E1.out.1, E1.out.2]
    go_wp2
    go_ret2
    exact ⟨rfl, hbW⟩
  rw [e3, e4]
  clear e3 e4
  by_cases h2 : flB z = true
  · have e2 : flN z = z := by unfold flN; rw [if_pos h2]
    have E1 : Hid (flB z = true ∧ flN z = z) := ⟨h2, e2⟩
    clear h2 e2
    rcases (show z < -32768 ∨ (-32768 ≤ z ∧ 32767 < z) by omega) with h3 | ⟨h3, h4⟩
    all_goals
      clear h1
      go_enter Tryz.func39, Tryz.ntmps39
      go_wp2_with fail
      refine (sround_any k q _ _ (hX.below (al1 _)) hk hk2).mono ?_
      rintro e u1 ⟨rfl, hb1⟩
      obtain ⟨B1, hbW⟩ := after1 hb1
      clear hb1 hX
      rw [HZ.out, E1.out.1, E1.out.2]
      go_wp2
      go_ret2
      exact ⟨rfl, hbW⟩
  · have e1 : flB z = false := by simpa using h2
    have E1 : Hid (flB z = false) := e1
    clear h2 e1 h1
    go_enter Tryz.func39, Tryz.ntmps39
    go_wp2_with fail
    refine (sround_any k q _ _ (hX.below (al1 _)) hk hk2).mono ?_
    rintro e u1 ⟨rfl, hb1⟩
    obtain ⟨B1, hbW⟩ := after1 hb1
    clear hb1 hX
    rw [HZ.out, E1.out]
    generalize flN z = y
    go_wp2
    go_ret2
    exact ⟨rfl, hbW⟩

theorem sgn_ge {q : Rat} : 0 ≤ sgnQ q ↔ 0 ≤ q := by
  unfold sgnQ
  split
  · simp; grind
  · split
    · simp; grind
    · simp; grind
theorem sgn_le {q : Rat} : sgnQ q ≤ 0 ↔ q ≤ 0 := by
  unfold sgnQ
  split
  · simp; grind
  · split
    · simp; grind
    · simp; grind

theorem to14_one {q : Rat} (h : 1 ≤ q) : to14 q = 16384 := by
  have f2 := Rat.lt_floor (x := q * 16384 + 1 / 2)
  unfold to14
  generalize (q * 16384 + 1 / 2).floor = z at f2
  have : ((16383 : Int) : Rat) < ((z : Int) : Rat) := by grind
  have := Rat.intCast_lt_intCast.1 this
  unfold c14
  rw [if_neg (by omega)]
  split <;> omega
theorem to14_mone {q : Rat} (h : q ≤ -1) : to14 q = -16384 := by
  have f1 := Rat.floor_le (q * 16384 + 1 / 2)
  unfold to14
  generalize (q * 16384 + 1 / 2).floor = z at f1
  have : ((z : Int) : Rat) < ((-16383 : Int) : Rat) := by grind
  have := Rat.intCast_lt_intCast.1 this
  unfold c14
  split
  · rfl
  · rw [if_neg (by omega)]; omega
theorem to14_mid {q : Rat} (h1 : -1 < q) (h2 : q < 1) : flN (q * 16384 + 1 / 2).floor = to14 q := by
  have f1 := Rat.floor_le (q * 16384 + 1 / 2)
  have f2 := Rat.lt_floor (x := q * 16384 + 1 / 2)
  unfold to14
  generalize (q * 16384 + 1 / 2).floor = z at f1 f2
  have g1 : ((-16385 : Int) : Rat) < ((z : Int) : Rat) := by grind
  have g2 : ((z : Int) : Rat) < ((16385 : Int) : Rat) := by grind
  have := Rat.intCast_lt_intCast.1 g1
  have := Rat.intCast_lt_intCast.1 g2
  unfold c14 flN flB
  rw [if_pos (by simp; omega), if_neg (by omega), if_neg (by omega)]

end Go.Proofs.YtchdoakoelfenaaGreat

namespace Go.Proofs.YtchdoakoelfenaaGreat
open Go.RowKit Go.Maps
set_option linter.unusedSimpArgs false
set_option linter.unusedVariables false

set_option maxHeartbeats 4000000 in
set_option maxRecDepth 100000 in
theorem svalueS_any (a : Option Addr) (ca : Nat) (b : Option Addr) (cb : Nat) (s : Sr) (x r : Int) (pa : Option Addr) (pc : Nat) (cs : List Int) (w : World) (hg : Tzz w a ca s.rg) (hm : Rii w b cb s.rw) (hp : Ri w pa pc cs) (hx : I64 x) (hr : I64 r) (hl : s.rg.length ≤ 40) (h8 : ∀ l ∈ s.rg, l.length ≤ 8) :
    Calls Tryz.prog 40 #[.agg #[.slice a s.rg.length ca, .slice b s.rw.length cb], .agg #[.int .i64 x, .int .i64 r], .slice pa cs.length pc] w fun e w' => ∃ v', e = .returned v' ∧ Fr w' v' 1003 (vaQ s x r cs) ∧ Below w.heap.size w w' := by
  have k3 := hp.lenB
  have HV : Hid (((x : Int) : Rat) + chQ s r cs = vaQ s x r cs) := rfl
  have hch := fun U h1 h2 h3 => schangeS_any a ca b cb s r pa pc cs U h1 h2 h3 hl h8
  obtain ⟨W, hW, X1, X2, B0, hbW⟩ : ∃ W, W = ((w.alloc (.cells #[.slice a s.rg.length ca, .slice b s.rw.length cb] 29)).alloc (.cells #[.int .i64 x, .int .i64 r] 45)).alloc (.cells #[.bool false, .slice none 0 0, .slice none 0 0] 91) ∧ BxS W w.heap.size (.slice a s.rg.length ca) (.slice b s.rw.length cb) ∧ BxL W (w.heap.size + 1) (.int .i64 x) (.int .i64 r) ∧ Box 91 W (w.heap.size + 2) (.bool false) (.slice none 0 0) (.slice none 0 0) ∧ Below w.heap.size w W := ⟨_, rfl, ((BxS.new _ _ _).below (bl1 _)).below (bl1 _), (BxL.new1 _ _ _ _).below (bl1 _), Box.new2S _ _ _ _ _ _ _, (bl2 _ _).trans ((bl1 _).mono (by simp; omega))⟩
  replace hg := hg.below hbW
  replace hm := hm.below hbW
  replace hp := hp.below hbW
  generalize chQ s r cs = qc at *
  clear h8
  go_enter Tryz.func40, Tryz.ntmps40
  go_upto_region 1 with fail
  rw [← hW]
  clear hW
  obtain ⟨p00, p01, _⟩ := X1.cells
  obtain ⟨p10, p11, _⟩ := X2.cells
  refine wp_region_held_drew (S := (fun u => u.cell? ⟨w.heap.size, 0, none⟩ = some (.slice a s.rg.length ca) ∧ u.cell? ⟨w.heap.size, 1, none⟩ = some (.slice b s.rw.length cb) ∧ u.cell? ⟨w.heap.size + 1, 0, none⟩ = some (.int .i64 x) ∧ u.cell? ⟨w.heap.size + 1, 1, none⟩ = some (.int .i64 r))) (by kernel_rfl) ?_ (fun hHeld => ?_)
  · (try dsimp only)
    go_keep
  have hdr : Below W.heap.size W W.drew := Below.drew1
  generalize W.drew = ud1 at hdr hHeld ⊢
  replace hg := hg.below hdr
  replace hm := hm.below hdr
  replace hp := hp.below hdr
  replace B0 := B0.below hdr
  replace X1 := X1.below hdr
  replace X2 := X2.below hdr
  replace hbW : Below w.heap.size w ud1 := hbW.trans (hdr.mono hbW.size)
  clear hdr
  clear p00 p01 p10 p11
  obtain ⟨p00, p01, _⟩ := X1.cells
  obtain ⟨p10, p11, _⟩ := X2.cells
  refine hT 0 hHeld ?_
  refine hT 1 hHeld ?_
  refine hT 3 hHeld ?_
  refine hT 4 hHeld ?_
  refine hT 5 hHeld ?_
  refine hT 6 hHeld ?_
  refine hCall (i := 2) rfl (by kernel_rfl) (by rfl) (fun K hK => ?_)
  go_simp
  refine (swhole_any x _ hx.1 (by have := hx.2; omega)).mono ?_
  rintro e u1 ⟨v5, rfl, hF5, hb1⟩
  replace hg := hg.below hb1
  replace hm := hm.below hb1
  replace hp := hp.below hb1
  replace B0 := B0.below hb1
  replace X1 := X1.below hb1
  replace X2 := X2.below hb1
  replace hbW : Below w.heap.size w u1 := hbW.trans (hb1.mono hbW.size)
  clear hb1
  clear p00 p01 p10 p11
  obtain ⟨p00, p01, _⟩ := X1.cells
  obtain ⟨p10, p11, _⟩ := X2.cells
  go_wp2_with fail
  refine hK.out _ _ ?_ (fun hHeld => ?_)
  · (try dsimp only)
    exact ⟨p00, p01, p10, p11⟩
  clear hK K
  try simp only [Act.put, List.setIfInBounds_toArray, List.set_cons_zero, List.set_cons_succ]
  refine hCall (i := 7) rfl (by kernel_rfl) (by rfl) (fun K hK => ?_)
  go_simp
  refine (hch _ hg hm hp).mono ?_
  rintro e u2 ⟨v6, rfl, hF6, hb2⟩
  replace hg := hg.below hb2
  replace hm := hm.below hb2
  replace hp := hp.below hb2
  replace B0 := B0.below hb2
  replace hF5 := hF5.below hb2
  replace X1 := X1.below hb2
  replace X2 := X2.below hb2
  replace hbW : Below w.heap.size w u2 := hbW.trans (hb2.mono hbW.size)
  clear hb2
  clear p00 p01 p10 p11
  obtain ⟨p00, p01, _⟩ := X1.cells
  obtain ⟨p10, p11, _⟩ := X2.cells
  go_wp2_with fail
  refine hK.out _ _ ?_ (fun hHeld => ?_)
  · (try dsimp only)
    exact ⟨p00, p01, p10, p11⟩
  clear hK K
  try simp only [Act.put, List.setIfInBounds_toArray, List.set_cons_zero, List.set_cons_succ]
  refine hCall (i := 8) rfl (by kernel_rfl) (by rfl) (fun K hK => ?_)
  go_simp
  refine (sadd_any 2 1000 _ _ _ _ _ hF5.ct hF6.ct (by decide) (by decide) (by decide) (by decide)).mono ?_
  rintro e u3 ⟨v9, rfl, hF9, hb3⟩
  replace hg := hg.below hb3
  replace hm := hm.below hb3
  replace hp := hp.below hb3
  replace B0 := B0.below hb3
  replace hF5 := hF5.below hb3
  replace hF6 := hF6.below hb3
  replace X1 := X1.below hb3
  replace X2 := X2.below hb3
  replace hbW : Below w.heap.size w u3 := hbW.trans (hb3.mono hbW.size)
  clear hb3
  rw [HV.out] at hF9
  obtain ⟨n9, x9, y9, ⟨a9, c9, b9, d9, rfl, hx9, hy9⟩, hF9⟩ := hF9
  clear p00 p01 p10 p11
  obtain ⟨p00, p01, _⟩ := X1.cells
  obtain ⟨p10, p11, _⟩ := X2.cells
  go_wp2_with fail
  refine hK.out _ _ ?_ (fun hHeld => ?_)
  · (try dsimp only)
    exact ⟨p00, p01, p10, p11⟩
  clear hK K
  try simp only [Act.put, List.setIfInBounds_toArray, List.set_cons_zero, List.set_cons_succ]
  refine hCall (i := 9) rfl (by kernel_rfl) (by rfl) (fun K hK => ?_)
  go_simp
  have hs := B0.lt
  obtain ⟨f1, f2, f3, f4, f5, f6⟩ := B0.cells
  try go_simp
  obtain ⟨u64, hU, C9, hbU, hK9, ho⟩ := set3_world B0 (.bool n9) (.slice a9 x9.length c9) (.slice b9 y9.length d9)
  rw [← hU]
  clear hU f1 f2 f3 f4 f5 f6
  replace hbW := hbU _ _ hbW (by omega)
  replace hx9 := hK9 _ _ _ hx9
  replace hy9 := hK9 _ _ _ hy9
  replace X1 : BxS u64 w.heap.size (.slice a s.rg.length ca) (.slice b s.rw.length cb) := (ho _ (by omega)).trans X1
  replace X2 : BxL u64 (w.heap.size + 1) (.int .i64 x) (.int .i64 r) := (ho _ (by omega)).trans X2
  clear hbU hK9 ho
  clear p00 p01 p10 p11
  obtain ⟨p00, p01, _⟩ := X1.cells
  obtain ⟨p10, p11, _⟩ := X2.cells
  refine hK.out _ _ ?_ (fun hHeld => ?_)
  · (try dsimp only)
    exact ⟨p00, p01, p10, p11⟩
  clear hK K
  try simp only [Act.put, List.setIfInBounds_toArray, List.set_cons_zero, List.set_cons_succ]
  refine wpAnyH_done (by kernel_rfl) ?_ _
  clear hHeld
  go_wp2
  refine bodyPost_ret (by obtain ⟨r1, r2, r3, _⟩ := C9.cells; simp [results, Tryz.results40, go_sem, r1, r2, r3]) rfl ⟨_, rfl, ⟨_, _, _, ⟨_, _, _, _, rfl, hx9, hy9⟩, hF9⟩, hbW⟩

set_option maxHeartbeats 2000000 in
set_option maxRecDepth 100000 in
theorem sroundedS_any (a : Option Addr) (ca : Nat) (b : Option Addr) (cb : Nat) (s : Sr) (x r : Int) (pa : Option Addr) (pc : Nat) (cs : List Int) (w : World) (hg : Tzz w a ca s.rg) (hm : Rii w b cb s.rw) (hp : Ri w pa pc cs) (hx : I64 x) (hr : I64 r) (hl : s.rg.length ≤ 40) (h8 : ∀ l ∈ s.rg, l.length ≤ 8) :
    Calls Tryz.prog 28 #[.agg #[.slice a s.rg.length ca, .slice b s.rw.length cb], .agg #[.int .i64 x, .int .i64 r], .slice pa cs.length pc] w fun e w' => e = .returned (.tuple #[.int .i64 (roN s x r cs), .int .i64 (roE s x r cs)]) ∧ Below w.heap.size w w' := by
  have k2 := hm.lenB
  have k3 := hp.lenB
  have hfi := fun U => sfitsS_any a ca b cb s x r U k2 hx hr
  have hva := fun U h1 h2 h3 => svalueS_any a ca b cb s x r pa pc cs U h1 h2 h3 hx hr hl h8
  obtain ⟨W, hW, X1, X2, hbW⟩ : ∃ W, W = (w.alloc (.cells #[.slice a s.rg.length ca, .slice b s.rw.length cb] 29)).alloc (.cells #[.int .i64 x, .int .i64 r] 45) ∧ BxS W w.heap.size (.slice a s.rg.length ca) (.slice b s.rw.length cb) ∧ BxL W (w.heap.size + 1) (.int .i64 x) (.int .i64 r) ∧ Below w.heap.size w W := ⟨_, rfl, (BxS.new _ _ _).below (bl1 _), BxL.new1 _ _ _ _, bl2 _ _⟩
  replace hg := hg.below hbW
  replace hm := hm.below hbW
  replace hp := hp.below hbW
  clear h8 hx hr
  cases hf : fiS s x r with
  | false =>
    have HE : Hid (roN s x r cs = 0 ∧ roE s x r cs = 1) := by
      show _ ∧ _
      constructor
      · rw [roN, hf]; rfl
      · rw [roE, hf]; rfl
    simp only [hf] at hfi
    clear hf hg hm hp hva
    go_enter Tryz.func28, Tryz.ntmps28
    go_wp2_with fail
    rw [← hW]
    clear hW
    refine (hfi _).mono ?_
    rintro e u1 ⟨rfl, hb1⟩
    replace hbW := hbW.trans (hb1.mono hbW.size)
    clear hb1 hfi
    go_wp2
    go_ret2
    exact ⟨by rw [HE.out.1, HE.out.2]; rfl, hbW⟩
  | true =>
    have HE : Hid (roN s x r cs = fldN (vaQ s x r cs + 1 / 2).floor ∧ roE s x r cs = fldE (vaQ s x r cs + 1 / 2).floor) := by
      show _ ∧ _
      constructor
      · rw [roN, hf]; rfl
      · rw [roE, hf]; rfl
    simp only [hf] at hfi
    clear hf
    go_enter Tryz.func28, Tryz.ntmps28
    go_wp2_with fail
    rw [← hW]
    clear hW
    refine (hfi _).mono ?_
    rintro e u1 ⟨rfl, hb1⟩
    replace hg := hg.below hb1
    replace hm := hm.below hb1
    replace hp := hp.below hb1
    replace X1 := X1.below hb1
    replace X2 := X2.below hb1
    replace hbW := hbW.trans (hb1.mono hbW.size)
    clear hb1 hfi
    obtain ⟨p0, p1, _⟩ := X1.cells
    obtain ⟨p2, p3, _⟩ := X2.cells
    go_wp2_with fail
    refine (hva _ hg hm hp).mono ?_
    rintro e u2 ⟨v2, rfl, hF2, hb2⟩
    replace hbW := hbW.trans (hb2.mono hbW.size)
    clear hb2 hva hg hm hp X1 X2 p0 p1 p2 p3
    generalize vaQ s x r cs = q at *
    go_wp2_with fail
    refine (sfield_any 1003 q _ _ hF2.ct (by decide) (by decide)).mono ?_
    rintro e u3 ⟨rfl, hb3⟩
    replace hbW := hbW.trans (hb3.mono hbW.size)
    rw [← HE.out.1, ← HE.out.2]
    clear hb3 hF2
    go_wp2
    go_ret2
    exact ⟨rfl, hbW⟩

end Go.Proofs.YtchdoakoelfenaaGreat
