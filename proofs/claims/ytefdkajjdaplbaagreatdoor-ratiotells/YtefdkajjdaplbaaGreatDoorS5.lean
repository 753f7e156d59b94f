/-
  foundryref02.Floor, Round, Text: the walks.
-/
import Derived.Test.YtefdkajjdaplbaaGreatDoorS4
import Derived.Test.YtefdkajjdaplbaaGreatDoorRText
import Derived.Deep.RegionHeld3
namespace Go.Proofs.YtefdkajjdaplbaaGreatDoor
open Go.RowKit
set_option linter.unusedSimpArgs false
set_option linter.unusedVariables false

theorem back_two {m : Nat} (h : m ≤ 9223372036854775808) : wrap64 (-(wrap64 (m : Int))) = -(m : Int) := by
  by_cases h9 : m = 9223372036854775808
  · subst h9; decide +kernel
  · rw [back_pos (by omega)]
    unfold wrap64
    omega

set_option maxHeartbeats 4000000 in
set_option maxRecDepth 100000 in
theorem sfloor_any (k : Nat) (q : Rat) (v : Value) (w : World) (h : Ct w v k q) (hk : k ≤ 1000000) (hk2 : 2 ≤ k) :
    Calls Tryz.prog 20 #[v] w fun e w' => e = .returned (.tuple #[.int .i64 (flN q.floor), .bool (flB q.floor)]) ∧ Below w.heap.size w w' := by
  have hX := h
  obtain ⟨n, xs, ys, ⟨a, c, a', c', rfl, _, _⟩, hz1⟩ := h
  clear hz1
  go_enter Tryz.func20, Tryz.ntmps20
  go_wp2_with fail
  refine (sfair_any k q _ _ (hX.below (al1 _)) (by omega) hk2).mono ?_
  rintro e u1 ⟨v1, rfl, hF1, hb1⟩
  obtain ⟨B0, hbW⟩ := after1 hb1
  clear hb1 hX
  obtain ⟨p1, p2, p3, p4, p5, p6⟩ := B0.cells
  have hs1 := B0.lt
  obtain ⟨n1, x1, y1, ⟨a1, c1, b1, d1, rfl, hx1, hy1⟩, f1, l1, l1', e1⟩ := hF1
  have y0 := f1.den
  go_wp2_with fail
  obtain ⟨U, hU, B1, hbU, hK, ho⟩ := set3_world B0 (.bool n1) (.slice a1 x1.length c1) (.slice b1 y1.length d1)
  rw [← hU]
  replace hbW := hbU _ _ hbW (by omega)
  replace hx1 := hK _ _ _ hx1
  replace hy1 := hK _ _ _ hy1
  clear hU hbU hK ho B0 p1 p2 p3 p4 p5 p6 hs1
  refine (rdiv_any _ _ _ _ _ _ _ hx1 hy1 (by omega) (by omega)).mono ?_
  rintro e u2 ⟨a2, c2, zs, a3, c3, rs, rfl, hv1, hv2, ht1, ht2, hr1, hr2, hb2⟩
  have lz : zs.length ≤ k := len_le_of_V ht1 (Nat.lt_of_le_of_lt (by rw [hv1]; exact Nat.div_le_self _ _) (V_len_le hx1.lim l1))
  have lr : rs.length ≤ k := len_le_of_V ht2 (Nat.lt_of_le_of_lt (by rw [hv2, remN_pos _ (by omega)]; exact Nat.mod_le _ _) (V_len_le hx1.lim l1))
  have rz := hr1.rd
  rw [remN_pos _ (by omega)] at hv2
  replace B1 := B1.below hb2
  replace hbW : Below w.heap.size w u2 := hbW.trans (hb2.mono hbW.size)
  clear hr1 hr2 hb2 hx1 hy1
  obtain ⟨p1, p2, p3, _⟩ := B1.cells
  subst e1
  cases n1 with
  | false =>
      have HF : Hid ((qv false x1 y1).floor = ((V zs : Nat) : Int)) := by show _ = _; rw [floor_pos y0, hv1]
      clear hv1 hv2
      go_wp2_with fail
      refine (rsmall_any _ _ _ _ rz (by omega)).mono ?_
      rintro e u7 ⟨rfl, hb7⟩
      replace B1 := B1.below hb7
      replace hbW : Below w.heap.size w u7 := hbW.trans (hb7.mono hbW.size)
      clear hb7 p1 p2 p3
      obtain ⟨p1, p2, p3, _⟩ := B1.cells
      generalize V zs = m at HF ⊢
      clear rz
      by_cases hm : m < 9223372036854775808
      · rw [smallN_lt (by omega), isSmall_lt (by omega)]
        have HM : Hid (m < 9223372036854775808) := hm
        obtain ⟨z, hz⟩ : ∃ z : Int, (m : Int) = z := ⟨_, rfl⟩
        have g1 : ¬ 9223372036854775808 < z := by omega
        have g2 : (z == 9223372036854775808) = false := beq_eq_false_iff_ne.2 (by omega)
        rw [hz]
        have HZ : Hid ((m : Int) = z) := hz
        clear hz hm
        go_wp2
        go_ret2
        exact ⟨ret_two (by rw [HF.out, flN_pos, if_pos HM.out, ← HZ.out]; exact back_pos HM.out) (by rw [HF.out, flB_pos]; simp [HM.out]), hbW⟩
      · by_cases hm2 : m < 18446744073709551616
        · rw [smallN_lt hm2, isSmall_lt hm2]
          by_cases hm3 : m = 9223372036854775808
          · subst hm3
            go_wp2
            go_ret2
            exact ⟨ret_two (by rw [HF.out, flN_pos, if_neg (by decide)]) (by rw [HF.out, flB_pos]; simp), hbW⟩
          · have g1 : (9223372036854775808 : Int) < (m : Int) := by omega
            have HM : Hid (¬ m < 9223372036854775808) := hm
            clear hm hm2 hm3
            go_wp2
            go_ret2
            exact ⟨ret_two (by rw [HF.out, flN_pos, if_neg HM.out]) (by rw [HF.out, flB_pos]; simp [HM.out]), hbW⟩
        · rw [smallN_ge hm2, isSmall_ge hm2]
          go_wp2
          go_ret2
          exact ⟨ret_two (by rw [HF.out, flN_pos, if_neg hm]) (by rw [HF.out, flB_pos]; simp [hm]), hbW⟩
  | true =>
    by_cases hrs : rs.length = 0
    · have hr0 : V rs = 0 := by rw [List.length_eq_zero_iff.1 hrs]; rfl
      have HF : Hid ((qv true x1 y1).floor = -((V zs : Nat) : Int)) := by show _ = _; rw [floor_neg y0, hv1, ← hv2, hr0]; simp
      have g0 : ¬ (0 : Int) < (rs.length : Int) := by omega
      clear hv1 hv2 hr0 hrs
      go_wp2_with fail
      refine (rsmall_any _ _ _ _ rz (by omega)).mono ?_
      rintro e u7 ⟨rfl, hb7⟩
      replace B1 := B1.below hb7
      replace hbW : Below w.heap.size w u7 := hbW.trans (hb7.mono hbW.size)
      clear hb7 p1 p2 p3
      obtain ⟨p1, p2, p3, _⟩ := B1.cells
      generalize V zs = m at HF ⊢
      clear rz
      by_cases hm : m ≤ 9223372036854775808
      · rw [smallN_lt (by omega), isSmall_lt (by omega)]
        have HM : Hid (m ≤ 9223372036854775808) := hm
        obtain ⟨z, hz⟩ : ∃ z : Int, (m : Int) = z := ⟨_, rfl⟩
        have g1 : ¬ 9223372036854775808 < z := by omega
        have HB : Hid (wrap64 (-(wrap64 z)) = -z) := by show _ = _; rw [← hz]; exact back_two hm
        rw [hz]
        have HZ : Hid ((m : Int) = z) := hz
        clear hz hm
        by_cases hz9 : z = 9223372036854775808
        · have g2 : (z == 9223372036854775808) = true := beq_iff_eq.2 hz9
          clear hz9
          go_wp2
          go_ret2
          exact ⟨ret_two (by rw [HF.out, flN_neg, if_pos HM.out, HZ.out]; exact HB.out) (by rw [HF.out, flB_neg]; simp [HM.out]), hbW⟩
        · have g2 : (z == 9223372036854775808) = false := beq_eq_false_iff_ne.2 hz9
          clear hz9
          go_wp2
          go_ret2
          exact ⟨ret_two (by rw [HF.out, flN_neg, if_pos HM.out, HZ.out]; exact HB.out) (by rw [HF.out, flB_neg]; simp [HM.out]), hbW⟩
      · by_cases hm2 : m < 18446744073709551616
        · rw [smallN_lt hm2, isSmall_lt hm2]
          have g1 : (9223372036854775808 : Int) < (m : Int) := by omega
          have HM : Hid (¬ m ≤ 9223372036854775808) := hm
          clear hm hm2
          go_wp2
          go_ret2
          exact ⟨ret_two (by rw [HF.out, flN_neg, if_neg HM.out]) (by rw [HF.out, flB_neg]; simp [HM.out]), hbW⟩
        · rw [smallN_ge hm2, isSmall_ge hm2]
          go_wp2
          go_ret2
          exact ⟨ret_two (by rw [HF.out, flN_neg, if_neg hm]) (by rw [HF.out, flB_neg]; simp [hm]), hbW⟩
    · have hr0 : 0 < V rs := by
        have := V_ne_of ht2 fun h => hrs (by rw [h]; rfl)
        omega
      have g0 : (0 : Int) < (rs.length : Int) := by omega
      go_wp2_with fail
      refine (sone_any _).mono ?_
      rintro e u3 ⟨a4, c4, os, rfl, ho1, hto, ro, hb3⟩
      replace rz := rz.below hb3
      replace B1 := B1.below hb3
      replace hbW : Below w.heap.size w u3 := hbW.trans (hb3.mono hbW.size)
      have lo := len_two hto (by omega)
      clear hb3 p1 p2 p3
      go_wp2_with fail
      refine (radd_any _ _ _ _ _ _ _ rz ro (by omega) (by omega)).mono ?_
      rintro e u4 ⟨a5, c5, ws, rfl, hv4, ht4, hr4, hb4⟩
      have rw4 := hr4.rd
      replace B1 := B1.below hb4
      replace hbW : Below w.heap.size w u4 := hbW.trans (hb4.mono hbW.size)
      have lw : ws.length ≤ k + 1 := sum_len rz.lim ro.lim ht4 lz (by omega) (by omega)
      have HF : Hid ((qv true x1 y1).floor = -((V ws : Nat) : Int)) := by show _ = _; rw [floor_neg y0, hv4, hv1, ho1, ← hv2, if_pos hr0]
      clear hv1 hv2 hr0 hr4 hb4 rz ro hv4 ho1 hrs
      obtain ⟨p1, p2, p3, _⟩ := B1.cells
      go_wp2_with fail
      refine (rsmall_any _ _ _ _ rw4 (by omega)).mono ?_
      rintro e u7 ⟨rfl, hb7⟩
      replace B1 := B1.below hb7
      replace hbW : Below w.heap.size w u7 := hbW.trans (hb7.mono hbW.size)
      clear hb7 p1 p2 p3
      obtain ⟨p1, p2, p3, _⟩ := B1.cells
      generalize V ws = m at HF ⊢
      clear rw4
      by_cases hm : m ≤ 9223372036854775808
      · rw [smallN_lt (by omega), isSmall_lt (by omega)]
        have HM : Hid (m ≤ 9223372036854775808) := hm
        obtain ⟨z, hz⟩ : ∃ z : Int, (m : Int) = z := ⟨_, rfl⟩
        have g1 : ¬ 9223372036854775808 < z := by omega
        have HB : Hid (wrap64 (-(wrap64 z)) = -z) := by show _ = _; rw [← hz]; exact back_two hm
        rw [hz]
        have HZ : Hid ((m : Int) = z) := hz
        clear hz hm
        by_cases hz9 : z = 9223372036854775808
        · have g2 : (z == 9223372036854775808) = true := beq_iff_eq.2 hz9
          clear hz9
          go_wp2
          go_ret2
          exact ⟨ret_two (by rw [HF.out, flN_neg, if_pos HM.out, HZ.out]; exact HB.out) (by rw [HF.out, flB_neg]; simp [HM.out]), hbW⟩
        · have g2 : (z == 9223372036854775808) = false := beq_eq_false_iff_ne.2 hz9
          clear hz9
          go_wp2
          go_ret2
          exact ⟨ret_two (by rw [HF.out, flN_neg, if_pos HM.out, HZ.out]; exact HB.out) (by rw [HF.out, flB_neg]; simp [HM.out]), hbW⟩
      · by_cases hm2 : m < 18446744073709551616
        · rw [smallN_lt hm2, isSmall_lt hm2]
          have g1 : (9223372036854775808 : Int) < (m : Int) := by omega
          have HM : Hid (¬ m ≤ 9223372036854775808) := hm
          clear hm hm2
          go_wp2
          go_ret2
          exact ⟨ret_two (by rw [HF.out, flN_neg, if_neg HM.out]) (by rw [HF.out, flB_neg]; simp [HM.out]), hbW⟩
        · rw [smallN_ge hm2, isSmall_ge hm2]
          go_wp2
          go_ret2
          exact ⟨ret_two (by rw [HF.out, flN_neg, if_neg hm]) (by rw [HF.out, flB_neg]; simp [hm]), hbW⟩

set_option maxHeartbeats 2000000 in
theorem sround_any (k : Nat) (q : Rat) (v : Value) (w : World) (h : Ct w v k q) (hk : k ≤ 100000) (hk2 : 2 ≤ k) :
    Calls Tryz.prog 22 #[v] w fun e w' => e = .returned (.tuple #[.int .i64 (flN (q + 1 / 2).floor), .bool (flB (q + 1 / 2).floor)]) ∧ Below w.heap.size w w' := by
  have hX := h
  obtain ⟨n, xs, ys, ⟨a, c, a', c', rfl, _, _⟩, hz1⟩ := h
  clear hz1
  go_enter Tryz.func22, Tryz.ntmps22
  go_wp2_with fail
  obtain ⟨W, hW, B1, hbW⟩ : ∃ W, W = w.alloc (.cells #[.bool n, .slice a xs.length c, .slice a' ys.length c'] 30) ∧ Box 30 W w.heap.size (.bool n) (.slice a xs.length c) (.slice a' ys.length c') ∧ Below w.heap.size w W := ⟨_, rfl, Box.new _ _ _ _ _, al1 _⟩
  rw [← hW]
  clear hW
  replace hX := hX.below hbW
  obtain ⟨p1, p2, p3, _⟩ := B1.cells
  go_region_held3 (fun u => u.cell? ⟨w.heap.size, 0, none⟩ = some (.bool n) ∧ u.cell? ⟨w.heap.size, 1, none⟩ = some (.slice a xs.length c) ∧ u.cell? ⟨w.heap.size, 2, none⟩ = some (.slice a' ys.length c')) (go_keep)
    (first
      | (go_at_call 30
         refine (smake_any 1 2 _ (by decide) (by decide) (by decide) (by decide)).mono ?_
         rintro e u1 ⟨v1, rfl, hF1, hb1⟩
         replace hb1 : Below W.heap.size W u1 := Below.drew1.trans hb1
         have hH : Ct u1 v1 2 (1 / 2) := hF1.ct
         replace hX := hX.below hb1
         replace B1 := B1.below hb1
         replace hbW : Below w.heap.size w u1 := hbW.trans (hb1.mono hbW.size)
         clear hb1 hF1 p1 p2 p3
         obtain ⟨p1, p2, p3, _⟩ := B1.cells)
      | (go_at_call 12
         refine (sadd_any k 2 q (1 / 2) _ _ _ hX hH ?_ (by decide) hk2 (by decide)).mono ?_
         · omega
         rintro e u2 ⟨v2, rfl, hF2, hb2⟩
         replace B1 := B1.below hb2
         replace hbW : Below w.heap.size w u2 := hbW.trans (hb2.mono hbW.size)
         clear hb2 hX hH p1 p2 p3
         obtain ⟨p1, p2, p3, _⟩ := B1.cells)
      | (go_at_call 20
         refine (sfloor_any (k + 2 + 1) _ _ _ hF2.ct ?_ ?_).mono ?_
         · omega
         · omega
         rintro e u3 ⟨rfl, hb3⟩
         replace B1 := B1.below hb3
         replace hbW : Below w.heap.size w u3 := hbW.trans (hb3.mono hbW.size)
         clear hb3 hF2 p1 p2 p3
         obtain ⟨p1, p2, p3, _⟩ := B1.cells))
  go_wp2
  go_ret2
  exact ⟨rfl, hbW⟩

set_option maxHeartbeats 4000000 in
set_option maxRecDepth 100000 in
theorem stext_any (k : Nat) (q : Rat) (v : Value) (w : World) (h : Ct w v k q) (hk : k ≤ 1000000) (hk2 : 2 ≤ k) :
    Calls Tryz.prog 28 #[v] w fun e w' => e = .returned (.string ⟨(txt q).toArray⟩) ∧ Below w.heap.size w w' := by
  have hX := h
  obtain ⟨n, xs, ys, ⟨a, c, a', c', rfl, hx, hy⟩, lx, ly, hq⟩ := h
  clear hq hx hy lx ly
  go_enter Tryz.func28, Tryz.ntmps28
  go_wp2_with fail
  refine (sfair_any k q _ _ (hX.below (al1 _)) (by omega) hk2).mono ?_
  rintro e u1 ⟨v1, rfl, hF1, hb1⟩
  obtain ⟨B1, hbW⟩ := after1 hb1
  clear hb1 hX
  obtain ⟨p4, p5, p6, p7, p8, p9⟩ := B1.cells
  have hs2 := B1.lt
  obtain ⟨n1, x1, y1, ⟨b1, d1, b2, d2, rfl, hx', hy'⟩, hf1, l1, l2, he⟩ := hF1
  have HT : Hid (txt q = (if n1 = true then [45] else []) ++ (Lib.decDigits (V x1) ++ (if y1 = [1] then [] else 47 :: Lib.decDigits (V y1)))) := by
    show _ = _; rw [← he]; exact txt_of hf1 hy'.lim
  go_wp2_with fail
  obtain ⟨U, hU, B2, hbU, hK, ho⟩ := set3_world B1 (.bool n1) (.slice b1 x1.length d1) (.slice b2 y1.length d2)
  rw [← hU]
  clear hU p4 p5 p6 p7 p8 p9 hs2
  replace hbW := hbU _ _ hbW (by omega)
  replace hx' := hK _ _ _ hx'
  replace hy' := hK _ _ _ hy'
  clear B1 hbU hK ho
  refine (rtext_any _ _ _ _ hx' (by omega)).mono ?_
  rintro e u2 ⟨rfl, hb2⟩
  replace B2 := B2.below hb2
  replace hy' := hy'.below hb2
  replace hbW : Below w.heap.size w u2 := hbW.trans (hb2.mono hbW.size)
  have lX1 := hx'.lim
  clear hb2 hx'
  obtain ⟨s1, e1, z1, t1⟩ := dec_str lX1 (by omega)
  obtain ⟨s2, e2, z2, t2⟩ := dec_str hy'.lim (by omega)
  rw [e1]
  rw [← t1, ← t2] at HT
  clear e1 t1 t2
  obtain ⟨p4, p5, p6, _⟩ := B2.cells
  cases n1 with
  | false =>
    go_wp2_with fail
    go_region_held3 (fun u => u.cell? ⟨w.heap.size, 0, none⟩ = some (.bool false) ∧ u.cell? ⟨w.heap.size, 1, none⟩ = some (.slice b1 x1.length d1) ∧ u.cell? ⟨w.heap.size, 2, none⟩ = some (.slice b2 y1.length d2)) (go_keep)
      (first
        | (go_at_call 49
           refine (sone_any _).mono ?_
           rintro e u3 ⟨a4, c4, os, rfl, ho1, hto, ro, hb3⟩
           replace hb3 : Below u2.heap.size u2 u3 := Below.drew1.trans hb3
           replace hy' := hy'.below hb3
           replace B2 := B2.below hb3
           replace hbW : Below w.heap.size w u3 := hbW.trans (hb3.mono hbW.size)
           clear hb3 p4 p5 p6
           obtain ⟨p4, p5, p6, _⟩ := B2.cells)
        | (go_at_call 55
           refine (rcmp_any _ _ _ _ _ _ _ hy' ro).mono ?_
           rintro e u4 ⟨rfl, rfl⟩
           have hcm := gcd_one_iff (zs := y1) ho1
           generalize cmpN (V y1) (V os) = cc at hcm ⊢))
    by_cases h1 : y1 = [1]
    · have ec : cc = 0 := hcm.2 ((V_eq_one hy'.lim hf1.2.1).2 h1)
      subst ec
      go_wp2
      go_ret
      exact ⟨ret_str (by rw [HT.out, if_pos h1]; simp [ByteArray.data_append]), hbW⟩
    · have ec : (cc != 0) = true := by simp; exact fun h => h1 ((V_eq_one hy'.lim hf1.2.1).1 (hcm.1 h))
      clear hcm
      go_wp2_with fail
      refine (rtext_any _ _ _ _ hy' (by omega)).mono ?_
      rintro e u5 ⟨rfl, hb5⟩
      rw [e2]
      replace hbW : Below w.heap.size w u5 := hbW.trans (hb5.mono hbW.size)
      clear hb5 p4 p5 p6
      go_wp2
      go_ret
      exact ⟨ret_str (by rw [HT.out, if_neg h1]; simp [ByteArray.data_append]), hbW⟩
  | true =>
    go_wp2_with fail
    go_region_held3 (fun u => u.cell? ⟨w.heap.size, 0, none⟩ = some (.bool true) ∧ u.cell? ⟨w.heap.size, 1, none⟩ = some (.slice b1 x1.length d1) ∧ u.cell? ⟨w.heap.size, 2, none⟩ = some (.slice b2 y1.length d2)) (go_keep)
      (first
        | (go_at_call 49
           refine (sone_any _).mono ?_
           rintro e u3 ⟨a4, c4, os, rfl, ho1, hto, ro, hb3⟩
           replace hb3 : Below u2.heap.size u2 u3 := Below.drew1.trans hb3
           replace hy' := hy'.below hb3
           replace B2 := B2.below hb3
           replace hbW : Below w.heap.size w u3 := hbW.trans (hb3.mono hbW.size)
           clear hb3 p4 p5 p6
           obtain ⟨p4, p5, p6, _⟩ := B2.cells)
        | (go_at_call 55
           refine (rcmp_any _ _ _ _ _ _ _ hy' ro).mono ?_
           rintro e u4 ⟨rfl, rfl⟩
           have hcm := gcd_one_iff (zs := y1) ho1
           generalize cmpN (V y1) (V os) = cc at hcm ⊢))
    by_cases h1 : y1 = [1]
    · have ec : cc = 0 := hcm.2 ((V_eq_one hy'.lim hf1.2.1).2 h1)
      subst ec
      go_wp2
      go_ret
      exact ⟨ret_str (by rw [HT.out, if_pos h1]; simp [ByteArray.data_append]), hbW⟩
    · have ec : (cc != 0) = true := by simp; exact fun h => h1 ((V_eq_one hy'.lim hf1.2.1).1 (hcm.1 h))
      clear hcm
      go_wp2_with fail
      refine (rtext_any _ _ _ _ hy' (by omega)).mono ?_
      rintro e u5 ⟨rfl, hb5⟩
      rw [e2]
      replace hbW : Below w.heap.size w u5 := hbW.trans (hb5.mono hbW.size)
      clear hb5 p4 p5 p6
      go_wp2
      go_ret
      exact ⟨ret_str (by rw [HT.out, if_neg h1]; simp [ByteArray.data_append]), hbW⟩

end Go.Proofs.YtefdkajjdaplbaaGreatDoor
