/-
  foundryref03.Coordinate, Of14, Of16, Clamp, Field, To14, near, Between: the walks.
-/
import Derived.Test.YthepikmllmfofaaT2
import Derived.Test.YthepikmllmfofaaS5
import Derived.Deep.RegionHeld3
namespace Go.Proofs.Ythepikmllmfofaa
open Go.RowKit Classical
set_option linter.unusedSimpArgs false
set_option linter.unusedVariables false

set_option maxHeartbeats 400000 in
theorem scoord_any (z : Int) (w : World) : Calls Try.prog 16 #[.int .i64 z] w fun e w' => e = .returned (.bool (crd z)) ∧ w = w' := by
  by_cases h1 : -16384 ≤ z
  · go_enter Try.func16, Try.ntmps16
    go_wp2
    go_ret
    exact ⟨ret_bool (by simp [crd, h1]), rfl⟩
  · go_enter Try.func16, Try.ntmps16
    go_wp2
    go_ret
    exact ⟨ret_bool (by simp [crd]; omega), rfl⟩

set_option maxHeartbeats 400000 in
theorem snear_any (z : Int) (w : World) : Calls Try.prog 40 #[.int .i64 z] w fun e w' => e = .returned (.bool (nr z)) ∧ w = w' := by
  by_cases h1 : -1099511627776 ≤ z
  · go_enter Try.func40, Try.ntmps40
    go_wp2
    go_ret
    exact ⟨ret_bool (by simp [nr, h1]), rfl⟩
  · go_enter Try.func40, Try.ntmps40
    go_wp2
    go_ret
    exact ⟨ret_bool (by simp [nr]; omega), rfl⟩

set_option maxHeartbeats 400000 in
theorem sclamp_any (n a b : Int) (w : World) : Calls Try.prog 25 #[.int .i64 n, .int .i64 a, .int .i64 b] w fun e w' => e = .returned (.int .i64 (clp n a b)) ∧ w = w' := by
  by_cases h1 : n < a
  · by_cases h2 : b < a
    · go_enter Try.func25, Try.ntmps25
      go_wp2
      go_ret
      exact ⟨ret_num (by unfold clp; simp [h1, h2]), rfl⟩
    · go_enter Try.func25, Try.ntmps25
      go_wp2
      go_ret
      exact ⟨ret_num (by unfold clp; simp [h1]; omega), rfl⟩
  · by_cases h2 : b < n
    · go_enter Try.func25, Try.ntmps25
      go_wp2
      go_ret
      exact ⟨ret_num (by have e : (if n < a then a else n) = n := if_neg (by omega)
                         unfold clp; rw [e, if_pos (by omega)]), rfl⟩
    · go_enter Try.func25, Try.ntmps25
      go_wp2
      go_ret
      exact ⟨ret_num (by have e : (if n < a then a else n) = n := if_neg (by omega)
                         unfold clp; rw [e, if_neg (by omega)]), rfl⟩

theorem scoordB_any (z : Int) (w : World) : Calls Try.prog 16 #[.int .i64 z] w fun e w' => e = .returned (.bool (crd z)) ∧ Below w.heap.size w w' :=
  (scoord_any z w).mono fun e w' h => ⟨h.1, h.2 ▸ Below.refl _ _⟩
theorem sclampB_any (n a b : Int) (w : World) : Calls Try.prog 25 #[.int .i64 n, .int .i64 a, .int .i64 b] w fun e w' => e = .returned (.int .i64 (clp n a b)) ∧ Below w.heap.size w w' :=
  (sclamp_any n a b w).mono fun e w' h => ⟨h.1, h.2 ▸ Below.refl _ _⟩

set_option maxHeartbeats 1000000 in
theorem sof14_any (z : Int) (w : World) (h1 : -9223372036854775808 ≤ z) (h2 : z < 9223372036854775808) :
    Calls Try.prog 19 #[.int .i64 z] w fun e w' => ∃ v', e = .returned v' ∧ Fr w' v' 2 ((z : Rat) / ((16384 : Int) : Rat)) ∧ Below w.heap.size w w' := by
  go_enter Try.func19, Try.ntmps19
  go_wp2_with fail
  refine (smake_any z 16384 _ h1 h2 (by decide) (by decide)).mono ?_
  rintro e u3 ⟨v3, rfl, hF, hb3⟩
  obtain ⟨B1, hbW⟩ := after1 hb3
  obtain ⟨q1, q2, q3, q4, q5, q6⟩ := B1.cells
  have hs' := B1.lt
  obtain ⟨n', xs', ys', ⟨b, d, b', d', rfl, hx', hy'⟩, hF⟩ := hF
  clear hb3
  go_wp2
  refine ret3 (v := .agg #[.bool n', .slice b xs'.length d, .slice b' ys'.length d']) B1 rfl (fun U hU => by obtain ⟨r1, r2, r3, _⟩ := hU.cells; simp [results, Try.results19, go_sem, r1, r2, r3]) (fun U hU hK => ⟨_, rfl, ⟨_, _, _, ⟨_, _, _, _, rfl, hK _ _ _ hx', hK _ _ _ hy'⟩, hF⟩, hU _ _ hbW (by omega)⟩)

set_option maxHeartbeats 1000000 in
theorem sof16_any (z : Int) (w : World) (h1 : -9223372036854775808 ≤ z) (h2 : z < 9223372036854775808) :
    Calls Try.prog 21 #[.int .i64 z] w fun e w' => ∃ v', e = .returned v' ∧ Fr w' v' 2 ((z : Rat) / ((65536 : Int) : Rat)) ∧ Below w.heap.size w w' := by
  go_enter Try.func21, Try.ntmps21
  go_wp2_with fail
  refine (smake_any z 65536 _ h1 h2 (by decide) (by decide)).mono ?_
  rintro e u3 ⟨v3, rfl, hF, hb3⟩
  obtain ⟨B1, hbW⟩ := after1 hb3
  obtain ⟨q1, q2, q3, q4, q5, q6⟩ := B1.cells
  have hs' := B1.lt
  obtain ⟨n', xs', ys', ⟨b, d, b', d', rfl, hx', hy'⟩, hF⟩ := hF
  clear hb3
  go_wp2
  refine ret3 (v := .agg #[.bool n', .slice b xs'.length d, .slice b' ys'.length d']) B1 rfl (fun U hU => by obtain ⟨r1, r2, r3, _⟩ := hU.cells; simp [results, Try.results21, go_sem, r1, r2, r3]) (fun U hU hK => ⟨_, rfl, ⟨_, _, _, ⟨_, _, _, _, rfl, hK _ _ _ hx', hK _ _ _ hy'⟩, hF⟩, hU _ _ hbW (by omega)⟩)

set_option maxHeartbeats 1000000 in
theorem sfield_any (k : Nat) (q : Rat) (v : Value) (w : World) (h : Ct w v k q) (hk : k ≤ 100000) (hk2 : 2 ≤ k) :
    Calls Try.prog 11 #[v] w fun e w' => e = .returned (.tuple #[.int .i64 (fldN (q + 1 / 2).floor), .int .i64 (fldE (q + 1 / 2).floor)]) ∧ Below w.heap.size w w' := by
  have hX := h
  obtain ⟨n, xs, ys, ⟨a, c, a', c', rfl, _, _⟩, hz1⟩ := h
  clear hz1
  obtain ⟨z, hz⟩ : ∃ z, (q + 1 / 2).floor = z := ⟨_, rfl⟩
  rw [hz]
  have HZ : Hid ((q + 1 / 2).floor = z) := hz
  clear hz
  have e34 : (-32768 ≤ z ∧ z ≤ 32767 ∧ fldN z = z ∧ fldE z = 0 ∧ flB z = true ∧ flN z = z) ∨ (¬ (-32768 ≤ z ∧ z ≤ 32767) ∧ fldN z = 0 ∧ fldE z = 4) := by
    by_cases h1 : -32768 ≤ z ∧ z ≤ 32767
    · have e1 : flB z = true := by unfold flB; exact decide_eq_true (by omega)
      exact .inl ⟨h1.1, h1.2, by unfold fldN; rw [if_pos h1], by unfold fldE; rw [if_pos h1], e1, by unfold flN; rw [if_pos e1]⟩
    · exact .inr ⟨h1, by unfold fldN; rw [if_neg h1], by unfold fldE; rw [if_neg h1]⟩
  rcases e34 with ⟨h1, h2, e3, e4, e1, e2⟩ | ⟨h1, e3, e4⟩
  · rw [e3, e4]
    have E1 : Hid (flB z = true ∧ flN z = z) := ⟨e1, e2⟩
    clear e1 e2 e3 e4
    go_enter Try.func11, Try.ntmps11
    go_wp2_with fail
    refine (sround_any k q _ _ (hX.below (al1 _)) hk hk2).mono ?_
    rintro e u1 ⟨rfl, hb1⟩
    obtain ⟨B1, hbW⟩ := after1 hb1
    clear hb1 hX
    rw [HZ.out, E1.out.1, E1.out.2]
    go_wp2
    go_ret2
    exact ⟨rfl, hbW⟩
  rw [e3, e4]
  clear e3 e4
  by_cases h2 : flB z = true
  · have e2 : flN z = z := by unfold flN; rw [if_pos h2]
    have E1 : Hid (flB z = true ∧ flN z = z) := ⟨h2, e2⟩
    clear h2 e2
    rcases (show z < -32768 ∨ (-32768 ≤ z ∧ 32767 < z) by omega) with h3 | ⟨h3, h4⟩
    all_goals
      clear h1
      go_enter Try.func11, Try.ntmps11
      go_wp2_with fail
      refine (sround_any k q _ _ (hX.below (al1 _)) hk hk2).mono ?_
      rintro e u1 ⟨rfl, hb1⟩
      obtain ⟨B1, hbW⟩ := after1 hb1
      clear hb1 hX
      rw [HZ.out, E1.out.1, E1.out.2]
      go_wp2
      go_ret2
      exact ⟨rfl, hbW⟩
  · have e1 : flB z = false := by simpa using h2
    have E1 : Hid (flB z = false) := e1
    clear h2 e1 h1
    go_enter Try.func11, Try.ntmps11
    go_wp2_with fail
    refine (sround_any k q _ _ (hX.below (al1 _)) hk hk2).mono ?_
    rintro e u1 ⟨rfl, hb1⟩
    obtain ⟨B1, hbW⟩ := after1 hb1
    clear hb1 hX
    rw [HZ.out, E1.out]
    generalize flN z = y
    go_wp2
    go_ret2
    exact ⟨rfl, hbW⟩

theorem sgn_ge {q : Rat} : 0 ≤ sgnQ q ↔ 0 ≤ q := by
  unfold sgnQ
  split
  · simp; grind
  · split
    · simp; grind
    · simp; grind
theorem sgn_le {q : Rat} : sgnQ q ≤ 0 ↔ q ≤ 0 := by
  unfold sgnQ
  split
  · simp; grind
  · split
    · simp; grind
    · simp; grind

theorem to14_one {q : Rat} (h : 1 ≤ q) : to14 q = 16384 := by
  have f2 := Rat.lt_floor (x := q * 16384 + 1 / 2)
  unfold to14
  generalize (q * 16384 + 1 / 2).floor = z at f2
  have : ((16383 : Int) : Rat) < ((z : Int) : Rat) := by grind
  have := Rat.intCast_lt_intCast.1 this
  unfold c14
  rw [if_neg (by omega)]
  split <;> omega
theorem to14_mone {q : Rat} (h : q ≤ -1) : to14 q = -16384 := by
  have f1 := Rat.floor_le (q * 16384 + 1 / 2)
  unfold to14
  generalize (q * 16384 + 1 / 2).floor = z at f1
  have : ((z : Int) : Rat) < ((-16383 : Int) : Rat) := by grind
  have := Rat.intCast_lt_intCast.1 this
  unfold c14
  split
  · rfl
  · rw [if_neg (by omega)]; omega
theorem to14_mid {q : Rat} (h1 : -1 < q) (h2 : q < 1) : flN (q * 16384 + 1 / 2).floor = to14 q := by
  have f1 := Rat.floor_le (q * 16384 + 1 / 2)
  have f2 := Rat.lt_floor (x := q * 16384 + 1 / 2)
  unfold to14
  generalize (q * 16384 + 1 / 2).floor = z at f1 f2
  have g1 : ((-16385 : Int) : Rat) < ((z : Int) : Rat) := by grind
  have g2 : ((z : Int) : Rat) < ((16385 : Int) : Rat) := by grind
  have := Rat.intCast_lt_intCast.1 g1
  have := Rat.intCast_lt_intCast.1 g2
  unfold c14 flN flB
  rw [if_pos (by simp; omega), if_neg (by omega), if_neg (by omega)]

set_option maxHeartbeats 2000000 in
theorem sto14_any (k : Nat) (q : Rat) (v : Value) (w : World) (h : Ct w v k q) (hk : k ≤ 10000) (hk2 : 2 ≤ k) :
    Calls Try.prog 14 #[v] w fun e w' => e = .returned (.int .i64 (to14 q)) ∧ Below w.heap.size w w' := by
  have hX := h
  obtain ⟨n, xs, ys, ⟨a, c, a', c', rfl, _, _⟩, hz1⟩ := h
  clear hz1
  obtain ⟨z, hz⟩ : ∃ z, to14 q = z := ⟨_, rfl⟩
  rw [hz]
  have HZ : Hid (to14 q = z) := hz
  clear hz
  obtain ⟨s1, hs1⟩ : ∃ s, sgnQ (q - ((1 : Int) : Rat)) = s := ⟨_, rfl⟩
  obtain ⟨s2, hs2⟩ : ∃ s, sgnQ (q - ((-1 : Int) : Rat)) = s := ⟨_, rfl⟩
  have HS1 : Hid (sgnQ (q - ((1 : Int) : Rat)) = s1) := hs1
  have HS2 : Hid (sgnQ (q - ((-1 : Int) : Rat)) = s2) := hs2
  clear hs1 hs2
  go_enter Try.func14, Try.ntmps14
  go_wp2_with fail
  obtain ⟨W, hW, B1, hbW⟩ : ∃ W, W = w.alloc (.cells #[.bool n, .slice a xs.length c, .slice a' ys.length c'] 34) ∧ Box 34 W w.heap.size (.bool n) (.slice a xs.length c) (.slice a' ys.length c') ∧ Below w.heap.size w W := ⟨_, rfl, Box.new _ _ _ _ _, al1 _⟩
  rw [← hW]
  clear hW
  replace hX := hX.below hbW
  obtain ⟨p1, p2, p3, _⟩ := B1.cells
  go_region_held3 (fun u => u.cell? ⟨w.heap.size, 0, none⟩ = some (.bool n) ∧ u.cell? ⟨w.heap.size, 1, none⟩ = some (.slice a xs.length c) ∧ u.cell? ⟨w.heap.size, 2, none⟩ = some (.slice a' ys.length c')) (go_keep)
    (first
      | (go_at_call 35
         refine (swhole_any (1) _ (by decide) (by decide)).mono ?_
         rintro e u1 ⟨v1, rfl, hF1, hb1⟩
         replace hb1 : Below W.heap.size W u1 := Below.drew1.trans hb1
         replace hX := hX.below hb1
         replace B1 := B1.below hb1
         replace hbW : Below w.heap.size w u1 := hbW.trans (hb1.mono hbW.size)
         clear hb1 p1 p2 p3
         obtain ⟨p1, p2, p3, _⟩ := B1.cells)
      | (go_at_call 34
         refine (scmp_any k 2 q ((1 : Int) : Rat) _ _ _ hX hF1.ct ?_ (by decide) hk2 (by decide)).mono ?_
         · omega
         rintro e u2 ⟨rfl, hb2⟩
         rw [HS1.out]
         replace hX := hX.below hb2
         replace B1 := B1.below hb2
         replace hbW : Below w.heap.size w u2 := hbW.trans (hb2.mono hbW.size)
         clear hb2 hF1 p1 p2 p3
         obtain ⟨p1, p2, p3, _⟩ := B1.cells))
  by_cases h1 : 1 ≤ q
  · have g1 : (0 : Int) ≤ s1 := by rw [← HS1.out]; exact sgn_ge.2 (by grind)
    have HQ : Hid (to14 q = 16384) := to14_one h1
    clear h1
    go_wp2
    go_ret
    exact ⟨ret_num (by rw [← HZ.out, HQ.out]), hbW⟩
  have g1 : s1 < 0 := by
    rw [← HS1.out]
    refine Int.not_le.1 fun hh => h1 ?_
    have := sgn_ge.1 hh
    grind
  have L1 : Hid (q < 1) := by show q < 1; grind
  clear h1
  go_wp2_with fail
  go_region_held3 (fun u => u.cell? ⟨w.heap.size, 0, none⟩ = some (.bool n) ∧ u.cell? ⟨w.heap.size, 1, none⟩ = some (.slice a xs.length c) ∧ u.cell? ⟨w.heap.size, 2, none⟩ = some (.slice a' ys.length c')) (go_keep)
    (first
      | (go_at_call 35
         refine (swhole_any (-1) _ (by decide) (by decide)).mono ?_
         rintro e u3 ⟨v1, rfl, hF1, hb1⟩
         replace hb1 : Below u2.heap.size u2 u3 := Below.drew1.trans hb1
         replace hX := hX.below hb1
         replace B1 := B1.below hb1
         replace hbW : Below w.heap.size w u3 := hbW.trans (hb1.mono hbW.size)
         clear hb1 p1 p2 p3
         obtain ⟨p1, p2, p3, _⟩ := B1.cells)
      | (go_at_call 34
         refine (scmp_any k 2 q ((-1 : Int) : Rat) _ _ _ hX hF1.ct ?_ (by decide) hk2 (by decide)).mono ?_
         · omega
         rintro e u4 ⟨rfl, hb2⟩
         rw [HS2.out]
         replace hX := hX.below hb2
         replace B1 := B1.below hb2
         replace hbW : Below w.heap.size w u4 := hbW.trans (hb2.mono hbW.size)
         clear hb2 hF1 p1 p2 p3
         obtain ⟨p1, p2, p3, _⟩ := B1.cells))
  clear g1
  by_cases h1 : q ≤ -1
  · have g1 : s2 ≤ 0 := by rw [← HS2.out]; exact sgn_le.2 (by grind)
    have HQ : Hid (to14 q = -16384) := to14_mone h1
    clear h1
    go_wp2
    go_ret
    exact ⟨ret_num (by rw [← HZ.out, HQ.out]), hbW⟩
  have g1 : 0 < s2 := by
    rw [← HS2.out]
    refine Int.not_le.1 fun hh => h1 ?_
    have := sgn_le.1 hh
    grind
  have L2 : Hid (-1 < q) := by show -1 < q; grind
  clear h1
  go_wp2_with fail
  go_region_held3 (fun u => u.cell? ⟨w.heap.size, 0, none⟩ = some (.bool n) ∧ u.cell? ⟨w.heap.size, 1, none⟩ = some (.slice a xs.length c) ∧ u.cell? ⟨w.heap.size, 2, none⟩ = some (.slice a' ys.length c')) (go_keep)
    (first
      | (go_at_call 35
         refine (swhole_any 16384 _ (by decide) (by decide)).mono ?_
         rintro e u5 ⟨v1, rfl, hF1, hb1⟩
         replace hb1 : Below u4.heap.size u4 u5 := Below.drew1.trans hb1
         replace hX := hX.below hb1
         replace B1 := B1.below hb1
         replace hbW : Below w.heap.size w u5 := hbW.trans (hb1.mono hbW.size)
         clear hb1 p1 p2 p3
         obtain ⟨p1, p2, p3, _⟩ := B1.cells)
      | (go_at_call 36
         refine (smul_any k 2 q ((16384 : Int) : Rat) _ _ _ hX hF1.ct ?_ (by decide) hk2 (by decide)).mono ?_
         · omega
         rintro e u6 ⟨v2, rfl, hF2, hb2⟩
         replace hX := hX.below hb2
         replace B1 := B1.below hb2
         replace hbW : Below w.heap.size w u6 := hbW.trans (hb2.mono hbW.size)
         clear hb2 hF1 p1 p2 p3
         obtain ⟨p1, p2, p3, _⟩ := B1.cells)
      | (go_at_call 31
         refine (sround_any (k + 2) (q * ((16384 : Int) : Rat)) _ _ hF2.ct ?_ ?_).mono ?_
         · omega
         · omega
         rintro e u7 ⟨rfl, hb3⟩
         replace hX := hX.below hb3
         replace B1 := B1.below hb3
         replace hbW : Below w.heap.size w u7 := hbW.trans (hb3.mono hbW.size)
         rw [show flN (q * ((16384 : Int) : Rat) + 1 / 2).floor = z from (to14_mid L2.out L1.out).trans HZ.out]
         generalize flB (q * ((16384 : Int) : Rat) + 1 / 2).floor = f7
         clear hb3 hF2 p1 p2 p3
         obtain ⟨p1, p2, p3, _⟩ := B1.cells))
  go_wp2
  go_ret
  exact ⟨rfl, hbW⟩

set_option maxHeartbeats 2000000 in
theorem sbetween_any (a b n d : Int) (w : World) (ha : -9223372036854775808 ≤ a ∧ a < 9223372036854775808) (hb : -9223372036854775808 ≤ b ∧ b < 9223372036854775808) (hn : -9223372036854775808 ≤ n ∧ n < 9223372036854775808) (hd : -9223372036854775808 ≤ d ∧ d < 9223372036854775808) :
    Calls Try.prog 23 #[.int .i64 a, .int .i64 b, .int .i64 n, .int .i64 d] w fun e w' => ∃ v', e = .returned v' ∧ Fr w' v' 7 (btw a b n d) ∧ Below w.heap.size w w' := by
  have zero : nr4 a b n d = false → ∀ u : World, Box 34 u w.heap.size (.bool false) (.slice none 0 0) (.slice none 0 0) → Below w.heap.size w u →
      Calls Try.prog 41 #[] u fun e w' => ∃ n' xs' ys' b1 d1 b2 d2, e = .returned (.agg #[.bool n', .slice b1 (List.length xs') d1, .slice b2 (List.length ys') d2]) ∧ Rd w' b1 d1 xs' ∧ Rd w' b2 d2 ys' ∧ (Fmd n' xs' ys' ∧ xs'.length ≤ 7 ∧ ys'.length ≤ 7 ∧ qv n' xs' ys' = btw a b n d) ∧ Box 34 w' w.heap.size (.bool false) (.slice none 0 0) (.slice none 0 0) ∧ Below w.heap.size w w' := by
    intro h4 u B1 hbW
    refine (szero_any u).mono ?_
    rintro e u1 ⟨v1, rfl, hF1, hb1⟩
    replace hF1 := (hF1.eq (r := btw a b n d) (by unfold btw; rw [h4]; rfl)).le (show 2 ≤ 7 by decide)
    obtain ⟨n', xs', ys', ⟨b, d, b', d', rfl, hx', hy'⟩, hF⟩ := hF1
    exact ⟨n', xs', ys', b, d, b', d', rfl, hx', hy', hF, B1.below hb1, hbW.trans (hb1.mono hbW.size)⟩
  obtain ⟨za, hza⟩ : ∃ z, nr a = z := ⟨_, rfl⟩
  obtain ⟨zb, hzb⟩ : ∃ z, nr b = z := ⟨_, rfl⟩
  obtain ⟨zn, hzn⟩ : ∃ z, nr n = z := ⟨_, rfl⟩
  obtain ⟨zd, hzd⟩ : ∃ z, nr d = z := ⟨_, rfl⟩
  have h4 : nr4 a b n d = (za && (zb && (zn && zd))) := by simp [nr4, hza, hzb, hzn, hzd]
  have N1 : Hid (nr a = za ∧ nr b = zb ∧ nr n = zn ∧ nr d = zd) := ⟨hza, hzb, hzn, hzd⟩
  have HZ : Hid (nr4 a b n d = false → ∀ u : World, Box 34 u w.heap.size (.bool false) (.slice none 0 0) (.slice none 0 0) → Below w.heap.size w u →
      Calls Try.prog 41 #[] u fun e w' => ∃ n' xs' ys' b1 d1 b2 d2, e = .returned (.agg #[.bool n', .slice b1 (List.length xs') d1, .slice b2 (List.length ys') d2]) ∧ Rd w' b1 d1 xs' ∧ Rd w' b2 d2 ys' ∧ (Fmd n' xs' ys' ∧ xs'.length ≤ 7 ∧ ys'.length ≤ 7 ∧ qv n' xs' ys' = btw a b n d) ∧ Box 34 w' w.heap.size (.bool false) (.slice none 0 0) (.slice none 0 0) ∧ Below w.heap.size w w') := zero
  clear zero hza hzb hzn hzd
  have H4 : Hid (nr4 a b n d = (za && (zb && (zn && zd)))) := h4
  clear h4
  by_cases hall : (za && (zb && (zn && zd))) = true
  · have h4 : nr4 a b n d = true := by rw [H4.out, hall]
    obtain ⟨ra, rb, rn, rd⟩ := nr4_all h4
    have HB : Hid (btw a b n d = (a : Rat) + ((b - a : Int) : Rat) * ((n : Rat) / (d : Rat))) := by
      show btw a b n d = _
      unfold btw
      rw [if_pos h4]
    obtain ⟨rfl, rfl, rfl, rfl⟩ : za = true ∧ zb = true ∧ zn = true ∧ zd = true := by simpa using hall
    clear h4 hall H4 HZ
    go_enter Try.func23, Try.ntmps23
    go_wp2_with fail
    refine (snear_any a _).mono ?_
    rintro e u ⟨rfl, rfl⟩
    rw [N1.out.1]
    go_wp2_with fail
    refine (snear_any b _).mono ?_
    rintro e u ⟨rfl, rfl⟩
    rw [N1.out.2.1]
    go_wp2_with fail
    refine (snear_any n _).mono ?_
    rintro e u ⟨rfl, rfl⟩
    rw [N1.out.2.2.1]
    go_wp2_with fail
    refine (snear_any d _).mono ?_
    rintro e u ⟨rfl, rfl⟩
    rw [N1.out.2.2.2]
    obtain ⟨W, hW, B1, hbW⟩ : ∃ W, W = w.alloc (.cells #[.bool false, .slice none 0 0, .slice none 0 0] 34) ∧ Box 34 W w.heap.size (.bool false) (.slice none 0 0) (.slice none 0 0) ∧ Below w.heap.size w W := ⟨_, rfl, Box.new _ _ _ _ _, al1 _⟩
    rw [← hW]
    clear hW
    go_wp2_with fail
    refine (swhole_any (b - a) _ (by omega) (by omega)).mono ?_
    rintro e u1 ⟨v1, rfl, hF1, hb1⟩
    replace B1 := B1.below hb1
    replace hbW : Below w.heap.size w u1 := hbW.trans (hb1.mono hbW.size)
    clear hb1
    go_wp2_with fail
    refine (smake_any n d _ (by omega) (by omega) (by omega) (by omega)).mono ?_
    rintro e u2 ⟨v2, rfl, hF2, hb2⟩
    replace B1 := B1.below hb2
    replace hF1 := hF1.below hb2
    replace hbW : Below w.heap.size w u2 := hbW.trans (hb2.mono hbW.size)
    clear hb2
    go_wp2_with fail
    refine (smul_any 2 2 _ _ _ _ _ hF1.ct hF2.ct (by decide) (by decide) (by decide) (by decide)).mono ?_
    rintro e u3 ⟨v3, rfl, hF3, hb3⟩
    replace B1 := B1.below hb3
    replace hbW : Below w.heap.size w u3 := hbW.trans (hb3.mono hbW.size)
    clear hb3 hF1 hF2
    have hX := hF3.ct
    obtain ⟨n3, x3, y3, ⟨a3, c3, b3, d3, rfl, _, _⟩, _⟩ := hF3
    have hs := B1.lt
    go_wp2_with fail
    obtain ⟨W2, hW2, B2, hb3⟩ : ∃ W2, W2 = u3.alloc (.cells #[.bool n3, .slice a3 x3.length c3, .slice b3 y3.length d3] 34) ∧ Box 34 W2 u3.heap.size (.bool n3) (.slice a3 x3.length c3) (.slice b3 y3.length d3) ∧ Below u3.heap.size u3 W2 := ⟨_, rfl, Box.new _ _ _ _ _, al1 _⟩
    rw [← hW2]
    clear hW2
    replace B1 := B1.below hb3
    replace hX := hX.below hb3
    replace hbW : Below w.heap.size w W2 := hbW.trans (hb3.mono hbW.size)
    clear hb3
    have hne : u3.heap.size ≠ w.heap.size := by omega
    clear hs
    generalize u3.heap.size = g at B2 hne ⊢
    obtain ⟨p1, p2, p3, _⟩ := B2.cells
    go_region_held3 (fun u => u.cell? ⟨g, 0, none⟩ = some (.bool n3) ∧ u.cell? ⟨g, 1, none⟩ = some (.slice a3 x3.length c3) ∧ u.cell? ⟨g, 2, none⟩ = some (.slice b3 y3.length d3)) (first | (go_keep; done) | (refine ⟨(cell_set3 hne).trans p1, (cell_set3 hne).trans p2, (cell_set3 hne).trans p3⟩))
      (first
        | (go_at_call 35
           refine (swhole_any a _ ?_ ?_).mono ?_
           · omega
           · omega
           rintro e u4 ⟨v4, rfl, hF4, hb4⟩
           replace hb4 : Below W2.heap.size W2 u4 := Below.drew1.trans hb4
           replace hX := hX.below hb4
           replace B1 := B1.below hb4
           replace B2 := B2.below hb4
           replace hbW : Below w.heap.size w u4 := hbW.trans (hb4.mono hbW.size)
           clear hb4 p1 p2 p3
           obtain ⟨p1, p2, p3, _⟩ := B2.cells)
        | (go_at_call 42
           refine (sadd_any 2 4 _ _ _ _ _ hF4.ct hX (by decide) (by decide) (by decide) (by decide)).mono ?_
           rintro e u5 ⟨v5, rfl, hF5, hb5⟩
           replace B1 := B1.below hb5
           replace B2 := B2.below hb5
           replace hbW : Below w.heap.size w u5 := hbW.trans (hb5.mono hbW.size)
           replace hF5 := hF5.eq HB.out.symm
           clear hb5 hF4 hX p1 p2 p3
           obtain ⟨p1, p2, p3, _⟩ := B2.cells
           obtain ⟨q1, q2, q3, q4, q5, q6⟩ := B1.cells
           have hs := B1.lt
           obtain ⟨n', xs', ys', ⟨e1, f1, e2, f2, rfl, hx', hy'⟩, hF⟩ := hF5))
    go_wp2
    refine ret3 (v := .agg #[.bool n', .slice e1 xs'.length f1, .slice e2 ys'.length f2]) B1 rfl (fun U hU => by obtain ⟨r1, r2, r3, _⟩ := hU.cells; simp [results, Try.results23, go_sem, r1, r2, r3]) (fun U hU hK => ⟨_, rfl, ⟨_, _, _, ⟨_, _, _, _, rfl, hK _ _ _ hx', hK _ _ _ hy'⟩, hF⟩, hU _ _ hbW (by omega)⟩)
  · have h4 : nr4 a b n d = false := by rw [H4.out]; simpa using hall
    replace HZ : Hid (∀ u : World, Box 34 u w.heap.size (.bool false) (.slice none 0 0) (.slice none 0 0) → Below w.heap.size w u →
      Calls Try.prog 41 #[] u fun e w' => ∃ n' xs' ys' b1 d1 b2 d2, e = .returned (.agg #[.bool n', .slice b1 (List.length xs') d1, .slice b2 (List.length ys') d2]) ∧ Rd w' b1 d1 xs' ∧ Rd w' b2 d2 ys' ∧ (Fmd n' xs' ys' ∧ xs'.length ≤ 7 ∧ ys'.length ≤ 7 ∧ qv n' xs' ys' = btw a b n d) ∧ Box 34 w' w.heap.size (.bool false) (.slice none 0 0) (.slice none 0 0) ∧ Below w.heap.size w w') := HZ.out h4
    have hc : za = false ∨ (za = true ∧ zb = false) ∨ (za = true ∧ zb = true ∧ zn = false) ∨ (za = true ∧ zb = true ∧ zn = true ∧ zd = false) := by
      cases za <;> cases zb <;> cases zn <;> cases zd <;> simp_all
    clear h4 hall H4
    rcases hc with rfl | ⟨rfl, rfl⟩ | ⟨rfl, rfl, rfl⟩ | ⟨rfl, rfl, rfl, rfl⟩
    · go_enter Try.func23, Try.ntmps23
      obtain ⟨W, hW, B1, hbW⟩ : ∃ W, W = w.alloc (.cells #[.bool false, .slice none 0 0, .slice none 0 0] 34) ∧ Box 34 W w.heap.size (.bool false) (.slice none 0 0) (.slice none 0 0) ∧ Below w.heap.size w W := ⟨_, rfl, Box.new _ _ _ _ _, al1 _⟩
      go_wp2_with fail
      refine (snear_any a _).mono ?_
      rintro e u ⟨rfl, rfl⟩
      rw [N1.out.1]
      rw [← hW]
      clear hW
      go_wp2_with fail
      refine (HZ.out _ B1 hbW).mono ?_
      clear B1 hbW
      rintro e u1 ⟨n', xs', ys', b1, d1, b2, d2, rfl, hx', hy', hF, B1, hbW⟩
      have hs := B1.lt
      obtain ⟨q1, q2, q3, q4, q5, q6⟩ := B1.cells
      go_wp2
      refine ret3 (v := .agg #[.bool n', .slice b1 xs'.length d1, .slice b2 ys'.length d2]) B1 rfl (fun U hU => by obtain ⟨r1, r2, r3, _⟩ := hU.cells; simp [results, Try.results23, go_sem, r1, r2, r3]) (fun U hU hK => ⟨_, rfl, ⟨_, _, _, ⟨_, _, _, _, rfl, hK _ _ _ hx', hK _ _ _ hy'⟩, hF⟩, hU _ _ hbW (by omega)⟩)
    · go_enter Try.func23, Try.ntmps23
      obtain ⟨W, hW, B1, hbW⟩ : ∃ W, W = w.alloc (.cells #[.bool false, .slice none 0 0, .slice none 0 0] 34) ∧ Box 34 W w.heap.size (.bool false) (.slice none 0 0) (.slice none 0 0) ∧ Below w.heap.size w W := ⟨_, rfl, Box.new _ _ _ _ _, al1 _⟩
      go_wp2_with fail
      refine (snear_any a _).mono ?_
      rintro e u ⟨rfl, rfl⟩
      rw [N1.out.1]
      go_wp2_with fail
      refine (snear_any b _).mono ?_
      rintro e u ⟨rfl, rfl⟩
      rw [N1.out.2.1]
      rw [← hW]
      clear hW
      go_wp2_with fail
      refine (HZ.out _ B1 hbW).mono ?_
      clear B1 hbW
      rintro e u1 ⟨n', xs', ys', b1, d1, b2, d2, rfl, hx', hy', hF, B1, hbW⟩
      have hs := B1.lt
      obtain ⟨q1, q2, q3, q4, q5, q6⟩ := B1.cells
      go_wp2
      refine ret3 (v := .agg #[.bool n', .slice b1 xs'.length d1, .slice b2 ys'.length d2]) B1 rfl (fun U hU => by obtain ⟨r1, r2, r3, _⟩ := hU.cells; simp [results, Try.results23, go_sem, r1, r2, r3]) (fun U hU hK => ⟨_, rfl, ⟨_, _, _, ⟨_, _, _, _, rfl, hK _ _ _ hx', hK _ _ _ hy'⟩, hF⟩, hU _ _ hbW (by omega)⟩)
    · go_enter Try.func23, Try.ntmps23
      obtain ⟨W, hW, B1, hbW⟩ : ∃ W, W = w.alloc (.cells #[.bool false, .slice none 0 0, .slice none 0 0] 34) ∧ Box 34 W w.heap.size (.bool false) (.slice none 0 0) (.slice none 0 0) ∧ Below w.heap.size w W := ⟨_, rfl, Box.new _ _ _ _ _, al1 _⟩
      go_wp2_with fail
      refine (snear_any a _).mono ?_
      rintro e u ⟨rfl, rfl⟩
      rw [N1.out.1]
      go_wp2_with fail
      refine (snear_any b _).mono ?_
      rintro e u ⟨rfl, rfl⟩
      rw [N1.out.2.1]
      go_wp2_with fail
      refine (snear_any n _).mono ?_
      rintro e u ⟨rfl, rfl⟩
      rw [N1.out.2.2.1]
      rw [← hW]
      clear hW
      go_wp2_with fail
      refine (HZ.out _ B1 hbW).mono ?_
      clear B1 hbW
      rintro e u1 ⟨n', xs', ys', b1, d1, b2, d2, rfl, hx', hy', hF, B1, hbW⟩
      have hs := B1.lt
      obtain ⟨q1, q2, q3, q4, q5, q6⟩ := B1.cells
      go_wp2
      refine ret3 (v := .agg #[.bool n', .slice b1 xs'.length d1, .slice b2 ys'.length d2]) B1 rfl (fun U hU => by obtain ⟨r1, r2, r3, _⟩ := hU.cells; simp [results, Try.results23, go_sem, r1, r2, r3]) (fun U hU hK => ⟨_, rfl, ⟨_, _, _, ⟨_, _, _, _, rfl, hK _ _ _ hx', hK _ _ _ hy'⟩, hF⟩, hU _ _ hbW (by omega)⟩)
    · go_enter Try.func23, Try.ntmps23
      obtain ⟨W, hW, B1, hbW⟩ : ∃ W, W = w.alloc (.cells #[.bool false, .slice none 0 0, .slice none 0 0] 34) ∧ Box 34 W w.heap.size (.bool false) (.slice none 0 0) (.slice none 0 0) ∧ Below w.heap.size w W := ⟨_, rfl, Box.new _ _ _ _ _, al1 _⟩
      go_wp2_with fail
      refine (snear_any a _).mono ?_
      rintro e u ⟨rfl, rfl⟩
      rw [N1.out.1]
      go_wp2_with fail
      refine (snear_any b _).mono ?_
      rintro e u ⟨rfl, rfl⟩
      rw [N1.out.2.1]
      go_wp2_with fail
      refine (snear_any n _).mono ?_
      rintro e u ⟨rfl, rfl⟩
      rw [N1.out.2.2.1]
      go_wp2_with fail
      refine (snear_any d _).mono ?_
      rintro e u ⟨rfl, rfl⟩
      rw [N1.out.2.2.2]
      rw [← hW]
      clear hW
      go_wp2_with fail
      refine (HZ.out _ B1 hbW).mono ?_
      clear B1 hbW
      rintro e u1 ⟨n', xs', ys', b1, d1, b2, d2, rfl, hx', hy', hF, B1, hbW⟩
      have hs := B1.lt
      obtain ⟨q1, q2, q3, q4, q5, q6⟩ := B1.cells
      go_wp2
      refine ret3 (v := .agg #[.bool n', .slice b1 xs'.length d1, .slice b2 ys'.length d2]) B1 rfl (fun U hU => by obtain ⟨r1, r2, r3, _⟩ := hU.cells; simp [results, Try.results23, go_sem, r1, r2, r3]) (fun U hU hK => ⟨_, rfl, ⟨_, _, _, ⟨_, _, _, _, rfl, hK _ _ _ hx', hK _ _ _ hy'⟩, hF⟩, hU _ _ hbW (by omega)⟩)

end Go.Proofs.Ythepikmllmfofaa
