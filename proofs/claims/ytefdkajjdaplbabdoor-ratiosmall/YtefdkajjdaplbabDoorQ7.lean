/-
  ratio.floor, Floor, Round: the walks.
-/
import Derived.Test.YtefdkajjdaplbabDoorQ5
import Derived.Deep.RegionHeld3
namespace Go.Proofs.YtefdkajjdaplbabDoor
open Go.RowKit
set_option linter.unusedSimpArgs false
set_option linter.unusedVariables false

theorem floor_mk (a : Int) (b : Nat) (hb : b ≠ 0) : (mkRat a b).floor = a / (b : Int) := by
  have key : ∀ x : Int, (mkRat a b).floor < x ↔ a / (b : Int) < x := by
    intro x
    have hb' : (0 : Rat) < (b : Rat) := Rat.natCast_pos.2 (Nat.pos_of_ne_zero hb)
    rw [Rat.floor_lt_iff, Rat.mkRat_eq_div, Rat.div_lt_iff hb', Int.ediv_lt_iff_lt_mul (by omega)]
    rw [show ((b : Rat)) = (((b : Int)) : Rat) from rfl, ← Rat.intCast_mul, Rat.intCast_lt_intCast]
  have h1 := (key (a / (b : Int) + 1)).2 (by omega)
  have h2 := (key ((mkRat a b).floor + 1)).1 (by omega)
  omega
theorem neg_ediv (x y : Nat) (hy : y ≠ 0) : (-(x : Int)) / (y : Int) = -((x / y + (if 0 < x % y then 1 else 0) : Nat) : Int) := by
  have h := Nat.div_add_mod x y
  have hl := Nat.mod_lt x (Nat.pos_of_ne_zero hy)
  generalize x / y = q at *
  generalize x % y = r at *
  subst h
  have hy' : (y : Int) ≠ 0 := by omega
  split
  · have : (-((y * q + r : Nat) : Int)) = (y - r : Int) + (y : Int) * (-(q : Int) - 1) := by push_cast; grind
    rw [this, Int.add_mul_ediv_left _ _ hy', Int.ediv_eq_zero_of_lt (by omega) (by omega)]; push_cast; omega
  · have : r = 0 := by omega
    subst this
    have : (-((y * q + 0 : Nat) : Int)) = (y : Int) * (-(q : Int)) := by push_cast; grind
    rw [this, Int.mul_ediv_cancel_left _ hy']; push_cast; omega

/-- Is it an int64? -/
def flB (z : Int) : Bool := decide (-9223372036854775808 ≤ z ∧ z < 9223372036854775808)
/-- It; else 0. -/
def flN (z : Int) : Int := if flB z = true then z else 0

theorem floor_pos {xs ys : List Nat} (hy : V ys ≠ 0) : (qv false xs ys).floor = ((V xs / V ys : Nat) : Int) := by
  unfold qv; rw [floor_mk _ _ hy]; simp [sg]
theorem floor_neg {xs ys : List Nat} (hy : V ys ≠ 0) : (qv true xs ys).floor = -((V xs / V ys + (if 0 < V xs % V ys then 1 else 0) : Nat) : Int) := by
  unfold qv; rw [floor_mk _ _ hy, show sg true (V xs) = -(V xs : Int) from rfl, neg_ediv _ _ hy]

theorem flB_pos (m : Nat) : flB (m : Int) = decide (m < 9223372036854775808) := by
  unfold flB; by_cases h : m < 9223372036854775808 <;> simp [h] <;> omega
theorem flB_neg (m : Nat) : flB (-(m : Int)) = decide (m ≤ 9223372036854775808) := by
  unfold flB; by_cases h : m ≤ 9223372036854775808 <;> simp [h] <;> omega

theorem flN_pos (m : Nat) : flN (m : Int) = if m < 9223372036854775808 then (m : Int) else 0 := by unfold flN; rw [flB_pos]; simp
theorem flN_neg (m : Nat) : flN (-(m : Int)) = if m ≤ 9223372036854775808 then -(m : Int) else 0 := by unfold flN; rw [flB_neg]; simp

theorem wrap_i64 (z : Int) : IntKind.i64.wrap z = if 9223372036854775808 ≤ z % 18446744073709551616 then z % 18446744073709551616 - 18446744073709551616 else z % 18446744073709551616 := by
  unfold IntKind.wrap; simp [IntKind.bits, IntKind.signed]

theorem back_pos {m : Nat} (h : m < 9223372036854775808) : wrap64 (m : Int) = (m : Int) := by
  unfold wrap64; omega
theorem back_neg {m : Nat} (h : m ≤ 9223372036854775808) : wrap64 (IntKind.u64.wrap (-(m : Int))) = -(m : Int) := by
  rw [wrap_u64]
  unfold wrap64
  by_cases h0 : m = 0
  · subst h0; rfl
  · have e : (-(m : Int)) % 18446744073709551616 = 18446744073709551616 - (m : Int) := by omega
    rw [e]; omega

theorem ret_two {a b : Int} {c d : Bool} (h : a = b) (k : c = d) : Ending.returned (.tuple #[.int .i64 a, .bool c]) = .returned (.tuple #[.int .i64 b, .bool d]) := by rw [h, k]

set_option maxHeartbeats 2000000 in
set_option maxRecDepth 100000 in
theorem floor_any (k : Nat) (q : Rat) (v : Value) (w : World) (h : Lo w v k q) (hk : k ≤ 400000000) :
    Calls Tryd.prog 23 #[v] w fun e w' => e = .returned (.tuple #[.int .i64 (flN q.floor), .bool (flB q.floor)]) ∧ Below w.heap.size w w' := by
  obtain ⟨n, xs, ys, ⟨a, c, a', c', rfl, hx, hy⟩, tx, ty, y0, lx, ly, rfl⟩ := h
  go_enter Tryd.func23, Tryd.ntmps23
  go_wp2_with fail
  refine (div_any _ _ _ _ _ _ _ (hx.below (al1 _)) (hy.below (al1 _)) (by omega) (by omega)).mono ?_
  rintro e u1 ⟨a1, c1, zs, a2, c2, rs, rfl, hv1, hv2, ht1, ht2, hr1, hr2, hb1⟩
  obtain ⟨B1, hbW⟩ := after1 hb1
  have lz : zs.length ≤ 400000000 := by
    have h1 := V_len_le hx.lim lx
    have : zs.length ≤ k := len_le_of_V ht1 (by rw [hv1]; exact Nat.lt_of_le_of_lt (Nat.div_le_self _ _) h1)
    omega
  have lr : rs.length ≤ 400000000 := by
    have h1 := V_len_le hx.lim lx
    have : rs.length ≤ k := len_le_of_V ht2 (by rw [hv2, remN_pos _ (by omega)]; exact Nat.lt_of_le_of_lt (Nat.mod_le _ _) h1)
    omega
  have rz := hr1.rd
  rw [remN_pos _ (by omega)] at hv2
  clear hr1 hr2 hb1
  obtain ⟨p1, p2, p3, _⟩ := B1.cells
  cases n with
  | false =>
    have HF : Hid ((qv false xs ys).floor = ((V zs : Nat) : Int)) := by show _ = _; rw [floor_pos y0, hv1]
    clear hv1 hv2 hx hy
    go_wp2_with fail
    refine (small_any _ _ _ _ rz).mono ?_
    rintro e u ⟨rfl, rfl⟩
    clear rz
    generalize V zs = m at HF ⊢
    by_cases hm : m < 9223372036854775808
    · rw [smallN_lt (by omega), isSmall_lt (by omega)]
      have g1 : (m : Int) < 9223372036854775808 := by omega
      have HM : Hid (m < 9223372036854775808) := hm
      clear hm
      obtain ⟨z, hz⟩ : ∃ z : Int, (m : Int) = z := ⟨_, rfl⟩
      rw [hz] at g1 ⊢
      have HZ : Hid ((m : Int) = z) := hz
      clear hz
      go_wp2
      go_ret2
      exact ⟨ret_two (by rw [HF.out, flN_pos, if_pos HM.out, ← HZ.out]; exact back_pos HM.out) (by rw [HF.out, flB_pos]; simp [HM.out]), hbW⟩
    · by_cases hm2 : m < 18446744073709551616
      · rw [smallN_lt hm2, isSmall_lt hm2]
        have g1 : (9223372036854775808 : Int) ≤ (m : Int) := by omega
        go_wp2
        go_ret2
        exact ⟨ret_two (by rw [HF.out, flN_pos, if_neg hm]) (by rw [HF.out, flB_pos]; simp [hm]), hbW⟩
      · rw [smallN_ge hm2, isSmall_ge hm2]
        go_wp2
        go_ret2
        exact ⟨ret_two (by rw [HF.out, flN_pos, if_neg hm]) (by rw [HF.out, flB_pos]; simp [hm]), hbW⟩
  | true =>
    by_cases hrs : rs.length = 0
    · have hr0 : V rs = 0 := by rw [List.length_eq_zero_iff.1 hrs]; rfl
      have HF : Hid ((qv true xs ys).floor = -((V zs : Nat) : Int)) := by show _ = _; rw [floor_neg y0, hv1, ← hv2, hr0]; simp
      clear hv1 hv2 hx hy hr0
      have g0 : ¬ (0 : Int) < (rs.length : Int) := by omega
      clear hrs
      go_wp2_with fail
      refine (small_any _ _ _ _ rz).mono ?_
      rintro e u ⟨rfl, rfl⟩
      clear rz
      generalize V zs = m at HF ⊢
      by_cases hm : m ≤ 9223372036854775808
      · rw [smallN_lt (by omega), isSmall_lt (by omega)]
        have g1 : ¬ (9223372036854775808 : Int) < (m : Int) := by omega
        go_wp2
        go_ret2
        exact ⟨ret_two (by rw [HF.out, flN_neg, if_pos hm]; exact back_neg hm) (by rw [HF.out, flB_neg]; simp [hm]), hbW⟩
      · by_cases hm2 : m < 18446744073709551616
        · rw [smallN_lt hm2, isSmall_lt hm2]
          have g1 : (9223372036854775808 : Int) < (m : Int) := by omega
          go_wp2
          go_ret2
          exact ⟨ret_two (by rw [HF.out, flN_neg, if_neg hm]) (by rw [HF.out, flB_neg]; simp [hm]), hbW⟩
        · rw [smallN_ge hm2, isSmall_ge hm2]
          go_wp2
          go_ret2
          exact ⟨ret_two (by rw [HF.out, flN_neg, if_neg hm]) (by rw [HF.out, flB_neg]; simp [hm]), hbW⟩
    · have hr0 : 0 < V rs := by
        have := V_ne_of ht2 fun h => hrs (by rw [h]; rfl)
        omega
      have g0 : (0 : Int) < (rs.length : Int) := by omega
      go_wp2_with fail
      refine (of_any 1 _ (by decide)).mono ?_
      rintro e u2 ⟨a3, c3, os, rfl, hv3, ht3, hr3, hb3⟩
      have ro := hr3.rd
      replace rz := rz.below hb3
      replace hbW : Below w.heap.size w u2 := hbW.trans (hb3.mono hbW.size)
      have lo : os.length ≤ 2 := len_two ht3 (by omega)
      clear hr3 hb3 p1 p2 p3
      go_wp2_with fail
      refine (add_any _ _ _ _ _ _ _ rz ro (by omega) (by omega)).mono ?_
      rintro e u3 ⟨a4, c4, ws, rfl, hv4, ht4, hr4, hb4⟩
      have rw4 := hr4.rd
      replace hbW : Below w.heap.size w u3 := hbW.trans (hb4.mono hbW.size)
      have HF : Hid ((qv true xs ys).floor = -((V ws : Nat) : Int)) := by show _ = _; rw [floor_neg y0, hv4, hv1, hv3, ← hv2, if_pos hr0]
      clear hv1 hv2 hx hy hr0 hr4 hb4 rz ro hv4 hv3
      go_wp2_with fail
      refine (small_any _ _ _ _ rw4).mono ?_
      rintro e u ⟨rfl, rfl⟩
      clear rw4
      generalize V ws = m at HF ⊢
      by_cases hm : m ≤ 9223372036854775808
      · rw [smallN_lt (by omega), isSmall_lt (by omega)]
        have g1 : ¬ (9223372036854775808 : Int) < (m : Int) := by omega
        go_wp2
        go_ret2
        exact ⟨ret_two (by rw [HF.out, flN_neg, if_pos hm]; exact back_neg hm) (by rw [HF.out, flB_neg]; simp [hm]), hbW⟩
      · by_cases hm2 : m < 18446744073709551616
        · rw [smallN_lt hm2, isSmall_lt hm2]
          have g1 : (9223372036854775808 : Int) < (m : Int) := by omega
          go_wp2
          go_ret2
          exact ⟨ret_two (by rw [HF.out, flN_neg, if_neg hm]) (by rw [HF.out, flB_neg]; simp [hm]), hbW⟩
        · rw [smallN_ge hm2, isSmall_ge hm2]
          go_wp2
          go_ret2
          exact ⟨ret_two (by rw [HF.out, flN_neg, if_neg hm]) (by rw [HF.out, flB_neg]; simp [hm]), hbW⟩

theorem lo_half {w : World} {a a' : Option Addr} {c c' : Nat} {xs ys : List Nat} (hx : Rd w a c xs) (hy : Rd w a' c' ys) (tx : Tr xs) (ty : Tr ys) (vx : V xs = 1) (vy : V ys = 2) :
    Lo w (.agg #[.bool false, .slice a xs.length c, .slice a' ys.length c']) 2 (1 / 2) := by
  refine ⟨_, _, _, ⟨_, _, _, _, rfl, hx, hy⟩, tx, ty, by omega, len_two tx (by omega), len_two ty (by omega), ?_⟩
  unfold qv
  rw [vx, vy, Rat.mkRat_eq_div]
  rfl

set_option maxHeartbeats 2000000 in
set_option maxRecDepth 100000 in
theorem qround_any (k : Nat) (q : Rat) (v : Value) (w : World) (h : Ct w v k q) (hk : k ≤ 100000000) (hk2 : 2 ≤ k) :
    Calls Tryd.prog 11 #[v] w fun e w' => e = .returned (.tuple #[.int .i64 (flN (q + 1 / 2).floor), .bool (flB (q + 1 / 2).floor)]) ∧ Below w.heap.size w w' := by
  have hX := h
  obtain ⟨n, xs, ys, ⟨a, c, a', c', rfl, hx, hy⟩, lx, ly, hq⟩ := h
  clear hq hx hy lx ly
  go_enter Tryd.func11, Tryd.ntmps11
  go_wp2_with fail
  refine (of_any 1 _ (by decide)).mono ?_
  rintro e u1 ⟨a1, c1, os, rfl, hv1, ht1, hr1, hb1⟩
  obtain ⟨B1, hbW⟩ := after1 hb1
  replace hX := (hX.below (al1 _)).below hb1
  have ro := hr1.rd
  clear hr1 hb1
  go_wp2_with fail
  refine (of_any 2 _ (by decide)).mono ?_
  rintro e u2 ⟨a2, c2, ts, rfl, hv2, ht2, hr2, hb2⟩
  replace B1 := B1.below hb2
  replace hX := hX.below hb2
  replace ro := ro.below hb2
  replace hbW : Below w.heap.size w u2 := hbW.trans (hb2.mono hbW.size)
  have rt := hr2.rd
  clear hr2 hb2
  go_wp2_with fail
  obtain ⟨W, hW, B2, hW2⟩ : ∃ W, W = u2.alloc (Obj.cells #[Value.bool false, Value.slice a1 os.length c1, Value.slice a2 ts.length c2] 29) ∧ Box 29 W u2.heap.size (.bool false) (.slice a1 os.length c1) (.slice a2 ts.length c2) ∧ Below u2.heap.size u2 W := ⟨_, rfl, Box.new _ _ _ _ _, al1 _⟩
  rw [← hW]
  clear hW
  replace B1 := B1.below hW2
  replace hX := hX.below hW2
  have hH : Lo W (.agg #[.bool false, .slice a1 os.length c1, .slice a2 ts.length c2]) 2 (1 / 2) := (lo_half ro rt ht1 ht2 hv1 hv2).below hW2
  replace hbW : Below w.heap.size w W := hbW.trans (hW2.mono hbW.size)
  clear hW2 ro rt
  generalize u2.heap.size = bh at B2 ⊢
  obtain ⟨p1, p2, p3, _⟩ := B1.cells
  obtain ⟨p4, p5, p6, _⟩ := B2.cells
  go_region_held3 (fun u => u.cell? ⟨w.heap.size, 0, none⟩ = some (.bool n) ∧ u.cell? ⟨w.heap.size, 1, none⟩ = some (.slice a xs.length c) ∧ u.cell? ⟨w.heap.size, 2, none⟩ = some (.slice a' ys.length c') ∧ u.cell? ⟨bh, 0, none⟩ = some (.bool false) ∧ u.cell? ⟨bh, 1, none⟩ = some (.slice a1 os.length c1) ∧ u.cell? ⟨bh, 2, none⟩ = some (.slice a2 ts.length c2)) (go_keep)
    (first
      | (go_at_call 15
         refine (counted_any k q _ _ (hX.below Below.drew1) ?_ ?_).mono ?_
         · omega
         · omega
         rintro e u3 ⟨v3, rfl, hF3, hb3⟩
         replace hb3 : Below W.heap.size W u3 := Below.drew1.trans hb3
         replace hH := hH.below hb3
         replace B1 := B1.below hb3
         replace B2 := B2.below hb3
         replace hbW : Below w.heap.size w u3 := hbW.trans (hb3.mono hbW.size)
         clear hb3 hX p1 p2 p3 p4 p5 p6
         obtain ⟨p1, p2, p3, _⟩ := B1.cells
         obtain ⟨p4, p5, p6, _⟩ := B2.cells)
      | (go_at_call 24
         refine (plus_any k 2 q (1 / 2) _ _ _ hF3.lo hH ?_ ?_).mono ?_
         · omega
         · omega
         rintro e u4 ⟨v4, rfl, hL, hb4⟩
         replace B1 := B1.below hb4
         replace B2 := B2.below hb4
         replace hbW : Below w.heap.size w u4 := hbW.trans (hb4.mono hbW.size)
         clear hb4 hF3 hH p1 p2 p3 p4 p5 p6
         obtain ⟨p1, p2, p3, _⟩ := B1.cells
         obtain ⟨p4, p5, p6, _⟩ := B2.cells)
      | (go_at_call 23
         refine (floor_any (k + 2 + 1) _ _ _ hL ?_).mono ?_
         · omega
         rintro e u5 ⟨rfl, hb5⟩
         replace B1 := B1.below hb5
         replace B2 := B2.below hb5
         replace hbW : Below w.heap.size w u5 := hbW.trans (hb5.mono hbW.size)
         clear hb5 hL p1 p2 p3 p4 p5 p6
         obtain ⟨p1, p2, p3, _⟩ := B1.cells
         obtain ⟨p4, p5, p6, _⟩ := B2.cells))
  go_wp2
  go_ret2
  exact ⟨rfl, hbW⟩

end Go.Proofs.YtefdkajjdaplbabDoor
