/-
  ratio.floor, Floor, Round: the walks.
  foundryref01.Same, foundryref02.Same, foundrylaw02.plain, same, few, awake: the walks.
  fixed.Coordinate, Of14, Of16, Clamp, Field, To14: the walks.
  Fractions: integers as fractions, a fraction brought to -1 to 1, signs of differences (plain mathematics).
  Tents: whether they are formed, their parts, the parts of regions (plain mathematics).
-/
import Derived.Test.YtchdoakoelfenaaGreatZX12
import Derived.Deep.RegionHeld3
import Derived.Deep.QuietTactic
import Derived.BigQuiet
import Derived.Outline
namespace Go.Proofs.YtchdoakoelfenaaGreat
open Go.RowKit
set_option linter.unusedSimpArgs false
set_option linter.unusedVariables false

theorem floor_mk (a : Int) (b : Nat) (hb : b ≠ 0) : (mkRat a b).floor = a / (b : Int) := by
  have key : ∀ x : Int, (mkRat a b).floor < x ↔ a / (b : Int) < x := by
    intro x
    have hb' : (0 : Rat) < (b : Rat) := Rat.natCast_pos.2 (Nat.pos_of_ne_zero hb)
    rw [Rat.floor_lt_iff, Rat.mkRat_eq_div, Rat.div_lt_iff hb', Int.ediv_lt_iff_lt_mul (by omega)]
    rw [show ((b : Rat)) = (((b : Int)) : Rat) from rfl, ← Rat.intCast_mul, Rat.intCast_lt_intCast]
  have h1 := (key (a / (b : Int) + 1)).2 (by omega)
  have h2 := (key ((mkRat a b).floor + 1)).1 (by omega)
  omega
theorem neg_ediv (x y : Nat) (hy : y ≠ 0) : (-(x : Int)) / (y : Int) = -((x / y + (if 0 < x % y then 1 else 0) : Nat) : Int) := by
  have h := Nat.div_add_mod x y
  have hl := Nat.mod_lt x (Nat.pos_of_ne_zero hy)
  generalize x / y = q at *
  generalize x % y = r at *
  subst h
  have hy' : (y : Int) ≠ 0 := by omega
  split
  · have : (-((y * q + r : Nat) : Int)) = (y - r : Int) + (y : Int) * (-(q : Int) - 1) := by push_cast; grind
    rw [this, Int.add_mul_ediv_left _ _ hy', Int.ediv_eq_zero_of_lt (by omega) (by omega)]; push_cast; omega
  · have : r = 0 := by omega
    subst this
    have : (-((y * q + 0 : Nat) : Int)) = (y : Int) * (-(q : Int)) := by push_cast; grind
    rw [this, Int.mul_ediv_cancel_left _ hy']; push_cast; omega

/-- Is it an int64? -/
def flB (z : Int) : Bool := decide (-9223372036854775808 ≤ z ∧ z < 9223372036854775808)
/-- It; else 0. -/
def flN (z : Int) : Int := if flB z = true then z else 0

theorem floor_pos {xs ys : List Nat} (hy : V ys ≠ 0) : (qv false xs ys).floor = ((V xs / V ys : Nat) : Int) := by
  unfold qv; rw [floor_mk _ _ hy]; simp [sg]
theorem floor_neg {xs ys : List Nat} (hy : V ys ≠ 0) : (qv true xs ys).floor = -((V xs / V ys + (if 0 < V xs % V ys then 1 else 0) : Nat) : Int) := by
  unfold qv; rw [floor_mk _ _ hy, show sg true (V xs) = -(V xs : Int) from rfl, neg_ediv _ _ hy]

theorem flB_pos (m : Nat) : flB (m : Int) = decide (m < 9223372036854775808) := by
  unfold flB; by_cases h : m < 9223372036854775808 <;> simp [h] <;> omega
theorem flB_neg (m : Nat) : flB (-(m : Int)) = decide (m ≤ 9223372036854775808) := by
  unfold flB; by_cases h : m ≤ 9223372036854775808 <;> simp [h] <;> omega

theorem flN_pos (m : Nat) : flN (m : Int) = if m < 9223372036854775808 then (m : Int) else 0 := by unfold flN; rw [flB_pos]; simp
theorem flN_neg (m : Nat) : flN (-(m : Int)) = if m ≤ 9223372036854775808 then -(m : Int) else 0 := by unfold flN; rw [flB_neg]; simp

theorem wrap_i64 (z : Int) : IntKind.i64.wrap z = if 9223372036854775808 ≤ z % 18446744073709551616 then z % 18446744073709551616 - 18446744073709551616 else z % 18446744073709551616 := by
  unfold IntKind.wrap; simp [IntKind.bits, IntKind.signed]

theorem back_pos {m : Nat} (h : m < 9223372036854775808) : wrap64 (m : Int) = (m : Int) := by
  unfold wrap64; omega
theorem back_neg {m : Nat} (h : m ≤ 9223372036854775808) : wrap64 (IntKind.u64.wrap (-(m : Int))) = -(m : Int) := by
  rw [wrap_u64]
  unfold wrap64
  by_cases h0 : m = 0
  · subst h0; rfl
  · have e : (-(m : Int)) % 18446744073709551616 = 18446744073709551616 - (m : Int) := by omega
    rw [e]; omega

theorem ret_two {a b : Int} {c d : Bool} (h : a = b) (k : c = d) : Ending.returned (.tuple #[.int .i64 a, .bool c]) = .returned (.tuple #[.int .i64 b, .bool d]) := by rw [h, k]

set_option maxHeartbeats 2000000 in
set_option maxRecDepth 100000 in
theorem floor_any (k : Nat) (q : Rat) (v : Value) (w : World) (h : Lo w v k q) (hk : k ≤ 400000000) :
    Calls Tryz.prog 88 #[v] w fun e w' => e = .returned (.tuple #[.int .i64 (flN q.floor), .bool (flB q.floor)]) ∧ Below w.heap.size w w' := by
  obtain ⟨n, xs, ys, ⟨a, c, a', c', rfl, hx, hy⟩, tx, ty, y0, lx, ly, rfl⟩ := h
  go_enter Tryz.func88, Tryz.ntmps88
  go_wp2_with fail
  refine (div_any _ _ _ _ _ _ _ (hx.below (al1 _)) (hy.below (al1 _)) (by omega) (by omega)).mono ?_
  rintro e u1 ⟨a1, c1, zs, a2, c2, rs, rfl, hv1, hv2, ht1, ht2, hr1, hr2, hb1⟩
  obtain ⟨B1, hbW⟩ := after1 hb1
  have lz : zs.length ≤ 400000000 := by
    have h1 := V_len_le hx.lim lx
    have : zs.length ≤ k := len_le_of_V ht1 (by rw [hv1]; exact Nat.lt_of_le_of_lt (Nat.div_le_self _ _) h1)
    omega
  have lr : rs.length ≤ 400000000 := by
    have h1 := V_len_le hx.lim lx
    have : rs.length ≤ k := len_le_of_V ht2 (by rw [hv2, remN_pos _ (by omega)]; exact Nat.lt_of_le_of_lt (Nat.mod_le _ _) h1)
    omega
  have rz := hr1.rd
  rw [remN_pos _ (by omega)] at hv2
  clear hr1 hr2 hb1
  obtain ⟨p1, p2, p3, _⟩ := B1.cells
  cases n with
  | false =>
    have HF : Hid ((qv false xs ys).floor = ((V zs : Nat) : Int)) := by show _ = _; rw [floor_pos y0, hv1]
    clear hv1 hv2 hx hy
    go_wp2_with fail
    refine (small_any _ _ _ _ rz).mono ?_
    rintro e u ⟨rfl, rfl⟩
    clear rz
    generalize V zs = m at HF ⊢
    by_cases hm : m < 9223372036854775808
    · rw [smallN_lt (by omega), isSmall_lt (by omega)]
      have g1 : (m : Int) < 9223372036854775808 := by omega
      have HM : Hid (m < 9223372036854775808) := hm
      clear hm
      obtain ⟨z, hz⟩ : ∃ z : Int, (m : Int) = z := ⟨_, rfl⟩
      rw [hz] at g1 ⊢
      have HZ : Hid ((m : Int) = z) := hz
      clear hz
      go_wp2
      go_ret2
      exact ⟨ret_two (by rw [HF.out, flN_pos, if_pos HM.out, ← HZ.out]; exact back_pos HM.out) (by rw [HF.out, flB_pos]; simp [HM.out]), hbW⟩
    · by_cases hm2 : m < 18446744073709551616
      · rw [smallN_lt hm2, isSmall_lt hm2]
        have g1 : (9223372036854775808 : Int) ≤ (m : Int) := by omega
        go_wp2
        go_ret2
        exact ⟨ret_two (by rw [HF.out, flN_pos, if_neg hm]) (by rw [HF.out, flB_pos]; simp [hm]), hbW⟩
      · rw [smallN_ge hm2, isSmall_ge hm2]
        go_wp2
        go_ret2
        exact ⟨ret_two (by rw [HF.out, flN_pos, if_neg hm]) (by rw [HF.out, flB_pos]; simp [hm]), hbW⟩
  | true =>
    by_cases hrs : rs.length = 0
    · have hr0 : V rs = 0 := by rw [List.length_eq_zero_iff.1 hrs]; rfl
      have HF : Hid ((qv true xs ys).floor = -((V zs : Nat) : Int)) := by show _ = _; rw [floor_neg y0, hv1, ← hv2, hr0]; simp
      clear hv1 hv2 hx hy hr0
      have g0 : ¬ (0 : Int) < (rs.length : Int) := by omega
      clear hrs
      go_wp2_with fail
      refine (small_any _ _ _ _ rz).mono ?_
      rintro e u ⟨rfl, rfl⟩
      clear rz
      generalize V zs = m at HF ⊢
      by_cases hm : m ≤ 9223372036854775808
      · rw [smallN_lt (by omega), isSmall_lt (by omega)]
        have g1 : ¬ (9223372036854775808 : Int) < (m : Int) := by omega
        go_wp2
        go_ret2
        exact ⟨ret_two (by rw [HF.out, flN_neg, if_pos hm]; exact back_neg hm) (by rw [HF.out, flB_neg]; simp [hm]), hbW⟩
      · by_cases hm2 : m < 18446744073709551616
        · rw [smallN_lt hm2, isSmall_lt hm2]
          have g1 : (9223372036854775808 : Int) < (m : Int) := by omega
          go_wp2
          go_ret2
          exact ⟨ret_two (by rw [HF.out, flN_neg, if_neg hm]) (by rw [HF.out, flB_neg]; simp [hm]), hbW⟩
        · rw [smallN_ge hm2, isSmall_ge hm2]
          go_wp2
          go_ret2
          exact ⟨ret_two (by rw [HF.out, flN_neg, if_neg hm]) (by rw [HF.out, flB_neg]; simp [hm]), hbW⟩
    · have hr0 : 0 < V rs := by
        have := V_ne_of ht2 fun h => hrs (by rw [h]; rfl)
        omega
      have g0 : (0 : Int) < (rs.length : Int) := by omega
      go_wp2_with fail
      refine (of_any 1 _ (by decide)).mono ?_
      rintro e u2 ⟨a3, c3, os, rfl, hv3, ht3, hr3, hb3⟩
      have ro := hr3.rd
      replace rz := rz.below hb3
      replace hbW : Below w.heap.size w u2 := hbW.trans (hb3.mono hbW.size)
      have lo : os.length ≤ 2 := len_two ht3 (by omega)
      clear hr3 hb3 p1 p2 p3
      go_wp2_with fail
      refine (add_any _ _ _ _ _ _ _ rz ro (by omega) (by omega)).mono ?_
      rintro e u3 ⟨a4, c4, ws, rfl, hv4, ht4, hr4, hb4⟩
      have rw4 := hr4.rd
      replace hbW : Below w.heap.size w u3 := hbW.trans (hb4.mono hbW.size)
      have HF : Hid ((qv true xs ys).floor = -((V ws : Nat) : Int)) := by show _ = _; rw [floor_neg y0, hv4, hv1, hv3, ← hv2, if_pos hr0]
      clear hv1 hv2 hx hy hr0 hr4 hb4 rz ro hv4 hv3
      go_wp2_with fail
      refine (small_any _ _ _ _ rw4).mono ?_
      rintro e u ⟨rfl, rfl⟩
      clear rw4
      generalize V ws = m at HF ⊢
      by_cases hm : m ≤ 9223372036854775808
      · rw [smallN_lt (by omega), isSmall_lt (by omega)]
        have g1 : ¬ (9223372036854775808 : Int) < (m : Int) := by omega
        go_wp2
        go_ret2
        exact ⟨ret_two (by rw [HF.out, flN_neg, if_pos hm]; exact back_neg hm) (by rw [HF.out, flB_neg]; simp [hm]), hbW⟩
      · by_cases hm2 : m < 18446744073709551616
        · rw [smallN_lt hm2, isSmall_lt hm2]
          have g1 : (9223372036854775808 : Int) < (m : Int) := by omega
          go_wp2
          go_ret2
          exact ⟨ret_two (by rw [HF.out, flN_neg, if_neg hm]) (by rw [HF.out, flB_neg]; simp [hm]), hbW⟩
        · rw [smallN_ge hm2, isSmall_ge hm2]
          go_wp2
          go_ret2
          exact ⟨ret_two (by rw [HF.out, flN_neg, if_neg hm]) (by rw [HF.out, flB_neg]; simp [hm]), hbW⟩

theorem lo_half {w : World} {a a' : Option Addr} {c c' : Nat} {xs ys : List Nat} (hx : Rd w a c xs) (hy : Rd w a' c' ys) (tx : Tr xs) (ty : Tr ys) (vx : V xs = 1) (vy : V ys = 2) :
    Lo w (.agg #[.bool false, .slice a xs.length c, .slice a' ys.length c']) 2 (1 / 2) := by
  refine ⟨_, _, _, ⟨_, _, _, _, rfl, hx, hy⟩, tx, ty, by omega, len_two tx (by omega), len_two ty (by omega), ?_⟩
  unfold qv
  rw [vx, vy, Rat.mkRat_eq_div]
  rfl

set_option maxHeartbeats 2000000 in
set_option maxRecDepth 100000 in
theorem qround_any (k : Nat) (q : Rat) (v : Value) (w : World) (h : Ct w v k q) (hk : k ≤ 100000000) (hk2 : 2 ≤ k) :
    Calls Tryz.prog 71 #[v] w fun e w' => e = .returned (.tuple #[.int .i64 (flN (q + 1 / 2).floor), .bool (flB (q + 1 / 2).floor)]) ∧ Below w.heap.size w w' := by
  have hX := h
  obtain ⟨n, xs, ys, ⟨a, c, a', c', rfl, hx, hy⟩, lx, ly, hq⟩ := h
  clear hq hx hy lx ly
  go_enter Tryz.func71, Tryz.ntmps71
  go_wp2_with fail
  refine (of_any 1 _ (by decide)).mono ?_
  rintro e u1 ⟨a1, c1, os, rfl, hv1, ht1, hr1, hb1⟩
  obtain ⟨B1, hbW⟩ := after1 hb1
  replace hX := (hX.below (al1 _)).below hb1
  have ro := hr1.rd
  clear hr1 hb1
  go_wp2_with fail
  refine (of_any 2 _ (by decide)).mono ?_
  rintro e u2 ⟨a2, c2, ts, rfl, hv2, ht2, hr2, hb2⟩
  replace B1 := B1.below hb2
  replace hX := hX.below hb2
  replace ro := ro.below hb2
  replace hbW : Below w.heap.size w u2 := hbW.trans (hb2.mono hbW.size)
  have rt := hr2.rd
  clear hr2 hb2
  go_wp2_with fail
  obtain ⟨W, hW, B2, hW2⟩ : ∃ W, W = u2.alloc (Obj.cells #[Value.bool false, Value.slice a1 os.length c1, Value.slice a2 ts.length c2] 109) ∧ Box 109 W u2.heap.size (.bool false) (.slice a1 os.length c1) (.slice a2 ts.length c2) ∧ Below u2.heap.size u2 W := ⟨_, rfl, Box.new _ _ _ _ _, al1 _⟩
  rw [← hW]
  clear hW
  replace B1 := B1.below hW2
  replace hX := hX.below hW2
  have hH : Lo W (.agg #[.bool false, .slice a1 os.length c1, .slice a2 ts.length c2]) 2 (1 / 2) := (lo_half ro rt ht1 ht2 hv1 hv2).below hW2
  replace hbW : Below w.heap.size w W := hbW.trans (hW2.mono hbW.size)
  clear hW2 ro rt
  generalize u2.heap.size = bh at B2 ⊢
  obtain ⟨p1, p2, p3, _⟩ := B1.cells
  obtain ⟨p4, p5, p6, _⟩ := B2.cells
  go_region_held3 (fun u => u.cell? ⟨w.heap.size, 0, none⟩ = some (.bool n) ∧ u.cell? ⟨w.heap.size, 1, none⟩ = some (.slice a xs.length c) ∧ u.cell? ⟨w.heap.size, 2, none⟩ = some (.slice a' ys.length c') ∧ u.cell? ⟨bh, 0, none⟩ = some (.bool false) ∧ u.cell? ⟨bh, 1, none⟩ = some (.slice a1 os.length c1) ∧ u.cell? ⟨bh, 2, none⟩ = some (.slice a2 ts.length c2)) (go_keep)
    (first
      | (go_at_call 90
         refine (counted_any k q _ _ (hX.below Below.drew1) ?_ ?_).mono ?_
         · omega
         · omega
         rintro e u3 ⟨v3, rfl, hF3, hb3⟩
         replace hb3 : Below W.heap.size W u3 := Below.drew1.trans hb3
         replace hH := hH.below hb3
         replace B1 := B1.below hb3
         replace B2 := B2.below hb3
         replace hbW : Below w.heap.size w u3 := hbW.trans (hb3.mono hbW.size)
         clear hb3 hX p1 p2 p3 p4 p5 p6
         obtain ⟨p1, p2, p3, _⟩ := B1.cells
         obtain ⟨p4, p5, p6, _⟩ := B2.cells)
      | (go_at_call 89
         refine (plus_any k 2 q (1 / 2) _ _ _ hF3.lo hH ?_ ?_).mono ?_
         · omega
         · omega
         rintro e u4 ⟨v4, rfl, hL, hb4⟩
         replace B1 := B1.below hb4
         replace B2 := B2.below hb4
         replace hbW : Below w.heap.size w u4 := hbW.trans (hb4.mono hbW.size)
         clear hb4 hF3 hH p1 p2 p3 p4 p5 p6
         obtain ⟨p1, p2, p3, _⟩ := B1.cells
         obtain ⟨p4, p5, p6, _⟩ := B2.cells)
      | (go_at_call 88
         refine (floor_any (k + 2 + 1) _ _ _ hL ?_).mono ?_
         · omega
         rintro e u5 ⟨rfl, hb5⟩
         replace B1 := B1.below hb5
         replace B2 := B2.below hb5
         replace hbW : Below w.heap.size w u5 := hbW.trans (hb5.mono hbW.size)
         clear hb5 hL p1 p2 p3 p4 p5 p6
         obtain ⟨p1, p2, p3, _⟩ := B1.cells
         obtain ⟨p4, p5, p6, _⟩ := B2.cells))
  go_wp2
  go_ret2
  exact ⟨rfl, hbW⟩

end Go.Proofs.YtchdoakoelfenaaGreat

namespace Go.Proofs.YtchdoakoelfenaaGreat
open Go.RowKit
set_option linter.unusedSimpArgs false
set_option linter.unusedVariables false

/-- A fraction lies in block b of U; all else is as it was in u. -/
def Sto (t : TypeId) (u U : World) (b : Nat) (x y z : Value) : Prop :=
  Box t U b x y z ∧ (∀ B w, Below B w u → B ≤ b → Below B w U) ∧ (∀ a c xs, Rd u a c xs → Rd U a c xs) ∧ (∀ t' k x y z, k ≠ b → Box t' u k x y z → Box t' U k x y z)
theorem sto_set {t : TypeId} {u : World} {b : Nat} {n : Bool} {a a' : Option Addr} {l c l' c' : Nat} (B : Box t u b (.bool n) (.slice a l c) (.slice a' l' c')) (x' y' z' : Value) :
    Sto t u (((u.setCell ⟨b, 0, none⟩ x').setCell ⟨b, 1, none⟩ y').setCell ⟨b, 2, none⟩ z') b x' y' z' := by
  obtain ⟨U, rfl, h1, h2, h3, h4⟩ := set3_world B x' y' z'
  exact ⟨h1, h2, h3, fun _ _ _ _ _ hk hB => hB.other h4 hk⟩
theorem sto_new (t : TypeId) (u : World) (x y z : Value) : Sto t u (u.alloc (.cells #[x, y, z] t)) u.heap.size x y z :=
  ⟨Box.new _ _ _ _ _, fun _ _ h hb => h.alloc hb _, fun _ _ _ h => h.below (al1 _), fun _ _ _ _ _ _ hB => hB.alloc _⟩
theorem Ct.sto {t : TypeId} {u U : World} {b : Nat} {x y z v : Value} {k : Nat} {q : Rat} (h : Ct u v k q) (s : Sto t u U b x y z) : Ct U v k q := by
  obtain ⟨n0, x0, y0, ⟨e1, e2, e3, e4, e5, e6, e7⟩, e8⟩ := h
  exact ⟨n0, x0, y0, ⟨e1, e2, e3, e4, e5, s.2.2.1 _ _ _ e6, s.2.2.1 _ _ _ e7⟩, e8⟩
theorem after1d {t : TypeId} {w u : World} {x y z : Value} (hb : Below (w.alloc (.cells #[x, y, z] t)).drew.heap.size (w.alloc (.cells #[x, y, z] t)).drew u) :
    Box t u w.heap.size x y z ∧ Below w.heap.size w u := after1 (Below.drew1.trans hb)
theorem al1d {w : World} (o : Obj) : Below w.heap.size w (w.alloc o).drew := (al1 o).drew
theorem al2d {w : World} (o o' : Obj) : Below w.heap.size w ((w.alloc o).alloc o').drew := (al2 o o').drew

/-- How far a statement has come (a mark for the walk). -/
def Stg (n : Nat) : Prop := n = n

theorem awake_round : ((5 : Rat) / 2 + 1 / 2).floor = 3 := by decide +kernel
end Go.Proofs.YtchdoakoelfenaaGreat

namespace Go.Proofs.YtchdoakoelfenaaGreat
open Go.RowKit
set_option linter.unusedSimpArgs false
set_option linter.unusedVariables false

/-- Whether a number is a coordinate. -/
def crd (z : Int) : Bool := decide (-16384 ≤ z ∧ z ≤ 16384)
/-- A number, brought to the coordinates. -/
def c14 (z : Int) : Int := if z < -16384 then -16384 else if 16384 < z then 16384 else z
/-- A fraction's coordinate. -/
def to14 (q : Rat) : Int := c14 (q * 16384 + 1 / 2).floor
/-- A number that is a field; else 0. -/
def fldN (z : Int) : Int := if -32768 ≤ z ∧ z ≤ 32767 then z else 0
/-- The error of a number that isn't. -/
def fldE (z : Int) : Int := if -32768 ≤ z ∧ z ≤ 32767 then 0 else 4
/-- Brought to least first, then to most. -/
def clp (n a b : Int) : Int := if b < (if n < a then a else n) then b else (if n < a then a else n)

theorem ret_two2 {a b c d : Int} (h : a = b) (k : c = d) : Ending.returned (.tuple #[.int .i64 a, .int .i64 c]) = .returned (.tuple #[.int .i64 b, .int .i64 d]) := by rw [h, k]
theorem ret_num {a b : Int} (h : a = b) : Ending.returned (.int .i64 a) = .returned (.int .i64 b) := by rw [h]

theorem wrap_i16 (z : Int) : IntKind.i16.wrap z = if 32768 ≤ z % 65536 then z % 65536 - 65536 else z % 65536 := by
  simp [IntKind.wrap, IntKind.bits, IntKind.signed]

set_option maxHeartbeats 400000 in
set_option maxRecDepth 100000 in
theorem coord_any (z : Int) (w : World) : Calls Tryz.prog 125 #[.int .i64 z] w fun e w' => e = .returned (.bool (crd z)) ∧ w = w' := by
  by_cases h1 : -16384 ≤ z
  · go_enter Tryz.func125, Tryz.ntmps125
    go_wp2
    go_ret
    exact ⟨ret_bool (by simp [crd, h1]), rfl⟩
  · go_enter Tryz.func125, Tryz.ntmps125
    go_wp2
    go_ret
    exact ⟨ret_bool (by simp [crd]; omega), rfl⟩

theorem coordB_any (z : Int) (w : World) : Calls Tryz.prog 125 #[.int .i64 z] w fun e w' => e = .returned (.bool (crd z)) ∧ Below w.heap.size w w' :=
  (coord_any z w).mono fun e w' h => ⟨h.1, h.2 ▸ Below.refl _ _⟩
set_option maxHeartbeats 1000000 in
set_option maxRecDepth 100000 in
theorem field_any (k : Nat) (q : Rat) (v : Value) (w : World) (h : Ct w v k q) (hk : k ≤ 100000000) (hk2 : 2 ≤ k) :
    Calls Tryz.prog 57 #[v] w fun e w' => e = .returned (.tuple #[.int .i64 (fldN (q + 1 / 2).floor), .int .i64 (fldE (q + 1 / 2).floor)]) ∧ Below w.heap.size w w' := by
  have hX := h
  obtain ⟨n, xs, ys, ⟨a, c, a', c', rfl, _, _⟩, hz1⟩ := h
  clear hz1
  obtain ⟨z, hz⟩ : ∃ z, (q + 1 / 2).floor = z := ⟨_, rfl⟩
  rw [hz]
  have HZ : Hid ((q + 1 / 2).floor = z) := hz
  clear hz
  have e34 : (-32768 ≤ z ∧ z ≤ 32767 ∧ fldN z = z ∧ fldE z = 0 ∧ flB z = true ∧ flN z = z) ∨ (¬ (-32768 ≤ z ∧ z ≤ 32767) ∧ fldN z = 0 ∧ fldE z = 4) := by
    by_cases h1 : -32768 ≤ z ∧ z ≤ 32767
    · have e1 : flB z = true := by unfold flB; exact decide_eq_true (by omega)
      exact .inl ⟨h1.1, h1.2, by unfold fldN; rw [if_pos h1], by unfold fldE; rw [if_pos h1], e1, by unfold flN; rw [if_pos e1]⟩
    · exact .inr ⟨h1, by unfold fldN; rw [if_neg h1], by unfold fldE; rw [if_neg h1]⟩
  rcases e34 with ⟨h1, h2, e3, e4, e1, e2⟩ | ⟨h1, e3, e4⟩
  · rw [e3, e4]
    have E1 : Hid (flB z = true ∧ flN z = z) := ⟨e1, e2⟩
    clear e1 e2 e3 e4
    go_enter Tryz.func57, Tryz.ntmps57
    go_wp2_with fail
    refine (qround_any k q _ _ (hX.below (al1 _)) hk hk2).mono ?_
    rintro e u1 ⟨rfl, hb1⟩
    obtain ⟨B1, hbW⟩ := after1 hb1
    clear hb1 hX
    rw [HZ.out, E1.out.1, E1.out.2]
    go_wp2
    go_ret2
    exact ⟨rfl, hbW⟩
  rw [e3, e4]
  clear e3 e4
  have h3 : z < -32768 ∨ 32767 < z := by omega
  clear h1
  by_cases h2 : flB z = true
  · have e2 : flN z = z := by unfold flN; rw [if_pos h2]
    have e5 : -9223372036854775808 ≤ z ∧ z < 9223372036854775808 := by unfold flB at h2; simpa using h2
    have E1 : Hid (flB z = true ∧ flN z = z) := ⟨h2, e2⟩
    have g1 : (wrap64 (IntKind.i16.wrap z) != z) = true := by
      rw [wrap_i16 z]
      simp
      unfold wrap64
      split <;> omega
    clear h2 e2
    go_enter Tryz.func57, Tryz.ntmps57
    go_wp2_with fail
    refine (qround_any k q _ _ (hX.below (al1 _)) hk hk2).mono ?_
    rintro e u1 ⟨rfl, hb1⟩
    obtain ⟨B1, hbW⟩ := after1 hb1
    clear hb1 hX
    rw [HZ.out, E1.out.1, E1.out.2]
    go_wp2
    go_ret2
    exact ⟨rfl, hbW⟩
  · have e1 : flB z = false := by simpa using h2
    have E1 : Hid (flB z = false) := e1
    clear h2 e1
    go_enter Tryz.func57, Tryz.ntmps57
    go_wp2_with fail
    refine (qround_any k q _ _ (hX.below (al1 _)) hk hk2).mono ?_
    rintro e u1 ⟨rfl, hb1⟩
    obtain ⟨B1, hbW⟩ := after1 hb1
    clear hb1 hX
    rw [HZ.out, E1.out]
    generalize flN z = y
    go_wp2
    go_ret2
    exact ⟨rfl, hbW⟩

end Go.Proofs.YtchdoakoelfenaaGreat

namespace Go.Proofs.YtchdoakoelfenaaGreat
open Go.RowKit
set_option linter.unusedSimpArgs false
set_option linter.unusedVariables false

theorem ri_pos {b : Int} (h : 0 < b) : (0 : Rat) < (b : Rat) := by
  have := Rat.intCast_lt_intCast.2 h
  simpa using this
theorem ri_le {a b : Int} (h : a ≤ b) : (a : Rat) ≤ (b : Rat) := Rat.intCast_le_intCast.2 h
/-- An integer's part of the way. -/
theorem ri_div_le {a b c d : Int} (hb : 0 < b) (h : a ≤ c * b) (hc : d = c) : ((a : Int) : Rat) / ((b : Int) : Rat) ≤ (d : Rat) := by
  subst hc
  rw [← Rat.not_lt, Rat.lt_div_iff (ri_pos hb), Rat.not_lt]
  have := ri_le h
  simpa [Rat.intCast_mul] using this
theorem ri_le_div {a b c : Int} (hb : 0 < b) (h : c * b ≤ a) : (c : Rat) ≤ ((a : Int) : Rat) / ((b : Int) : Rat) := by
  rw [← Rat.not_lt, Rat.div_lt_iff (ri_pos hb), Rat.not_lt]
  have := ri_le h
  simpa [Rat.intCast_mul] using this
theorem ri_div_mono {a c b : Int} (hb : 0 < b) (h : a ≤ c) : ((a : Int) : Rat) / ((b : Int) : Rat) ≤ ((c : Int) : Rat) / ((b : Int) : Rat) := by
  rw [← Rat.not_lt, Rat.lt_div_iff (ri_pos hb), Rat.not_lt, Rat.div_mul_cancel (by have := ri_pos hb; grind)]
  exact ri_le h

theorem ri_self {b : Int} (h : 0 < b) : ((b : Int) : Rat) / ((b : Int) : Rat) = 1 := by
  have h0 : ((b : Int) : Rat) ≠ 0 := by have := ri_pos h; grind
  have := Rat.mul_div_cancel (a := 1) h0
  rwa [Rat.one_mul] at this
/-- A fraction, brought to -1 to 1. -/
def clQ (q : Rat) : Rat := if q < ((-1 : Int) : Rat) then ((-1 : Int) : Rat) else if ((1 : Int) : Rat) < q then ((1 : Int) : Rat) else q
theorem clQ_in {q : Rat} (h1 : ((-1 : Int) : Rat) ≤ q) (h2 : q ≤ ((1 : Int) : Rat)) : clQ q = q := by
  rw [clQ, if_neg (Rat.not_lt.2 h1), if_neg (Rat.not_lt.2 h2)]
theorem sgn_pos {q r : Rat} : 0 < sgnQ (q - r) ↔ r < q := by
  unfold sgnQ
  by_cases h0 : q - r = 0
  · simp [h0]
    grind
  · rw [if_neg h0]
    by_cases h1 : q - r < 0
    · simp [h1]
      grind
    · simp [h1]
      grind
theorem sgn_neg {q r : Rat} : sgnQ (q - r) < 0 ↔ q < r := by
  unfold sgnQ
  by_cases h0 : q - r = 0
  · simp [h0]
    grind
  · rw [if_neg h0]
    by_cases h1 : q - r < 0
    · simp [h1]
      grind
    · simp [h1]
      grind
theorem sgn_lt0 {q : Rat} : sgnQ q < 0 ↔ q < 0 := by
  have := sgn_neg (q := q) (r := 0)
  have e : q - 0 = q := by grind
  rwa [e] at this
theorem sgn_eq0 {q r : Rat} : sgnQ (q - r) = 0 ↔ q = r := by
  unfold sgnQ
  by_cases h0 : q - r = 0
  · simp [h0]
    grind
  · rw [if_neg h0]
    by_cases h1 : q - r < 0
    · simp [h1]
      grind
    · simp [h1]
      grind
theorem sgn_bd (q : Rat) : -1 ≤ sgnQ q ∧ sgnQ q ≤ 1 := by
  unfold sgnQ
  repeat' split
  all_goals omega
theorem Ct.eq {w : World} {v : Value} {k : Nat} {q r : Rat} (h : Ct w v k q) (e : q = r) : Ct w v k r := e ▸ h
theorem Ct.le {w : World} {v : Value} {k k' : Nat} {q : Rat} (h : Ct w v k q) (hk : k ≤ k') : Ct w v k' q := by
  obtain ⟨n, xs, ys, h1, h2, h3, h4⟩ := h
  exact ⟨n, xs, ys, h1, by omega, by omega, h4⟩
theorem wrapi64 {z : Int} (h1 : -9223372036854775808 ≤ z) (h2 : z ≤ 9223372036854775807) : IntKind.i64.wrap z = z := by
  simp only [IntKind.wrap, IntKind.bits, IntKind.signed]
  simp
  omega

end Go.Proofs.YtchdoakoelfenaaGreat

namespace Go.Proofs.YtchdoakoelfenaaGreat
set_option linter.unusedSimpArgs false
set_option linter.unusedVariables false

/-- A tent: its start, its peak, its end. -/
structure Te where
  st : Int
  pk : Int
  en : Int
def Te.none : Te := ⟨0, 0, 0⟩
theorem crdT {z : Int} : crd z = true ↔ -16384 ≤ z ∧ z ≤ 16384 := by simp [crd]
/-- A formed tent. -/
def TfT (t : Te) : Prop := (-16384 ≤ t.st ∧ t.st ≤ 16384) ∧ (-16384 ≤ t.pk ∧ t.pk ≤ 16384) ∧ (-16384 ≤ t.en ∧ t.en ≤ 16384) ∧
  ((0 < t.pk ∧ 0 ≤ t.st ∧ t.st < t.pk ∧ (t.pk < t.en ∨ (t.pk = 16384 ∧ t.en = 16384))) ∨ (t.pk < 0 ∧ t.en ≤ 0 ∧ t.pk < t.en ∧ (t.st < t.pk ∨ (t.pk = -16384 ∧ t.st = -16384))) ∨ (t.pk = 0 ∧ t.st = 0 ∧ t.en = 0))
def tfB (t : Te) : Bool := decide ((-16384 ≤ t.st ∧ t.st ≤ 16384) ∧ (-16384 ≤ t.pk ∧ t.pk ≤ 16384) ∧ (-16384 ≤ t.en ∧ t.en ≤ 16384) ∧
  ((0 < t.pk ∧ 0 ≤ t.st ∧ t.st < t.pk ∧ (t.pk < t.en ∨ (t.pk = 16384 ∧ t.en = 16384))) ∨ (t.pk < 0 ∧ t.en ≤ 0 ∧ t.pk < t.en ∧ (t.st < t.pk ∨ (t.pk = -16384 ∧ t.st = -16384))) ∨ (t.pk = 0 ∧ t.st = 0 ∧ t.en = 0)))
theorem tfB_iff {t : Te} : tfB t = true ↔ TfT t := by unfold tfB TfT; exact decide_eq_true_iff
theorem tfB_no {t : Te} (h : ¬ TfT t) : tfB t = false := by
  rw [Bool.eq_false_iff]
  exact fun e => h (tfB_iff.1 e)
/-- A tent's part at a coordinate. -/
def paQ (t : Te) (c : Int) : Rat :=
  if tfB t && crd c then
    (if t.pk = 0 ∨ c = t.pk then 1 else if c ≤ t.st ∨ t.en ≤ c then 0 else if c < t.pk then ((c - t.st : Int) : Rat) / ((t.pk - t.st : Int) : Rat) else ((t.en - c : Int) : Rat) / ((t.en - t.pk : Int) : Rat))
  else 0
theorem paQ_no {t : Te} {c : Int} (h : ¬ (tfB t = true ∧ crd c = true)) : paQ t c = 0 := by
  rw [paQ, if_neg]
  rw [Bool.and_eq_true]
  exact h
theorem paQ_yes {t : Te} {c : Int} (h1 : tfB t = true) (h2 : crd c = true) : paQ t c = if t.pk = 0 ∨ c = t.pk then 1 else if c ≤ t.st ∨ t.en ≤ c then 0 else if c < t.pk then ((c - t.st : Int) : Rat) / ((t.pk - t.st : Int) : Rat) else ((t.en - c : Int) : Rat) / ((t.en - t.pk : Int) : Rat) := by
  rw [paQ, if_pos (by rw [h1, h2]; rfl)]
/-- It lies from 0 to 1. -/
theorem paQ_in (t : Te) (c : Int) : (0 : Rat) ≤ paQ t c ∧ paQ t c ≤ 1 := by
  have h01 : (0 : Rat) ≤ 1 := by decide +kernel
  by_cases h : tfB t = true ∧ crd c = true
  · rw [paQ_yes h.1 h.2]
    have hf := tfB_iff.1 h.1
    obtain ⟨f1, f2, f3, f4⟩ := hf
    by_cases g1 : t.pk = 0 ∨ c = t.pk
    · rw [if_pos g1]
      exact ⟨h01, Rat.le_refl⟩
    · rw [if_neg g1]
      by_cases g2 : c ≤ t.st ∨ t.en ≤ c
      · rw [if_pos g2]
        exact ⟨Rat.le_refl, h01⟩
      · rw [if_neg g2]
        by_cases g3 : c < t.pk
        · rw [if_pos g3]
          have a1 := ri_le_div (a := c - t.st) (b := t.pk - t.st) (c := 0) (by omega) (by omega)
          have a2 := ri_div_le (a := c - t.st) (b := t.pk - t.st) (c := 1) (d := 1) (by omega) (by omega) rfl
          exact ⟨by simpa using a1, by simpa using a2⟩
        · rw [if_neg g3]
          have a1 := ri_le_div (a := t.en - c) (b := t.en - t.pk) (c := 0) (by omega) (by omega)
          have a2 := ri_div_le (a := t.en - c) (b := t.en - t.pk) (c := 1) (d := 1) (by omega) (by omega) rfl
          exact ⟨by simpa using a1, by simpa using a2⟩
  · rw [paQ_no h]
    exact ⟨Rat.le_refl, h01⟩
theorem paQ_peak {t : Te} (h : tfB t = true) : paQ t t.pk = 1 := by
  have hf := tfB_iff.1 h
  rw [paQ_yes h (crdT.2 hf.2.1), if_pos (.inr rfl)]
theorem paQ_all {t : Te} {c : Int} (h : tfB t = true) (hc : crd c = true) (h0 : t.pk = 0) : paQ t c = 1 := by rw [paQ_yes h hc, if_pos (.inl h0)]
theorem paQ_out {t : Te} {c : Int} (h : tfB t = true) (h0 : t.pk ≠ 0) (hc : c < t.st ∨ t.en < c) : paQ t c = 0 := by
  obtain ⟨f1, f2, f3, f4⟩ := tfB_iff.1 h
  by_cases h2 : crd c = true
  · rw [paQ_yes h h2, if_neg (by omega), if_pos (by omega)]
  · exact paQ_no (fun e => h2 e.2)
theorem paQ_zero {t : Te} (h : tfB t = true) (h0 : t.pk ≠ 0) : paQ t 0 = 0 := by
  obtain ⟨f1, f2, f3, f4⟩ := tfB_iff.1 h
  rw [paQ_yes h (by decide), if_neg (by omega), if_pos (by omega)]
theorem half_of {a b : Int} (hb : 0 < b) (h : 2 * a = b) : ((a : Int) : Rat) / ((b : Int) : Rat) = ((1 : Int) : Rat) / ((2 : Int) : Rat) := by
  subst h
  have ha := ri_pos (b := a) (by omega)
  rw [Rat.intCast_mul, Rat.div_def, Rat.div_def, Rat.inv_mul_rev]
  generalize ((a : Int) : Rat) = r at *
  have h0 : r ≠ 0 := by grind
  have : r * r⁻¹ = 1 := Rat.mul_inv_cancel r h0
  have e : ((1 : Int) : Rat) = 1 := rfl
  rw [e]
  grind
/-- Half way it is one half. -/
theorem paQ_low {t : Te} (h : tfB t = true) (h0 : t.pk ≠ 0) (hl : t.st < t.pk) (d : Int) (hd : t.pk - t.st = 2 * d) : paQ t (t.st + d) = ((1 : Int) : Rat) / ((2 : Int) : Rat) := by
  obtain ⟨f1, f2, f3, f4⟩ := tfB_iff.1 h
  rw [paQ_yes h (crdT.2 (by omega)), if_neg (by omega), if_neg (by omega), if_pos (by omega)]
  exact half_of (by omega) (by omega)
theorem paQ_high {t : Te} (h : tfB t = true) (h0 : t.pk ≠ 0) (hl : t.pk < t.en) (d : Int) (hd : t.en - t.pk = 2 * d) : paQ t (t.pk + d) = ((1 : Int) : Rat) / ((2 : Int) : Rat) := by
  obtain ⟨f1, f2, f3, f4⟩ := tfB_iff.1 h
  rw [paQ_yes h (crdT.2 (by omega)), if_neg (by omega), if_neg (by omega), if_neg (by omega)]
  exact half_of (by omega) (by omega)

theorem getT {l : List Te} {k : Nat} (hk : k < l.length) : l.getD k Te.none = l[k] := by simp [List.getD, hk]
theorem getT_mem {l : List Te} {k : Nat} (hk : k < l.length) : l.getD k Te.none ∈ l := by rw [getT hk]; exact List.getElem_mem hk
/-- The part of the first k tents. -/
def alK (l : List Te) (cs : List Int) : Nat → Rat
  | 0 => 1
  | k + 1 => alK l cs k * paQ (l.getD k Te.none) (cs.getD k 0)
def alQ (l : List Te) (cs : List Int) : Rat := alK l cs l.length
theorem alK_succ (l : List Te) (cs : List Int) (k : Nat) : alK l cs (k + 1) = alK l cs k * paQ (l.getD k Te.none) (cs.getD k 0) := rfl
theorem alK_left {a b : List Te} {c d : List Int} (h : c.length = a.length) : ∀ k, k ≤ a.length → alK (a ++ b) (c ++ d) k = alK a c k := by
  intro k
  induction k with
  | zero => intro _; rfl
  | succ k ih =>
    intro hk
    have e1 : (a ++ b).getD k Te.none = a.getD k Te.none := by simp [List.getD, List.getElem?_append_left (show k < a.length by omega)]
    have e2 : (c ++ d).getD k 0 = c.getD k 0 := by simp [List.getD, List.getElem?_append_left (show k < c.length by omega)]
    rw [alK_succ, alK_succ, ih (by omega), e1, e2]
theorem alK_right {a b : List Te} {c d : List Int} (h : c.length = a.length) : ∀ k, alK (a ++ b) (c ++ d) (a.length + k) = alK a c a.length * alK b d k := by
  intro k
  induction k with
  | zero => rw [Nat.add_zero, alK_left h _ (Nat.le_refl _)]; show _ = _ * 1; rw [Rat.mul_one]
  | succ k ih =>
    have e1 : (a ++ b).getD (a.length + k) Te.none = b.getD k Te.none := by simp [List.getD, List.getElem?_append_right]
    have e2 : (c ++ d).getD (a.length + k) 0 = d.getD k 0 := by rw [← h]; simp [List.getD, List.getElem?_append_right]
    rw [← Nat.add_assoc, alK_succ, alK_succ, ih, e1, e2, Rat.mul_assoc]
/-- Two regions side by side. -/
theorem alQ_append {a b : List Te} {c d : List Int} (h : c.length = a.length) : alQ (a ++ b) (c ++ d) = alQ a c * alQ b d := by
  rw [alQ, List.length_append, alK_right h]
  rfl
/-- A region that is formed. -/
def rgB (l : List Te) (n : Int) : Bool := l.all tfB && decide ((l.length : Int) = n)
def evB (l : List Te) : Bool := l.all (fun t => decide (t.pk = 0))
theorem allT {l : List Te} {p : Te → Bool} : l.all p = true ↔ ∀ j, j < l.length → p (l.getD j Te.none) = true := by
  rw [List.all_eq_true]
  constructor
  · exact fun h j hj => h _ (getT_mem hj)
  · intro h x hx
    obtain ⟨j, hj, e⟩ := List.getElem_of_mem hx
    have := h j hj
    rw [getT hj, e] at this
    exact this
def pkK (l : List Te) (k : Nat) : List Int := (l.take k).map Te.pk
theorem pkK_len {l : List Te} {k : Nat} (h : k ≤ l.length) : (pkK l k).length = k := by simp [pkK]; omega
theorem pkK_succ {l : List Te} {k : Nat} (h : k < l.length) : pkK l (k + 1) = pkK l k ++ [(l.getD k Te.none).pk] := by
  rw [pkK, List.take_succ_eq_append_getElem h, List.map_append, getT h]
  rfl
theorem pkK_get {l : List Te} {i : Nat} (h : i < l.length) : (pkK l l.length).getD i 0 = (l.getD i Te.none).pk := by simp [pkK, List.getD, h]
/-- At its peaks a region's part is 1. -/
theorem alQ_peak {l : List Te} (h : l.all tfB = true) : alQ l (pkK l l.length) = 1 := by
  rw [allT] at h
  have : ∀ k, k ≤ l.length → alK l (pkK l l.length) k = 1 := by
    intro k
    induction k with
    | zero => intro _; rfl
    | succ k ih =>
      intro hk
      rw [alK_succ, ih (by omega), pkK_get (by omega), paQ_peak (h k (by omega)), Rat.mul_one]
  exact this _ (Nat.le_refl _)
theorem alK_pos (l : List Te) (cs : List Int) : ∀ k, (0 : Rat) ≤ alK l cs k := by
  intro k
  induction k with
  | zero => show (0 : Rat) ≤ 1; decide +kernel
  | succ k ih => rw [alK_succ]; exact Rat.mul_nonneg ih (paQ_in _ _).1
/-- Where all coordinates are 0 it is 0, unless it holds everywhere. -/
theorem alQ_start {l : List Te} (h : l.all tfB = true) : (evB l = true → alQ l [] = 1) ∧ (evB l = false → alQ l [] = 0) := by
  have hf := allT.1 h
  constructor
  · intro he
    have he := allT.1 he
    have : ∀ k, k ≤ l.length → alK l [] k = 1 := by
      intro k
      induction k with
      | zero => intro _; rfl
      | succ k ih =>
        intro hk
        have hz : (l.getD k Te.none).pk = 0 := by simpa using he k (by omega)
        rw [alK_succ, ih (by omega), List.getD_nil, paQ_all (hf k (by omega)) (by decide) hz, Rat.mul_one]
    exact this _ (Nat.le_refl _)
  · intro he
    have hx : ∃ j, j < l.length ∧ (l.getD j Te.none).pk ≠ 0 := by
      apply Classical.byContradiction
      intro hc
      have : evB l = true := allT.2 (fun j hj => by
        apply decide_eq_true
        apply Classical.byContradiction
        exact fun h0 => hc ⟨j, hj, h0⟩)
      rw [he] at this
      cases this
    obtain ⟨j, hj, h0⟩ := hx
    have : ∀ k, j < k → k ≤ l.length → alK l [] k = 0 := by
      intro k
      induction k with
      | zero => intro h1; omega
      | succ k ih =>
        intro h1 hk
        rw [alK_succ]
        by_cases e : j = k
        · subst e
          rw [List.getD_nil, paQ_zero (hf j hj) h0, Rat.mul_zero]
        · rw [ih (by omega) (by omega), Rat.zero_mul]
    exact this _ hj (Nat.le_refl _)

end Go.Proofs.YtchdoakoelfenaaGreat
