/-
  ratio.Quo: the walk.
  ratio.floor, Floor, Round: the walks.
  DERIVED: THE SHELF's CONTRACTS AT THIS DUMP, IN PLAIN WORDS (tools/lay-plain.mjs out of 'TrydShelfMin.lean', which tools/lay-shelf.mjs wrote): THE SAME DECLARATIONS UNDER THE SAME NAMES: 'import', 'namespace', 'open', 'def', 'theorem' AND NOTHING ELSE: no command of the shelf's: FOR A HAND-IN. Each laying: the table of numbers ('.._ren') and one theorem, a field a fact of the dump's own or the kernel's comparison; each contract: ONE APPLICATION.
  The plain mathematics of decimal digits, in groups of nine.
  strconv.FormatUint at base 10; (*strings.Builder).WriteString, out of strings.Repeat's own laying.
-/
import Derived.Test.YtdholmnniccbcaaDoorZ7
import Derived.Deep.RegionHeld3
import Derived.Shelf.Strings.Builder1
import Derived.Shelf.Strconv.Itoa0
import Derived.Shelf.Strconv.Itoa1
import Derived.Shelf.LaysM
import Derived.Shelf.Strconv.Itoa2
import Derived.Shelf.Strings.Repeat
import Derived.Test.YtdholmnniccbcaaDoorProg
import Derived.Test.YtdholmnniccbcaaDoorZ1
import Derived.Lib.ItoaNum
import Derived.Lib.ItoaMem
import Derived.Lib.AppendIntMem
import Derived.Lib.Walk
import Derived.WalkKit
namespace Go.Proofs.YtdholmnniccbcaaDoor
open Go.RowKit Classical
set_option linter.unusedSimpArgs false
set_option linter.unusedVariables false

theorem Box.other {t : TypeId} {u U : World} {b k : Nat} {x y z : Value} (h : Box t u k x y z) (hU : ∀ j, j ≠ b → U.heap[j]? = u.heap[j]?) (hk : k ≠ b) : Box t U k x y z := (hU k hk).trans h

/-- A fraction is stored into a block that holds one. -/
theorem set3_world {t : TypeId} {u : World} {b : Nat} {n : Bool} {a a' : Option Addr} {l c l' c' : Nat} (B : Box t u b (.bool n) (.slice a l c) (.slice a' l' c')) (x' y' z' : Value) :
    ∃ U, U = (((u.setCell ⟨b, 0, none⟩ x').setCell ⟨b, 1, none⟩ y').setCell ⟨b, 2, none⟩ z') ∧ Box t U b x' y' z' ∧ (∀ B w, Below B w u → B ≤ b → Below B w U) ∧ (∀ a c xs, Rd u a c xs → Rd U a c xs) ∧ (∀ j, j ≠ b → U.heap[j]? = u.heap[j]?) :=
  ⟨_, rfl, B.set3 x' y' z', fun _ _ h hb => below_set3 h hb x' y' z', fun _ _ _ h => Rd.apart B (by simp [World.setCell]) (set3_other u b x' y' z') h, set3_other u b x' y' z'⟩
/-- Its two parts are put anew. -/
theorem set2_world {t : TypeId} {u : World} {b : Nat} {n : Bool} {a a' : Option Addr} {l c l' c' : Nat} (B : Box t u b (.bool n) (.slice a l c) (.slice a' l' c')) (y' z' : Value) :
    ∃ U, U = ((u.setCell ⟨b, 1, none⟩ y').setCell ⟨b, 2, none⟩ z') ∧ Box t U b (.bool n) y' z' ∧ (∀ B w, Below B w u → B ≤ b → Below B w U) ∧ (∀ a c xs, Rd u a c xs → Rd U a c xs) ∧ (∀ j, j ≠ b → U.heap[j]? = u.heap[j]?) := by
  have ho : ∀ j, j ≠ b → ((u.setCell ⟨b, 1, none⟩ y').setCell ⟨b, 2, none⟩ z').heap[j]? = u.heap[j]? := by
    intro j hj
    rw [Below.heap_setCell _ ⟨b, 2, none⟩ z' j hj, Below.heap_setCell _ ⟨b, 1, none⟩ y' j hj]
  refine ⟨_, rfl, ?_, fun _ _ h hb => (h.setCell (p := ⟨b, 1, none⟩) hb y').setCell (p := ⟨b, 2, none⟩) hb z', fun _ _ _ h => Rd.apart B (by simp [World.setCell]) ho h, ho⟩
  have h1 := heap_setCell_same u b 1 _ t y' B
  have h2 := heap_setCell_same _ b 2 _ t z' h1
  exact h2

theorem sgnQ_zero {q : Rat} : sgnQ q = 0 ↔ q = 0 := by
  unfold sgnQ
  refine ⟨fun h => ?_, fun h => by rw [if_pos h]⟩
  by_cases h0 : q = 0
  · exact h0
  · rw [if_neg h0] at h; split at h <;> cases h

theorem qv_inv (n : Bool) (xs ys : List Nat) (hx : V xs ≠ 0) : qv n ys xs = (qv n xs ys)⁻¹ := by
  unfold qv
  rw [← Rat.divInt_ofNat, ← Rat.divInt_ofNat, Rat.inv_divInt]
  by_cases hy : V ys = 0
  · rw [hy, sg_zero]
    simp [Rat.zero_divInt]
  · have h1 : sg n (V xs) ≠ 0 := by intro h; have := congrArg Int.natAbs h; rw [sg_natAbs] at this; exact hx this
    rw [Rat.divInt_eq_divInt_iff (by omega) h1]
    cases n <;> simp [sg] <;> grind

theorem Fr.zero_iff {w : World} {n : Bool} {xs ys : List Nat} (h : Fmd n xs ys) : qv n xs ys = 0 ↔ xs = [] := by
  rw [← Rat.num_eq_zero, h.parts.1]
  refine ⟨fun h0 => ?_, fun h0 => by rw [h0]; exact sg_zero n⟩
  have := congrArg Int.natAbs h0
  rw [sg_natAbs] at this
  exact eq_nil_of_V h.1 this

end Go.Proofs.YtdholmnniccbcaaDoor

namespace Go.Proofs.YtdholmnniccbcaaDoor
open Go.RowKit
set_option linter.unusedSimpArgs false
set_option linter.unusedVariables false

theorem floor_mk (a : Int) (b : Nat) (hb : b ≠ 0) : (mkRat a b).floor = a / (b : Int) := by
  have key : ∀ x : Int, (mkRat a b).floor < x ↔ a / (b : Int) < x := by
    intro x
    have hb' : (0 : Rat) < (b : Rat) := Rat.natCast_pos.2 (Nat.pos_of_ne_zero hb)
    rw [Rat.floor_lt_iff, Rat.mkRat_eq_div, Rat.div_lt_iff hb', Int.ediv_lt_iff_lt_mul (by omega)]
    rw [show ((b : Rat)) = (((b : Int)) : Rat) from rfl, ← Rat.intCast_mul, Rat.intCast_lt_intCast]
  have h1 := (key (a / (b : Int) + 1)).2 (by omega)
  have h2 := (key ((mkRat a b).floor + 1)).1 (by omega)
  omega
theorem neg_ediv (x y : Nat) (hy : y ≠ 0) : (-(x : Int)) / (y : Int) = -((x / y + (if 0 < x % y then 1 else 0) : Nat) : Int) := by
  have h := Nat.div_add_mod x y
  have hl := Nat.mod_lt x (Nat.pos_of_ne_zero hy)
  generalize x / y = q at *
  generalize x % y = r at *
  subst h
  have hy' : (y : Int) ≠ 0 := by omega
  split
  · have : (-((y * q + r : Nat) : Int)) = (y - r : Int) + (y : Int) * (-(q : Int) - 1) := by push_cast; grind
    rw [this, Int.add_mul_ediv_left _ _ hy', Int.ediv_eq_zero_of_lt (by omega) (by omega)]; push_cast; omega
  · have : r = 0 := by omega
    subst this
    have : (-((y * q + 0 : Nat) : Int)) = (y : Int) * (-(q : Int)) := by push_cast; grind
    rw [this, Int.mul_ediv_cancel_left _ hy']; push_cast; omega

/-- Is it an int64? -/
def flB (z : Int) : Bool := decide (-9223372036854775808 ≤ z ∧ z < 9223372036854775808)
/-- It; else 0. -/
def flN (z : Int) : Int := if flB z = true then z else 0

theorem floor_pos {xs ys : List Nat} (hy : V ys ≠ 0) : (qv false xs ys).floor = ((V xs / V ys : Nat) : Int) := by
  unfold qv; rw [floor_mk _ _ hy]; simp [sg]
theorem floor_neg {xs ys : List Nat} (hy : V ys ≠ 0) : (qv true xs ys).floor = -((V xs / V ys + (if 0 < V xs % V ys then 1 else 0) : Nat) : Int) := by
  unfold qv; rw [floor_mk _ _ hy, show sg true (V xs) = -(V xs : Int) from rfl, neg_ediv _ _ hy]

theorem flB_pos (m : Nat) : flB (m : Int) = decide (m < 9223372036854775808) := by
  unfold flB; by_cases h : m < 9223372036854775808 <;> simp [h] <;> omega
theorem flB_neg (m : Nat) : flB (-(m : Int)) = decide (m ≤ 9223372036854775808) := by
  unfold flB; by_cases h : m ≤ 9223372036854775808 <;> simp [h] <;> omega

theorem flN_pos (m : Nat) : flN (m : Int) = if m < 9223372036854775808 then (m : Int) else 0 := by unfold flN; rw [flB_pos]; simp
theorem flN_neg (m : Nat) : flN (-(m : Int)) = if m ≤ 9223372036854775808 then -(m : Int) else 0 := by unfold flN; rw [flB_neg]; simp

theorem wrap_i64 (z : Int) : IntKind.i64.wrap z = if 9223372036854775808 ≤ z % 18446744073709551616 then z % 18446744073709551616 - 18446744073709551616 else z % 18446744073709551616 := by
  unfold IntKind.wrap; simp [IntKind.bits, IntKind.signed]

theorem back_pos {m : Nat} (h : m < 9223372036854775808) : wrap64 (m : Int) = (m : Int) := by
  unfold wrap64; omega
theorem back_neg {m : Nat} (h : m ≤ 9223372036854775808) : wrap64 (IntKind.u64.wrap (-(m : Int))) = -(m : Int) := by
  rw [wrap_u64]
  unfold wrap64
  by_cases h0 : m = 0
  · subst h0; rfl
  · have e : (-(m : Int)) % 18446744073709551616 = 18446744073709551616 - (m : Int) := by omega
    rw [e]; omega

theorem ret_two {a b : Int} {c d : Bool} (h : a = b) (k : c = d) : Ending.returned (.tuple #[.int .i64 a, .bool c]) = .returned (.tuple #[.int .i64 b, .bool d]) := by rw [h, k]

set_option maxHeartbeats 2000000 in
set_option maxRecDepth 100000 in
theorem floor_any (k : Nat) (q : Rat) (v : Value) (w : World) (h : Lo w v k q) (hk : k ≤ 400000000) :
    Calls Tryd.prog 36 #[v] w fun e w' => e = .returned (.tuple #[.int .i64 (flN q.floor), .bool (flB q.floor)]) ∧ Below w.heap.size w w' := by
  obtain ⟨n, xs, ys, ⟨a, c, a', c', rfl, hx, hy⟩, tx, ty, y0, lx, ly, rfl⟩ := h
  go_enter Tryd.func36, Tryd.ntmps36
  go_wp2_with fail
  refine (div_any _ _ _ _ _ _ _ (hx.below (al1 _)) (hy.below (al1 _)) (by omega) (by omega)).mono ?_
  rintro e u1 ⟨a1, c1, zs, a2, c2, rs, rfl, hv1, hv2, ht1, ht2, hr1, hr2, hb1⟩
  obtain ⟨B1, hbW⟩ := after1 hb1
  have lz : zs.length ≤ 400000000 := by
    have h1 := V_len_le hx.lim lx
    have : zs.length ≤ k := len_le_of_V ht1 (by rw [hv1]; exact Nat.lt_of_le_of_lt (Nat.div_le_self _ _) h1)
    omega
  have lr : rs.length ≤ 400000000 := by
    have h1 := V_len_le hx.lim lx
    have : rs.length ≤ k := len_le_of_V ht2 (by rw [hv2, remN_pos _ (by omega)]; exact Nat.lt_of_le_of_lt (Nat.mod_le _ _) h1)
    omega
  have rz := hr1.rd
  rw [remN_pos _ (by omega)] at hv2
  clear hr1 hr2 hb1
  obtain ⟨p1, p2, p3, _⟩ := B1.cells
  cases n with
  | false =>
    have HF : Hid ((qv false xs ys).floor = ((V zs : Nat) : Int)) := by show _ = _; rw [floor_pos y0, hv1]
    clear hv1 hv2 hx hy
    go_wp2_with fail
    refine (small_any _ _ _ _ rz).mono ?_
    rintro e u ⟨rfl, rfl⟩
    clear rz
    generalize V zs = m at HF ⊢
    by_cases hm : m < 9223372036854775808
    · rw [smallN_lt (by omega), isSmall_lt (by omega)]
      have g1 : (m : Int) < 9223372036854775808 := by omega
      have HM : Hid (m < 9223372036854775808) := hm
      clear hm
      obtain ⟨z, hz⟩ : ∃ z : Int, (m : Int) = z := ⟨_, rfl⟩
      rw [hz] at g1 ⊢
      have HZ : Hid ((m : Int) = z) := hz
      clear hz
      go_wp2
      go_ret2
      exact ⟨ret_two (by rw [HF.out, flN_pos, if_pos HM.out, ← HZ.out]; exact back_pos HM.out) (by rw [HF.out, flB_pos]; simp [HM.out]), hbW⟩
    · by_cases hm2 : m < 18446744073709551616
      · rw [smallN_lt hm2, isSmall_lt hm2]
        have g1 : (9223372036854775808 : Int) ≤ (m : Int) := by omega
        go_wp2
        go_ret2
        exact ⟨ret_two (by rw [HF.out, flN_pos, if_neg hm]) (by rw [HF.out, flB_pos]; simp [hm]), hbW⟩
      · rw [smallN_ge hm2, isSmall_ge hm2]
        go_wp2
        go_ret2
        exact ⟨ret_two (by rw [HF.out, flN_pos, if_neg hm]) (by rw [HF.out, flB_pos]; simp [hm]), hbW⟩
  | true =>
    by_cases hrs : rs.length = 0
    · have hr0 : V rs = 0 := by rw [List.length_eq_zero_iff.1 hrs]; rfl
      have HF : Hid ((qv true xs ys).floor = -((V zs : Nat) : Int)) := by show _ = _; rw [floor_neg y0, hv1, ← hv2, hr0]; simp
      clear hv1 hv2 hx hy hr0
      have g0 : ¬ (0 : Int) < (rs.length : Int) := by omega
      clear hrs
      go_wp2_with fail
      refine (small_any _ _ _ _ rz).mono ?_
      rintro e u ⟨rfl, rfl⟩
      clear rz
      generalize V zs = m at HF ⊢
      by_cases hm : m ≤ 9223372036854775808
      · rw [smallN_lt (by omega), isSmall_lt (by omega)]
        have g1 : ¬ (9223372036854775808 : Int) < (m : Int) := by omega
        go_wp2
        go_ret2
        exact ⟨ret_two (by rw [HF.out, flN_neg, if_pos hm]; exact back_neg hm) (by rw [HF.out, flB_neg]; simp [hm]), hbW⟩
      · by_cases hm2 : m < 18446744073709551616
        · rw [smallN_lt hm2, isSmall_lt hm2]
          have g1 : (9223372036854775808 : Int) < (m : Int) := by omega
          go_wp2
          go_ret2
          exact ⟨ret_two (by rw [HF.out, flN_neg, if_neg hm]) (by rw [HF.out, flB_neg]; simp [hm]), hbW⟩
        · rw [smallN_ge hm2, isSmall_ge hm2]
          go_wp2
          go_ret2
          exact ⟨ret_two (by rw [HF.out, flN_neg, if_neg hm]) (by rw [HF.out, flB_neg]; simp [hm]), hbW⟩
    · have hr0 : 0 < V rs := by
        have := V_ne_of ht2 fun h => hrs (by rw [h]; rfl)
        omega
      have g0 : (0 : Int) < (rs.length : Int) := by omega
      go_wp2_with fail
      refine (of_any 1 _ (by decide)).mono ?_
      rintro e u2 ⟨a3, c3, os, rfl, hv3, ht3, hr3, hb3⟩
      have ro := hr3.rd
      replace rz := rz.below hb3
      replace hbW : Below w.heap.size w u2 := hbW.trans (hb3.mono hbW.size)
      have lo : os.length ≤ 2 := len_two ht3 (by omega)
      clear hr3 hb3 p1 p2 p3
      go_wp2_with fail
      refine (add_any _ _ _ _ _ _ _ rz ro (by omega) (by omega)).mono ?_
      rintro e u3 ⟨a4, c4, ws, rfl, hv4, ht4, hr4, hb4⟩
      have rw4 := hr4.rd
      replace hbW : Below w.heap.size w u3 := hbW.trans (hb4.mono hbW.size)
      have HF : Hid ((qv true xs ys).floor = -((V ws : Nat) : Int)) := by show _ = _; rw [floor_neg y0, hv4, hv1, hv3, ← hv2, if_pos hr0]
      clear hv1 hv2 hx hy hr0 hr4 hb4 rz ro hv4 hv3
      go_wp2_with fail
      refine (small_any _ _ _ _ rw4).mono ?_
      rintro e u ⟨rfl, rfl⟩
      clear rw4
      generalize V ws = m at HF ⊢
      by_cases hm : m ≤ 9223372036854775808
      · rw [smallN_lt (by omega), isSmall_lt (by omega)]
        have g1 : ¬ (9223372036854775808 : Int) < (m : Int) := by omega
        go_wp2
        go_ret2
        exact ⟨ret_two (by rw [HF.out, flN_neg, if_pos hm]; exact back_neg hm) (by rw [HF.out, flB_neg]; simp [hm]), hbW⟩
      · by_cases hm2 : m < 18446744073709551616
        · rw [smallN_lt hm2, isSmall_lt hm2]
          have g1 : (9223372036854775808 : Int) < (m : Int) := by omega
          go_wp2
          go_ret2
          exact ⟨ret_two (by rw [HF.out, flN_neg, if_neg hm]) (by rw [HF.out, flB_neg]; simp [hm]), hbW⟩
        · rw [smallN_ge hm2, isSmall_ge hm2]
          go_wp2
          go_ret2
          exact ⟨ret_two (by rw [HF.out, flN_neg, if_neg hm]) (by rw [HF.out, flB_neg]; simp [hm]), hbW⟩

set_option maxHeartbeats 1000000 in
set_option maxRecDepth 100000 in
theorem qfloor_any (k : Nat) (q : Rat) (v : Value) (w : World) (h : Ct w v k q) (hk : k ≤ 100000000) (hk2 : 2 ≤ k) :
    Calls Tryd.prog 21 #[v] w fun e w' => e = .returned (.tuple #[.int .i64 (flN q.floor), .bool (flB q.floor)]) ∧ Below w.heap.size w w' := by
  have hX := h
  obtain ⟨n, xs, ys, ⟨a, c, a', c', rfl, hx, hy⟩, lx, ly, hq⟩ := h
  clear hq hx hy lx ly
  go_enter Tryd.func21, Tryd.ntmps21
  go_wp2_with fail
  refine (counted_any k q _ _ (hX.below (al1 _)) (by omega) hk2).mono ?_
  rintro e u1 ⟨v1, rfl, hF1, hb1⟩
  obtain ⟨B1, hbW⟩ := after1 hb1
  clear hb1
  go_wp2_with fail
  refine (floor_any k q _ _ hF1.lo (by omega)).mono ?_
  rintro e u2 ⟨rfl, hb2⟩
  replace hbW : Below w.heap.size w u2 := hbW.trans (hb2.mono hbW.size)
  go_wp2
  go_ret2
  exact ⟨rfl, hbW⟩

theorem lo_half {w : World} {a a' : Option Addr} {c c' : Nat} {xs ys : List Nat} (hx : Rd w a c xs) (hy : Rd w a' c' ys) (tx : Tr xs) (ty : Tr ys) (vx : V xs = 1) (vy : V ys = 2) :
    Lo w (.agg #[.bool false, .slice a xs.length c, .slice a' ys.length c']) 2 (1 / 2) := by
  refine ⟨_, _, _, ⟨_, _, _, _, rfl, hx, hy⟩, tx, ty, by omega, len_two tx (by omega), len_two ty (by omega), ?_⟩
  unfold qv
  rw [vx, vy, Rat.mkRat_eq_div]
  rfl

end Go.Proofs.YtdholmnniccbcaaDoor

namespace Go.Proofs
open Go.Shelf
def Tryd.lays169_ren : Go.Shelf.Ren := ⟨fun | 169 => 46 | n => n, fun | 70 => 67 | 9 => 9 | 0 => 0 | 72 => 70 | 37 => 68 | 127 => 88 | 3 => 3 | 5 => 5 | n => n, fun | n => n⟩
theorem Tryd.lays169 : Go.Proofs.Lays.n169 Tryd.prog Tryd.lays169_ren := {
  mixed := by kernel_rfl
  f169 := Tryd.func46.trans (congrArg some (by kernel_rfl))
  t0 := Tryd.underlying0
  a0 := Tryd.isAgg0
  z0 := Tryd.sizeOf0
  v0 := Tryd.zeroValue0
  t3 := Tryd.underlying3
  a3 := Tryd.isAgg3
  z3 := Tryd.sizeOf3
  v3 := Tryd.zeroValue3
  t9 := Tryd.underlying9
  a9 := Tryd.isAgg9
  z9 := Tryd.sizeOf9
  v9 := Tryd.zeroValue9
  t37 := Tryd.underlying68
  a37 := Tryd.isAgg68
  z37 := Tryd.sizeOf68
  v37 := Tryd.zeroValue68
  t70 := Tryd.underlying67
  a70 := Tryd.isAgg67
  z70 := Tryd.sizeOf67
  v70 := Tryd.zeroValue67
  t72 := Tryd.underlying70
  a72 := Tryd.isAgg70
  z72 := Tryd.sizeOf70
  v72 := Tryd.zeroValue70
  t127 := Tryd.underlying88
  a127 := Tryd.isAgg88
  z127 := Tryd.sizeOf88
  v127 := Tryd.zeroValue88 }
theorem Tryd.Builder_Extra_169 : Builder.Extra Tryd.prog Tryd.lays169_ren := {
  sizeBuilder := by kernel_rfl
  liesBuilder := by kernel_rfl
  t5 := Tryd.underlying5
  a5 := Tryd.isAgg5
  z5 := Tryd.sizeOf5
  v5 := Tryd.zeroValue5
  infoByte := by kernel_rfl
  cellsByte := by kernel_rfl
  sizeByte := by kernel_rfl
  neB5 := by decide }
open Go.RowKit in
theorem Tryd.Builder_String_any (B b : Nat) (l : List UInt8) (w : World) (h : Lib.IsBuilder 70 5 B b (Lib.byteCells l) w) (hBw : B ≤ w.heap.size) :
    Calls Tryd.prog 46 #[.pointer (some ⟨b, 0, none⟩)] w fun e w' => e = .returned (.string ⟨l.toArray⟩) ∧ Below B w w' := Any.Builder_String_any Tryd.lays169 Tryd.Builder_Extra_169 B b l w h hBw
def Tryd.lays283_ren : Go.Shelf.Ren := ⟨fun | 283 => 70 | n => n, fun | 3 => 3 | 9 => 9 | 4 => 4 | n => n, fun | n => n⟩
theorem Tryd.lays283 : Go.Proofs.Lays.n283 Tryd.prog Tryd.lays283_ren := {
  mixed := by kernel_rfl
  f283 := Tryd.func70.trans (congrArg some (by kernel_rfl))
  t3 := Tryd.underlying3
  a3 := Tryd.isAgg3
  z3 := Tryd.sizeOf3
  v3 := Tryd.zeroValue3
  t4 := Tryd.underlying4
  a4 := Tryd.isAgg4
  z4 := Tryd.sizeOf4
  v4 := Tryd.zeroValue4
  t9 := Tryd.underlying9
  a9 := Tryd.isAgg9
  z9 := Tryd.sizeOf9
  v9 := Tryd.zeroValue9 }
open Go.Lib in
theorem Tryd.internal_strconv_small (i : Nat) (h : i < 100) (w : World) :
    Calls Tryd.prog 70 #[.int .i64 i] w fun e w' => e = .returned (.string ⟨(Lib.decDigits i).toArray⟩) ∧ w' = w := Any.internal_strconv_small Tryd.lays283 i h w
def Tryd.laysM284_ren : Go.Shelf.Ren := ⟨fun | 284 => 71 | 129 => 85 | 317 => 84 | 318 => 86 | n => n, fun | 53 => 51 | 3 => 3 | 212 => 111 | 0 => 0 | 4 => 4 | 46 => 61 | 5 => 5 | 9 => 9 | n => n, fun | 17 => 0 | n => n⟩
theorem Tryd.laysM284 : Go.Proofs.LaysM.n284 Tryd.prog Tryd.laysM284_ren := {
  mixed := by kernel_rfl
  f129 := Tryd.func85.trans (congrArg some (by kernel_rfl))
  f284 := Tryd.func71.trans (congrArg some (by kernel_rfl))
  f317 := Tryd.func84.trans (congrArg some (by kernel_rfl))
  f318 := Tryd.func86.trans (congrArg some (by kernel_rfl))
  t0 := Tryd.underlying0
  a0 := Tryd.isAgg0
  z0 := Tryd.sizeOf0
  v0 := Tryd.zeroValue0
  t3 := Tryd.underlying3
  a3 := Tryd.isAgg3
  z3 := Tryd.sizeOf3
  v3 := Tryd.zeroValue3
  t4 := Tryd.underlying4
  a4 := Tryd.isAgg4
  z4 := Tryd.sizeOf4
  v4 := Tryd.zeroValue4
  t5 := Tryd.underlying5
  a5 := Tryd.isAgg5
  z5 := Tryd.sizeOf5
  v5 := Tryd.zeroValue5
  t9 := Tryd.underlying9
  a9 := Tryd.isAgg9
  z9 := Tryd.sizeOf9
  v9 := Tryd.zeroValue9
  t46 := Tryd.underlying61
  a46 := Tryd.isAgg61
  z46 := Tryd.sizeOf61
  v46 := Tryd.zeroValue61
  t53 := Tryd.underlying51
  a53 := Tryd.isAgg51
  z53 := Tryd.sizeOf51
  v53 := Tryd.zeroValue51
  t212 := Tryd.underlying111
  a212 := Tryd.isAgg111
  z212 := Tryd.sizeOf111
  v212 := Tryd.zeroValue111
  g17 := by kernel_rfl
  i0 := by kernel_rfl
  i3 := by kernel_rfl
  i4 := by kernel_rfl
  i5 := by kernel_rfl
  i9 := by kernel_rfl
  i46 := by kernel_rfl
  i53 := by kernel_rfl
  i212 := by kernel_rfl
  m17 := by kernel_rfl }
open Go.Lib in
theorem Tryd.internal_strconv_numDigits (u : Nat) (h1 : 1 ≤ u) (h2 : u < 18446744073709551616) (w : World) (htab : Lib.TabIs Tryd.prog w "internal/strconv.uint64pow10" .u64 Lib.pow10Tab) :
    Calls Tryd.prog 71 #[.int .u64 u] w fun e w' => e = .returned (.int .i64 (Lib.nDigits u)) ∧ w' = w := Any.internal_strconv_numDigits Tryd.laysM284 u h1 h2 w htab
def Tryd.lays285_ren : Go.Shelf.Ren := ⟨fun | 285 => 72 | n => n, fun | 37 => 68 | 53 => 51 | 3 => 3 | 4 => 4 | 51 => 60 | 9 => 9 | 5 => 5 | 0 => 0 | n => n, fun | n => n⟩
theorem Tryd.lays285 : Go.Proofs.Lays.n285 Tryd.prog Tryd.lays285_ren := {
  mixed := by kernel_rfl
  f285 := Tryd.func72.trans (congrArg some (by kernel_rfl))
  t0 := Tryd.underlying0
  a0 := Tryd.isAgg0
  z0 := Tryd.sizeOf0
  v0 := Tryd.zeroValue0
  t3 := Tryd.underlying3
  a3 := Tryd.isAgg3
  z3 := Tryd.sizeOf3
  v3 := Tryd.zeroValue3
  t4 := Tryd.underlying4
  a4 := Tryd.isAgg4
  z4 := Tryd.sizeOf4
  v4 := Tryd.zeroValue4
  t5 := Tryd.underlying5
  a5 := Tryd.isAgg5
  z5 := Tryd.sizeOf5
  v5 := Tryd.zeroValue5
  t9 := Tryd.underlying9
  a9 := Tryd.isAgg9
  z9 := Tryd.sizeOf9
  v9 := Tryd.zeroValue9
  t37 := Tryd.underlying68
  a37 := Tryd.isAgg68
  z37 := Tryd.sizeOf68
  v37 := Tryd.zeroValue68
  t51 := Tryd.underlying60
  a51 := Tryd.isAgg60
  z51 := Tryd.sizeOf60
  v51 := Tryd.zeroValue60
  t53 := Tryd.underlying51
  a53 := Tryd.isAgg51
  z53 := Tryd.sizeOf51
  v53 := Tryd.zeroValue51 }
open Go.RowKit Go.Sort Go.Lib in
theorem Tryd.internal_strconv_formatBase10 (blk off cap : Nat) (u : Nat) (d : Array UInt8) (w : World) (hH : Holds (fun (b : UInt8) => Value.int .u8 (b.toNat : Int)) w blk off d) (hu : u < 10 ^ d.size) (hu64 : u < 18446744073709551616) (hsz : d.size < 4611686018427387904) :
    Calls Tryd.prog 72 #[.slice (some ⟨blk, off, none⟩) d.size cap, .int .u64 u] w fun e w' =>
      e = .returned (.tuple #[]) ∧ ∃ (n v' : Nat) (dk : Array UInt8), w' = (putRow (fun (b : UInt8) => Value.int .u8 (b.toNat : Int)) w blk off dk).drewN n ∧ FmtInv d.size u 0 v' dk := Any.internal_strconv_formatBase10 Tryd.lays285 blk off cap u d w hH hu hu64 hsz
def Tryd.lays105_ren : Go.Shelf.Ren := ⟨fun | 105 => 45 | 212 => 59 | 99 => 60 | 165 => 61 | 166 => 44 | 170 => 62 | 169 => 46 | 263 => 75 | 264 => 76 | 206 => 77 | 240 => 58 | 241 => 78 | 276 => 74 | 277 => 89 | n => n, fun | 9 => 9 | 3 => 3 | 4 => 4 | 20 => 20 | 0 => 0 | 46 => 61 | 109 => 83 | 5 => 5 | 72 => 70 | 76 => 74 | 51 => 60 | 146 => 103 | 53 => 51 | 148 => 105 | 70 => 67 | 37 => 68 | 75 => 73 | 127 => 88 | 164 => 101 | 80 => 77 | n => n, fun | n => n⟩
theorem Tryd.lays105 : Go.Proofs.Lays.n105 Tryd.prog Tryd.lays105_ren := {
  mixed := by kernel_rfl
  f99 := Tryd.func60.trans (congrArg some (by kernel_rfl))
  f105 := Tryd.func45.trans (congrArg some (by kernel_rfl))
  f165 := Tryd.func61.trans (congrArg some (by kernel_rfl))
  f166 := Tryd.func44.trans (congrArg some (by kernel_rfl))
  f169 := Tryd.func46.trans (congrArg some (by kernel_rfl))
  f170 := Tryd.func62.trans (congrArg some (by kernel_rfl))
  f206 := Tryd.func77.trans (congrArg some (by kernel_rfl))
  f212 := Tryd.func59.trans (congrArg some (by kernel_rfl))
  f240 := Tryd.func58.trans (congrArg some (by kernel_rfl))
  f241 := Tryd.func78.trans (congrArg some (by kernel_rfl))
  f263 := Tryd.func75.trans (congrArg some (by kernel_rfl))
  f264 := Tryd.func76.trans (congrArg some (by kernel_rfl))
  f276 := Tryd.func74.trans (congrArg some (by kernel_rfl))
  f277 := Tryd.func89.trans (congrArg some (by kernel_rfl))
  t0 := Tryd.underlying0
  a0 := Tryd.isAgg0
  z0 := Tryd.sizeOf0
  v0 := Tryd.zeroValue0
  t3 := Tryd.underlying3
  a3 := Tryd.isAgg3
  z3 := Tryd.sizeOf3
  v3 := Tryd.zeroValue3
  t4 := Tryd.underlying4
  a4 := Tryd.isAgg4
  z4 := Tryd.sizeOf4
  v4 := Tryd.zeroValue4
  t5 := Tryd.underlying5
  a5 := Tryd.isAgg5
  z5 := Tryd.sizeOf5
  v5 := Tryd.zeroValue5
  t9 := Tryd.underlying9
  a9 := Tryd.isAgg9
  z9 := Tryd.sizeOf9
  v9 := Tryd.zeroValue9
  t20 := Tryd.underlying20
  a20 := Tryd.isAgg20
  z20 := Tryd.sizeOf20
  v20 := Tryd.zeroValue20
  t37 := Tryd.underlying68
  a37 := Tryd.isAgg68
  z37 := Tryd.sizeOf68
  v37 := Tryd.zeroValue68
  t46 := Tryd.underlying61
  a46 := Tryd.isAgg61
  z46 := Tryd.sizeOf61
  v46 := Tryd.zeroValue61
  t51 := Tryd.underlying60
  a51 := Tryd.isAgg60
  z51 := Tryd.sizeOf60
  v51 := Tryd.zeroValue60
  t53 := Tryd.underlying51
  a53 := Tryd.isAgg51
  z53 := Tryd.sizeOf51
  v53 := Tryd.zeroValue51
  t70 := Tryd.underlying67
  a70 := Tryd.isAgg67
  z70 := Tryd.sizeOf67
  v70 := Tryd.zeroValue67
  t72 := Tryd.underlying70
  a72 := Tryd.isAgg70
  z72 := Tryd.sizeOf70
  v72 := Tryd.zeroValue70
  t75 := Tryd.underlying73
  a75 := Tryd.isAgg73
  z75 := Tryd.sizeOf73
  v75 := Tryd.zeroValue73
  t76 := Tryd.underlying74
  a76 := Tryd.isAgg74
  z76 := Tryd.sizeOf74
  v76 := Tryd.zeroValue74
  t109 := Tryd.underlying83
  a109 := Tryd.isAgg83
  z109 := Tryd.sizeOf83
  v109 := Tryd.zeroValue83
  t127 := Tryd.underlying88
  a127 := Tryd.isAgg88
  z127 := Tryd.sizeOf88
  v127 := Tryd.zeroValue88
  t146 := Tryd.underlying103
  a146 := Tryd.isAgg103
  z146 := Tryd.sizeOf103
  v146 := Tryd.zeroValue103
  t148 := Tryd.underlying105
  a148 := Tryd.isAgg105
  z148 := Tryd.sizeOf105
  v148 := Tryd.zeroValue105
  t164 := Tryd.underlying101
  a164 := Tryd.isAgg101
  z164 := Tryd.sizeOf101
  v164 := Tryd.zeroValue101 }
theorem Tryd.Builder_Extra_105 : Builder.Extra Tryd.prog Tryd.lays105_ren := {
  sizeBuilder := by kernel_rfl
  liesBuilder := by kernel_rfl
  t5 := Tryd.underlying5
  a5 := Tryd.isAgg5
  z5 := Tryd.sizeOf5
  v5 := Tryd.zeroValue5
  infoByte := by kernel_rfl
  cellsByte := by kernel_rfl
  sizeByte := by kernel_rfl
  neB5 := by decide }
open Go.RowKit Go.Lib in
theorem Tryd.strings_Repeat (s : ByteArray) (c : Nat) (w : World) (hc : c ≤ 9223372036854775807) (hlen : s.size * c ≤ 140737488355328) :
    Calls Tryd.prog 45 #[.string s, .int .i64 c] w fun e w' => e = .returned (.string ⟨(Lib.repeatL s.data.toList c).toArray⟩) ∧ Below w.heap.size w w' := Any.strings_Repeat Tryd.lays105 Tryd.Builder_Extra_105 s c w hc hlen
end Go.Proofs

namespace Go.Proofs.YtdholmnniccbcaaDoor
open Go.Lib
set_option linter.unusedSimpArgs false
set_option linter.unusedVariables false

theorem dec_big {u : Nat} (h : ¬ u < 10) : decDigits u = decDigits (u / 10) ++ [UInt8.ofNat (48 + u % 10)] := by rw [decDigits, dif_neg h]

/-- The last k digits, zeros ahead. -/
def padD : Nat → Nat → List UInt8
  | 0, _ => []
  | k + 1, u => padD k (u / 10) ++ [UInt8.ofNat (48 + u % 10)]

theorem padD_zero (k : Nat) : padD k 0 = List.replicate k 48 := by
  induction k with
  | zero => rfl
  | succ k ih => rw [padD, Nat.zero_div, ih, List.replicate_succ']; rfl

theorem dec_pad : ∀ (k q r : Nat), 1 ≤ q → r < 10 ^ k → decDigits (q * 10 ^ k + r) = decDigits q ++ padD k r := by
  intro k
  induction k with
  | zero =>
    intro q r hq hr
    simp at hr
    subst hr
    simp [padD]
  | succ k ih =>
    intro q r hq hr
    rw [Nat.pow_succ] at hr
    have hp : 1 ≤ 10 ^ k := Nat.pow_pos (by decide)
    have hge : 10 ≤ q * 10 ^ (k + 1) + r := by
      have h1 : 1 * 10 ^ (k + 1) ≤ q * 10 ^ (k + 1) := Nat.mul_le_mul_right _ hq
      rw [Nat.pow_succ] at h1 ⊢
      omega
    have e : q * 10 ^ (k + 1) + r = 10 * (q * 10 ^ k) + r := by rw [Nat.pow_succ]; generalize 10 ^ k = p; grind
    rw [dec_big (by omega), e, Nat.mul_add_div (by decide), Nat.mul_add_mod, ih q (r / 10) hq (by omega), padD, List.append_assoc]

theorem pad_dec : ∀ (k r : Nat), 1 ≤ k → r < 10 ^ k → padD k r = List.replicate (k - nDigits r) 48 ++ decDigits r ∧ nDigits r ≤ k := by
  intro k
  induction k with
  | zero => intro r h; omega
  | succ k ih =>
    intro r _ hr
    by_cases h : r < 10
    · rw [padD, Nat.div_eq_of_lt h, padD_zero, nDigits_small h, Nat.mod_eq_of_lt h, decDigits_one h]
      exact ⟨by simp, by omega⟩
    · have hk : 1 ≤ k := by
        rcases Nat.eq_zero_or_pos k with h0 | h0
        · subst h0; simp at hr; omega
        · exact h0
      rw [Nat.pow_succ] at hr
      obtain ⟨h1, h2⟩ := ih (r / 10) hk (by omega)
      rw [padD, h1, nDigits_big h, dec_big h, List.append_assoc, show k + 1 - (nDigits (r / 10) + 1) = k - nDigits (r / 10) by omega]
      exact ⟨rfl, by omega⟩

/-- The value of groups of nine digits, the least significant first. -/
def G : List Nat → Nat
  | [] => 0
  | x :: xs => x + 1000000000 * G xs

theorem G_drop (gs : List Nat) (k : Nat) : G (gs.drop k) = gs.getD k 0 + 1000000000 * G (gs.drop (k + 1)) := by
  induction gs generalizing k with
  | nil => simp [G]
  | cons x xs ih =>
    cases k with
    | zero => simp [G]
    | succ k => simpa using ih k

theorem G_snoc (gs : List Nat) (x : Nat) : G (gs ++ [x]) = G gs + 1000000000 ^ gs.length * x := by
  induction gs with
  | nil => simp [G]
  | cons y ys ih => rw [List.cons_append, G, ih, G, List.length_cons, Nat.pow_succ]; generalize 1000000000 ^ ys.length = p; grind

/-- One more group behind those that are written. -/
theorem group_step {q g : Nat} (hq : 1 ≤ q) (hg : g < 1000000000) : decDigits (g + 1000000000 * q) = decDigits q ++ (List.replicate (9 - nDigits g) 48 ++ decDigits g) := by
  have h1 := dec_pad 9 q g hq hg
  have h2 := (pad_dec 9 g (by decide) hg).1
  rw [← h2, ← h1]
  congr 1
  omega

end Go.Proofs.YtdholmnniccbcaaDoor

namespace Go.Proofs.YtdholmnniccbcaaDoor
open Go.RowKit Go.Sort Go.Lib
set_option linter.unusedSimpArgs false
set_option linter.unusedVariables false

/-- The library's table of powers of ten reads as it was laid. -/
def Pow (w : World) : Prop := Lib.TabIs Tryd.prog w "internal/strconv.uint64pow10" .u64 Lib.pow10Tab
theorem Pow.below {w w' : World} (h : Pow w) (hb : Below w.heap.size w w') : Pow w' := by
  unfold Pow Lib.TabIs World.var? at *
  cases hg : Tryd.prog.globalNamed "internal/strconv.uint64pow10" with
  | none => simp [hg] at h
  | some g =>
    simp only [hg, Option.bind_some] at h ⊢
    have hlt : g < w.heap.size := by
      rcases Nat.lt_or_ge g w.heap.size with h' | h'
      · exact h'
      · rw [Array.getElem?_eq_none h'] at h; simp at h
    rw [hb.block g hlt]
    exact h

theorem holds_zero0 (w : World) (T : TypeId) (nd : Nat) (hs : nd ≤ 24) : Holds (fun (b : UInt8) => Value.int .u8 (b.toNat : Int)) (w.alloc (.cells Lib.zeros24 T)) w.heap.size 0 (Array.replicate nd (0 : UInt8)) := fun j hj => by
  have hj' : j < nd := by simpa using hj
  refine ⟨?_, World.frozen?_alloc_new _ _ _ _⟩
  rw [World.cell?_alloc_new, zeros24_at _ (by omega), getElem!_pos _ j hj]
  simp

theorem fin_pos0 (w : World) (o : Obj) (dk : Array UInt8) (k : Nat) : Below w.heap.size w ((putRow (fun (b : UInt8) => Value.int .u8 (b.toNat : Int)) (w.alloc o) w.heap.size 0 dk).drewN k) := by
  rw [alloc_eq_grow]
  obtain ⟨os', _, e⟩ := putRow_grow_new (fun (b : UInt8) => Value.int .u8 (b.toNat : Int)) w #[o] w.heap.size 0 dk (Nat.le_refl _)
  rw [e]
  exact Lib.below_grow _ w (Nat.le_refl _) k os'

set_option maxHeartbeats 6400000 in
set_option maxRecDepth 100000 in
theorem fmt0_any (u : Nat) (hu64 : u < 18446744073709551616) (w : World) (htab : Pow w) :
    Calls Tryd.prog 57 #[.int .u64 (u : Int), .int .i64 10] w fun e w' => e = .returned (.string ⟨(Lib.decDigits u).toArray⟩) ∧ Below w.heap.size w w' := by
  by_cases hs : u < 100
  · go_enter Tryd.func57, Tryd.ntmps57
    go_wp2_with fail
    refine (Tryd.internal_strconv_small u hs _).mono ?_
    rintro e w' ⟨rfl, rfl⟩
    go_wp2
    go_ret
    exact ⟨rfl, Below.refl _ _⟩
  · have hu1 : 1 ≤ u := by omega
    have hnd20 : Lib.nDigits u ≤ 20 := by have := Lib.numDigits_eq u hu1 hu64; split at this <;> omega
    have hb3 : Lib.nDigits u ≤ 24 := by omega
    have hal : Tryd.prog.arrayLen 96 = 24 := by simp [Program.arrayLen, Tryd.underlying96]
    have hsl1 : ∀ W, (Instr.sliceAt 96 (.pointer (some ⟨w.heap.size, 0, none⟩)) none (some (.int .i64 (Lib.nDigits u : Int))) none).run Tryd.prog W = .ok (.slice (some ⟨w.heap.size, 0, none⟩) (Lib.nDigits u) 24) W := fun W => by
      rw [run_sliceAt_array_h W 96 ⟨w.heap.size, 0, none⟩ (by simp [Program.arrayLen, Program.elem, Tryd.underlying96]) .i64 (Lib.nDigits u : Int) (by omega) (by rw [hal]; omega)]
      go_simp
      try omega
    have hH0 := holds_zero0 w 96 (Lib.nDigits u) (by omega)
    have hfmt := Tryd.internal_strconv_formatBase10 w.heap.size 0 24 u (Array.replicate (Lib.nDigits u) 0) (w.alloc (.cells Lib.zeros24 96)) hH0 (by rw [Array.size_replicate]; exact Lib.lt_pow_nDigits u) hu64 (by rw [Array.size_replicate]; omega)
    rw [Array.size_replicate] at hfmt
    have HH0 := Lib.hid hH0
    clear hH0 hal
    go_enter Tryd.func57, Tryd.ntmps57
    go_wp2_with fail
    refine (Tryd.internal_strconv_numDigits u hu1 hu64 _ (Lib.tabIs_alloc htab _)).mono ?_
    rintro e w' ⟨rfl, rfl⟩
    go_wp2_with fail
    refine hfmt.mono ?_
    rintro e w' ⟨rfl, k, v', dk, rfl, hF⟩
    have hcv : (convert 68 9 (.slice (some ⟨w.heap.size, 0, none⟩) (Lib.nDigits u) 24)).run Tryd.prog ((putRow (fun (b : UInt8) => Value.int .u8 (b.toNat : Int)) (w.alloc (.cells Lib.zeros24 96)) w.heap.size 0 dk).drewN k) = .ok (.string ⟨(Lib.decDigits u).toArray⟩) ((putRow (fun (b : UInt8) => Value.int .u8 (b.toNat : Int)) (w.alloc (.cells Lib.zeros24 96)) w.heap.size 0 dk).drewN k) := by
      have h := run_convert_bytes_back (P := Tryd.prog) ((putRow (fun (b : UInt8) => Value.int .u8 (b.toNat : Int)) (w.alloc (.cells Lib.zeros24 96)) w.heap.size 0 dk).drewN k) 68 9 5 ⟨w.heap.size, 0, none⟩ 24 (Lib.decDigits u) Tryd.underlying68 Tryd.underlying5 Tryd.underlying9 (fun j hj => by
        rw [Lib.row_is_numeral hF j hj, Lib.add_plain, World.cell?_drewN]
        exact cell?_putRow (fun (b : UInt8) => Value.int .u8 (b.toNat : Int)) _ w.heap.size 0 _ dk HH0.out (by rw [hF.size, Array.size_replicate]) j (by rw [hF.size]; rw [Lib.decDigits_length] at hj; exact hj))
      rw [Lib.decDigits_length] at h
      exact h
    go_wp2
    go_ret
    exact ⟨rfl, fin_pos0 w _ dk k⟩

set_option maxHeartbeats 400000 in
set_option maxRecDepth 100000 in
theorem fmt_any (u : Nat) (hu64 : u < 18446744073709551616) (w : World) (htab : Pow w) :
    Calls Tryd.prog 43 #[.int .u64 (u : Int), .int .i64 10] w fun e w' => e = .returned (.string ⟨(Lib.decDigits u).toArray⟩) ∧ Below w.heap.size w w' := by
  go_enter Tryd.func43, Tryd.ntmps43
  go_wp2_with fail
  refine (fmt0_any u hu64 _ htab).mono ?_
  rintro e w' ⟨rfl, hb⟩
  go_wp2
  go_ret
  exact ⟨rfl, hb⟩

theorem writes_any (B b : Nat) (bs : List Value) (s : ByteArray) (w : World) (h : Lib.IsBuilder 70 5 B b bs w) (hlen : bs.length + s.size ≤ 140737488355328) (hBw : B ≤ w.heap.size) :
    Calls Tryd.prog 44 #[.pointer (some ⟨b, 0, none⟩), .string s] w fun e w' => e = .returned (.tuple #[.int .i64 s.size, .nilIface]) ∧ (Lib.BuilderAt 70 5 B b (.pointer (some ⟨b, 0, none⟩)) (bs ++ Lib.strCells s) w' ∧ Below B w w') :=
  Any.Builder_WriteString { Tryd.lays105 with } Tryd.Builder_Extra_105 B b bs s w h hlen hBw

theorem built_below {T e : TypeId} {B b : Nat} {bs : List Value} {W W' : World} (h : Lib.IsBuilder T e B b bs W) (hb : Below W.heap.size W W') : Lib.IsBuilder T e B b bs W' := by
  have key : ∀ p, Lib.BuilderAt T e B b p bs W → Lib.BuilderAt T e B b p bs W' := by
    intro p h
    have hlt := h.lt
    obtain ⟨hB, v, hv, hown, hne⟩ := h
    exact ⟨hB, v, (hb.block b hlt).trans hv, hown.kept (row := none) ⟨hb.os, hb.tape, hb.output, hb.size, fun k hk _ => hb.block k hk⟩ (Classical.em _), hne⟩
  exact h.elim (fun x => .inl (key _ x)) (fun x => .inr (key _ x))

end Go.Proofs.YtdholmnniccbcaaDoor
