/-
  ratio.Add, Sub, Mul, Cmp, Sign: the walks.
  ratio.Quo: the walk.
  ratio.floor, Floor, Round: the walks.
  DERIVED: THE SHELF's CONTRACTS AT THIS DUMP, IN PLAIN WORDS (tools/lay-plain.mjs out of 'TryzShelfMin.lean', which tools/lay-shelf.mjs wrote): THE SAME DECLARATIONS UNDER THE SAME NAMES: 'import', 'namespace', 'open', 'def', 'theorem' AND NOTHING ELSE: no command of the shelf's: FOR A HAND-IN. Each laying: the table of numbers ('.._ren') and one theorem, a field a fact of the dump's own or the kernel's comparison; each contract: ONE APPLICATION.
  The plain mathematics of decimal digits, in groups of nine.
-/
import Derived.Test.YtdhkpgndpgacbaaGreatDoorZ6
import Derived.Deep.RegionHeld3
import Derived.Shelf.Strings.Builder1
import Derived.Shelf.Strconv.Itoa0
import Derived.Shelf.Strconv.Itoa1
import Derived.Shelf.LaysM
import Derived.Shelf.Strconv.Itoa2
import Derived.Shelf.Strings.Repeat
import Derived.Test.YtdhkpgndpgacbaaGreatDoorProg
import Derived.Test.YtdhkpgndpgacbaaGreatDoorZ1
import Derived.Lib.ItoaNum
namespace Go.Proofs.YtdhkpgndpgacbaaGreatDoor
open Go.RowKit
set_option linter.unusedSimpArgs false
set_option linter.unusedVariables false
set_option maxHeartbeats 2000000 in
set_option maxRecDepth 100000 in
theorem qmul_any (k l : Nat) (q r : Rat) (v v' : Value) (w : World) (h : Ct w v k q) (h' : Ct w v' l r) (hk : k ≤ 100000000) (hl : l ≤ 100000000) (hk2 : 2 ≤ k) (hl2 : 2 ≤ l) :
    Calls Tryz.prog 23 #[v, v'] w fun e w' => ∃ v', e = .returned v' ∧ Fr w' v' (k + l) (q * r) ∧ Below w.heap.size w w' := by
  have hX := h
  have hY := h'
  obtain ⟨n, xs, ys, ⟨a, c, a', c', rfl, hx, hy⟩, lx, ly, hq⟩ := h
  obtain ⟨m, ps, qs, ⟨b, d, b', d', rfl, hp, hqs⟩, lp, lq, hr⟩ := h'
  clear hq hr hx hy hp hqs lx ly lp lq
  go_enter Tryz.func23, Tryz.ntmps23
  go_wp2_with fail
  obtain ⟨W, hW, B1, B2, B3, hbW⟩ := boxes3 33 33 33 w (.bool n) (.slice a xs.length c) (.slice a' ys.length c') (.bool m) (.slice b ps.length d) (.slice b' qs.length d') (.bool false) (.slice none 0 0) (.slice none 0 0)
  rw [← hW]
  clear hW
  replace hX := hX.below hbW
  replace hY := hY.below hbW
  obtain ⟨p1, p2, p3, _⟩ := B1.cells
  obtain ⟨p4, p5, p6, _⟩ := B2.cells
  go_region_held3 (fun u => u.cell? ⟨w.heap.size, 0, none⟩ = some (.bool n) ∧ u.cell? ⟨w.heap.size, 1, none⟩ = some (.slice a xs.length c) ∧ u.cell? ⟨w.heap.size, 2, none⟩ = some (.slice a' ys.length c') ∧ u.cell? ⟨w.heap.size + 1, 0, none⟩ = some (.bool m) ∧ u.cell? ⟨w.heap.size + 1, 1, none⟩ = some (.slice b ps.length d) ∧ u.cell? ⟨w.heap.size + 1, 2, none⟩ = some (.slice b' qs.length d')) (first | (go_keep; done) | (refine ⟨(cell_set3 (by omega)).trans p1, (cell_set3 (by omega)).trans p2, (cell_set3 (by omega)).trans p3, (cell_set3 (by omega)).trans p4, (cell_set3 (by omega)).trans p5, (cell_set3 (by omega)).trans p6⟩))
    (first
      | (go_at_call_of 31 (Value.agg #[.bool n, .slice a xs.length c, .slice a' ys.length c'])
         refine (counted_any k q _ _ (hX.below Below.drew1) ?_ ?_).mono ?_
         · omega
         · omega
         rintro e u1 ⟨v1, rfl, hF1, hb1⟩
         have hb1' : Below W.heap.size W u1 := Below.drew1.trans hb1
         replace hY := hY.below hb1'
         replace B1 := B1.below hb1'
         replace B2 := B2.below hb1'
         replace B3 := B3.below hb1'
         replace hbW : Below w.heap.size w u1 := hbW.trans (hb1'.mono hbW.size)
         clear hb1 hb1' hX
         clear p1 p2 p3 p4 p5 p6
         obtain ⟨p1, p2, p3, _⟩ := B1.cells
         obtain ⟨p4, p5, p6, _⟩ := B2.cells)
      | (go_at_call_of 31 (Value.agg #[.bool m, .slice b ps.length d, .slice b' qs.length d'])
         refine (counted_any l r _ _ hY ?_ ?_).mono ?_
         · omega
         · omega
         rintro e u2 ⟨v2, rfl, hF2, hb2⟩
         replace hF1 := hF1.below hb2
         replace B1 := B1.below hb2
         replace B2 := B2.below hb2
         replace B3 := B3.below hb2
         replace hbW : Below w.heap.size w u2 := hbW.trans (hb2.mono hbW.size)
         clear hb2 hY
         clear p1 p2 p3 p4 p5 p6
         obtain ⟨p1, p2, p3, _⟩ := B1.cells
         obtain ⟨p4, p5, p6, _⟩ := B2.cells)
      | (go_at_call 39
         refine (times_any k l q r _ _ _ hF1.lo hF2.lo ?_ ?_).mono ?_
         · omega
         · omega
         rintro e u3 ⟨v3, rfl, hL, hb3⟩
         replace B1 := B1.below hb3
         replace B2 := B2.below hb3
         replace B3 := B3.below hb3
         replace hbW : Below w.heap.size w u3 := hbW.trans (hb3.mono hbW.size)
         clear hb3 hF1 hF2
         clear p1 p2 p3 p4 p5 p6
         obtain ⟨p1, p2, p3, _⟩ := B1.cells
         obtain ⟨p4, p5, p6, _⟩ := B2.cells)
      | (go_at_call 38
         refine (reduced_any (k + l) _ _ _ hL ?_).mono ?_
         · omega
         rintro e u4 ⟨v4, rfl, hF, hb4⟩
         replace B1 := B1.below hb4
         replace B2 := B2.below hb4
         replace B3 := B3.below hb4
         replace hbW : Below w.heap.size w u4 := hbW.trans (hb4.mono hbW.size)
         clear hb4 hL
         clear p1 p2 p3 p4 p5 p6
         obtain ⟨p1, p2, p3, _⟩ := B1.cells
         obtain ⟨p4, p5, p6, _⟩ := B2.cells
         obtain ⟨q1, q2, q3, q4, q5, q6⟩ := B3.cells
         have hs := B3.lt
         obtain ⟨n1, x1, y1, ⟨b1, d1, b2, d2, rfl, hx', hy'⟩, hF⟩ := hF))
  go_wp2
  exact ret3 (v := .agg #[.bool n1, .slice b1 x1.length d1, .slice b2 y1.length d2]) B3 rfl (fun U hU => by obtain ⟨r1, r2, r3, _⟩ := hU.cells; simp [results, Tryz.results23, go_sem, r1, r2, r3]) (fun U hU hK => ⟨_, rfl, ⟨_, _, _, ⟨_, _, _, _, rfl, hK _ _ _ hx', hK _ _ _ hy'⟩, hF⟩, hU _ _ hbW (by omega)⟩)

set_option maxHeartbeats 1000000 in
set_option maxRecDepth 100000 in
theorem qsign_any (k : Nat) (q : Rat) (v : Value) (w : World) (h : Ct w v k q) (hk : k ≤ 100000000) (hk2 : 2 ≤ k) :
    Calls Tryz.prog 22 #[v] w fun e w' => e = .returned (.int .i64 (sgnQ q)) ∧ Below w.heap.size w w' := by
  have hX := h
  obtain ⟨n, xs, ys, ⟨a, c, a', c', rfl, hx, hy⟩, lx, ly, hq⟩ := h
  clear hq hx hy lx ly
  go_enter Tryz.func22, Tryz.ntmps22
  go_wp2_with fail
  refine (counted_any k q _ _ (hX.below (al1 _)) (by omega) hk2).mono ?_
  rintro e u1 ⟨v1, rfl, hF1, hb1⟩
  obtain ⟨B1, hbW⟩ := after1 hb1
  clear hb1
  go_wp2_with fail
  refine (sign_any k q _ _ hF1.lo (by omega)).mono ?_
  rintro e u2 ⟨rfl, hb2⟩
  replace hbW : Below w.heap.size w u2 := hbW.trans (hb2.mono hbW.size)
  go_wp2
  go_ret
  exact ⟨rfl, hbW⟩

end Go.Proofs.YtdhkpgndpgacbaaGreatDoor

namespace Go.Proofs.YtdhkpgndpgacbaaGreatDoor
open Go.RowKit Classical
set_option linter.unusedSimpArgs false
set_option linter.unusedVariables false

theorem Box.other {t : TypeId} {u U : World} {b k : Nat} {x y z : Value} (h : Box t u k x y z) (hU : ∀ j, j ≠ b → U.heap[j]? = u.heap[j]?) (hk : k ≠ b) : Box t U k x y z := (hU k hk).trans h

/-- A fraction is stored into a block that holds one. -/
theorem set3_world {t : TypeId} {u : World} {b : Nat} {n : Bool} {a a' : Option Addr} {l c l' c' : Nat} (B : Box t u b (.bool n) (.slice a l c) (.slice a' l' c')) (x' y' z' : Value) :
    ∃ U, U = (((u.setCell ⟨b, 0, none⟩ x').setCell ⟨b, 1, none⟩ y').setCell ⟨b, 2, none⟩ z') ∧ Box t U b x' y' z' ∧ (∀ B w, Below B w u → B ≤ b → Below B w U) ∧ (∀ a c xs, Rd u a c xs → Rd U a c xs) ∧ (∀ j, j ≠ b → U.heap[j]? = u.heap[j]?) :=
  ⟨_, rfl, B.set3 x' y' z', fun _ _ h hb => below_set3 h hb x' y' z', fun _ _ _ h => Rd.apart B (by simp [World.setCell]) (set3_other u b x' y' z') h, set3_other u b x' y' z'⟩
/-- Its two parts are put anew. -/
theorem set2_world {t : TypeId} {u : World} {b : Nat} {n : Bool} {a a' : Option Addr} {l c l' c' : Nat} (B : Box t u b (.bool n) (.slice a l c) (.slice a' l' c')) (y' z' : Value) :
    ∃ U, U = ((u.setCell ⟨b, 1, none⟩ y').setCell ⟨b, 2, none⟩ z') ∧ Box t U b (.bool n) y' z' ∧ (∀ B w, Below B w u → B ≤ b → Below B w U) ∧ (∀ a c xs, Rd u a c xs → Rd U a c xs) ∧ (∀ j, j ≠ b → U.heap[j]? = u.heap[j]?) := by
  have ho : ∀ j, j ≠ b → ((u.setCell ⟨b, 1, none⟩ y').setCell ⟨b, 2, none⟩ z').heap[j]? = u.heap[j]? := by
    intro j hj
    rw [Below.heap_setCell _ ⟨b, 2, none⟩ z' j hj, Below.heap_setCell _ ⟨b, 1, none⟩ y' j hj]
  refine ⟨_, rfl, ?_, fun _ _ h hb => (h.setCell (p := ⟨b, 1, none⟩) hb y').setCell (p := ⟨b, 2, none⟩) hb z', fun _ _ _ h => Rd.apart B (by simp [World.setCell]) ho h, ho⟩
  have h1 := heap_setCell_same u b 1 _ t y' B
  have h2 := heap_setCell_same _ b 2 _ t z' h1
  exact h2

theorem sgnQ_zero {q : Rat} : sgnQ q = 0 ↔ q = 0 := by
  unfold sgnQ
  refine ⟨fun h => ?_, fun h => by rw [if_pos h]⟩
  by_cases h0 : q = 0
  · exact h0
  · rw [if_neg h0] at h; split at h <;> cases h

theorem qv_inv (n : Bool) (xs ys : List Nat) (hx : V xs ≠ 0) : qv n ys xs = (qv n xs ys)⁻¹ := by
  unfold qv
  rw [← Rat.divInt_ofNat, ← Rat.divInt_ofNat, Rat.inv_divInt]
  by_cases hy : V ys = 0
  · rw [hy, sg_zero]
    simp [Rat.zero_divInt]
  · have h1 : sg n (V xs) ≠ 0 := by intro h; have := congrArg Int.natAbs h; rw [sg_natAbs] at this; exact hx this
    rw [Rat.divInt_eq_divInt_iff (by omega) h1]
    cases n <;> simp [sg] <;> grind

theorem Fr.zero_iff {w : World} {n : Bool} {xs ys : List Nat} (h : Fmd n xs ys) : qv n xs ys = 0 ↔ xs = [] := by
  rw [← Rat.num_eq_zero, h.parts.1]
  refine ⟨fun h0 => ?_, fun h0 => by rw [h0]; exact sg_zero n⟩
  have := congrArg Int.natAbs h0
  rw [sg_natAbs] at this
  exact eq_nil_of_V h.1 this

end Go.Proofs.YtdhkpgndpgacbaaGreatDoor

namespace Go.Proofs.YtdhkpgndpgacbaaGreatDoor
open Go.RowKit
set_option linter.unusedSimpArgs false
set_option linter.unusedVariables false

theorem floor_mk (a : Int) (b : Nat) (hb : b ≠ 0) : (mkRat a b).floor = a / (b : Int) := by
  have key : ∀ x : Int, (mkRat a b).floor < x ↔ a / (b : Int) < x := by
    intro x
    have hb' : (0 : Rat) < (b : Rat) := Rat.natCast_pos.2 (Nat.pos_of_ne_zero hb)
    rw [Rat.floor_lt_iff, Rat.mkRat_eq_div, Rat.div_lt_iff hb', Int.ediv_lt_iff_lt_mul (by omega)]
    rw [show ((b : Rat)) = (((b : Int)) : Rat) from rfl, ← Rat.intCast_mul, Rat.intCast_lt_intCast]
  have h1 := (key (a / (b : Int) + 1)).2 (by omega)
  have h2 := (key ((mkRat a b).floor + 1)).1 (by omega)
  omega
theorem neg_ediv (x y : Nat) (hy : y ≠ 0) : (-(x : Int)) / (y : Int) = -((x / y + (if 0 < x % y then 1 else 0) : Nat) : Int) := by
  have h := Nat.div_add_mod x y
  have hl := Nat.mod_lt x (Nat.pos_of_ne_zero hy)
  generalize x / y = q at *
  generalize x % y = r at *
  subst h
  have hy' : (y : Int) ≠ 0 := by omega
  split
  · have : (-((y * q + r : Nat) : Int)) = (y - r : Int) + (y : Int) * (-(q : Int) - 1) := by push_cast; grind
    rw [this, Int.add_mul_ediv_left _ _ hy', Int.ediv_eq_zero_of_lt (by omega) (by omega)]; push_cast; omega
  · have : r = 0 := by omega
    subst this
    have : (-((y * q + 0 : Nat) : Int)) = (y : Int) * (-(q : Int)) := by push_cast; grind
    rw [this, Int.mul_ediv_cancel_left _ hy']; push_cast; omega

/-- Is it an int64? -/
def flB (z : Int) : Bool := decide (-9223372036854775808 ≤ z ∧ z < 9223372036854775808)
/-- It; else 0. -/
def flN (z : Int) : Int := if flB z = true then z else 0

theorem floor_pos {xs ys : List Nat} (hy : V ys ≠ 0) : (qv false xs ys).floor = ((V xs / V ys : Nat) : Int) := by
  unfold qv; rw [floor_mk _ _ hy]; simp [sg]
theorem floor_neg {xs ys : List Nat} (hy : V ys ≠ 0) : (qv true xs ys).floor = -((V xs / V ys + (if 0 < V xs % V ys then 1 else 0) : Nat) : Int) := by
  unfold qv; rw [floor_mk _ _ hy, show sg true (V xs) = -(V xs : Int) from rfl, neg_ediv _ _ hy]

theorem flB_pos (m : Nat) : flB (m : Int) = decide (m < 9223372036854775808) := by
  unfold flB; by_cases h : m < 9223372036854775808 <;> simp [h] <;> omega
theorem flB_neg (m : Nat) : flB (-(m : Int)) = decide (m ≤ 9223372036854775808) := by
  unfold flB; by_cases h : m ≤ 9223372036854775808 <;> simp [h] <;> omega

theorem flN_pos (m : Nat) : flN (m : Int) = if m < 9223372036854775808 then (m : Int) else 0 := by unfold flN; rw [flB_pos]; simp
theorem flN_neg (m : Nat) : flN (-(m : Int)) = if m ≤ 9223372036854775808 then -(m : Int) else 0 := by unfold flN; rw [flB_neg]; simp

theorem wrap_i64 (z : Int) : IntKind.i64.wrap z = if 9223372036854775808 ≤ z % 18446744073709551616 then z % 18446744073709551616 - 18446744073709551616 else z % 18446744073709551616 := by
  unfold IntKind.wrap; simp [IntKind.bits, IntKind.signed]

theorem back_pos {m : Nat} (h : m < 9223372036854775808) : wrap64 (m : Int) = (m : Int) := by
  unfold wrap64; omega
theorem back_neg {m : Nat} (h : m ≤ 9223372036854775808) : wrap64 (IntKind.u64.wrap (-(m : Int))) = -(m : Int) := by
  rw [wrap_u64]
  unfold wrap64
  by_cases h0 : m = 0
  · subst h0; rfl
  · have e : (-(m : Int)) % 18446744073709551616 = 18446744073709551616 - (m : Int) := by omega
    rw [e]; omega

theorem ret_two {a b : Int} {c d : Bool} (h : a = b) (k : c = d) : Ending.returned (.tuple #[.int .i64 a, .bool c]) = .returned (.tuple #[.int .i64 b, .bool d]) := by rw [h, k]

theorem lo_half {w : World} {a a' : Option Addr} {c c' : Nat} {xs ys : List Nat} (hx : Rd w a c xs) (hy : Rd w a' c' ys) (tx : Tr xs) (ty : Tr ys) (vx : V xs = 1) (vy : V ys = 2) :
    Lo w (.agg #[.bool false, .slice a xs.length c, .slice a' ys.length c']) 2 (1 / 2) := by
  refine ⟨_, _, _, ⟨_, _, _, _, rfl, hx, hy⟩, tx, ty, by omega, len_two tx (by omega), len_two ty (by omega), ?_⟩
  unfold qv
  rw [vx, vy, Rat.mkRat_eq_div]
  rfl

end Go.Proofs.YtdhkpgndpgacbaaGreatDoor

namespace Go.Proofs
open Go.Shelf
def Tryz.lays169_ren : Go.Shelf.Ren := ⟨fun | 169 => 53 | n => n, fun | 70 => 73 | 9 => 9 | 0 => 0 | 72 => 76 | 37 => 74 | 127 => 102 | 3 => 3 | 5 => 5 | n => n, fun | n => n⟩
theorem Tryz.lays169 : Go.Proofs.Lays.n169 Tryz.prog Tryz.lays169_ren := {
  mixed := by kernel_rfl
  f169 := Tryz.func53.trans (congrArg some (by kernel_rfl))
  t0 := Tryz.underlying0
  a0 := Tryz.isAgg0
  z0 := Tryz.sizeOf0
  v0 := Tryz.zeroValue0
  t3 := Tryz.underlying3
  a3 := Tryz.isAgg3
  z3 := Tryz.sizeOf3
  v3 := Tryz.zeroValue3
  t9 := Tryz.underlying9
  a9 := Tryz.isAgg9
  z9 := Tryz.sizeOf9
  v9 := Tryz.zeroValue9
  t37 := Tryz.underlying74
  a37 := Tryz.isAgg74
  z37 := Tryz.sizeOf74
  v37 := Tryz.zeroValue74
  t70 := Tryz.underlying73
  a70 := Tryz.isAgg73
  z70 := Tryz.sizeOf73
  v70 := Tryz.zeroValue73
  t72 := Tryz.underlying76
  a72 := Tryz.isAgg76
  z72 := Tryz.sizeOf76
  v72 := Tryz.zeroValue76
  t127 := Tryz.underlying102
  a127 := Tryz.isAgg102
  z127 := Tryz.sizeOf102
  v127 := Tryz.zeroValue102 }
theorem Tryz.Builder_Extra_169 : Builder.Extra Tryz.prog Tryz.lays169_ren := {
  sizeBuilder := by kernel_rfl
  liesBuilder := by kernel_rfl
  t5 := Tryz.underlying5
  a5 := Tryz.isAgg5
  z5 := Tryz.sizeOf5
  v5 := Tryz.zeroValue5
  infoByte := by kernel_rfl
  cellsByte := by kernel_rfl
  sizeByte := by kernel_rfl
  neB5 := by decide }
open Go.RowKit in
theorem Tryz.Builder_String_any (B b : Nat) (l : List UInt8) (w : World) (h : Lib.IsBuilder 76 5 B b (Lib.byteCells l) w) (hBw : B ≤ w.heap.size) :
    Calls Tryz.prog 53 #[.pointer (some ⟨b, 0, none⟩)] w fun e w' => e = .returned (.string ⟨l.toArray⟩) ∧ Below B w w' := Any.Builder_String_any Tryz.lays169 Tryz.Builder_Extra_169 B b l w h hBw
def Tryz.lays283_ren : Go.Shelf.Ren := ⟨fun | 283 => 85 | n => n, fun | 3 => 3 | 9 => 9 | 4 => 4 | n => n, fun | n => n⟩
theorem Tryz.lays283 : Go.Proofs.Lays.n283 Tryz.prog Tryz.lays283_ren := {
  mixed := by kernel_rfl
  f283 := Tryz.func85.trans (congrArg some (by kernel_rfl))
  t3 := Tryz.underlying3
  a3 := Tryz.isAgg3
  z3 := Tryz.sizeOf3
  v3 := Tryz.zeroValue3
  t4 := Tryz.underlying4
  a4 := Tryz.isAgg4
  z4 := Tryz.sizeOf4
  v4 := Tryz.zeroValue4
  t9 := Tryz.underlying9
  a9 := Tryz.isAgg9
  z9 := Tryz.sizeOf9
  v9 := Tryz.zeroValue9 }
open Go.Lib in
theorem Tryz.internal_strconv_small (i : Nat) (h : i < 100) (w : World) :
    Calls Tryz.prog 85 #[.int .i64 i] w fun e w' => e = .returned (.string ⟨(Lib.decDigits i).toArray⟩) ∧ w' = w := Any.internal_strconv_small Tryz.lays283 i h w
def Tryz.laysM284_ren : Go.Shelf.Ren := ⟨fun | 284 => 86 | 129 => 101 | 317 => 100 | 318 => 102 | n => n, fun | 53 => 62 | 3 => 3 | 212 => 130 | 0 => 0 | 4 => 4 | 46 => 85 | 5 => 5 | 9 => 9 | n => n, fun | 17 => 0 | n => n⟩
theorem Tryz.laysM284 : Go.Proofs.LaysM.n284 Tryz.prog Tryz.laysM284_ren := {
  mixed := by kernel_rfl
  f129 := Tryz.func101.trans (congrArg some (by kernel_rfl))
  f284 := Tryz.func86.trans (congrArg some (by kernel_rfl))
  f317 := Tryz.func100.trans (congrArg some (by kernel_rfl))
  f318 := Tryz.func102.trans (congrArg some (by kernel_rfl))
  t0 := Tryz.underlying0
  a0 := Tryz.isAgg0
  z0 := Tryz.sizeOf0
  v0 := Tryz.zeroValue0
  t3 := Tryz.underlying3
  a3 := Tryz.isAgg3
  z3 := Tryz.sizeOf3
  v3 := Tryz.zeroValue3
  t4 := Tryz.underlying4
  a4 := Tryz.isAgg4
  z4 := Tryz.sizeOf4
  v4 := Tryz.zeroValue4
  t5 := Tryz.underlying5
  a5 := Tryz.isAgg5
  z5 := Tryz.sizeOf5
  v5 := Tryz.zeroValue5
  t9 := Tryz.underlying9
  a9 := Tryz.isAgg9
  z9 := Tryz.sizeOf9
  v9 := Tryz.zeroValue9
  t46 := Tryz.underlying85
  a46 := Tryz.isAgg85
  z46 := Tryz.sizeOf85
  v46 := Tryz.zeroValue85
  t53 := Tryz.underlying62
  a53 := Tryz.isAgg62
  z53 := Tryz.sizeOf62
  v53 := Tryz.zeroValue62
  t212 := Tryz.underlying130
  a212 := Tryz.isAgg130
  z212 := Tryz.sizeOf130
  v212 := Tryz.zeroValue130
  g17 := by kernel_rfl
  i0 := by kernel_rfl
  i3 := by kernel_rfl
  i4 := by kernel_rfl
  i5 := by kernel_rfl
  i9 := by kernel_rfl
  i46 := by kernel_rfl
  i53 := by kernel_rfl
  i212 := by kernel_rfl
  m17 := by kernel_rfl }
open Go.Lib in
theorem Tryz.internal_strconv_numDigits (u : Nat) (h1 : 1 ≤ u) (h2 : u < 18446744073709551616) (w : World) (htab : Lib.TabIs Tryz.prog w "internal/strconv.uint64pow10" .u64 Lib.pow10Tab) :
    Calls Tryz.prog 86 #[.int .u64 u] w fun e w' => e = .returned (.int .i64 (Lib.nDigits u)) ∧ w' = w := Any.internal_strconv_numDigits Tryz.laysM284 u h1 h2 w htab
def Tryz.lays285_ren : Go.Shelf.Ren := ⟨fun | 285 => 87 | n => n, fun | 37 => 74 | 53 => 62 | 3 => 3 | 4 => 4 | 51 => 60 | 9 => 9 | 5 => 5 | 0 => 0 | n => n, fun | n => n⟩
theorem Tryz.lays285 : Go.Proofs.Lays.n285 Tryz.prog Tryz.lays285_ren := {
  mixed := by kernel_rfl
  f285 := Tryz.func87.trans (congrArg some (by kernel_rfl))
  t0 := Tryz.underlying0
  a0 := Tryz.isAgg0
  z0 := Tryz.sizeOf0
  v0 := Tryz.zeroValue0
  t3 := Tryz.underlying3
  a3 := Tryz.isAgg3
  z3 := Tryz.sizeOf3
  v3 := Tryz.zeroValue3
  t4 := Tryz.underlying4
  a4 := Tryz.isAgg4
  z4 := Tryz.sizeOf4
  v4 := Tryz.zeroValue4
  t5 := Tryz.underlying5
  a5 := Tryz.isAgg5
  z5 := Tryz.sizeOf5
  v5 := Tryz.zeroValue5
  t9 := Tryz.underlying9
  a9 := Tryz.isAgg9
  z9 := Tryz.sizeOf9
  v9 := Tryz.zeroValue9
  t37 := Tryz.underlying74
  a37 := Tryz.isAgg74
  z37 := Tryz.sizeOf74
  v37 := Tryz.zeroValue74
  t51 := Tryz.underlying60
  a51 := Tryz.isAgg60
  z51 := Tryz.sizeOf60
  v51 := Tryz.zeroValue60
  t53 := Tryz.underlying62
  a53 := Tryz.isAgg62
  z53 := Tryz.sizeOf62
  v53 := Tryz.zeroValue62 }
open Go.RowKit Go.Sort Go.Lib in
theorem Tryz.internal_strconv_formatBase10 (blk off cap : Nat) (u : Nat) (d : Array UInt8) (w : World) (hH : Holds (fun (b : UInt8) => Value.int .u8 (b.toNat : Int)) w blk off d) (hu : u < 10 ^ d.size) (hu64 : u < 18446744073709551616) (hsz : d.size < 4611686018427387904) :
    Calls Tryz.prog 87 #[.slice (some ⟨blk, off, none⟩) d.size cap, .int .u64 u] w fun e w' =>
      e = .returned (.tuple #[]) ∧ ∃ (n v' : Nat) (dk : Array UInt8), w' = (putRow (fun (b : UInt8) => Value.int .u8 (b.toNat : Int)) w blk off dk).drewN n ∧ FmtInv d.size u 0 v' dk := Any.internal_strconv_formatBase10 Tryz.lays285 blk off cap u d w hH hu hu64 hsz
def Tryz.lays105_ren : Go.Shelf.Ren := ⟨fun | 105 => 52 | 212 => 71 | 99 => 72 | 165 => 73 | 166 => 51 | 170 => 74 | 169 => 53 | 263 => 90 | 264 => 91 | 206 => 92 | 240 => 70 | 241 => 93 | 276 => 89 | 277 => 105 | n => n, fun | 9 => 9 | 3 => 3 | 4 => 4 | 20 => 20 | 0 => 0 | 46 => 85 | 109 => 97 | 5 => 5 | 72 => 76 | 76 => 80 | 51 => 60 | 146 => 119 | 53 => 62 | 148 => 121 | 70 => 73 | 37 => 74 | 75 => 79 | 127 => 102 | 164 => 117 | 80 => 83 | n => n, fun | n => n⟩
theorem Tryz.lays105 : Go.Proofs.Lays.n105 Tryz.prog Tryz.lays105_ren := {
  mixed := by kernel_rfl
  f99 := Tryz.func72.trans (congrArg some (by kernel_rfl))
  f105 := Tryz.func52.trans (congrArg some (by kernel_rfl))
  f165 := Tryz.func73.trans (congrArg some (by kernel_rfl))
  f166 := Tryz.func51.trans (congrArg some (by kernel_rfl))
  f169 := Tryz.func53.trans (congrArg some (by kernel_rfl))
  f170 := Tryz.func74.trans (congrArg some (by kernel_rfl))
  f206 := Tryz.func92.trans (congrArg some (by kernel_rfl))
  f212 := Tryz.func71.trans (congrArg some (by kernel_rfl))
  f240 := Tryz.func70.trans (congrArg some (by kernel_rfl))
  f241 := Tryz.func93.trans (congrArg some (by kernel_rfl))
  f263 := Tryz.func90.trans (congrArg some (by kernel_rfl))
  f264 := Tryz.func91.trans (congrArg some (by kernel_rfl))
  f276 := Tryz.func89.trans (congrArg some (by kernel_rfl))
  f277 := Tryz.func105.trans (congrArg some (by kernel_rfl))
  t0 := Tryz.underlying0
  a0 := Tryz.isAgg0
  z0 := Tryz.sizeOf0
  v0 := Tryz.zeroValue0
  t3 := Tryz.underlying3
  a3 := Tryz.isAgg3
  z3 := Tryz.sizeOf3
  v3 := Tryz.zeroValue3
  t4 := Tryz.underlying4
  a4 := Tryz.isAgg4
  z4 := Tryz.sizeOf4
  v4 := Tryz.zeroValue4
  t5 := Tryz.underlying5
  a5 := Tryz.isAgg5
  z5 := Tryz.sizeOf5
  v5 := Tryz.zeroValue5
  t9 := Tryz.underlying9
  a9 := Tryz.isAgg9
  z9 := Tryz.sizeOf9
  v9 := Tryz.zeroValue9
  t20 := Tryz.underlying20
  a20 := Tryz.isAgg20
  z20 := Tryz.sizeOf20
  v20 := Tryz.zeroValue20
  t37 := Tryz.underlying74
  a37 := Tryz.isAgg74
  z37 := Tryz.sizeOf74
  v37 := Tryz.zeroValue74
  t46 := Tryz.underlying85
  a46 := Tryz.isAgg85
  z46 := Tryz.sizeOf85
  v46 := Tryz.zeroValue85
  t51 := Tryz.underlying60
  a51 := Tryz.isAgg60
  z51 := Tryz.sizeOf60
  v51 := Tryz.zeroValue60
  t53 := Tryz.underlying62
  a53 := Tryz.isAgg62
  z53 := Tryz.sizeOf62
  v53 := Tryz.zeroValue62
  t70 := Tryz.underlying73
  a70 := Tryz.isAgg73
  z70 := Tryz.sizeOf73
  v70 := Tryz.zeroValue73
  t72 := Tryz.underlying76
  a72 := Tryz.isAgg76
  z72 := Tryz.sizeOf76
  v72 := Tryz.zeroValue76
  t75 := Tryz.underlying79
  a75 := Tryz.isAgg79
  z75 := Tryz.sizeOf79
  v75 := Tryz.zeroValue79
  t76 := Tryz.underlying80
  a76 := Tryz.isAgg80
  z76 := Tryz.sizeOf80
  v76 := Tryz.zeroValue80
  t109 := Tryz.underlying97
  a109 := Tryz.isAgg97
  z109 := Tryz.sizeOf97
  v109 := Tryz.zeroValue97
  t127 := Tryz.underlying102
  a127 := Tryz.isAgg102
  z127 := Tryz.sizeOf102
  v127 := Tryz.zeroValue102
  t146 := Tryz.underlying119
  a146 := Tryz.isAgg119
  z146 := Tryz.sizeOf119
  v146 := Tryz.zeroValue119
  t148 := Tryz.underlying121
  a148 := Tryz.isAgg121
  z148 := Tryz.sizeOf121
  v148 := Tryz.zeroValue121
  t164 := Tryz.underlying117
  a164 := Tryz.isAgg117
  z164 := Tryz.sizeOf117
  v164 := Tryz.zeroValue117 }
theorem Tryz.Builder_Extra_105 : Builder.Extra Tryz.prog Tryz.lays105_ren := {
  sizeBuilder := by kernel_rfl
  liesBuilder := by kernel_rfl
  t5 := Tryz.underlying5
  a5 := Tryz.isAgg5
  z5 := Tryz.sizeOf5
  v5 := Tryz.zeroValue5
  infoByte := by kernel_rfl
  cellsByte := by kernel_rfl
  sizeByte := by kernel_rfl
  neB5 := by decide }
open Go.RowKit Go.Lib in
theorem Tryz.strings_Repeat (s : ByteArray) (c : Nat) (w : World) (hc : c ≤ 9223372036854775807) (hlen : s.size * c ≤ 140737488355328) :
    Calls Tryz.prog 52 #[.string s, .int .i64 c] w fun e w' => e = .returned (.string ⟨(Lib.repeatL s.data.toList c).toArray⟩) ∧ Below w.heap.size w w' := Any.strings_Repeat Tryz.lays105 Tryz.Builder_Extra_105 s c w hc hlen
end Go.Proofs

namespace Go.Proofs.YtdhkpgndpgacbaaGreatDoor
open Go.Lib
set_option linter.unusedSimpArgs false
set_option linter.unusedVariables false

theorem dec_big {u : Nat} (h : ¬ u < 10) : decDigits u = decDigits (u / 10) ++ [UInt8.ofNat (48 + u % 10)] := by rw [decDigits, dif_neg h]

/-- The last k digits, zeros ahead. -/
def padD : Nat → Nat → List UInt8
  | 0, _ => []
  | k + 1, u => padD k (u / 10) ++ [UInt8.ofNat (48 + u % 10)]

theorem padD_zero (k : Nat) : padD k 0 = List.replicate k 48 := by
  induction k with
  | zero => rfl
  | succ k ih => rw [padD, Nat.zero_div, ih, List.replicate_succ']; rfl

theorem dec_pad : ∀ (k q r : Nat), 1 ≤ q → r < 10 ^ k → decDigits (q * 10 ^ k + r) = decDigits q ++ padD k r := by
  intro k
  induction k with
  | zero =>
    intro q r hq hr
    simp at hr
    subst hr
    simp [padD]
  | succ k ih =>
    intro q r hq hr
    rw [Nat.pow_succ] at hr
    have hp : 1 ≤ 10 ^ k := Nat.pow_pos (by decide)
    have hge : 10 ≤ q * 10 ^ (k + 1) + r := by
      have h1 : 1 * 10 ^ (k + 1) ≤ q * 10 ^ (k + 1) := Nat.mul_le_mul_right _ hq
      rw [Nat.pow_succ] at h1 ⊢
      omega
    have e : q * 10 ^ (k + 1) + r = 10 * (q * 10 ^ k) + r := by rw [Nat.pow_succ]; generalize 10 ^ k = p; grind
    rw [dec_big (by omega), e, Nat.mul_add_div (by decide), Nat.mul_add_mod, ih q (r / 10) hq (by omega), padD, List.append_assoc]

theorem pad_dec : ∀ (k r : Nat), 1 ≤ k → r < 10 ^ k → padD k r = List.replicate (k - nDigits r) 48 ++ decDigits r ∧ nDigits r ≤ k := by
  intro k
  induction k with
  | zero => intro r h; omega
  | succ k ih =>
    intro r _ hr
    by_cases h : r < 10
    · rw [padD, Nat.div_eq_of_lt h, padD_zero, nDigits_small h, Nat.mod_eq_of_lt h, decDigits_one h]
      exact ⟨by simp, by omega⟩
    · have hk : 1 ≤ k := by
        rcases Nat.eq_zero_or_pos k with h0 | h0
        · subst h0; simp at hr; omega
        · exact h0
      rw [Nat.pow_succ] at hr
      obtain ⟨h1, h2⟩ := ih (r / 10) hk (by omega)
      rw [padD, h1, nDigits_big h, dec_big h, List.append_assoc, show k + 1 - (nDigits (r / 10) + 1) = k - nDigits (r / 10) by omega]
      exact ⟨rfl, by omega⟩

/-- The value of groups of nine digits, the least significant first. -/
def G : List Nat → Nat
  | [] => 0
  | x :: xs => x + 1000000000 * G xs

theorem G_drop (gs : List Nat) (k : Nat) : G (gs.drop k) = gs.getD k 0 + 1000000000 * G (gs.drop (k + 1)) := by
  induction gs generalizing k with
  | nil => simp [G]
  | cons x xs ih =>
    cases k with
    | zero => simp [G]
    | succ k => simpa using ih k

theorem G_snoc (gs : List Nat) (x : Nat) : G (gs ++ [x]) = G gs + 1000000000 ^ gs.length * x := by
  induction gs with
  | nil => simp [G]
  | cons y ys ih => rw [List.cons_append, G, ih, G, List.length_cons, Nat.pow_succ]; generalize 1000000000 ^ ys.length = p; grind

/-- One more group behind those that are written. -/
theorem group_step {q g : Nat} (hq : 1 ≤ q) (hg : g < 1000000000) : decDigits (g + 1000000000 * q) = decDigits q ++ (List.replicate (9 - nDigits g) 48 ++ decDigits g) := by
  have h1 := dec_pad 9 q g hq hg
  have h2 := (pad_dec 9 g (by decide) hg).1
  rw [← h2, ← h1]
  congr 1
  omega

end Go.Proofs.YtdhkpgndpgacbaaGreatDoor
