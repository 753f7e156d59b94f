/-
  ratio.floor, Floor, Round: the walks.
  DERIVED: THE SHELF's CONTRACTS AT THIS DUMP, IN PLAIN WORDS (tools/lay-plain.mjs out of 'TrydShelfMin.lean', which tools/lay-shelf.mjs wrote): THE SAME DECLARATIONS UNDER THE SAME NAMES: 'import', 'namespace', 'open', 'def', 'theorem' AND NOTHING ELSE: no command of the shelf's: FOR A HAND-IN. Each laying: the table of numbers ('.._ren') and one theorem, a field a fact of the dump's own or the kernel's comparison; each contract: ONE APPLICATION.
  The plain mathematics of decimal digits, in groups of nine.
  strconv.FormatUint at base 10; (*strings.Builder).WriteString, out of strings.Repeat's own laying.
  nat.digitGroups: the walk.
-/
import Derived.Test.YthoildjecoppgaaDoorZ7
import Derived.Deep.RegionHeld3
import Derived.Shelf.Strings.Builder1
import Derived.Shelf.Strconv.Itoa0
import Derived.Shelf.Strconv.Itoa1
import Derived.Shelf.LaysM
import Derived.Shelf.Strconv.Itoa2
import Derived.Shelf.Strings.Repeat
import Derived.Test.YthoildjecoppgaaDoorProg
import Derived.Test.YthoildjecoppgaaDoorZ1
import Derived.Lib.ItoaNum
import Derived.Lib.ItoaMem
import Derived.Lib.AppendIntMem
import Derived.Lib.Walk
import Derived.WalkKit
import Derived.Test.YthoildjecoppgaaDoorZ5
import Derived.Deep.LoopGhost
namespace Go.Proofs.YthoildjecoppgaaDoor
open Go.RowKit
set_option linter.unusedSimpArgs false
set_option linter.unusedVariables false

theorem floor_mk (a : Int) (b : Nat) (hb : b ≠ 0) : (mkRat a b).floor = a / (b : Int) := by
  have key : ∀ x : Int, (mkRat a b).floor < x ↔ a / (b : Int) < x := by
    intro x
    have hb' : (0 : Rat) < (b : Rat) := Rat.natCast_pos.2 (Nat.pos_of_ne_zero hb)
    rw [Rat.floor_lt_iff, Rat.mkRat_eq_div, Rat.div_lt_iff hb', Int.ediv_lt_iff_lt_mul (by omega)]
    rw [show ((b : Rat)) = (((b : Int)) : Rat) from rfl, ← Rat.intCast_mul, Rat.intCast_lt_intCast]
  have h1 := (key (a / (b : Int) + 1)).2 (by omega)
  have h2 := (key ((mkRat a b).floor + 1)).1 (by omega)
  omega
theorem neg_ediv (x y : Nat) (hy : y ≠ 0) : (-(x : Int)) / (y : Int) = -((x / y + (if 0 < x % y then 1 else 0) : Nat) : Int) := by
  have h := Nat.div_add_mod x y
  have hl := Nat.mod_lt x (Nat.pos_of_ne_zero hy)
  generalize x / y = q at *
  generalize x % y = r at *
  subst h
  have hy' : (y : Int) ≠ 0 := by omega
  split
  · have : (-((y * q + r : Nat) : Int)) = (y - r : Int) + (y : Int) * (-(q : Int) - 1) := by push_cast; grind
    rw [this, Int.add_mul_ediv_left _ _ hy', Int.ediv_eq_zero_of_lt (by omega) (by omega)]; push_cast; omega
  · have : r = 0 := by omega
    subst this
    have : (-((y * q + 0 : Nat) : Int)) = (y : Int) * (-(q : Int)) := by push_cast; grind
    rw [this, Int.mul_ediv_cancel_left _ hy']; push_cast; omega

/-- Is it an int64? -/
def flB (z : Int) : Bool := decide (-9223372036854775808 ≤ z ∧ z < 9223372036854775808)
/-- It; else 0. -/
def flN (z : Int) : Int := if flB z = true then z else 0

theorem floor_pos {xs ys : List Nat} (hy : V ys ≠ 0) : (qv false xs ys).floor = ((V xs / V ys : Nat) : Int) := by
  unfold qv; rw [floor_mk _ _ hy]; simp [sg]
theorem floor_neg {xs ys : List Nat} (hy : V ys ≠ 0) : (qv true xs ys).floor = -((V xs / V ys + (if 0 < V xs % V ys then 1 else 0) : Nat) : Int) := by
  unfold qv; rw [floor_mk _ _ hy, show sg true (V xs) = -(V xs : Int) from rfl, neg_ediv _ _ hy]

theorem flB_pos (m : Nat) : flB (m : Int) = decide (m < 9223372036854775808) := by
  unfold flB; by_cases h : m < 9223372036854775808 <;> simp [h] <;> omega
theorem flB_neg (m : Nat) : flB (-(m : Int)) = decide (m ≤ 9223372036854775808) := by
  unfold flB; by_cases h : m ≤ 9223372036854775808 <;> simp [h] <;> omega

theorem flN_pos (m : Nat) : flN (m : Int) = if m < 9223372036854775808 then (m : Int) else 0 := by unfold flN; rw [flB_pos]; simp
theorem flN_neg (m : Nat) : flN (-(m : Int)) = if m ≤ 9223372036854775808 then -(m : Int) else 0 := by unfold flN; rw [flB_neg]; simp

theorem wrap_i64 (z : Int) : IntKind.i64.wrap z = if 9223372036854775808 ≤ z % 18446744073709551616 then z % 18446744073709551616 - 18446744073709551616 else z % 18446744073709551616 := by
  unfold IntKind.wrap; simp [IntKind.bits, IntKind.signed]

theorem back_pos {m : Nat} (h : m < 9223372036854775808) : wrap64 (m : Int) = (m : Int) := by
  unfold wrap64; omega
theorem back_neg {m : Nat} (h : m ≤ 9223372036854775808) : wrap64 (IntKind.u64.wrap (-(m : Int))) = -(m : Int) := by
  rw [wrap_u64]
  unfold wrap64
  by_cases h0 : m = 0
  · subst h0; rfl
  · have e : (-(m : Int)) % 18446744073709551616 = 18446744073709551616 - (m : Int) := by omega
    rw [e]; omega

theorem ret_two {a b : Int} {c d : Bool} (h : a = b) (k : c = d) : Ending.returned (.tuple #[.int .i64 a, .bool c]) = .returned (.tuple #[.int .i64 b, .bool d]) := by rw [h, k]

theorem lo_half {w : World} {a a' : Option Addr} {c c' : Nat} {xs ys : List Nat} (hx : Rd w a c xs) (hy : Rd w a' c' ys) (tx : Tr xs) (ty : Tr ys) (vx : V xs = 1) (vy : V ys = 2) :
    Lo w (.agg #[.bool false, .slice a xs.length c, .slice a' ys.length c']) 2 (1 / 2) := by
  refine ⟨_, _, _, ⟨_, _, _, _, rfl, hx, hy⟩, tx, ty, by omega, len_two tx (by omega), len_two ty (by omega), ?_⟩
  unfold qv
  rw [vx, vy, Rat.mkRat_eq_div]
  rfl

end Go.Proofs.YthoildjecoppgaaDoor

namespace Go.Proofs
open Go.Shelf
def Tryd.lays169_ren : Go.Shelf.Ren := ⟨fun | 169 => 45 | n => n, fun | 70 => 87 | 9 => 9 | 0 => 0 | 72 => 90 | 37 => 88 | 127 => 108 | 3 => 3 | 5 => 5 | n => n, fun | n => n⟩
theorem Tryd.lays169 : Go.Proofs.Lays.n169 Tryd.prog Tryd.lays169_ren := {
  mixed := by kernel_rfl
  f169 := Tryd.func45.trans (congrArg some (by kernel_rfl))
  t0 := Tryd.underlying0
  a0 := Tryd.isAgg0
  z0 := Tryd.sizeOf0
  v0 := Tryd.zeroValue0
  t3 := Tryd.underlying3
  a3 := Tryd.isAgg3
  z3 := Tryd.sizeOf3
  v3 := Tryd.zeroValue3
  t9 := Tryd.underlying9
  a9 := Tryd.isAgg9
  z9 := Tryd.sizeOf9
  v9 := Tryd.zeroValue9
  t37 := Tryd.underlying88
  a37 := Tryd.isAgg88
  z37 := Tryd.sizeOf88
  v37 := Tryd.zeroValue88
  t70 := Tryd.underlying87
  a70 := Tryd.isAgg87
  z70 := Tryd.sizeOf87
  v70 := Tryd.zeroValue87
  t72 := Tryd.underlying90
  a72 := Tryd.isAgg90
  z72 := Tryd.sizeOf90
  v72 := Tryd.zeroValue90
  t127 := Tryd.underlying108
  a127 := Tryd.isAgg108
  z127 := Tryd.sizeOf108
  v127 := Tryd.zeroValue108 }
theorem Tryd.Builder_Extra_169 : Builder.Extra Tryd.prog Tryd.lays169_ren := {
  sizeBuilder := by kernel_rfl
  liesBuilder := by kernel_rfl
  t5 := Tryd.underlying5
  a5 := Tryd.isAgg5
  z5 := Tryd.sizeOf5
  v5 := Tryd.zeroValue5
  infoByte := by kernel_rfl
  cellsByte := by kernel_rfl
  sizeByte := by kernel_rfl
  neB5 := by decide }
open Go.RowKit in
theorem Tryd.Builder_String_any (B b : Nat) (l : List UInt8) (w : World) (h : Lib.IsBuilder 90 5 B b (Lib.byteCells l) w) (hBw : B ≤ w.heap.size) :
    Calls Tryd.prog 45 #[.pointer (some ⟨b, 0, none⟩)] w fun e w' => e = .returned (.string ⟨l.toArray⟩) ∧ Below B w w' := Any.Builder_String_any Tryd.lays169 Tryd.Builder_Extra_169 B b l w h hBw
def Tryd.lays283_ren : Go.Shelf.Ren := ⟨fun | 283 => 73 | n => n, fun | 3 => 3 | 9 => 9 | 4 => 4 | n => n, fun | n => n⟩
theorem Tryd.lays283 : Go.Proofs.Lays.n283 Tryd.prog Tryd.lays283_ren := {
  mixed := by kernel_rfl
  f283 := Tryd.func73.trans (congrArg some (by kernel_rfl))
  t3 := Tryd.underlying3
  a3 := Tryd.isAgg3
  z3 := Tryd.sizeOf3
  v3 := Tryd.zeroValue3
  t4 := Tryd.underlying4
  a4 := Tryd.isAgg4
  z4 := Tryd.sizeOf4
  v4 := Tryd.zeroValue4
  t9 := Tryd.underlying9
  a9 := Tryd.isAgg9
  z9 := Tryd.sizeOf9
  v9 := Tryd.zeroValue9 }
open Go.Lib in
theorem Tryd.internal_strconv_small (i : Nat) (h : i < 100) (w : World) :
    Calls Tryd.prog 73 #[.int .i64 i] w fun e w' => e = .returned (.string ⟨(Lib.decDigits i).toArray⟩) ∧ w' = w := Any.internal_strconv_small Tryd.lays283 i h w
def Tryd.laysM284_ren : Go.Shelf.Ren := ⟨fun | 284 => 74 | 129 => 88 | 317 => 87 | 318 => 89 | n => n, fun | 53 => 57 | 3 => 3 | 212 => 135 | 0 => 0 | 4 => 4 | 46 => 79 | 5 => 5 | 9 => 9 | n => n, fun | 17 => 0 | n => n⟩
theorem Tryd.laysM284 : Go.Proofs.LaysM.n284 Tryd.prog Tryd.laysM284_ren := {
  mixed := by kernel_rfl
  f129 := Tryd.func88.trans (congrArg some (by kernel_rfl))
  f284 := Tryd.func74.trans (congrArg some (by kernel_rfl))
  f317 := Tryd.func87.trans (congrArg some (by kernel_rfl))
  f318 := Tryd.func89.trans (congrArg some (by kernel_rfl))
  t0 := Tryd.underlying0
  a0 := Tryd.isAgg0
  z0 := Tryd.sizeOf0
  v0 := Tryd.zeroValue0
  t3 := Tryd.underlying3
  a3 := Tryd.isAgg3
  z3 := Tryd.sizeOf3
  v3 := Tryd.zeroValue3
  t4 := Tryd.underlying4
  a4 := Tryd.isAgg4
  z4 := Tryd.sizeOf4
  v4 := Tryd.zeroValue4
  t5 := Tryd.underlying5
  a5 := Tryd.isAgg5
  z5 := Tryd.sizeOf5
  v5 := Tryd.zeroValue5
  t9 := Tryd.underlying9
  a9 := Tryd.isAgg9
  z9 := Tryd.sizeOf9
  v9 := Tryd.zeroValue9
  t46 := Tryd.underlying79
  a46 := Tryd.isAgg79
  z46 := Tryd.sizeOf79
  v46 := Tryd.zeroValue79
  t53 := Tryd.underlying57
  a53 := Tryd.isAgg57
  z53 := Tryd.sizeOf57
  v53 := Tryd.zeroValue57
  t212 := Tryd.underlying135
  a212 := Tryd.isAgg135
  z212 := Tryd.sizeOf135
  v212 := Tryd.zeroValue135
  g17 := by kernel_rfl
  i0 := by kernel_rfl
  i3 := by kernel_rfl
  i4 := by kernel_rfl
  i5 := by kernel_rfl
  i9 := by kernel_rfl
  i46 := by kernel_rfl
  i53 := by kernel_rfl
  i212 := by kernel_rfl
  m17 := by kernel_rfl }
open Go.Lib in
theorem Tryd.internal_strconv_numDigits (u : Nat) (h1 : 1 ≤ u) (h2 : u < 18446744073709551616) (w : World) (htab : Lib.TabIs Tryd.prog w "internal/strconv.uint64pow10" .u64 Lib.pow10Tab) :
    Calls Tryd.prog 74 #[.int .u64 u] w fun e w' => e = .returned (.int .i64 (Lib.nDigits u)) ∧ w' = w := Any.internal_strconv_numDigits Tryd.laysM284 u h1 h2 w htab
def Tryd.lays285_ren : Go.Shelf.Ren := ⟨fun | 285 => 75 | n => n, fun | 37 => 88 | 53 => 57 | 3 => 3 | 4 => 4 | 51 => 78 | 9 => 9 | 5 => 5 | 0 => 0 | n => n, fun | n => n⟩
theorem Tryd.lays285 : Go.Proofs.Lays.n285 Tryd.prog Tryd.lays285_ren := {
  mixed := by kernel_rfl
  f285 := Tryd.func75.trans (congrArg some (by kernel_rfl))
  t0 := Tryd.underlying0
  a0 := Tryd.isAgg0
  z0 := Tryd.sizeOf0
  v0 := Tryd.zeroValue0
  t3 := Tryd.underlying3
  a3 := Tryd.isAgg3
  z3 := Tryd.sizeOf3
  v3 := Tryd.zeroValue3
  t4 := Tryd.underlying4
  a4 := Tryd.isAgg4
  z4 := Tryd.sizeOf4
  v4 := Tryd.zeroValue4
  t5 := Tryd.underlying5
  a5 := Tryd.isAgg5
  z5 := Tryd.sizeOf5
  v5 := Tryd.zeroValue5
  t9 := Tryd.underlying9
  a9 := Tryd.isAgg9
  z9 := Tryd.sizeOf9
  v9 := Tryd.zeroValue9
  t37 := Tryd.underlying88
  a37 := Tryd.isAgg88
  z37 := Tryd.sizeOf88
  v37 := Tryd.zeroValue88
  t51 := Tryd.underlying78
  a51 := Tryd.isAgg78
  z51 := Tryd.sizeOf78
  v51 := Tryd.zeroValue78
  t53 := Tryd.underlying57
  a53 := Tryd.isAgg57
  z53 := Tryd.sizeOf57
  v53 := Tryd.zeroValue57 }
open Go.RowKit Go.Sort Go.Lib in
theorem Tryd.internal_strconv_formatBase10 (blk off cap : Nat) (u : Nat) (d : Array UInt8) (w : World) (hH : Holds (fun (b : UInt8) => Value.int .u8 (b.toNat : Int)) w blk off d) (hu : u < 10 ^ d.size) (hu64 : u < 18446744073709551616) (hsz : d.size < 4611686018427387904) :
    Calls Tryd.prog 75 #[.slice (some ⟨blk, off, none⟩) d.size cap, .int .u64 u] w fun e w' =>
      e = .returned (.tuple #[]) ∧ ∃ (n v' : Nat) (dk : Array UInt8), w' = (putRow (fun (b : UInt8) => Value.int .u8 (b.toNat : Int)) w blk off dk).drewN n ∧ FmtInv d.size u 0 v' dk := Any.internal_strconv_formatBase10 Tryd.lays285 blk off cap u d w hH hu hu64 hsz
def Tryd.lays105_ren : Go.Shelf.Ren := ⟨fun | 105 => 44 | 212 => 58 | 99 => 59 | 165 => 60 | 166 => 43 | 170 => 61 | 169 => 45 | 263 => 78 | 264 => 79 | 206 => 80 | 240 => 57 | 241 => 81 | 276 => 77 | 277 => 92 | n => n, fun | 9 => 9 | 3 => 3 | 4 => 4 | 20 => 20 | 0 => 0 | 46 => 79 | 109 => 103 | 5 => 5 | 72 => 90 | 76 => 94 | 51 => 78 | 146 => 127 | 53 => 57 | 148 => 129 | 70 => 87 | 37 => 88 | 75 => 93 | 127 => 108 | 164 => 125 | 80 => 97 | n => n, fun | n => n⟩
theorem Tryd.lays105 : Go.Proofs.Lays.n105 Tryd.prog Tryd.lays105_ren := {
  mixed := by kernel_rfl
  f99 := Tryd.func59.trans (congrArg some (by kernel_rfl))
  f105 := Tryd.func44.trans (congrArg some (by kernel_rfl))
  f165 := Tryd.func60.trans (congrArg some (by kernel_rfl))
  f166 := Tryd.func43.trans (congrArg some (by kernel_rfl))
  f169 := Tryd.func45.trans (congrArg some (by kernel_rfl))
  f170 := Tryd.func61.trans (congrArg some (by kernel_rfl))
  f206 := Tryd.func80.trans (congrArg some (by kernel_rfl))
  f212 := Tryd.func58.trans (congrArg some (by kernel_rfl))
  f240 := Tryd.func57.trans (congrArg some (by kernel_rfl))
  f241 := Tryd.func81.trans (congrArg some (by kernel_rfl))
  f263 := Tryd.func78.trans (congrArg some (by kernel_rfl))
  f264 := Tryd.func79.trans (congrArg some (by kernel_rfl))
  f276 := Tryd.func77.trans (congrArg some (by kernel_rfl))
  f277 := Tryd.func92.trans (congrArg some (by kernel_rfl))
  t0 := Tryd.underlying0
  a0 := Tryd.isAgg0
  z0 := Tryd.sizeOf0
  v0 := Tryd.zeroValue0
  t3 := Tryd.underlying3
  a3 := Tryd.isAgg3
  z3 := Tryd.sizeOf3
  v3 := Tryd.zeroValue3
  t4 := Tryd.underlying4
  a4 := Tryd.isAgg4
  z4 := Tryd.sizeOf4
  v4 := Tryd.zeroValue4
  t5 := Tryd.underlying5
  a5 := Tryd.isAgg5
  z5 := Tryd.sizeOf5
  v5 := Tryd.zeroValue5
  t9 := Tryd.underlying9
  a9 := Tryd.isAgg9
  z9 := Tryd.sizeOf9
  v9 := Tryd.zeroValue9
  t20 := Tryd.underlying20
  a20 := Tryd.isAgg20
  z20 := Tryd.sizeOf20
  v20 := Tryd.zeroValue20
  t37 := Tryd.underlying88
  a37 := Tryd.isAgg88
  z37 := Tryd.sizeOf88
  v37 := Tryd.zeroValue88
  t46 := Tryd.underlying79
  a46 := Tryd.isAgg79
  z46 := Tryd.sizeOf79
  v46 := Tryd.zeroValue79
  t51 := Tryd.underlying78
  a51 := Tryd.isAgg78
  z51 := Tryd.sizeOf78
  v51 := Tryd.zeroValue78
  t53 := Tryd.underlying57
  a53 := Tryd.isAgg57
  z53 := Tryd.sizeOf57
  v53 := Tryd.zeroValue57
  t70 := Tryd.underlying87
  a70 := Tryd.isAgg87
  z70 := Tryd.sizeOf87
  v70 := Tryd.zeroValue87
  t72 := Tryd.underlying90
  a72 := Tryd.isAgg90
  z72 := Tryd.sizeOf90
  v72 := Tryd.zeroValue90
  t75 := Tryd.underlying93
  a75 := Tryd.isAgg93
  z75 := Tryd.sizeOf93
  v75 := Tryd.zeroValue93
  t76 := Tryd.underlying94
  a76 := Tryd.isAgg94
  z76 := Tryd.sizeOf94
  v76 := Tryd.zeroValue94
  t109 := Tryd.underlying103
  a109 := Tryd.isAgg103
  z109 := Tryd.sizeOf103
  v109 := Tryd.zeroValue103
  t127 := Tryd.underlying108
  a127 := Tryd.isAgg108
  z127 := Tryd.sizeOf108
  v127 := Tryd.zeroValue108
  t146 := Tryd.underlying127
  a146 := Tryd.isAgg127
  z146 := Tryd.sizeOf127
  v146 := Tryd.zeroValue127
  t148 := Tryd.underlying129
  a148 := Tryd.isAgg129
  z148 := Tryd.sizeOf129
  v148 := Tryd.zeroValue129
  t164 := Tryd.underlying125
  a164 := Tryd.isAgg125
  z164 := Tryd.sizeOf125
  v164 := Tryd.zeroValue125 }
theorem Tryd.Builder_Extra_105 : Builder.Extra Tryd.prog Tryd.lays105_ren := {
  sizeBuilder := by kernel_rfl
  liesBuilder := by kernel_rfl
  t5 := Tryd.underlying5
  a5 := Tryd.isAgg5
  z5 := Tryd.sizeOf5
  v5 := Tryd.zeroValue5
  infoByte := by kernel_rfl
  cellsByte := by kernel_rfl
  sizeByte := by kernel_rfl
  neB5 := by decide }
open Go.RowKit Go.Lib in
theorem Tryd.strings_Repeat (s : ByteArray) (c : Nat) (w : World) (hc : c ≤ 9223372036854775807) (hlen : s.size * c ≤ 140737488355328) :
    Calls Tryd.prog 44 #[.string s, .int .i64 c] w fun e w' => e = .returned (.string ⟨(Lib.repeatL s.data.toList c).toArray⟩) ∧ Below w.heap.size w w' := Any.strings_Repeat Tryd.lays105 Tryd.Builder_Extra_105 s c w hc hlen
end Go.Proofs

namespace Go.Proofs.YthoildjecoppgaaDoor
open Go.Lib
set_option linter.unusedSimpArgs false
set_option linter.unusedVariables false

theorem dec_big {u : Nat} (h : ¬ u < 10) : decDigits u = decDigits (u / 10) ++ [UInt8.ofNat (48 + u % 10)] := by rw [decDigits, dif_neg h]

/-- The last k digits, zeros ahead. -/
def padD : Nat → Nat → List UInt8
  | 0, _ => []
  | k + 1, u => padD k (u / 10) ++ [UInt8.ofNat (48 + u % 10)]

theorem padD_zero (k : Nat) : padD k 0 = List.replicate k 48 := by
  induction k with
  | zero => rfl
  | succ k ih => rw [padD, Nat.zero_div, ih, List.replicate_succ']; rfl

theorem dec_pad : ∀ (k q r : Nat), 1 ≤ q → r < 10 ^ k → decDigits (q * 10 ^ k + r) = decDigits q ++ padD k r := by
  intro k
  induction k with
  | zero =>
    intro q r hq hr
    simp at hr
    subst hr
    simp [padD]
  | succ k ih =>
    intro q r hq hr
    rw [Nat.pow_succ] at hr
    have hp : 1 ≤ 10 ^ k := Nat.pow_pos (by decide)
    have hge : 10 ≤ q * 10 ^ (k + 1) + r := by
      have h1 : 1 * 10 ^ (k + 1) ≤ q * 10 ^ (k + 1) := Nat.mul_le_mul_right _ hq
      rw [Nat.pow_succ] at h1 ⊢
      omega
    have e : q * 10 ^ (k + 1) + r = 10 * (q * 10 ^ k) + r := by rw [Nat.pow_succ]; generalize 10 ^ k = p; grind
    rw [dec_big (by omega), e, Nat.mul_add_div (by decide), Nat.mul_add_mod, ih q (r / 10) hq (by omega), padD, List.append_assoc]

theorem pad_dec : ∀ (k r : Nat), 1 ≤ k → r < 10 ^ k → padD k r = List.replicate (k - nDigits r) 48 ++ decDigits r ∧ nDigits r ≤ k := by
  intro k
  induction k with
  | zero => intro r h; omega
  | succ k ih =>
    intro r _ hr
    by_cases h : r < 10
    · rw [padD, Nat.div_eq_of_lt h, padD_zero, nDigits_small h, Nat.mod_eq_of_lt h, decDigits_one h]
      exact ⟨by simp, by omega⟩
    · have hk : 1 ≤ k := by
        rcases Nat.eq_zero_or_pos k with h0 | h0
        · subst h0; simp at hr; omega
        · exact h0
      rw [Nat.pow_succ] at hr
      obtain ⟨h1, h2⟩ := ih (r / 10) hk (by omega)
      rw [padD, h1, nDigits_big h, dec_big h, List.append_assoc, show k + 1 - (nDigits (r / 10) + 1) = k - nDigits (r / 10) by omega]
      exact ⟨rfl, by omega⟩

/-- The value of groups of nine digits, the least significant first. -/
def G : List Nat → Nat
  | [] => 0
  | x :: xs => x + 1000000000 * G xs

theorem G_drop (gs : List Nat) (k : Nat) : G (gs.drop k) = gs.getD k 0 + 1000000000 * G (gs.drop (k + 1)) := by
  induction gs generalizing k with
  | nil => simp [G]
  | cons x xs ih =>
    cases k with
    | zero => simp [G]
    | succ k => simpa using ih k

theorem G_snoc (gs : List Nat) (x : Nat) : G (gs ++ [x]) = G gs + 1000000000 ^ gs.length * x := by
  induction gs with
  | nil => simp [G]
  | cons y ys ih => rw [List.cons_append, G, ih, G, List.length_cons, Nat.pow_succ]; generalize 1000000000 ^ ys.length = p; grind

/-- One more group behind those that are written. -/
theorem group_step {q g : Nat} (hq : 1 ≤ q) (hg : g < 1000000000) : decDigits (g + 1000000000 * q) = decDigits q ++ (List.replicate (9 - nDigits g) 48 ++ decDigits g) := by
  have h1 := dec_pad 9 q g hq hg
  have h2 := (pad_dec 9 g (by decide) hg).1
  rw [← h2, ← h1]
  congr 1
  omega

end Go.Proofs.YthoildjecoppgaaDoor

namespace Go.Proofs.YthoildjecoppgaaDoor
open Go.RowKit Go.Sort Go.Lib
set_option linter.unusedSimpArgs false
set_option linter.unusedVariables false

/-- The library's table of powers of ten reads as it was laid. -/
def Pow (w : World) : Prop := Lib.TabIs Tryd.prog w "internal/strconv.uint64pow10" .u64 Lib.pow10Tab
theorem Pow.below {w w' : World} (h : Pow w) (hb : Below w.heap.size w w') : Pow w' := by
  unfold Pow Lib.TabIs World.var? at *
  cases hg : Tryd.prog.globalNamed "internal/strconv.uint64pow10" with
  | none => simp [hg] at h
  | some g =>
    simp only [hg, Option.bind_some] at h ⊢
    have hlt : g < w.heap.size := by
      rcases Nat.lt_or_ge g w.heap.size with h' | h'
      · exact h'
      · rw [Array.getElem?_eq_none h'] at h; simp at h
    rw [hb.block g hlt]
    exact h

theorem holds_zero0 (w : World) (T : TypeId) (nd : Nat) (hs : nd ≤ 24) : Holds (fun (b : UInt8) => Value.int .u8 (b.toNat : Int)) (w.alloc (.cells Lib.zeros24 T)) w.heap.size 0 (Array.replicate nd (0 : UInt8)) := fun j hj => by
  have hj' : j < nd := by simpa using hj
  refine ⟨?_, World.frozen?_alloc_new _ _ _ _⟩
  rw [World.cell?_alloc_new, zeros24_at _ (by omega), getElem!_pos _ j hj]
  simp

theorem fin_pos0 (w : World) (o : Obj) (dk : Array UInt8) (k : Nat) : Below w.heap.size w ((putRow (fun (b : UInt8) => Value.int .u8 (b.toNat : Int)) (w.alloc o) w.heap.size 0 dk).drewN k) := by
  rw [alloc_eq_grow]
  obtain ⟨os', _, e⟩ := putRow_grow_new (fun (b : UInt8) => Value.int .u8 (b.toNat : Int)) w #[o] w.heap.size 0 dk (Nat.le_refl _)
  rw [e]
  exact Lib.below_grow _ w (Nat.le_refl _) k os'

set_option maxHeartbeats 6400000 in
set_option maxRecDepth 100000 in
theorem fmt0_any (u : Nat) (hu64 : u < 18446744073709551616) (w : World) (htab : Pow w) :
    Calls Tryd.prog 56 #[.int .u64 (u : Int), .int .i64 10] w fun e w' => e = .returned (.string ⟨(Lib.decDigits u).toArray⟩) ∧ Below w.heap.size w w' := by
  by_cases hs : u < 100
  · go_enter Tryd.func56, Tryd.ntmps56
    go_wp2_with fail
    refine (Tryd.internal_strconv_small u hs _).mono ?_
    rintro e w' ⟨rfl, rfl⟩
    go_wp2
    go_ret
    exact ⟨rfl, Below.refl _ _⟩
  · have hu1 : 1 ≤ u := by omega
    have hnd20 : Lib.nDigits u ≤ 20 := by have := Lib.numDigits_eq u hu1 hu64; split at this <;> omega
    have hb3 : Lib.nDigits u ≤ 24 := by omega
    have hal : Tryd.prog.arrayLen 120 = 24 := by simp [Program.arrayLen, Tryd.underlying120]
    have hsl1 : ∀ W, (Instr.sliceAt 120 (.pointer (some ⟨w.heap.size, 0, none⟩)) none (some (.int .i64 (Lib.nDigits u : Int))) none).run Tryd.prog W = .ok (.slice (some ⟨w.heap.size, 0, none⟩) (Lib.nDigits u) 24) W := fun W => by
      rw [run_sliceAt_array_h W 120 ⟨w.heap.size, 0, none⟩ (by simp [Program.arrayLen, Program.elem, Tryd.underlying120]) .i64 (Lib.nDigits u : Int) (by omega) (by rw [hal]; omega)]
      go_simp
      try omega
    have hH0 := holds_zero0 w 120 (Lib.nDigits u) (by omega)
    have hfmt := Tryd.internal_strconv_formatBase10 w.heap.size 0 24 u (Array.replicate (Lib.nDigits u) 0) (w.alloc (.cells Lib.zeros24 120)) hH0 (by rw [Array.size_replicate]; exact Lib.lt_pow_nDigits u) hu64 (by rw [Array.size_replicate]; omega)
    rw [Array.size_replicate] at hfmt
    have HH0 := Lib.hid hH0
    clear hH0 hal
    go_enter Tryd.func56, Tryd.ntmps56
    go_wp2_with fail
    refine (Tryd.internal_strconv_numDigits u hu1 hu64 _ (Lib.tabIs_alloc htab _)).mono ?_
    rintro e w' ⟨rfl, rfl⟩
    go_wp2_with fail
    refine hfmt.mono ?_
    rintro e w' ⟨rfl, k, v', dk, rfl, hF⟩
    have hcv : (convert 88 9 (.slice (some ⟨w.heap.size, 0, none⟩) (Lib.nDigits u) 24)).run Tryd.prog ((putRow (fun (b : UInt8) => Value.int .u8 (b.toNat : Int)) (w.alloc (.cells Lib.zeros24 120)) w.heap.size 0 dk).drewN k) = .ok (.string ⟨(Lib.decDigits u).toArray⟩) ((putRow (fun (b : UInt8) => Value.int .u8 (b.toNat : Int)) (w.alloc (.cells Lib.zeros24 120)) w.heap.size 0 dk).drewN k) := by
      have h := run_convert_bytes_back (P := Tryd.prog) ((putRow (fun (b : UInt8) => Value.int .u8 (b.toNat : Int)) (w.alloc (.cells Lib.zeros24 120)) w.heap.size 0 dk).drewN k) 88 9 5 ⟨w.heap.size, 0, none⟩ 24 (Lib.decDigits u) Tryd.underlying88 Tryd.underlying5 Tryd.underlying9 (fun j hj => by
        rw [Lib.row_is_numeral hF j hj, Lib.add_plain, World.cell?_drewN]
        exact cell?_putRow (fun (b : UInt8) => Value.int .u8 (b.toNat : Int)) _ w.heap.size 0 _ dk HH0.out (by rw [hF.size, Array.size_replicate]) j (by rw [hF.size]; rw [Lib.decDigits_length] at hj; exact hj))
      rw [Lib.decDigits_length] at h
      exact h
    go_wp2
    go_ret
    exact ⟨rfl, fin_pos0 w _ dk k⟩

set_option maxHeartbeats 400000 in
set_option maxRecDepth 100000 in
theorem fmt_any (u : Nat) (hu64 : u < 18446744073709551616) (w : World) (htab : Pow w) :
    Calls Tryd.prog 42 #[.int .u64 (u : Int), .int .i64 10] w fun e w' => e = .returned (.string ⟨(Lib.decDigits u).toArray⟩) ∧ Below w.heap.size w w' := by
  go_enter Tryd.func42, Tryd.ntmps42
  go_wp2_with fail
  refine (fmt0_any u hu64 _ htab).mono ?_
  rintro e w' ⟨rfl, hb⟩
  go_wp2
  go_ret
  exact ⟨rfl, hb⟩

theorem writes_any (B b : Nat) (bs : List Value) (s : ByteArray) (w : World) (h : Lib.IsBuilder 90 5 B b bs w) (hlen : bs.length + s.size ≤ 140737488355328) (hBw : B ≤ w.heap.size) :
    Calls Tryd.prog 43 #[.pointer (some ⟨b, 0, none⟩), .string s] w fun e w' => e = .returned (.tuple #[.int .i64 s.size, .nilIface]) ∧ (Lib.BuilderAt 90 5 B b (.pointer (some ⟨b, 0, none⟩)) (bs ++ Lib.strCells s) w' ∧ Below B w w') :=
  Any.Builder_WriteString { Tryd.lays105 with } Tryd.Builder_Extra_105 B b bs s w h hlen hBw

theorem built_below {T e : TypeId} {B b : Nat} {bs : List Value} {W W' : World} (h : Lib.IsBuilder T e B b bs W) (hb : Below W.heap.size W W') : Lib.IsBuilder T e B b bs W' := by
  have key : ∀ p, Lib.BuilderAt T e B b p bs W → Lib.BuilderAt T e B b p bs W' := by
    intro p h
    have hlt := h.lt
    obtain ⟨hB, v, hv, hown, hne⟩ := h
    exact ⟨hB, v, (hb.block b hlt).trans hv, hown.kept (row := none) ⟨hb.os, hb.tape, hb.output, hb.size, fun k hk _ => hb.block k hk⟩ (Classical.em _), hne⟩
  exact h.elim (fun x => .inl (key _ x)) (fun x => .inr (key _ x))

end Go.Proofs.YthoildjecoppgaaDoor

namespace Go.Proofs.YthoildjecoppgaaDoor
open Go.RowKit
set_option linter.unusedSimpArgs false
set_option linter.unusedVariables false

theorem grp_len {xs gs : List Nat} {v : Nat} (lX : Lim xs) (he : G gs + 1000000000 ^ gs.length * v = V xs) (hv : 1 ≤ v) : gs.length < 32 * xs.length := by
  have h1 := V_lt lX
  have h2 : 2 ^ gs.length ≤ 1000000000 ^ gs.length := Nat.pow_le_pow_left (by decide) _
  have h3 : 1000000000 ^ gs.length * 1 ≤ 1000000000 ^ gs.length * v := Nat.mul_le_mul_left _ hv
  have e : 4294967296 ^ xs.length = 2 ^ (32 * xs.length) := by rw [Nat.pow_mul]
  rw [e] at h1
  have h4 : 2 ^ gs.length < 2 ^ (32 * xs.length) := by omega
  exact (Nat.pow_lt_pow_iff_right (by decide)).1 h4

theorem G_top {gs : List Nat} (hn : gs.getD (gs.length - 1) 0 ≠ 0) (k : Nat) (hk : k < gs.length) : 1 ≤ G (gs.drop k) := by
  obtain ⟨m, hm⟩ : ∃ m, gs.length - 1 - k = m := ⟨_, rfl⟩
  induction m generalizing k with
  | zero =>
    rw [G_drop, show k = gs.length - 1 by omega]
    omega
  | succ m ih =>
    rw [G_drop]
    have := ih (k + 1) (by omega) (by omega)
    omega

theorem Blk.take {e : TypeId} {w : World} {g : Nat} {zs : List Nat} (h : Blk e w g zs) (n : Nat) : Blk e w g (zs.take n) := by
  obtain ⟨cur, h1, h2, h3⟩ := h
  refine ⟨cur, h1, by simp; omega, ?_⟩
  rw [List.map_take, ← h3, List.take_take, List.length_take]

theorem getD_last (gs : List Nat) (r : Nat) : (gs ++ [r]).getD ((gs ++ [r]).length - 1) 0 = r := by simp [List.getD]

/-- One round's reckoning. -/
theorem grp_step {xs gs : List Nat} {l q r : Nat} (he : G gs + 1000000000 ^ gs.length * l = V xs) (hq : q * 1000000000 + r = l) : G (gs ++ [r]) + 1000000000 ^ (gs ++ [r]).length * q = V xs := by
  rw [G_snoc, List.length_append, List.length_singleton, Nat.pow_succ, ← he, ← hq]
  generalize 1000000000 ^ gs.length = p
  generalize G gs = a
  grind

/-- The groups' list: nine digits each; the topmost is not 0, but of 0 itself. -/
def Grps (gs : List Nat) (v : Nat) : Prop := gs ≠ [] ∧ G gs = v ∧ (∀ x ∈ gs, x < 1000000000) ∧ (gs.length = 1 ∨ gs.getD (gs.length - 1) 0 ≠ 0)

theorem sig_n (a : Option Addr) (cap n : Nat) (xs : List Nat) (w : World) (hn : n = xs.length) (h : Rd w a cap xs) :
    Calls Tryd.prog 53 #[.slice a n cap] w fun e w' => e = .returned (.slice a (strip xs).length cap) ∧ w = w' := by
  subst hn; exact sig_any a cap xs w h

set_option maxHeartbeats 1000000 in
set_option maxRecDepth 100000 in
theorem groups_any (a : Option Addr) (cap : Nat) (xs : List Nat) (w : World) (h : Rd w a cap xs) (hl : xs.length ≤ 10000000) :
    Calls Tryd.prog 41 #[.slice a xs.length cap] w fun e w' =>
      ∃ a' cap' gs, e = .returned (.slice a' gs.length cap') ∧ Grps gs (V xs) ∧ gs.length ≤ 32 * xs.length + 1 ∧ Res 78 w.heap.size w' a' cap' gs ∧ Below w.heap.size w w' := by
  obtain ⟨i0, hi, hz0, hz1, hz2⟩ := info_parts info_limb
  have lX := h.lim
  go_enter Tryd.func41, Tryd.ntmps41
  go_wp2_with fail
  refine (trim_any a cap xs _ h (by omega)).mono ?_
  rintro e w1 ⟨a1, c1, rfl, hr1, hb1⟩
  have HV0 : Hid (V (strip xs) = V xs) := V_strip xs
  have tX := tr_strip xs
  have hsl := strip_length_le xs
  generalize strip xs = X0 at *
  have hs1 := hb1.size
  have k1 := hr1.rd.le
  have k2 := hr1.rd.cap
  have k3 : a1 = none → c1 = 0 := hr1.rd.2.2.2.1
  have hbk : X0 = [] ∨ ∃ g, a1 = some ⟨g, 0, none⟩ ∧ w.heap.size ≤ g ∧ g < w1.heap.size ∧ Blk 78 w1 g X0 := by
    rcases hr1.blk with h | ⟨g, h1, h2, h3⟩
    · exact .inl h
    · exact .inr ⟨g, h1, h2, h3.lt, h3⟩
  have lX0 := hr1.lim
  clear hr1 h
  unfold maxLen at *
  go_wp2
  go_loopg [3, 4] (V X0) (fun gk lf gr wr => ∃ (aL : Option Addr) (L gs : List Nat), lf = .slice aL L.length c1 ∧ V L = gk ∧ Tr L ∧ Lim L ∧ L.length ≤ X0.length ∧ (aL = none → c1 = 0) ∧ (∀ x ∈ gs, x < 1000000000) ∧ G gs + 1000000000 ^ gs.length * V L = V xs ∧ (gs = [] ∨ 1 ≤ V L) ∧
    (L = [] ∨ ∃ g, aL = some ⟨g, 0, none⟩ ∧ w.heap.size ≤ g ∧ g < w1.heap.size ∧ Blk 78 wr g L) ∧ wr.ownsRow w1.heap.size 78 1 gr gs.length (gs.map U) ∧ w1.heap.size ≤ wr.heap.size ∧ Below w.heap.size w wr)
  case atStart => exact ⟨a1, X0, [], rfl, rfl, tX, lX0, Nat.le_refl _, k3, by simp, by simp [G]; exact HV0.out, .inl rfl, hbk, World.ownsRow_nil _ _ _ _, Nat.le_refl _, hb1⟩
  case round =>
    obtain ⟨aL, L, gs, rfl, hgk, tL, lL, hLl, hn0, hlt, heq, hpos, hbL, hown, hsw, hnx⟩ := hrel
    have HE : Hid (G gs + 1000000000 ^ gs.length * V L = V xs) := heq
    have HK : Hid (V L = gk) := hgk
    have HP : Hid (gs = [] ∨ 1 ≤ V L) := hpos
    have HL : Hid (∀ x ∈ gs, x < 1000000000) := hlt
    have hgl : gs.length ≤ 32 * xs.length := by
      rcases hpos with h | h
      · rw [h]; exact Nat.zero_le _
      · exact Nat.le_of_lt (grp_len lX heq h)
    clear heq hgk hlt hpos
    rcases hbL with hL0 | ⟨g, rfl, hg1, hg2, hB⟩
    · have HG0 : Hid (gs = []) := by
        rcases HP.out with h | h
        · exact h
        · rw [hL0] at h; exact absurd h (by decide)
      have HX0 : Hid (V xs = 0) := by show _ = _; rw [← HE.out, HG0.out, hL0]; rfl
      subst hL0
      go_wp2_with fail
      refine (divl_nil aL c1 1000000000 _).mono ?_
      rintro e w2 ⟨rfl, rfl⟩
      go_wp2_with (at_builtin; refine wpList_append_one rfl _ _ 30 rfl w1.heap.size 78 i0 Tryd.underlying30 hi hz0 hz1 hz2 _ gs.length gs rfl (hown.alloc _) wr.heap.size 0 rfl (cell_new1 _ _ _ _ (by omega)) (by omega) (by simp; omega) ?_)
      intro v' w2 hown1 hgrow1
      have hb2 : Below w.heap.size w w2 := (hnx.alloc hnx.size _).grown hgrow1 (by simp; omega) (fun k hk => by have := (hown.lt k hk).1; omega)
      obtain ⟨a', cap', rfl, hres⟩ := Res.of ((Lim.nil).snoc (x := 0) (by decide)) (by rw [HG0.out] at hown1; exact hown1)
      clear hown hown1
      go_wp2_with fail
      refine (sig_any aL c1 [] _ (Rd.nil _ _ _ k2 hn0)).mono ?_
      rintro e w3 ⟨rfl, rfl⟩
      go_wp2
      go_ret
      refine ⟨a', cap', [0], rfl, ⟨by simp, ?_, by simp, .inl rfl⟩, by simp, hres.mono hs1, hb2⟩
      rw [HX0.out]; rfl
    · go_wp2_with fail
      refine (divl_any g c1 L 1000000000 _ hB lL (by decide) (by decide) (by omega)).mono ?_
      rintro e w2 ⟨cs, r, rfl, hr, hcl, lc, hdv, hB2, hg2'⟩
      have hb2 : Below w.heap.size w w2 := hnx.grown hg2' hnx.size (fun k hk => by cases hk; omega)
      have hsw2 := hg2'.size
      have hown2 := hown.kept hg2' (.inr (fun h => by have := (hown.lt g h).1; omega))
      have HD : Hid (V cs * 1000000000 + r = V L) := hdv
      have HCL : Hid (cs.length = L.length) := hcl
      clear hown hdv hcl hB hg2'
      go_wp2_with (at_builtin; refine wpList_append_one rfl _ _ 30 rfl w1.heap.size 78 i0 Tryd.underlying30 hi hz0 hz1 hz2 _ gs.length gs rfl (hown2.alloc _) w2.heap.size r rfl (cell_new1 _ _ _ _ (by omega)) (by omega) (by simp; omega) ?_)
      intro v' w3 hown3 hgrow3
      replace hown3 := own_snoc hown3
      have hb3 : Below w.heap.size w w3 := (hb2.alloc hb2.size _).grown hgrow3 (by simp; omega) (fun k hk => by have := (hown2.lt k hk).1; omega)
      have hs3 := hgrow3.size
      have hB3 : Blk 78 w3 g cs := by
        have hBa := hB2.below ((Below.refl w2.heap.size w2).alloc (Nat.le_refl _) (.cells #[.int .u32 (r : Int)] 78))
        have hlg := hBa.lt
        obtain ⟨cur, c1', c2'⟩ := hBa
        exact ⟨cur, (hgrow3.block g hlg (fun h => by have := (hown2.lt g h.symm).1; omega)).trans c1', c2'⟩
      have hrd := hB3.rd lc 0 L.length c1 (by rw [HCL.out]; omega) (by omega) k2
      rw [List.drop_zero, List.take_of_length_le (by rw [HCL.out]; exact Nat.le_refl _)] at hrd
      clear hown2 hgrow3 hB2
      go_wp2_with fail
      refine (sig_n _ _ L.length cs _ HCL.out.symm hrd).mono ?_
      rintro e w4 ⟨rfl, rfl⟩
      have hVs := V_strip cs
      have tS := tr_strip cs
      have lS := lc.strip
      have hSl := strip_length_le cs
      have hBS : Blk 78 w3 g (strip cs) := by rw [strip_take]; exact hB3.take _
      have HE2 := grp_step HE.out HD.out
      rw [← hVs] at HE2
      have HVS : Hid (V (strip cs) = V cs) := hVs
      clear hrd hB3 hVs
      generalize strip cs = S at *
      have hgs : ∀ x ∈ gs ++ [r], x < 1000000000 := by
        intro x hx
        rcases List.mem_append.1 hx with h | h
        · exact HL.out x h
        · rw [List.mem_singleton] at h; omega
      have htop : V S = 0 → (gs ++ [r]).length = 1 ∨ (gs ++ [r]).getD ((gs ++ [r]).length - 1) 0 ≠ 0 := by
        intro h0
        rcases HP.out with h | h
        · left; rw [h]; rfl
        · right
          rw [getD_last]
          have := HD.out
          rw [← HVS.out, h0] at this
          omega
      have hgl2 : (gs ++ [r]).length ≤ 32 * xs.length + 1 := by simp; omega
      obtain ⟨ts, hts⟩ : ∃ ts, gs ++ [r] = ts := ⟨_, rfl⟩
      have hlts : gs.length + 1 = ts.length := by rw [← hts]; simp
      have hne : ts ≠ [] := by rw [← hts]; simp
      have hlim : Lim ts := fun x hx => by rw [← hts] at hx; have := hgs x hx; omega
      rw [hts] at HE2 hgs htop hgl2 hown3
      have HT : Hid (V S = 0 → ts.length = 1 ∨ ts.getD (ts.length - 1) 0 ≠ 0) := htop
      have HE3 : Hid (G ts + 1000000000 ^ ts.length * V S = V xs) := HE2
      have HGS : Hid (∀ x ∈ ts, x < 1000000000) := hgs
      rw [hlts] at hown3
      clear htop HE2 hgs hts hlts
      by_cases hS0 : S.length = 0
      · have HS0 : Hid (V S = 0) := by show _ = _; rw [List.length_eq_zero_iff.1 hS0]; rfl
        have hS1 : ((S.length : Int) == 0) = true := beq_iff_eq.2 (by omega)
        obtain ⟨a', cap', rfl, hres⟩ := Res.of hlim hown3
        clear hown3
        go_wp2
        go_ret
        refine ⟨a', cap', ts, rfl, ⟨hne, ?_, HGS.out, HT.out HS0.out⟩, hgl2, hres.mono hs1, hb3⟩
        have := HE3.out
        rw [HS0.out, Nat.mul_zero, Nat.add_zero] at this
        exact this
      · have hS1 : ((S.length : Int) == 0) = false := beq_eq_false_iff_ne.2 (by omega)
        have HPS : Hid (1 ≤ V S) := by
          show _ ≤ _
          rcases Nat.eq_zero_or_pos (V S) with h | h
          · exact absurd (by rw [eq_nil_of_V tS h]; rfl) hS0
          · exact h
        have HLT : Hid (V S < gk) := by
          show _ < _
          rw [← HK.out, ← HD.out, ← HVS.out]
          have := HPS.out
          omega
        have hSX : S.length ≤ X0.length := by have := HCL.out; omega
        clear hS0
        go_wp2
        go_roundg (V S)
        case measure => exact HLT.out
        case rel => exact ⟨some ⟨g, 0, none⟩, S, ts, rfl, rfl, tS, lS, hSX, by simp, HGS.out, HE3.out, .inr HPS.out, .inr ⟨g, rfl, hg1, hg2, hBS⟩, hown3, by simp at hs3; omega, hb3⟩

end Go.Proofs.YthoildjecoppgaaDoor
