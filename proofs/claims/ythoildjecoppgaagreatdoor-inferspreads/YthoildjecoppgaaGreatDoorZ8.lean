/-
  DERIVED: THE SHELF's CONTRACTS AT THIS DUMP, IN PLAIN WORDS (tools/lay-plain.mjs out of 'TryzShelfMin.lean', which tools/lay-shelf.mjs wrote): THE SAME DECLARATIONS UNDER THE SAME NAMES: 'import', 'namespace', 'open', 'def', 'theorem' AND NOTHING ELSE: no command of the shelf's: FOR A HAND-IN. Each laying: the table of numbers ('.._ren') and one theorem, a field a fact of the dump's own or the kernel's comparison; each contract: ONE APPLICATION.
  The plain mathematics of decimal digits, in groups of nine.
  strconv.FormatUint at base 10; (*strings.Builder).WriteString, out of strings.Repeat's own laying.
  nat.digitGroups: the walk.
  nat.Text: the walk.
-/
import Derived.Shelf.Strings.Builder1
import Derived.Shelf.Strconv.Itoa0
import Derived.Shelf.Strconv.Itoa1
import Derived.Shelf.LaysM
import Derived.Shelf.Strconv.Itoa2
import Derived.Shelf.Strings.Repeat
import Derived.Test.YthoildjecoppgaaGreatDoorProg
import Derived.Test.YthoildjecoppgaaGreatDoorZ1
import Derived.Lib.ItoaNum
import Derived.Lib.ItoaMem
import Derived.Lib.AppendIntMem
import Derived.Lib.Walk
import Derived.WalkKit
import Derived.Test.YthoildjecoppgaaGreatDoorZ5
import Derived.Deep.LoopGhost
namespace Go.Proofs
open Go.Shelf
def Tryz.lays169_ren : Go.Shelf.Ren := ⟨fun | 169 => 53 | n => n, fun | 70 => 95 | 9 => 9 | 0 => 0 | 72 => 98 | 37 => 96 | 127 => 128 | 3 => 3 | 5 => 5 | n => n, fun | n => n⟩
theorem Tryz.lays169 : Go.Proofs.Lays.n169 Tryz.prog Tryz.lays169_ren := {
  mixed := by kernel_rfl
  f169 := Tryz.func53.trans (congrArg some (by kernel_rfl))
  t0 := Tryz.underlying0
  a0 := Tryz.isAgg0
  z0 := Tryz.sizeOf0
  v0 := Tryz.zeroValue0
  t3 := Tryz.underlying3
  a3 := Tryz.isAgg3
  z3 := Tryz.sizeOf3
  v3 := Tryz.zeroValue3
  t9 := Tryz.underlying9
  a9 := Tryz.isAgg9
  z9 := Tryz.sizeOf9
  v9 := Tryz.zeroValue9
  t37 := Tryz.underlying96
  a37 := Tryz.isAgg96
  z37 := Tryz.sizeOf96
  v37 := Tryz.zeroValue96
  t70 := Tryz.underlying95
  a70 := Tryz.isAgg95
  z70 := Tryz.sizeOf95
  v70 := Tryz.zeroValue95
  t72 := Tryz.underlying98
  a72 := Tryz.isAgg98
  z72 := Tryz.sizeOf98
  v72 := Tryz.zeroValue98
  t127 := Tryz.underlying128
  a127 := Tryz.isAgg128
  z127 := Tryz.sizeOf128
  v127 := Tryz.zeroValue128 }
theorem Tryz.Builder_Extra_169 : Builder.Extra Tryz.prog Tryz.lays169_ren := {
  sizeBuilder := by kernel_rfl
  liesBuilder := by kernel_rfl
  t5 := Tryz.underlying5
  a5 := Tryz.isAgg5
  z5 := Tryz.sizeOf5
  v5 := Tryz.zeroValue5
  infoByte := by kernel_rfl
  cellsByte := by kernel_rfl
  sizeByte := by kernel_rfl
  neB5 := by decide }
open Go.RowKit in
theorem Tryz.Builder_String_any (B b : Nat) (l : List UInt8) (w : World) (h : Lib.IsBuilder 98 5 B b (Lib.byteCells l) w) (hBw : B ≤ w.heap.size) :
    Calls Tryz.prog 53 #[.pointer (some ⟨b, 0, none⟩)] w fun e w' => e = .returned (.string ⟨l.toArray⟩) ∧ Below B w w' := Any.Builder_String_any Tryz.lays169 Tryz.Builder_Extra_169 B b l w h hBw
def Tryz.lays283_ren : Go.Shelf.Ren := ⟨fun | 283 => 94 | n => n, fun | 3 => 3 | 9 => 9 | 4 => 4 | n => n, fun | n => n⟩
theorem Tryz.lays283 : Go.Proofs.Lays.n283 Tryz.prog Tryz.lays283_ren := {
  mixed := by kernel_rfl
  f283 := Tryz.func94.trans (congrArg some (by kernel_rfl))
  t3 := Tryz.underlying3
  a3 := Tryz.isAgg3
  z3 := Tryz.sizeOf3
  v3 := Tryz.zeroValue3
  t4 := Tryz.underlying4
  a4 := Tryz.isAgg4
  z4 := Tryz.sizeOf4
  v4 := Tryz.zeroValue4
  t9 := Tryz.underlying9
  a9 := Tryz.isAgg9
  z9 := Tryz.sizeOf9
  v9 := Tryz.zeroValue9 }
open Go.Lib in
theorem Tryz.internal_strconv_small (i : Nat) (h : i < 100) (w : World) :
    Calls Tryz.prog 94 #[.int .i64 i] w fun e w' => e = .returned (.string ⟨(Lib.decDigits i).toArray⟩) ∧ w' = w := Any.internal_strconv_small Tryz.lays283 i h w
def Tryz.laysM284_ren : Go.Shelf.Ren := ⟨fun | 284 => 95 | 129 => 113 | 317 => 112 | 318 => 114 | n => n, fun | 53 => 100 | 3 => 3 | 212 => 162 | 0 => 0 | 4 => 4 | 46 => 122 | 5 => 5 | 9 => 9 | n => n, fun | 17 => 0 | n => n⟩
theorem Tryz.laysM284 : Go.Proofs.LaysM.n284 Tryz.prog Tryz.laysM284_ren := {
  mixed := by kernel_rfl
  f129 := Tryz.func113.trans (congrArg some (by kernel_rfl))
  f284 := Tryz.func95.trans (congrArg some (by kernel_rfl))
  f317 := Tryz.func112.trans (congrArg some (by kernel_rfl))
  f318 := Tryz.func114.trans (congrArg some (by kernel_rfl))
  t0 := Tryz.underlying0
  a0 := Tryz.isAgg0
  z0 := Tryz.sizeOf0
  v0 := Tryz.zeroValue0
  t3 := Tryz.underlying3
  a3 := Tryz.isAgg3
  z3 := Tryz.sizeOf3
  v3 := Tryz.zeroValue3
  t4 := Tryz.underlying4
  a4 := Tryz.isAgg4
  z4 := Tryz.sizeOf4
  v4 := Tryz.zeroValue4
  t5 := Tryz.underlying5
  a5 := Tryz.isAgg5
  z5 := Tryz.sizeOf5
  v5 := Tryz.zeroValue5
  t9 := Tryz.underlying9
  a9 := Tryz.isAgg9
  z9 := Tryz.sizeOf9
  v9 := Tryz.zeroValue9
  t46 := Tryz.underlying122
  a46 := Tryz.isAgg122
  z46 := Tryz.sizeOf122
  v46 := Tryz.zeroValue122
  t53 := Tryz.underlying100
  a53 := Tryz.isAgg100
  z53 := Tryz.sizeOf100
  v53 := Tryz.zeroValue100
  t212 := Tryz.underlying162
  a212 := Tryz.isAgg162
  z212 := Tryz.sizeOf162
  v212 := Tryz.zeroValue162
  g17 := by kernel_rfl
  i0 := by kernel_rfl
  i3 := by kernel_rfl
  i4 := by kernel_rfl
  i5 := by kernel_rfl
  i9 := by kernel_rfl
  i46 := by kernel_rfl
  i53 := by kernel_rfl
  i212 := by kernel_rfl
  m17 := by kernel_rfl }
open Go.Lib in
theorem Tryz.internal_strconv_numDigits (u : Nat) (h1 : 1 ≤ u) (h2 : u < 18446744073709551616) (w : World) (htab : Lib.TabIs Tryz.prog w "internal/strconv.uint64pow10" .u64 Lib.pow10Tab) :
    Calls Tryz.prog 95 #[.int .u64 u] w fun e w' => e = .returned (.int .i64 (Lib.nDigits u)) ∧ w' = w := Any.internal_strconv_numDigits Tryz.laysM284 u h1 h2 w htab
def Tryz.lays285_ren : Go.Shelf.Ren := ⟨fun | 285 => 96 | n => n, fun | 37 => 96 | 53 => 100 | 3 => 3 | 4 => 4 | 51 => 101 | 9 => 9 | 5 => 5 | 0 => 0 | n => n, fun | n => n⟩
theorem Tryz.lays285 : Go.Proofs.Lays.n285 Tryz.prog Tryz.lays285_ren := {
  mixed := by kernel_rfl
  f285 := Tryz.func96.trans (congrArg some (by kernel_rfl))
  t0 := Tryz.underlying0
  a0 := Tryz.isAgg0
  z0 := Tryz.sizeOf0
  v0 := Tryz.zeroValue0
  t3 := Tryz.underlying3
  a3 := Tryz.isAgg3
  z3 := Tryz.sizeOf3
  v3 := Tryz.zeroValue3
  t4 := Tryz.underlying4
  a4 := Tryz.isAgg4
  z4 := Tryz.sizeOf4
  v4 := Tryz.zeroValue4
  t5 := Tryz.underlying5
  a5 := Tryz.isAgg5
  z5 := Tryz.sizeOf5
  v5 := Tryz.zeroValue5
  t9 := Tryz.underlying9
  a9 := Tryz.isAgg9
  z9 := Tryz.sizeOf9
  v9 := Tryz.zeroValue9
  t37 := Tryz.underlying96
  a37 := Tryz.isAgg96
  z37 := Tryz.sizeOf96
  v37 := Tryz.zeroValue96
  t51 := Tryz.underlying101
  a51 := Tryz.isAgg101
  z51 := Tryz.sizeOf101
  v51 := Tryz.zeroValue101
  t53 := Tryz.underlying100
  a53 := Tryz.isAgg100
  z53 := Tryz.sizeOf100
  v53 := Tryz.zeroValue100 }
open Go.RowKit Go.Sort Go.Lib in
theorem Tryz.internal_strconv_formatBase10 (blk off cap : Nat) (u : Nat) (d : Array UInt8) (w : World) (hH : Holds (fun (b : UInt8) => Value.int .u8 (b.toNat : Int)) w blk off d) (hu : u < 10 ^ d.size) (hu64 : u < 18446744073709551616) (hsz : d.size < 4611686018427387904) :
    Calls Tryz.prog 96 #[.slice (some ⟨blk, off, none⟩) d.size cap, .int .u64 u] w fun e w' =>
      e = .returned (.tuple #[]) ∧ ∃ (n v' : Nat) (dk : Array UInt8), w' = (putRow (fun (b : UInt8) => Value.int .u8 (b.toNat : Int)) w blk off dk).drewN n ∧ FmtInv d.size u 0 v' dk := Any.internal_strconv_formatBase10 Tryz.lays285 blk off cap u d w hH hu hu64 hsz
def Tryz.lays105_ren : Go.Shelf.Ren := ⟨fun | 105 => 52 | 212 => 74 | 99 => 75 | 165 => 76 | 166 => 51 | 170 => 77 | 169 => 53 | 263 => 99 | 264 => 100 | 206 => 101 | 240 => 73 | 241 => 102 | 276 => 98 | 277 => 117 | n => n, fun | 9 => 9 | 3 => 3 | 4 => 4 | 20 => 20 | 0 => 0 | 46 => 122 | 109 => 123 | 5 => 5 | 72 => 98 | 76 => 104 | 51 => 101 | 146 => 152 | 53 => 100 | 148 => 154 | 70 => 95 | 37 => 96 | 75 => 103 | 127 => 128 | 164 => 150 | 80 => 107 | n => n, fun | n => n⟩
theorem Tryz.lays105 : Go.Proofs.Lays.n105 Tryz.prog Tryz.lays105_ren := {
  mixed := by kernel_rfl
  f99 := Tryz.func75.trans (congrArg some (by kernel_rfl))
  f105 := Tryz.func52.trans (congrArg some (by kernel_rfl))
  f165 := Tryz.func76.trans (congrArg some (by kernel_rfl))
  f166 := Tryz.func51.trans (congrArg some (by kernel_rfl))
  f169 := Tryz.func53.trans (congrArg some (by kernel_rfl))
  f170 := Tryz.func77.trans (congrArg some (by kernel_rfl))
  f206 := Tryz.func101.trans (congrArg some (by kernel_rfl))
  f212 := Tryz.func74.trans (congrArg some (by kernel_rfl))
  f240 := Tryz.func73.trans (congrArg some (by kernel_rfl))
  f241 := Tryz.func102.trans (congrArg some (by kernel_rfl))
  f263 := Tryz.func99.trans (congrArg some (by kernel_rfl))
  f264 := Tryz.func100.trans (congrArg some (by kernel_rfl))
  f276 := Tryz.func98.trans (congrArg some (by kernel_rfl))
  f277 := Tryz.func117.trans (congrArg some (by kernel_rfl))
  t0 := Tryz.underlying0
  a0 := Tryz.isAgg0
  z0 := Tryz.sizeOf0
  v0 := Tryz.zeroValue0
  t3 := Tryz.underlying3
  a3 := Tryz.isAgg3
  z3 := Tryz.sizeOf3
  v3 := Tryz.zeroValue3
  t4 := Tryz.underlying4
  a4 := Tryz.isAgg4
  z4 := Tryz.sizeOf4
  v4 := Tryz.zeroValue4
  t5 := Tryz.underlying5
  a5 := Tryz.isAgg5
  z5 := Tryz.sizeOf5
  v5 := Tryz.zeroValue5
  t9 := Tryz.underlying9
  a9 := Tryz.isAgg9
  z9 := Tryz.sizeOf9
  v9 := Tryz.zeroValue9
  t20 := Tryz.underlying20
  a20 := Tryz.isAgg20
  z20 := Tryz.sizeOf20
  v20 := Tryz.zeroValue20
  t37 := Tryz.underlying96
  a37 := Tryz.isAgg96
  z37 := Tryz.sizeOf96
  v37 := Tryz.zeroValue96
  t46 := Tryz.underlying122
  a46 := Tryz.isAgg122
  z46 := Tryz.sizeOf122
  v46 := Tryz.zeroValue122
  t51 := Tryz.underlying101
  a51 := Tryz.isAgg101
  z51 := Tryz.sizeOf101
  v51 := Tryz.zeroValue101
  t53 := Tryz.underlying100
  a53 := Tryz.isAgg100
  z53 := Tryz.sizeOf100
  v53 := Tryz.zeroValue100
  t70 := Tryz.underlying95
  a70 := Tryz.isAgg95
  z70 := Tryz.sizeOf95
  v70 := Tryz.zeroValue95
  t72 := Tryz.underlying98
  a72 := Tryz.isAgg98
  z72 := Tryz.sizeOf98
  v72 := Tryz.zeroValue98
  t75 := Tryz.underlying103
  a75 := Tryz.isAgg103
  z75 := Tryz.sizeOf103
  v75 := Tryz.zeroValue103
  t76 := Tryz.underlying104
  a76 := Tryz.isAgg104
  z76 := Tryz.sizeOf104
  v76 := Tryz.zeroValue104
  t109 := Tryz.underlying123
  a109 := Tryz.isAgg123
  z109 := Tryz.sizeOf123
  v109 := Tryz.zeroValue123
  t127 := Tryz.underlying128
  a127 := Tryz.isAgg128
  z127 := Tryz.sizeOf128
  v127 := Tryz.zeroValue128
  t146 := Tryz.underlying152
  a146 := Tryz.isAgg152
  z146 := Tryz.sizeOf152
  v146 := Tryz.zeroValue152
  t148 := Tryz.underlying154
  a148 := Tryz.isAgg154
  z148 := Tryz.sizeOf154
  v148 := Tryz.zeroValue154
  t164 := Tryz.underlying150
  a164 := Tryz.isAgg150
  z164 := Tryz.sizeOf150
  v164 := Tryz.zeroValue150 }
theorem Tryz.Builder_Extra_105 : Builder.Extra Tryz.prog Tryz.lays105_ren := {
  sizeBuilder := by kernel_rfl
  liesBuilder := by kernel_rfl
  t5 := Tryz.underlying5
  a5 := Tryz.isAgg5
  z5 := Tryz.sizeOf5
  v5 := Tryz.zeroValue5
  infoByte := by kernel_rfl
  cellsByte := by kernel_rfl
  sizeByte := by kernel_rfl
  neB5 := by decide }
open Go.RowKit Go.Lib in
theorem Tryz.strings_Repeat (s : ByteArray) (c : Nat) (w : World) (hc : c ≤ 9223372036854775807) (hlen : s.size * c ≤ 140737488355328) :
    Calls Tryz.prog 52 #[.string s, .int .i64 c] w fun e w' => e = .returned (.string ⟨(Lib.repeatL s.data.toList c).toArray⟩) ∧ Below w.heap.size w w' := Any.strings_Repeat Tryz.lays105 Tryz.Builder_Extra_105 s c w hc hlen
end Go.Proofs

namespace Go.Proofs.YthoildjecoppgaaGreatDoor
open Go.Lib
set_option linter.unusedSimpArgs false
set_option linter.unusedVariables false

theorem dec_big {u : Nat} (h : ¬ u < 10) : decDigits u = decDigits (u / 10) ++ [UInt8.ofNat (48 + u % 10)] := by rw [decDigits, dif_neg h]

/-- The last k digits, zeros ahead. -/
def padD : Nat → Nat → List UInt8
  | 0, _ => []
  | k + 1, u => padD k (u / 10) ++ [UInt8.ofNat (48 + u % 10)]

theorem padD_zero (k : Nat) : padD k 0 = List.replicate k 48 := by
  induction k with
  | zero => rfl
  | succ k ih => rw [padD, Nat.zero_div, ih, List.replicate_succ']; rfl

theorem dec_pad : ∀ (k q r : Nat), 1 ≤ q → r < 10 ^ k → decDigits (q * 10 ^ k + r) = decDigits q ++ padD k r := by
  intro k
  induction k with
  | zero =>
    intro q r hq hr
    simp at hr
    subst hr
    simp [padD]
  | succ k ih =>
    intro q r hq hr
    rw [Nat.pow_succ] at hr
    have hp : 1 ≤ 10 ^ k := Nat.pow_pos (by decide)
    have hge : 10 ≤ q * 10 ^ (k + 1) + r := by
      have h1 : 1 * 10 ^ (k + 1) ≤ q * 10 ^ (k + 1) := Nat.mul_le_mul_right _ hq
      rw [Nat.pow_succ] at h1 ⊢
      omega
    have e : q * 10 ^ (k + 1) + r = 10 * (q * 10 ^ k) + r := by rw [Nat.pow_succ]; generalize 10 ^ k = p; grind
    rw [dec_big (by omega), e, Nat.mul_add_div (by decide), Nat.mul_add_mod, ih q (r / 10) hq (by omega), padD, List.append_assoc]

theorem pad_dec : ∀ (k r : Nat), 1 ≤ k → r < 10 ^ k → padD k r = List.replicate (k - nDigits r) 48 ++ decDigits r ∧ nDigits r ≤ k := by
  intro k
  induction k with
  | zero => intro r h; omega
  | succ k ih =>
    intro r _ hr
    by_cases h : r < 10
    · rw [padD, Nat.div_eq_of_lt h, padD_zero, nDigits_small h, Nat.mod_eq_of_lt h, decDigits_one h]
      exact ⟨by simp, by omega⟩
    · have hk : 1 ≤ k := by
        rcases Nat.eq_zero_or_pos k with h0 | h0
        · subst h0; simp at hr; omega
        · exact h0
      rw [Nat.pow_succ] at hr
      obtain ⟨h1, h2⟩ := ih (r / 10) hk (by omega)
      rw [padD, h1, nDigits_big h, dec_big h, List.append_assoc, show k + 1 - (nDigits (r / 10) + 1) = k - nDigits (r / 10) by omega]
      exact ⟨rfl, by omega⟩

/-- The value of groups of nine digits, the least significant first. -/
def G : List Nat → Nat
  | [] => 0
  | x :: xs => x + 1000000000 * G xs

theorem G_drop (gs : List Nat) (k : Nat) : G (gs.drop k) = gs.getD k 0 + 1000000000 * G (gs.drop (k + 1)) := by
  induction gs generalizing k with
  | nil => simp [G]
  | cons x xs ih =>
    cases k with
    | zero => simp [G]
    | succ k => simpa using ih k

theorem G_snoc (gs : List Nat) (x : Nat) : G (gs ++ [x]) = G gs + 1000000000 ^ gs.length * x := by
  induction gs with
  | nil => simp [G]
  | cons y ys ih => rw [List.cons_append, G, ih, G, List.length_cons, Nat.pow_succ]; generalize 1000000000 ^ ys.length = p; grind

/-- One more group behind those that are written. -/
theorem group_step {q g : Nat} (hq : 1 ≤ q) (hg : g < 1000000000) : decDigits (g + 1000000000 * q) = decDigits q ++ (List.replicate (9 - nDigits g) 48 ++ decDigits g) := by
  have h1 := dec_pad 9 q g hq hg
  have h2 := (pad_dec 9 g (by decide) hg).1
  rw [← h2, ← h1]
  congr 1
  omega

end Go.Proofs.YthoildjecoppgaaGreatDoor

namespace Go.Proofs.YthoildjecoppgaaGreatDoor
open Go.RowKit Go.Sort Go.Lib
set_option linter.unusedSimpArgs false
set_option linter.unusedVariables false

/-- The library's table of powers of ten reads as it was laid. -/
def Pow (w : World) : Prop := Lib.TabIs Tryz.prog w "internal/strconv.uint64pow10" .u64 Lib.pow10Tab
theorem Pow.below {w w' : World} (h : Pow w) (hb : Below w.heap.size w w') : Pow w' := by
  unfold Pow Lib.TabIs World.var? at *
  cases hg : Tryz.prog.globalNamed "internal/strconv.uint64pow10" with
  | none => simp [hg] at h
  | some g =>
    simp only [hg, Option.bind_some] at h ⊢
    have hlt : g < w.heap.size := by
      rcases Nat.lt_or_ge g w.heap.size with h' | h'
      · exact h'
      · rw [Array.getElem?_eq_none h'] at h; simp at h
    rw [hb.block g hlt]
    exact h

theorem holds_zero0 (w : World) (T : TypeId) (nd : Nat) (hs : nd ≤ 24) : Holds (fun (b : UInt8) => Value.int .u8 (b.toNat : Int)) (w.alloc (.cells Lib.zeros24 T)) w.heap.size 0 (Array.replicate nd (0 : UInt8)) := fun j hj => by
  have hj' : j < nd := by simpa using hj
  refine ⟨?_, World.frozen?_alloc_new _ _ _ _⟩
  rw [World.cell?_alloc_new, zeros24_at _ (by omega), getElem!_pos _ j hj]
  simp

theorem fin_pos0 (w : World) (o : Obj) (dk : Array UInt8) (k : Nat) : Below w.heap.size w ((putRow (fun (b : UInt8) => Value.int .u8 (b.toNat : Int)) (w.alloc o) w.heap.size 0 dk).drewN k) := by
  rw [alloc_eq_grow]
  obtain ⟨os', _, e⟩ := putRow_grow_new (fun (b : UInt8) => Value.int .u8 (b.toNat : Int)) w #[o] w.heap.size 0 dk (Nat.le_refl _)
  rw [e]
  exact Lib.below_grow _ w (Nat.le_refl _) k os'

set_option maxHeartbeats 6400000 in
set_option maxRecDepth 100000 in
theorem fmt0_any (u : Nat) (hu64 : u < 18446744073709551616) (w : World) (htab : Pow w) :
    Calls Tryz.prog 72 #[.int .u64 (u : Int), .int .i64 10] w fun e w' => e = .returned (.string ⟨(Lib.decDigits u).toArray⟩) ∧ Below w.heap.size w w' := by
  by_cases hs : u < 100
  · go_enter Tryz.func72, Tryz.ntmps72
    go_wp2_with fail
    refine (Tryz.internal_strconv_small u hs _).mono ?_
    rintro e w' ⟨rfl, rfl⟩
    go_wp2
    go_ret
    exact ⟨rfl, Below.refl _ _⟩
  · have hu1 : 1 ≤ u := by omega
    have hnd20 : Lib.nDigits u ≤ 20 := by have := Lib.numDigits_eq u hu1 hu64; split at this <;> omega
    have hb3 : Lib.nDigits u ≤ 24 := by omega
    have hal : Tryz.prog.arrayLen 145 = 24 := by simp [Program.arrayLen, Tryz.underlying145]
    have hsl1 : ∀ W, (Instr.sliceAt 145 (.pointer (some ⟨w.heap.size, 0, none⟩)) none (some (.int .i64 (Lib.nDigits u : Int))) none).run Tryz.prog W = .ok (.slice (some ⟨w.heap.size, 0, none⟩) (Lib.nDigits u) 24) W := fun W => by
      rw [run_sliceAt_array_h W 145 ⟨w.heap.size, 0, none⟩ (by simp [Program.arrayLen, Program.elem, Tryz.underlying145]) .i64 (Lib.nDigits u : Int) (by omega) (by rw [hal]; omega)]
      go_simp
      try omega
    have hH0 := holds_zero0 w 145 (Lib.nDigits u) (by omega)
    have hfmt := Tryz.internal_strconv_formatBase10 w.heap.size 0 24 u (Array.replicate (Lib.nDigits u) 0) (w.alloc (.cells Lib.zeros24 145)) hH0 (by rw [Array.size_replicate]; exact Lib.lt_pow_nDigits u) hu64 (by rw [Array.size_replicate]; omega)
    rw [Array.size_replicate] at hfmt
    have HH0 := Lib.hid hH0
    clear hH0 hal
    go_enter Tryz.func72, Tryz.ntmps72
    go_wp2_with fail
    refine (Tryz.internal_strconv_numDigits u hu1 hu64 _ (Lib.tabIs_alloc htab _)).mono ?_
    rintro e w' ⟨rfl, rfl⟩
    go_wp2_with fail
    refine hfmt.mono ?_
    rintro e w' ⟨rfl, k, v', dk, rfl, hF⟩
    have hcv : (convert 96 9 (.slice (some ⟨w.heap.size, 0, none⟩) (Lib.nDigits u) 24)).run Tryz.prog ((putRow (fun (b : UInt8) => Value.int .u8 (b.toNat : Int)) (w.alloc (.cells Lib.zeros24 145)) w.heap.size 0 dk).drewN k) = .ok (.string ⟨(Lib.decDigits u).toArray⟩) ((putRow (fun (b : UInt8) => Value.int .u8 (b.toNat : Int)) (w.alloc (.cells Lib.zeros24 145)) w.heap.size 0 dk).drewN k) := by
      have h := run_convert_bytes_back (P := Tryz.prog) ((putRow (fun (b : UInt8) => Value.int .u8 (b.toNat : Int)) (w.alloc (.cells Lib.zeros24 145)) w.heap.size 0 dk).drewN k) 96 9 5 ⟨w.heap.size, 0, none⟩ 24 (Lib.decDigits u) Tryz.underlying96 Tryz.underlying5 Tryz.underlying9 (fun j hj => by
        rw [Lib.row_is_numeral hF j hj, Lib.add_plain, World.cell?_drewN]
        exact cell?_putRow (fun (b : UInt8) => Value.int .u8 (b.toNat : Int)) _ w.heap.size 0 _ dk HH0.out (by rw [hF.size, Array.size_replicate]) j (by rw [hF.size]; rw [Lib.decDigits_length] at hj; exact hj))
      rw [Lib.decDigits_length] at h
      exact h
    go_wp2
    go_ret
    exact ⟨rfl, fin_pos0 w _ dk k⟩

set_option maxHeartbeats 400000 in
set_option maxRecDepth 100000 in
theorem fmt_any (u : Nat) (hu64 : u < 18446744073709551616) (w : World) (htab : Pow w) :
    Calls Tryz.prog 50 #[.int .u64 (u : Int), .int .i64 10] w fun e w' => e = .returned (.string ⟨(Lib.decDigits u).toArray⟩) ∧ Below w.heap.size w w' := by
  go_enter Tryz.func50, Tryz.ntmps50
  go_wp2_with fail
  refine (fmt0_any u hu64 _ htab).mono ?_
  rintro e w' ⟨rfl, hb⟩
  go_wp2
  go_ret
  exact ⟨rfl, hb⟩

theorem writes_any (B b : Nat) (bs : List Value) (s : ByteArray) (w : World) (h : Lib.IsBuilder 98 5 B b bs w) (hlen : bs.length + s.size ≤ 140737488355328) (hBw : B ≤ w.heap.size) :
    Calls Tryz.prog 51 #[.pointer (some ⟨b, 0, none⟩), .string s] w fun e w' => e = .returned (.tuple #[.int .i64 s.size, .nilIface]) ∧ (Lib.BuilderAt 98 5 B b (.pointer (some ⟨b, 0, none⟩)) (bs ++ Lib.strCells s) w' ∧ Below B w w') :=
  Any.Builder_WriteString { Tryz.lays105 with } Tryz.Builder_Extra_105 B b bs s w h hlen hBw

theorem built_below {T e : TypeId} {B b : Nat} {bs : List Value} {W W' : World} (h : Lib.IsBuilder T e B b bs W) (hb : Below W.heap.size W W') : Lib.IsBuilder T e B b bs W' := by
  have key : ∀ p, Lib.BuilderAt T e B b p bs W → Lib.BuilderAt T e B b p bs W' := by
    intro p h
    have hlt := h.lt
    obtain ⟨hB, v, hv, hown, hne⟩ := h
    exact ⟨hB, v, (hb.block b hlt).trans hv, hown.kept (row := none) ⟨hb.os, hb.tape, hb.output, hb.size, fun k hk _ => hb.block k hk⟩ (Classical.em _), hne⟩
  exact h.elim (fun x => .inl (key _ x)) (fun x => .inr (key _ x))

end Go.Proofs.YthoildjecoppgaaGreatDoor

namespace Go.Proofs.YthoildjecoppgaaGreatDoor
open Go.RowKit
set_option linter.unusedSimpArgs false
set_option linter.unusedVariables false

theorem grp_len {xs gs : List Nat} {v : Nat} (lX : Lim xs) (he : G gs + 1000000000 ^ gs.length * v = V xs) (hv : 1 ≤ v) : gs.length < 32 * xs.length := by
  have h1 := V_lt lX
  have h2 : 2 ^ gs.length ≤ 1000000000 ^ gs.length := Nat.pow_le_pow_left (by decide) _
  have h3 : 1000000000 ^ gs.length * 1 ≤ 1000000000 ^ gs.length * v := Nat.mul_le_mul_left _ hv
  have e : 4294967296 ^ xs.length = 2 ^ (32 * xs.length) := by rw [Nat.pow_mul]
  rw [e] at h1
  have h4 : 2 ^ gs.length < 2 ^ (32 * xs.length) := by omega
  exact (Nat.pow_lt_pow_iff_right (by decide)).1 h4

theorem G_top {gs : List Nat} (hn : gs.getD (gs.length - 1) 0 ≠ 0) (k : Nat) (hk : k < gs.length) : 1 ≤ G (gs.drop k) := by
  obtain ⟨m, hm⟩ : ∃ m, gs.length - 1 - k = m := ⟨_, rfl⟩
  induction m generalizing k with
  | zero =>
    rw [G_drop, show k = gs.length - 1 by omega]
    omega
  | succ m ih =>
    rw [G_drop]
    have := ih (k + 1) (by omega) (by omega)
    omega

theorem Blk.take {e : TypeId} {w : World} {g : Nat} {zs : List Nat} (h : Blk e w g zs) (n : Nat) : Blk e w g (zs.take n) := by
  obtain ⟨cur, h1, h2, h3⟩ := h
  refine ⟨cur, h1, by simp; omega, ?_⟩
  rw [List.map_take, ← h3, List.take_take, List.length_take]

theorem getD_last (gs : List Nat) (r : Nat) : (gs ++ [r]).getD ((gs ++ [r]).length - 1) 0 = r := by simp [List.getD]

/-- One round's reckoning. -/
theorem grp_step {xs gs : List Nat} {l q r : Nat} (he : G gs + 1000000000 ^ gs.length * l = V xs) (hq : q * 1000000000 + r = l) : G (gs ++ [r]) + 1000000000 ^ (gs ++ [r]).length * q = V xs := by
  rw [G_snoc, List.length_append, List.length_singleton, Nat.pow_succ, ← he, ← hq]
  generalize 1000000000 ^ gs.length = p
  generalize G gs = a
  grind

/-- The groups' list: nine digits each; the topmost is not 0, but of 0 itself. -/
def Grps (gs : List Nat) (v : Nat) : Prop := gs ≠ [] ∧ G gs = v ∧ (∀ x ∈ gs, x < 1000000000) ∧ (gs.length = 1 ∨ gs.getD (gs.length - 1) 0 ≠ 0)

theorem sig_n (a : Option Addr) (cap n : Nat) (xs : List Nat) (w : World) (hn : n = xs.length) (h : Rd w a cap xs) :
    Calls Tryz.prog 71 #[.slice a n cap] w fun e w' => e = .returned (.slice a (strip xs).length cap) ∧ w = w' := by
  subst hn; exact sig_any a cap xs w h

set_option maxHeartbeats 1000000 in
set_option maxRecDepth 100000 in
theorem groups_any (a : Option Addr) (cap : Nat) (xs : List Nat) (w : World) (h : Rd w a cap xs) (hl : xs.length ≤ 10000000) :
    Calls Tryz.prog 49 #[.slice a xs.length cap] w fun e w' =>
      ∃ a' cap' gs, e = .returned (.slice a' gs.length cap') ∧ Grps gs (V xs) ∧ gs.length ≤ 32 * xs.length + 1 ∧ Res 101 w.heap.size w' a' cap' gs ∧ Below w.heap.size w w' := by
  obtain ⟨i0, hi, hz0, hz1, hz2⟩ := info_parts info_limb
  have lX := h.lim
  go_enter Tryz.func49, Tryz.ntmps49
  go_wp2_with fail
  refine (trim_any a cap xs _ h (by omega)).mono ?_
  rintro e w1 ⟨a1, c1, rfl, hr1, hb1⟩
  have HV0 : Hid (V (strip xs) = V xs) := V_strip xs
  have tX := tr_strip xs
  have hsl := strip_length_le xs
  generalize strip xs = X0 at *
  have hs1 := hb1.size
  have k1 := hr1.rd.le
  have k2 := hr1.rd.cap
  have k3 : a1 = none → c1 = 0 := hr1.rd.2.2.2.1
  have hbk : X0 = [] ∨ ∃ g, a1 = some ⟨g, 0, none⟩ ∧ w.heap.size ≤ g ∧ g < w1.heap.size ∧ Blk 101 w1 g X0 := by
    rcases hr1.blk with h | ⟨g, h1, h2, h3⟩
    · exact .inl h
    · exact .inr ⟨g, h1, h2, h3.lt, h3⟩
  have lX0 := hr1.lim
  clear hr1 h
  unfold maxLen at *
  go_wp2
  go_loopg [3, 4] (V X0) (fun gk lf gr wr => ∃ (aL : Option Addr) (L gs : List Nat), lf = .slice aL L.length c1 ∧ V L = gk ∧ Tr L ∧ Lim L ∧ L.length ≤ X0.length ∧ (aL = none → c1 = 0) ∧ (∀ x ∈ gs, x < 1000000000) ∧ G gs + 1000000000 ^ gs.length * V L = V xs ∧ (gs = [] ∨ 1 ≤ V L) ∧
    (L = [] ∨ ∃ g, aL = some ⟨g, 0, none⟩ ∧ w.heap.size ≤ g ∧ g < w1.heap.size ∧ Blk 101 wr g L) ∧ wr.ownsRow w1.heap.size 101 1 gr gs.length (gs.map U) ∧ w1.heap.size ≤ wr.heap.size ∧ Below w.heap.size w wr)
  case atStart => exact ⟨a1, X0, [], rfl, rfl, tX, lX0, Nat.le_refl _, k3, by simp, by simp [G]; exact HV0.out, .inl rfl, hbk, World.ownsRow_nil _ _ _ _, Nat.le_refl _, hb1⟩
  case round =>
    obtain ⟨aL, L, gs, rfl, hgk, tL, lL, hLl, hn0, hlt, heq, hpos, hbL, hown, hsw, hnx⟩ := hrel
    have HE : Hid (G gs + 1000000000 ^ gs.length * V L = V xs) := heq
    have HK : Hid (V L = gk) := hgk
    have HP : Hid (gs = [] ∨ 1 ≤ V L) := hpos
    have HL : Hid (∀ x ∈ gs, x < 1000000000) := hlt
    have hgl : gs.length ≤ 32 * xs.length := by
      rcases hpos with h | h
      · rw [h]; exact Nat.zero_le _
      · exact Nat.le_of_lt (grp_len lX heq h)
    clear heq hgk hlt hpos
    rcases hbL with hL0 | ⟨g, rfl, hg1, hg2, hB⟩
    · have HG0 : Hid (gs = []) := by
        rcases HP.out with h | h
        · exact h
        · rw [hL0] at h; exact absurd h (by decide)
      have HX0 : Hid (V xs = 0) := by show _ = _; rw [← HE.out, HG0.out, hL0]; rfl
      subst hL0
      go_wp2_with fail
      refine (divl_nil aL c1 1000000000 _).mono ?_
      rintro e w2 ⟨rfl, rfl⟩
      go_wp2_with (at_builtin; refine wpList_append_one rfl _ _ 48 rfl w1.heap.size 101 i0 Tryz.underlying48 hi hz0 hz1 hz2 _ gs.length gs rfl (hown.alloc _) wr.heap.size 0 rfl (cell_new1 _ _ _ _ (by omega)) (by omega) (by simp; omega) ?_)
      intro v' w2 hown1 hgrow1
      have hb2 : Below w.heap.size w w2 := (hnx.alloc hnx.size _).grown hgrow1 (by simp; omega) (fun k hk => by have := (hown.lt k hk).1; omega)
      obtain ⟨a', cap', rfl, hres⟩ := Res.of ((Lim.nil).snoc (x := 0) (by decide)) (by rw [HG0.out] at hown1; exact hown1)
      clear hown hown1
      go_wp2_with fail
      refine (sig_any aL c1 [] _ (Rd.nil _ _ _ k2 hn0)).mono ?_
      rintro e w3 ⟨rfl, rfl⟩
      go_wp2
      go_ret
      refine ⟨a', cap', [0], rfl, ⟨by simp, ?_, by simp, .inl rfl⟩, by simp, hres.mono hs1, hb2⟩
      rw [HX0.out]; rfl
    · go_wp2_with fail
      refine (divl_any g c1 L 1000000000 _ hB lL (by decide) (by decide) (by omega)).mono ?_
      rintro e w2 ⟨cs, r, rfl, hr, hcl, lc, hdv, hB2, hg2'⟩
      have hb2 : Below w.heap.size w w2 := hnx.grown hg2' hnx.size (fun k hk => by cases hk; omega)
      have hsw2 := hg2'.size
      have hown2 := hown.kept hg2' (.inr (fun h => by have := (hown.lt g h).1; omega))
      have HD : Hid (V cs * 1000000000 + r = V L) := hdv
      have HCL : Hid (cs.length = L.length) := hcl
      clear hown hdv hcl hB hg2'
      go_wp2_with (at_builtin; refine wpList_append_one rfl _ _ 48 rfl w1.heap.size 101 i0 Tryz.underlying48 hi hz0 hz1 hz2 _ gs.length gs rfl (hown2.alloc _) w2.heap.size r rfl (cell_new1 _ _ _ _ (by omega)) (by omega) (by simp; omega) ?_)
      intro v' w3 hown3 hgrow3
      replace hown3 := own_snoc hown3
      have hb3 : Below w.heap.size w w3 := (hb2.alloc hb2.size _).grown hgrow3 (by simp; omega) (fun k hk => by have := (hown2.lt k hk).1; omega)
      have hs3 := hgrow3.size
      have hB3 : Blk 101 w3 g cs := by
        have hBa := hB2.below ((Below.refl w2.heap.size w2).alloc (Nat.le_refl _) (.cells #[.int .u32 (r : Int)] 101))
        have hlg := hBa.lt
        obtain ⟨cur, c1', c2'⟩ := hBa
        exact ⟨cur, (hgrow3.block g hlg (fun h => by have := (hown2.lt g h.symm).1; omega)).trans c1', c2'⟩
      have hrd := hB3.rd lc 0 L.length c1 (by rw [HCL.out]; omega) (by omega) k2
      rw [List.drop_zero, List.take_of_length_le (by rw [HCL.out]; exact Nat.le_refl _)] at hrd
      clear hown2 hgrow3 hB2
      go_wp2_with fail
      refine (sig_n _ _ L.length cs _ HCL.out.symm hrd).mono ?_
      rintro e w4 ⟨rfl, rfl⟩
      have hVs := V_strip cs
      have tS := tr_strip cs
      have lS := lc.strip
      have hSl := strip_length_le cs
      have hBS : Blk 101 w3 g (strip cs) := by rw [strip_take]; exact hB3.take _
      have HE2 := grp_step HE.out HD.out
      rw [← hVs] at HE2
      have HVS : Hid (V (strip cs) = V cs) := hVs
      clear hrd hB3 hVs
      generalize strip cs = S at *
      have hgs : ∀ x ∈ gs ++ [r], x < 1000000000 := by
        intro x hx
        rcases List.mem_append.1 hx with h | h
        · exact HL.out x h
        · rw [List.mem_singleton] at h; omega
      have htop : V S = 0 → (gs ++ [r]).length = 1 ∨ (gs ++ [r]).getD ((gs ++ [r]).length - 1) 0 ≠ 0 := by
        intro h0
        rcases HP.out with h | h
        · left; rw [h]; rfl
        · right
          rw [getD_last]
          have := HD.out
          rw [← HVS.out, h0] at this
          omega
      have hgl2 : (gs ++ [r]).length ≤ 32 * xs.length + 1 := by simp; omega
      obtain ⟨ts, hts⟩ : ∃ ts, gs ++ [r] = ts := ⟨_, rfl⟩
      have hlts : gs.length + 1 = ts.length := by rw [← hts]; simp
      have hne : ts ≠ [] := by rw [← hts]; simp
      have hlim : Lim ts := fun x hx => by rw [← hts] at hx; have := hgs x hx; omega
      rw [hts] at HE2 hgs htop hgl2 hown3
      have HT : Hid (V S = 0 → ts.length = 1 ∨ ts.getD (ts.length - 1) 0 ≠ 0) := htop
      have HE3 : Hid (G ts + 1000000000 ^ ts.length * V S = V xs) := HE2
      have HGS : Hid (∀ x ∈ ts, x < 1000000000) := hgs
      rw [hlts] at hown3
      clear htop HE2 hgs hts hlts
      by_cases hS0 : S.length = 0
      · have HS0 : Hid (V S = 0) := by show _ = _; rw [List.length_eq_zero_iff.1 hS0]; rfl
        have hS1 : ((S.length : Int) == 0) = true := beq_iff_eq.2 (by omega)
        obtain ⟨a', cap', rfl, hres⟩ := Res.of hlim hown3
        clear hown3
        go_wp2
        go_ret
        refine ⟨a', cap', ts, rfl, ⟨hne, ?_, HGS.out, HT.out HS0.out⟩, hgl2, hres.mono hs1, hb3⟩
        have := HE3.out
        rw [HS0.out, Nat.mul_zero, Nat.add_zero] at this
        exact this
      · have hS1 : ((S.length : Int) == 0) = false := beq_eq_false_iff_ne.2 (by omega)
        have HPS : Hid (1 ≤ V S) := by
          show _ ≤ _
          rcases Nat.eq_zero_or_pos (V S) with h | h
          · exact absurd (by rw [eq_nil_of_V tS h]; rfl) hS0
          · exact h
        have HLT : Hid (V S < gk) := by
          show _ < _
          rw [← HK.out, ← HD.out, ← HVS.out]
          have := HPS.out
          omega
        have hSX : S.length ≤ X0.length := by have := HCL.out; omega
        clear hS0
        go_wp2
        go_roundg (V S)
        case measure => exact HLT.out
        case rel => exact ⟨some ⟨g, 0, none⟩, S, ts, rfl, rfl, tS, lS, hSX, by simp, HGS.out, HE3.out, .inr HPS.out, .inr ⟨g, rfl, hg1, hg2, hBS⟩, hown3, by simp at hs3; omega, hb3⟩

end Go.Proofs.YthoildjecoppgaaGreatDoor

namespace Go.Proofs.YthoildjecoppgaaGreatDoor
open Go.RowKit Go.Lib
set_option linter.unusedSimpArgs false
set_option linter.unusedVariables false

/-- What is written when the groups from k on are. -/
def told (gs : List Nat) (k : Nat) : List UInt8 := if k = gs.length then [] else decDigits (G (gs.drop k))
theorem told_end (gs : List Nat) : told gs gs.length = [] := by unfold told; rw [if_pos rfl]
theorem told_top {gs : List Nat} {j g : Nat} (hj : j + 1 = gs.length) (hg : gs.getD j 0 = g) : told gs j = decDigits g := by
  unfold told
  rw [if_neg (by omega), G_drop, hg, show j + 1 = gs.length from hj, List.drop_length]
  rfl
theorem told_step {gs : List Nat} {v j g : Nat} (h : Grps gs v) (hj : j + 1 < gs.length) (hg : gs.getD j 0 = g) :
    told gs j = told gs (j + 1) ++ (List.replicate (9 - nDigits g) 48 ++ decDigits g) := by
  obtain ⟨_, _, hlt, htop⟩ := h
  have hgb : g < 1000000000 := by
    rw [← hg]
    refine hlt _ ?_
    simp [List.getD, show j < gs.length by omega]
  have hq : 1 ≤ G (gs.drop (j + 1)) := G_top (by rcases htop with h | h; omega; exact h) _ hj
  unfold told
  rw [if_neg (by omega), if_neg (by omega), G_drop, hg]
  exact group_step hq hgb
theorem told_zero {gs : List Nat} {v : Nat} (h : Grps gs v) : told gs 0 = decDigits v := by
  obtain ⟨hne, hv, _⟩ := h
  unfold told
  rw [if_neg (fun h => hne (List.length_eq_zero_iff.1 h.symm)), List.drop_zero, hv]

theorem dig_len {g : Nat} (h : g < 1000000000) : nDigits g ≤ 9 := (pad_dec 9 g (by decide) h).2

theorem rep48 (c : Nat) : repeatL [48] c = List.replicate c 48 := by
  have := repeatL_replicate 48 1 c
  rw [Nat.mul_one] at this
  exact this

set_option maxRecDepth 100000 in
theorem rep_any (c : Nat) (hc : c ≤ 9) (w : World) :
    Calls Tryz.prog 52 #[.string ⟨#[48]⟩, .int .i64 (c : Int)] w fun e w' => ∃ z : ByteArray, e = .returned (.string z) ∧ z.size = c ∧ strCells z = byteCells (List.replicate c 48) ∧ Below w.heap.size w w' := by
  have h1 : (⟨#[48]⟩ : ByteArray).size = 1 := rfl
  refine (Tryz.strings_Repeat ⟨#[48]⟩ c w (by omega) (by rw [h1]; omega)).mono ?_
  rintro e w' ⟨rfl, hb⟩
  have e1 : (⟨#[48]⟩ : ByteArray).data.toList = [48] := rfl
  rw [e1, rep48]
  refine ⟨_, rfl, ?_, rfl, hb⟩
  simp [ByteArray.size]

set_option maxHeartbeats 1000000 in
set_option maxRecDepth 100000 in
theorem text_any (a : Option Addr) (cap : Nat) (xs : List Nat) (w : World) (h : Rd w a cap xs) (hl : xs.length ≤ 10000000) (htab : Pow w) :
    Calls Tryz.prog 35 #[.slice a xs.length cap] w fun e w' => e = .returned (.string ⟨(decDigits (V xs)).toArray⟩) ∧ Below w.heap.size w w' := by
  go_enter Tryz.func35, Tryz.ntmps35
  go_wp2_with fail
  refine (groups_any a cap xs _ h hl).mono ?_
  rintro e w1 ⟨a1, c1, gs, rfl, hG, hgl, hr1, hb1⟩
  have fm := hr1.rd.fm
  have hs1 := hb1.size
  have htab1 := htab.below hb1
  have HG : Hid (Grps gs (V xs)) := hG
  have hne : 1 ≤ gs.length := by
    rcases Nat.eq_zero_or_pos gs.length with h | h
    · exact absurd (List.length_eq_zero_iff.1 h) hG.1
    · exact h
  clear hr1 h htab hG
  have hf0 := Lib.fresh_isBuilder 98 5 w1
  have hb0 : Below w1.heap.size w1 (w1.alloc (.cells #[.pointer none, .slice none 0 0] 98)) := (Below.refl _ _).alloc (Nat.le_refl _) _
  go_wp2
  go_loopw [5] (fun i wr => ∃ (k : Nat) (q : Int), k ≤ gs.length ∧ q = (k : Int) - 1 ∧ i = .int .i64 q ∧ (told gs k).length ≤ 9 * (gs.length - k) ∧ Lib.IsBuilder 98 5 w1.heap.size w1.heap.size (byteCells (told gs k)) wr ∧ Below w1.heap.size w1 wr) (fun i _ => (RowKit.intOf i + 1).toNat)
  case atStart => exact ⟨gs.length, _, Nat.le_refl _, rfl, rfl, by rw [told_end]; simp, by rw [told_end]; exact hf0, hb0⟩
  case round =>
    obtain ⟨k, q, hk, hq, rfl, hlen, hB, hnx⟩ := hrel
    have hsz := hnx.size
    by_cases hk0 : k = 0
    · subst hk0
      obtain rfl : q = -1 := by omega
      rw [told_zero HG.out] at hB hlen
      clear hq
      go_wp2_with fail
      refine (Tryz.Builder_String_any _ _ _ _ hB hsz).mono ?_
      rintro e w2 ⟨rfl, hb2⟩
      go_wp2
      go_ret
      exact ⟨rfl, hb1.trans ((hnx.trans hb2).mono hs1)⟩
    · obtain ⟨j, rfl⟩ : ∃ j, k = j + 1 := ⟨k - 1, by omega⟩
      obtain rfl : q = (j : Int) := by omega
      clear hq
      obtain ⟨bl, ol, rfl, hblt, hcx⟩ := fm.at hnx j (by omega)
      obtain ⟨x, hx⟩ : ∃ x, gs.getD j 0 = x := ⟨_, rfl⟩
      rw [hx] at hcx
      have bx : x < 1000000000 := by rw [← hx]; exact HG.out.2.2.1 _ (by simp [List.getD, show j < gs.length by omega])
      have HX : Hid (gs.getD j 0 = x) := hx
      clear hx
      have hd9 := dig_len bx
      go_wp2_with fail
      refine (fmt_any x (by omega) _ (htab1.below hnx)).mono ?_
      rintro e w2 ⟨rfl, hb2⟩
      have hB2 := built_below hB hb2
      have hnx2 : Below w1.heap.size w1 w2 := hnx.trans (hb2.mono hsz)
      have hsz2 := hnx2.size
      obtain ⟨s, hs⟩ : ∃ s : ByteArray, (⟨(decDigits x).toArray⟩ : ByteArray) = s := ⟨_, rfl⟩
      have hss : s.size = nDigits x := by rw [← hs, ← decDigits_length]; simp [ByteArray.size]
      have HSC : Hid (strCells s = byteCells (decDigits x)) := by show _ = _; rw [← hs]; rfl
      rw [hs]
      clear hs hB
      by_cases hjl : j + 1 < gs.length
      · obtain ⟨c, hc⟩ : ∃ c : Nat, c = 9 - nDigits x := ⟨_, rfl⟩
        have hci : (9 : Int) - (nDigits x : Int) = (c : Int) := by omega
        have hjc : (j : Int) < (gs.length : Int) - 1 := by omega
        have hc9 : c ≤ 9 := by omega
        have HC : Hid (c = 9 - nDigits x) := hc
        clear hc
        go_wp2_with fail
        refine (rep_any c hc9 _).mono ?_
        rintro e w3 ⟨z, rfl, hzs, hzc, hb3⟩
        have hB3 := built_below hB2 hb3
        have hnx3 : Below w1.heap.size w1 w3 := hnx2.trans (hb3.mono hsz2)
        have hsz3 := hnx3.size
        have HZC : Hid (strCells z = byteCells (List.replicate c 48)) := hzc
        clear hzc hB2
        go_wp2_with fail
        refine (writes_any _ _ _ z _ hB3 (by rw [byteCells_length, hzs]; omega) hsz3).mono ?_
        rintro e w4 ⟨rfl, hB4, hb4⟩
        have hnx4 : Below w1.heap.size w1 w4 := hnx3.trans hb4
        have hsz4 := hnx4.size
        rw [HZC.out, ← byteCells_append] at hB4
        clear hB3
        go_wp2_with fail
        refine (writes_any _ _ _ s _ (.inr hB4) (by rw [byteCells_length, hss, List.length_append, List.length_replicate]; omega) hsz4).mono ?_
        rintro e w5 ⟨rfl, hB5, hb5⟩
        have hnx5 : Below w1.heap.size w1 w5 := hnx4.trans hb5
        rw [HSC.out, ← byteCells_append, List.append_assoc, HC.out, ← told_step HG.out hjl HX.out] at hB5
        clear hB4
        go_wp2
        go_roundw
        case rel => exact ⟨j, _, by omega, rfl, rfl, by rw [told_step HG.out hjl HX.out]; simp [decDigits_length]; omega, .inr hB5, hnx5⟩
        case measure => simp [RowKit.intOf]
      · have hjc : ¬ (j : Int) < (gs.length : Int) - 1 := by omega
        have hje : j + 1 = gs.length := by omega
        go_wp2_with fail
        refine (writes_any _ _ _ s _ hB2 (by rw [byteCells_length, hss]; omega) hsz2).mono ?_
        rintro e w5 ⟨rfl, hB5, hb5⟩
        have hnx5 : Below w1.heap.size w1 w5 := hnx2.trans hb5
        rw [hje, told_end, HSC.out, ← byteCells_append, List.nil_append, ← told_top hje HX.out] at hB5
        clear hB2
        go_wp2
        go_roundw
        case rel => exact ⟨j, _, by omega, rfl, rfl, by rw [told_top hje HX.out, decDigits_length]; omega, .inr hB5, hnx5⟩
        case measure => simp [RowKit.intOf]

end Go.Proofs.YthoildjecoppgaaGreatDoor
