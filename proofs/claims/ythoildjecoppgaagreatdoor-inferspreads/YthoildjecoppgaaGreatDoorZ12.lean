/-
  octets.within, number, U8, U16, I16, U32, I32: the walks.
  octets.U8, U16, I16, U32, I32; foundryref04's: the walks.
  bytes.Clone; octets.Cut, Tag: the walks.
  octets.Tag; foundryref04.Cut, Tag, Same: the walks.
  octets.Page: All, Pad, Later: the walks.
-/
import Derived.Test.YthoildjecoppgaaGreatDoorZ11
import Derived.Lib.BitFns
import Derived.Lib.SliceRun
import Derived.BigQuiet
import Derived.Deep.QuietTactic
import Derived.WalkSmall
import Derived.Outline
import Derived.Laws.BytesArg
namespace Go.Proofs.YthoildjecoppgaaGreatDoor
open Go.RowKit Go.Maps
set_option linter.unusedSimpArgs false
set_option linter.unusedVariables false

/-- Are the n bytes from place p on there? -/
def inB (l : Nat) (p n : Int) : Bool := decide (0 ≤ n ∧ 0 ≤ p ∧ p + n ≤ l)
/-- The number that bytes are, the most significant first. -/
def V8 (xs : List Nat) : Nat := xs.foldl (fun s x => 256 * s + x) 0
theorem V8_snoc (xs : List Nat) (x : Nat) : V8 (xs ++ [x]) = 256 * V8 xs + x := by simp [V8]
theorem V8_lt {xs : List Nat} (h : Byt xs) : V8 xs < 256 ^ xs.length := by
  obtain ⟨n, hn⟩ : ∃ n, xs.length = n := ⟨_, rfl⟩
  induction n generalizing xs with
  | zero => rw [List.length_eq_zero_iff.1 hn]; decide
  | succ n ih =>
    have hne : xs ≠ [] := by intro e; rw [e] at hn; cases hn
    rw [← List.dropLast_concat_getLast hne] at h hn ⊢
    have hl : xs.dropLast.length = n := by simpa using hn
    have h1 := ih (fun y hy => h y (by simp [hy])) hl
    have h2 := h (xs.getLast hne) (by simp)
    rw [V8_snoc, List.length_append, List.length_singleton, Nat.pow_succ]
    omega

theorem i64_or_nat (a b : Nat) (ha : a < 4611686018427387904) (hb : b < 4611686018427387904) : bits .or .i64 (a : Int) (b : Int) = ((a ||| b : Nat) : Int) := by
  have hx : a ||| b < 2 ^ 62 := Nat.or_lt_two_pow (by omega) (by omega)
  show IntKind.i64.wrap ((BitVec.ofInt 64 (a : Int) ||| BitVec.ofInt 64 (b : Int)).toNat : Int) = _
  rw [BitVec.toNat_or, ofInt_u64 a (by omega), ofInt_u64 b (by omega)]
  unfold IntKind.wrap
  simp [IntKind.bits, IntKind.signed]
  omega
/-- A number whose low 8 bits are 0, or'ed with a byte. -/
theorem or_byte (s x : Nat) (hs : s < 4294967296) (hx : x < 256) : bits BinOp.or IntKind.i64 ((s : Int) * 256) (x : Int) = 256 * (s : Int) + (x : Int) := by
  have h := i64_or_nat (s * 256) x (by omega) (by omega)
  have e : s * 256 ||| x = s * 256 + x := by
    have := Nat.shiftLeft_add_eq_or_of_lt (show x < 2 ^ 8 by omega) s
    rw [Nat.shiftLeft_eq] at this
    exact this.symm
  rw [e] at h
  have c1 : ((s * 256 : Nat) : Int) = (s : Int) * 256 := by simp
  rw [c1] at h
  rw [h, Int.natCast_add, c1, Int.mul_comm]
theorem rt_two {a b a' b' : Value} (h1 : a = a') (h2 : b = b') : Ending.returned (.tuple #[a, b]) = .returned (.tuple #[a', b']) := by rw [h1, h2]
theorem take_drop_succ (xs : List Nat) (q k : Nat) (h : q + k < xs.length) : (xs.drop q).take (k + 1) = (xs.drop q).take k ++ [xs.getD (q + k) 0] := by
  rw [List.take_succ_eq_append_getElem (by simp; omega)]
  simp [List.getD, h]
/-- The number of n bytes from place p on; 0, if they aren't there. -/
def nmV (xs : List Nat) (p : Int) (n : Nat) : Nat := if inB xs.length p n then V8 ((xs.drop p.toNat).take n) else 0

end Go.Proofs.YthoildjecoppgaaGreatDoor

namespace Go.Proofs.YthoildjecoppgaaGreatDoor
open Go.RowKit Go.Maps
set_option linter.unusedSimpArgs false
set_option linter.unusedVariables false

/-- Two's complement. -/
def sx16 (v : Nat) : Int := if 32768 ≤ v then (v : Int) - 65536 else v
def sx32 (v : Nat) : Int := if 2147483648 ≤ v then (v : Int) - 4294967296 else v

theorem w16 {v : Nat} (h : 32768 ≤ v) (h2 : v < 65536) : wrap64 (IntKind.i16.wrap (v : Int)) = (v : Int) - 65536 := by
  have e : IntKind.i16.wrap (v : Int) = (v : Int) - 65536 := by
    unfold IntKind.wrap
    simp [IntKind.bits, IntKind.signed]
    omega
  rw [e]
  unfold wrap64
  omega
theorem w32 {v : Nat} (h : 2147483648 ≤ v) (h2 : v < 4294967296) : wrap64 (wrap32 (v : Int)) = (v : Int) - 4294967296 := by
  have e : wrap32 (v : Int) = (v : Int) - 4294967296 := by
    unfold wrap32
    omega
  rw [e]
  unfold wrap64
  omega

theorem nmV_lt {xs : List Nat} (h : Byt xs) (p : Int) (n : Nat) : nmV xs p n < 256 ^ n := by
  unfold nmV
  split
  · have h1 := V8_lt ((h.drop p.toNat).take n)
    have h2 : 256 ^ ((xs.drop p.toNat).take n).length ≤ 256 ^ n := Nat.pow_le_pow_right (by decide) (by simp; omega)
    omega
  · exact Nat.pow_pos (by decide)

end Go.Proofs.YthoildjecoppgaaGreatDoor

namespace Go.Proofs.YthoildjecoppgaaGreatDoor
open Go.RowKit Go.Maps
set_option linter.unusedSimpArgs false
set_option linter.unusedVariables false

theorem Rw.nil (base : Nat) (w : World) : Rw 5 base w none 0 [] := ⟨Byt.nil, World.ownsRow_nil w base _ 1⟩

/-- The n bytes from place p on, if they are there. -/
def cutV (xs : List Nat) (p n : Int) : List Nat := if inB xs.length p n then (xs.drop p.toNat).take n.toNat else []
theorem cutV_no {xs : List Nat} {p n : Int} (h : inB xs.length p n = false) : cutV xs p n = [] := by simp [cutV, h]
theorem cutV_yes {xs : List Nat} {p n : Int} (h : inB xs.length p n = true) : cutV xs p n = (xs.drop p.toNat).take n.toNat := by simp [cutV, h]

/-- A part of a slice. -/
theorem Rb.cut {w : World} {a : Option Addr} {cap : Nat} {xs : List Nat} (h : Rb w a cap xs) (q n : Nat) (hq : q + n ≤ xs.length) : Rb w (a.map (fun x => x.add q)) (cap - q) ((xs.drop q).take n) := by
  obtain ⟨h1, h2, h3, h5, h4⟩ := h
  refine ⟨(h1.drop q).take n, by simp; omega, by omega, (by simp; intro h; have := h5 h; omega), ?_⟩
  rcases h4 with rfl | ⟨b, off, rfl, hb1, hc⟩
  · exact .inl (by simp)
  · have hadd : (⟨b, off, none⟩ : Addr).add q = ⟨b, off + q, none⟩ := by unfold Addr.add; split <;> simp_all
    refine .inr ⟨b, off + q, by simp [hadd], hb1, fun i hi => ?_⟩
    simp at hi
    rw [Nat.add_assoc, hc (q + i) (by omega)]
    simp [List.getD, show i < n by omega]

end Go.Proofs.YthoildjecoppgaaGreatDoor

namespace Go.Proofs.YthoildjecoppgaaGreatDoor
open Go.RowKit Go.Maps
set_option linter.unusedSimpArgs false
set_option linter.unusedVariables false
/-- Bytes as a text. -/
def str8 (xs : List Nat) : ByteArray := strOfNums (xs.map (fun x : Nat => (x : Int)))
theorem size_str8 (xs : List Nat) : (str8 xs).size = xs.length := by rw [str8, strOfNums_size, List.length_map]
theorem sb_str8 {xs : List Nat} (h : Byt xs) : sb (str8 xs) = xs := by
  rw [sb, str8, strOfNums_data]
  simp only [List.map_map]
  have : ∀ x ∈ xs, (UInt8.toNat ∘ (fun n : Int => UInt8.ofNat n.toNat) ∘ fun x : Nat => (x : Int)) x = x := by
    intro x hx
    have := h x hx
    simp
    omega
  rw [List.map_congr_left this, List.map_id']
theorem str8_sb (t : ByteArray) : str8 (sb t) = t := by
  cases t with
  | mk d =>
    simp only [str8, strOfNums, sb, List.map_map]
    congr 1
    apply Array.toList_inj.1
    simp
    rw [List.map_congr_left (g := id)]
    · simp
    · intro x hx; simp

theorem Rb.str {w : World} {a : Option Addr} {cap : Nat} {xs : List Nat} (h : Rb w a cap xs) (hx : xs ≠ []) :
    (convert 96 9 (.slice a xs.length cap)).run Tryz.prog w = .ok (.string (str8 xs)) w := by
  rcases h.fm with h0 | ⟨b, off, rfl, hb, hc⟩
  · exact absurd h0 hx
  · exact run_convert_bytes_arg (P := Tryz.prog) w 96 5 Tryz.underlying96 Tryz.underlying5 b off xs.length cap (xs.map (fun x : Nat => (x : Int))) (by simp) (fun i hi => by
      rw [hc i hi]; simp [List.getD, hi]) 9 Tryz.underlying9

/-- The tag at place p: is it there? and its text. -/
def tgB (xs : List Nat) (p : Int) : Bool := inB xs.length p 4 && gd (cutV xs p 4)
def tgV (xs : List Nat) (p : Int) : ByteArray := if tgB xs p then str8 (cutV xs p 4) else ⟨#[]⟩

end Go.Proofs.YthoildjecoppgaaGreatDoor

namespace Go.Proofs.YthoildjecoppgaaGreatDoor
open Go.RowKit Go.Maps
set_option linter.unusedSimpArgs false
set_option linter.unusedVariables false

/-- What All answers: the error, and the bytes. -/
def allE (s : St) : Int := if s.no then 4 else if s.ws = [] then 0 else 1
def allB (s : St) : List Nat := if s.no then [] else if s.ws = [] then s.bs else []

theorem Row.rb {w : World} {G : Nat → Prop} {a : Option Addr} {c : Nat} {xs : List Nat} (h : Row w G (.slice a xs.length c) xs) (hB : Byt xs) : Rb w a c xs := Rw.rd (e := 5) (base := 0) ⟨hB, h.1⟩

end Go.Proofs.YthoildjecoppgaaGreatDoor
