/-
  octets.U8, U16, I16, U32, I32; foundryref04's: the walks.
  bytes.Clone; octets.Cut, Tag: the walks.
  octets.Tag; foundryref04.Cut, Tag, Same: the walks.
  octets.Page: All, Pad, Later: the walks.
  octets.Page: Pad, Later: the walks.
-/
import Derived.Test.YtdpafdeoepbhaaaZ10
import Derived.Lib.SliceRun
import Derived.BigQuiet
import Derived.Deep.QuietTactic
import Derived.WalkSmall
import Derived.Outline
import Derived.Laws.BytesArg
namespace Go.Proofs.Ytdpafdeoepbhaaa
open Go.RowKit Go.Maps
set_option linter.unusedSimpArgs false
set_option linter.unusedVariables false

/-- Two's complement. -/
def sx16 (v : Nat) : Int := if 32768 ≤ v then (v : Int) - 65536 else v
def sx32 (v : Nat) : Int := if 2147483648 ≤ v then (v : Int) - 4294967296 else v

theorem w16 {v : Nat} (h : 32768 ≤ v) (h2 : v < 65536) : wrap64 (IntKind.i16.wrap (v : Int)) = (v : Int) - 65536 := by
  have e : IntKind.i16.wrap (v : Int) = (v : Int) - 65536 := by
    unfold IntKind.wrap
    simp [IntKind.bits, IntKind.signed]
    omega
  rw [e]
  unfold wrap64
  omega
theorem w32 {v : Nat} (h : 2147483648 ≤ v) (h2 : v < 4294967296) : wrap64 (wrap32 (v : Int)) = (v : Int) - 4294967296 := by
  have e : wrap32 (v : Int) = (v : Int) - 4294967296 := by
    unfold wrap32
    omega
  rw [e]
  unfold wrap64
  omega

theorem nmV_lt {xs : List Nat} (h : Byt xs) (p : Int) (n : Nat) : nmV xs p n < 256 ^ n := by
  unfold nmV
  split
  · have h1 := V8_lt ((h.drop p.toNat).take n)
    have h2 : 256 ^ ((xs.drop p.toNat).take n).length ≤ 256 ^ n := Nat.pow_le_pow_right (by decide) (by simp; omega)
    omega
  · exact Nat.pow_pos (by decide)

end Go.Proofs.Ytdpafdeoepbhaaa

namespace Go.Proofs.Ytdpafdeoepbhaaa
open Go.RowKit Go.Maps
set_option linter.unusedSimpArgs false
set_option linter.unusedVariables false

theorem Rw.nil (base : Nat) (w : World) : Rw 5 base w none 0 [] := ⟨Byt.nil, World.ownsRow_nil w base _ 1⟩

/-- The n bytes from place p on, if they are there. -/
def cutV (xs : List Nat) (p n : Int) : List Nat := if inB xs.length p n then (xs.drop p.toNat).take n.toNat else []
theorem cutV_no {xs : List Nat} {p n : Int} (h : inB xs.length p n = false) : cutV xs p n = [] := by simp [cutV, h]
theorem cutV_yes {xs : List Nat} {p n : Int} (h : inB xs.length p n = true) : cutV xs p n = (xs.drop p.toNat).take n.toNat := by simp [cutV, h]

/-- A part of a slice. -/
theorem Rb.cut {w : World} {a : Option Addr} {cap : Nat} {xs : List Nat} (h : Rb w a cap xs) (q n : Nat) (hq : q + n ≤ xs.length) : Rb w (a.map (fun x => x.add q)) (cap - q) ((xs.drop q).take n) := by
  obtain ⟨h1, h2, h3, h5, h4⟩ := h
  refine ⟨(h1.drop q).take n, by simp; omega, by omega, (by simp; intro h; have := h5 h; omega), ?_⟩
  rcases h4 with rfl | ⟨b, off, rfl, hb1, hc⟩
  · exact .inl (by simp)
  · have hadd : (⟨b, off, none⟩ : Addr).add q = ⟨b, off + q, none⟩ := by unfold Addr.add; split <;> simp_all
    refine .inr ⟨b, off + q, by simp [hadd], hb1, fun i hi => ?_⟩
    simp at hi
    rw [Nat.add_assoc, hc (q + i) (by omega)]
    simp [List.getD, show i < n by omega]

end Go.Proofs.Ytdpafdeoepbhaaa

namespace Go.Proofs.Ytdpafdeoepbhaaa
open Go.RowKit Go.Maps
set_option linter.unusedSimpArgs false
set_option linter.unusedVariables false
/-- Bytes as a text. -/
def str8 (xs : List Nat) : ByteArray := strOfNums (xs.map (fun x : Nat => (x : Int)))
theorem size_str8 (xs : List Nat) : (str8 xs).size = xs.length := by rw [str8, strOfNums_size, List.length_map]
theorem sb_str8 {xs : List Nat} (h : Byt xs) : sb (str8 xs) = xs := by
  rw [sb, str8, strOfNums_data]
  simp only [List.map_map]
  have : ∀ x ∈ xs, (UInt8.toNat ∘ (fun n : Int => UInt8.ofNat n.toNat) ∘ fun x : Nat => (x : Int)) x = x := by
    intro x hx
    have := h x hx
    simp
    omega
  rw [List.map_congr_left this, List.map_id']
theorem str8_sb (t : ByteArray) : str8 (sb t) = t := by
  cases t with
  | mk d =>
    simp only [str8, strOfNums, sb, List.map_map]
    congr 1
    apply Array.toList_inj.1
    simp
    rw [List.map_congr_left (g := id)]
    · simp
    · intro x hx; simp

/-- The tag at place p: is it there? and its text. -/
def tgB (xs : List Nat) (p : Int) : Bool := inB xs.length p 4 && gd (cutV xs p 4)
def tgV (xs : List Nat) (p : Int) : ByteArray := if tgB xs p then str8 (cutV xs p 4) else ⟨#[]⟩

end Go.Proofs.Ytdpafdeoepbhaaa

namespace Go.Proofs.Ytdpafdeoepbhaaa
open Go.RowKit Go.Maps
set_option linter.unusedSimpArgs false
set_option linter.unusedVariables false

/-- What All answers: the error, and the bytes. -/
def allE (s : St) : Int := if s.no then 4 else if s.ws = [] then 0 else 1
def allB (s : St) : List Nat := if s.no then [] else if s.ws = [] then s.bs else []

theorem Row.rb {w : World} {G : Nat → Prop} {a : Option Addr} {c : Nat} {xs : List Nat} (h : Row w G (.slice a xs.length c) xs) (hB : Byt xs) : Rb w a c xs := Rw.rd (e := 5) (base := 0) ⟨hB, h.1⟩

end Go.Proofs.Ytdpafdeoepbhaaa

namespace Go.Proofs.Ytdpafdeoepbhaaa
open Go.RowKit Go.Maps
set_option linter.unusedSimpArgs false
set_option linter.unusedVariables false

/-- How many bytes of 0 are put. -/
def padN (l n : Nat) : Nat := (n - l % n) % n
def St.pad (s : St) (n : Int) : St := if 1 ≤ n ∧ n ≤ 16 then s.app (List.replicate (padN s.bs.length n.toNat) 0) else s.fail

theorem padN_zero {l n : Nat} (hn : 0 < n) (h : l % n = 0) : padN l n = 0 := by unfold padN; rw [h]; simp
theorem padN_succ {l n : Nat} (hn : 0 < n) (h : l % n ≠ 0) : padN l n = padN (l + 1) n + 1 := by
  unfold padN
  have h1 := Nat.mod_lt l hn
  have h3 : 1 < n := by
    rcases Nat.lt_or_ge 1 n with h3 | h3
    · exact h3
    · have : n = 1 := by omega
      subst this
      exact absurd (Nat.mod_one l) h
  have e : (l + 1) % n = (l % n + 1) % n := by rw [Nat.add_mod, Nat.mod_eq_of_lt h3]
  rw [e]
  generalize l % n = r at h h1
  have e1 : (n - r) % n = n - r := Nat.mod_eq_of_lt (by omega)
  rw [e1]
  rcases Nat.lt_or_ge (r + 1) n with h2 | h2
  · have e2 : (r + 1) % n = r + 1 := Nat.mod_eq_of_lt h2
    have e3 : (n - (r + 1)) % n = n - (r + 1) := Nat.mod_eq_of_lt (by omega)
    rw [e2, e3]
    omega
  · have e2 : r + 1 = n := by omega
    rw [e2, Nat.mod_self, Nat.sub_zero, Nat.mod_self]
    omega
theorem padN_lt {l n : Nat} (hn : 0 < n) : padN l n < n := Nat.mod_lt _ hn

theorem St.app_app (s : St) (xs ys : List Nat) : (s.app xs).app ys = s.app (xs ++ ys) := by
  unfold St.app
  by_cases h : s.no = true <;> simp [h]
theorem St.app_nil (s : St) : s.app [] = s := by
  unfold St.app
  split <;> simp
theorem byt_zeros (n : Nat) : Byt (List.replicate n 0) := by intro x hx; have := List.eq_of_mem_replicate hx; omega

/-- The number in a page's second cell. -/
def hereOf (B : Nat) (w : World) : Nat := (intOf ((w.cell? ⟨B, 1, none⟩).getD undef)).toNat
end Go.Proofs.Ytdpafdeoepbhaaa
