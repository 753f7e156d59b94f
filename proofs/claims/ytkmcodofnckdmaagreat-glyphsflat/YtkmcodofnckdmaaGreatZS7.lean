/-
  Pages: the document's states (St) and what is done with them, and how a page of the code lies in a world (Pc).
  octets: closed, fail, put, fits, four: the walks.
  octets: fits, four, Put8, Put16, Put32, PutBytes, Here: the walks.
  octets.Good, PutTag: the walks.
  octets.within, number, U8, U16, I16, U32, I32: the walks.
  octets.U8, U16, I16, U32, I32; foundryref04's: the walks.
  bytes.Clone; octets.Cut, Tag: the walks.
-/
import Derived.Test.YtkmcodofnckdmaaGreatZS6
import Derived.Laws.IdiomStrings
import Derived.Lib.BitFns
import Derived.Lib.SliceRun
set_option linter.unusedSimpArgs false
set_option linter.unusedVariables false
namespace Go.Proofs.YtkmcodofnckdmaaGreat
open Go.RowKit Go.Maps
abbrev pg (B : Nat) : Value := .pointer (some ⟨B, 0, none⟩)
def be2 (n : Int) : List Nat := [(n / 256 % 256).toNat, (n % 256).toNat]
def be4 (n : Int) : List Nat := [(n / 16777216 % 256).toNat, (n / 65536 % 256).toNat, (n / 256 % 256).toNat, (n % 256).toNat]
def sb (t : ByteArray) : List Nat := t.data.toList.map UInt8.toNat
def okb (xs : List Nat) : Bool := xs.all (fun x => decide (32 ≤ x) && decide (x ≤ 126))
def gd (xs : List Nat) : Bool := xs.length == 4 && okb xs
def inB (l : Nat) (p n : Int) : Bool := decide (0 ≤ n ∧ 0 ≤ p ∧ p + n ≤ l)
def V8 (xs : List Nat) : Nat := xs.foldl (fun s x => 256 * s + x) 0
def nmV (xs : List Nat) (p : Int) (n : Nat) : Nat := if inB xs.length p n then V8 ((xs.drop p.toNat).take n) else 0
end Go.Proofs.YtkmcodofnckdmaaGreat
