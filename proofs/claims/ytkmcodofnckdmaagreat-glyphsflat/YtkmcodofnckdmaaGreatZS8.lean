/-
  octets.Tag; foundryref04.Cut, Tag, Same: the walks.
  octets.Page: All, Pad, Later: the walks.
  octets.Page: Pad, Later: the walks.
  Files of tables, as the document has them: filled bytes, check sums (plain mathematics).
  Files of tables, as the document has them: tables, their order, the file (plain mathematics).
  Files of tables: what is read of a file (plain mathematics).
  Two bytes and the number that they are (plain mathematics).
  Packed lists: runs, how they are packed, how they are read (plain mathematics).
-/
import Derived.Test.YtkmcodofnckdmaaGreatZS7
import Derived.BigQuiet
import Derived.Deep.QuietTactic
import Derived.WalkSmall
import Derived.Outline
import Derived.Laws.BytesArg
set_option linter.unusedSimpArgs false
set_option linter.unusedVariables false
namespace Go.Proofs.YtkmcodofnckdmaaGreat
open Go.RowKit Go.Maps
def pw (n : Nat) : Nat := if n < 2 then 1 else if n < 4 then 2 else if n < 8 then 4 else if n < 16 then 8 else if n < 32 then 16 else 32
def lg (n : Nat) : Nat := if n < 2 then 0 else if n < 4 then 1 else if n < 8 then 2 else if n < 16 then 3 else if n < 32 then 4 else 5
def hdr (n : Nat) : List Nat := be4 65536 ++ (be2 n ++ (be2 ((16 * pw n : Nat) : Int) ++ (be2 ((lg n : Nat) : Int) ++ be2 ((16 * n - 16 * pw n : Nat) : Int))))
def rn (c : Int → Nat) (M : Nat) : List Int → Nat
 | [] => 0
 | x :: t => min M (1 + (t.takeWhile (fun y => c y == c x)).length)
structure Pk where
 c : Int → Nat
 M : Nat
 en : Nat → Int → List Nat
def pkF (P : Pk) : Nat → List Int → List Nat
 | 0, _ => []
 | _ + 1, [] => []
 | n + 1, x :: t => [P.M * P.c x + rn P.c P.M (x :: t) - 1] ++ (((x :: t).take (rn P.c P.M (x :: t))).flatMap (P.en (P.c x)) ++ pkF P n ((x :: t).drop (rn P.c P.M (x :: t))))
def pk (P : Pk) (l : List Int) : List Nat := pkF P l.length l
structure Rp where
 M : Nat
 top : Nat
 sz : Nat → Nat
 vl : List Nat → Nat → Nat → Int
def hdB (R : Rp) (b : List Nat) (at_ n : Nat) : Bool :=
 decide (at_ + 1 ≤ b.length ∧ nmV b (at_ : Int) 1 < R.top ∧ nmV b (at_ : Int) 1 % R.M + 1 ≤ n ∧ at_ + 1 + (nmV b (at_ : Int) 1 % R.M + 1) * R.sz (nmV b (at_ : Int) 1 / R.M) ≤ b.length)
end Go.Proofs.YtkmcodofnckdmaaGreat
