/-
  octets.U8, U16, I16, U32, I32; foundryref04's: the walks.
  bytes.Clone; octets.Cut, Tag: the walks.
  octets.Tag; foundryref04.Cut, Tag, Same: the walks.
  octets.Page: All, Pad, Later: the walks.
  octets.Page: Pad, Later: the walks.
  Files of tables, as the document has them: filled bytes, check sums (plain mathematics).
  Files of tables, as the document has them: tables, their order, the file (plain mathematics).
  Files of tables: what is read of a file (plain mathematics).
-/
import Derived.Test.YtngmcghmniakeaaGreatZM10
import Derived.Lib.SliceRun
import Derived.BigQuiet
import Derived.Deep.QuietTactic
import Derived.WalkSmall
import Derived.Outline
import Derived.Laws.BytesArg
set_option linter.unusedSimpArgs false
set_option linter.unusedVariables false
namespace Go.Proofs.YtngmcghmniakeaaGreat
open Go.RowKit Go.Maps
def pw (n : Nat) : Nat := if n < 2 then 1 else if n < 4 then 2 else if n < 8 then 4 else if n < 16 then 8 else if n < 32 then 16 else 32
def lg (n : Nat) : Nat := if n < 2 then 0 else if n < 4 then 1 else if n < 8 then 2 else if n < 16 then 3 else if n < 32 then 4 else 5
def hdr (n : Nat) : List Nat := be4 65536 ++ (be2 n ++ (be2 ((16 * pw n : Nat) : Int) ++ (be2 ((lg n : Nat) : Int) ++ be2 ((16 * n - 16 * pw n : Nat) : Int))))
end Go.Proofs.YtngmcghmniakeaaGreat
