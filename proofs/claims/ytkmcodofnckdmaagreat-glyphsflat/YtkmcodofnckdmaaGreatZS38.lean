/-
  octets.Page: Now: the walk.
  Rows of ints beside a page (LayG).
  foundryref04.Page: how a page of the reference lies in a world (Ps); done, Big: the walks.
  Laws on append for the pages of the reference; a page whose bytes have grown.
  foundryref04.Page: put, Put8, Put16, Put32, PutBytes, PutTag, Pad, All: the walks.
  Pages: what is put, in plain words; new pages.
  Rows of ints kept beside a page; what is put, in plain words.
  Rows of bytes of the call's own (Bo), and how they grow.
-/
import Derived.Test.YtkmcodofnckdmaaGreatZS37
import Derived.Test.YtkmcodofnckdmaaGreatZS15
import Derived.Deep.OwnRows
import Derived.Lib.AppendStr
import Derived.Test.YtkmcodofnckdmaaGreatZS8
import Derived.Test.YtkmcodofnckdmaaGreatZS10
import Derived.Test.YtkmcodofnckdmaaGreatZS6
set_option linter.unusedSimpArgs false
set_option linter.unusedVariables false
namespace Go.Proofs.YtkmcodofnckdmaaGreat
open Go.RowKit Go.Maps
end Go.Proofs.YtkmcodofnckdmaaGreat
