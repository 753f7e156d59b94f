import Derived.Test.YtkmcodofnckdmaaGreatZS32
set_option linter.unusedSimpArgs false
set_option linter.unusedVariables false
namespace Go.Proofs.YtkmcodofnckdmaaGreat
open Go.RowKit Go.Maps
def FB(w:World)(c:Nat)(F:Value)(wd:Int):Prop:=w.heap[c]?=some (.cells #[F,.int .i64 wd] 305 (0,0))
