import Derived.Test.YtkmcodofnckdmaaGreatZS42
import Derived.Laws.Cover1
set_option linter.unusedSimpArgs false
set_option linter.unusedVariables false
namespace Go.Proofs.YtkmcodofnckdmaaGreat
open Go.RowKit Go.Maps
theorem Gw.neBk{α:Type}{E:El α}{t u:TypeId}{base g:Nat}{S:Nat->Prop}{w:World}{v:Value}{l:List α}{cs:List Value}(h:Gw E t base S w v l)(hb:Bk u w g cs)(ht:u≠t):v.ownBlock≠some g:=by
 intro e
 obtain⟨cur,k1⟩:=h.ty e
 rw[hb]at k1
 simp at k1
 exact ht k1.2
