import Derived.Test.YtkmcodofnckdmaaGreatZS5
import Derived.Laws.IdiomStrings
import Derived.Lib.SliceRun
import Derived.Laws.BytesArg
set_option linter.unusedSimpArgs false
set_option linter.unusedVariables false
namespace Go.Proofs.YtkmcodofnckdmaaGreat
open Go.RowKit Go.Maps
abbrev pg (B:Nat):Value:=.pointer (some ⟨B,0,none⟩)
def be2(n:Int):List Nat:=[(n/256%256).toNat,(n%256).toNat]
def be4(n:Int):List Nat:=[(n/16777216%256).toNat,(n/65536%256).toNat,(n/256%256).toNat,(n%256).toNat]
def sb(t:ByteArray):List Nat:=t.data.toList.map UInt8.toNat
def okb(xs:List Nat):Bool:=xs.all (fun x=>decide (32<=x)&&decide (x<=126))
def gd(xs:List Nat):Bool:=xs.length==4&&okb xs
def inB(l:Nat)(p n:Int):Bool:=decide (0<=n/\0<=p/\p+n<=l)
def V8(xs:List Nat):Nat:=xs.foldl (fun s x=>256*s+x) 0
def nmV(xs:List Nat)(p:Int)(n:Nat):Nat:=if inB xs.length p n then V8 ((xs.drop p.toNat).take n)else 0
