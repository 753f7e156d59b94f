import Derived.Test.YtkmcodofnckdmaaGreatZS6
set_option linter.unusedSimpArgs false
set_option linter.unusedVariables false
namespace Go.Proofs.YtkmcodofnckdmaaGreat
open Go.RowKit Go.Maps
def pw(n:Nat):Nat:=if n<2 then 1 else if n<4 then 2 else if n<8 then 4 else if n<16 then 8 else if n<32 then 16 else 32
def lg(n:Nat):Nat:=if n<2 then 0 else if n<4 then 1 else if n<8 then 2 else if n<16 then 3 else if n<32 then 4 else 5
def hdr(n:Nat):List Nat:=be4 65536++(be2 n++(be2 ((16*pw n:Nat):Int)++(be2 ((lg n:Nat):Int)++be2 ((16*n-16*pw n:Nat):Int))))
def rn(c:Int->Nat)(M:Nat):List Int->Nat
 | []=>0
 | x::t=>min M (1+(t.takeWhile (fun y=>c y==c x)).length)
structure Pk where
 c:Int->Nat
 M:Nat
 en:Nat->Int->List Nat
def pkF(P:Pk):Nat->List Int->List Nat
 | 0,_=>[]
 | _+1,[]=>[]
 | n+1,x::t=>[P.M*P.c x+rn P.c P.M (x::t)-1]++(((x::t).take (rn P.c P.M (x::t))).flatMap (P.en (P.c x))++pkF P n ((x::t).drop (rn P.c P.M (x::t))))
def pk(P:Pk)(l:List Int):List Nat:=pkF P l.length l
structure Rp where
 M:Nat
 top:Nat
 sz:Nat->Nat
 vl:List Nat->Nat->Nat->Int
def hdB(R:Rp)(b:List Nat)(at_ n:Nat):Bool :=
 decide (at_+1<=b.length/\nmV b (at_:Int) 1<R.top/\nmV b (at_:Int) 1%R.M+1<=n/\at_+1+(nmV b (at_:Int) 1%R.M+1)*R.sz (nmV b (at_:Int) 1/R.M)<=b.length)
structure Pn where
 x:Int
 y:Int
 on:Bool
structure Pa where
 g:Int
 dx:Int
 dy:Int
structure Ol where
 cs:List (List Pn)
 ps:List Pa
def Pn.none:Pn:=⟨0,0,false⟩
def Pa.none:Pa:=⟨0,0,0⟩
def Ol.none:Ol:=⟨[],[]⟩
def pnF(p:Pn):Bool:=fdB p.x&&fdB p.y
def paF(p:Pa):Bool:=decide (0<=p.g/\p.g<=65535)&&(fdB p.dx&&fdB p.dy)
def foB(o:Ol):Bool :=
 !(decide (0<o.cs.length)&&decide (0<o.ps.length))&&(decide (o.cs.length<=10)&&(decide (o.ps.length<=6)&&(o.cs.all (fun c=>decide (0<c.length))&&(decide (o.cs.flatten.length<=80)&&(o.cs.flatten.all pnF&&o.ps.all paF)))))
def FoP(o:Ol):Prop:=(o.cs.length=0\/o.ps.length=0)/\o.cs.length<=10/\o.ps.length<=6/\(∀c∈o.cs,0<c.length)/\o.cs.flatten.length<=80/\(∀p∈o.cs.flatten,(-32768<=p.x/\p.x<=32767)/\(-32768<=p.y/\p.y<=32767))/\(∀p∈o.ps,(0<=p.g/\p.g<=65535)/\(-32768<=p.dx/\p.dx<=32767)/\(-32768<=p.dy/\p.dy<=32767))
theorem zb5{o:Ol}:foB o=true↔FoP o:=by
 unfold foB FoP pnF paF
 simp only[Bool.and_eq_true,Bool.not_eq_true',Bool.and_eq_false_iff,decide_eq_true_iff,decide_eq_false_iff_not,List.all_eq_true,zbv]
 constructor
 . rintro ⟨h,r⟩
   exact⟨by omega,r⟩
 . rintro ⟨h,r⟩
   exact⟨by omega,r⟩
def endF(n:Int):List (List Pn)->List Int
 | []=>[]
 | c::t=>(n+(c.length:Int)-1)::endF (n+(c.length:Int)) t
theorem zdv(n:Int)(l:List (List Pn)):(endF n l).length=l.length:=by
 induction l generalizing n with
 | nil=>rfl
 | cons c t ih=>rw[endF,List.length_cons,ih,List.length_cons]
theorem zgv(n:Int)(l m:List (List Pn)):endF n (l++m)=endF n l++endF (n+(l.flatten.length:Int)) m:=by
 induction l generalizing n with
 | nil=>simp[endF]
 | cons c t ih =>
  rw[List.cons_append,endF,endF,ih,List.flatten_cons,List.length_append,List.cons_append,Int.natCast_add]
  congr 2
  congr 1
  omega
