import Derived.Test.YtgbhidcokobmmaaGreatDoorZL7
import Derived.Lib.DecodeN
import Derived.Laws.Cover4
set_option linter.unusedSimpArgs false
set_option linter.unusedVariables false
namespace Go.Proofs.YtgbhidcokobmmaaGreatDoor
def dcN(xs:List Nat):Nat×Nat:=Lib.decodeN xs.length (xs.getD 0 0) (xs.getD 1 0) (xs.getD 2 0) (xs.getD 3 0)
theorem dcN_b(xs:List Nat):1<=(dcN xs).2/\(dcN xs).1<=1114111:=by
 unfold dcN Lib.decodeN
 generalize xs.getD 0 0=b0
 generalize xs.getD 1 0=b1
 generalize xs.getD 2 0=b2
 generalize xs.getD 3 0=b3
 repeat' split
 all_goals (constructor <;> dsimp only <;> omega)
def ryL:Nat->List Nat->List Nat
 | 0,_=>[]
 | n+1,xs=>if xs=[]then []else (dcN xs).1::ryL n (xs.drop (dcN xs).2)
def rns(xs:List Nat):List Nat:=ryL xs.length xs
theorem zr8:∀(n m:Nat) (xs:List Nat),xs.length<=n->xs.length<=m->ryL n xs=ryL m xs:=by
 intro n
 induction n with
 | zero =>
  intro m xs h _
  have:xs=[]:=List.length_eq_zero_iff.1 (by omega)
  subst this
  cases m with
  | zero=>rfl
  | succ m=>simp[ryL]
 | succ n ih =>
  intro m xs h h'
  cases m with
  | zero =>
   have:xs=[]:=List.length_eq_zero_iff.1 (by omega)
   subst this
   simp[ryL]
  | succ m =>
   rw[ryL,ryL]
   by_cases hx:xs=[]
   . rw[if_pos hx,if_pos hx]
   . rw[if_neg hx,if_neg hx]
     have h1:=(dcN_b xs).1
     have h2:=List.length_pos_iff.2 hx
     rw[ih m _ (by rw[List.length_drop];omega) (by rw[List.length_drop];omega)]
theorem zjq:rns []=[]:=rfl
theorem zg6{xs:List Nat}(h:xs≠[]):rns xs=(dcN xs).1::rns (xs.drop (dcN xs).2):=by
 have h2:=List.length_pos_iff.2 h
 have h1:=(dcN_b xs).1
 unfold rns
 obtain⟨n,hn⟩:∃n,xs.length=n+1:=⟨xs.length-1,by omega⟩
 rw[hn,ryL,if_neg h]
 rw[zr8 n (xs.drop (dcN xs).2).length _ (by rw[List.length_drop];omega) (Nat.le_refl _)]
theorem zjr:∀(n:Nat) (xs:List Nat),(ryL n xs).length<=n:=by
 intro n
 induction n with
 | zero=>intro xs;exact Nat.le_refl _
 | succ n ih =>
  intro xs
  rw[ryL]
  split
  . exact Nat.zero_le _
  . rw[List.length_cons]
    have:=ih (xs.drop (dcN xs).2)
    omega
theorem zx0:∀(n:Nat) (xs:List Nat),∀r∈ryL n xs,r<=1114111:=by
 intro n
 induction n with
 | zero=>intro xs r hr;cases hr
 | succ n ih =>
  intro xs r hr
  rw[ryL]at hr
  split at hr
  . cases hr
  . rcases List.mem_cons.1 hr with rfl|hr
    . exact(dcN_b xs).2
    . exact ih _ r hr
theorem zlb(s:ByteArray)(i:Nat):(s.get! i).toNat=(sb s).getD i 0:=by
 obtain⟨d⟩:=s
 show(d[i]!).toNat=((d.toList).map UInt8.toNat).getD i 0
 by_cases h:i<d.size
 . rw[getElem!_pos d i h]
   simp[List.getD,h]
 . rw[getElem!_neg d i h]
   simp[List.getD,h]
   rfl
theorem zb6(s:ByteArray):(sb s).length=s.size:=by simp[sb]
theorem dc_eq(s:ByteArray)(i:Nat):Utf8.decode s i=dcN ((sb s).drop i):=by
 rw[Lib.decode_at,zlb,zlb,zlb,zlb,dcN,List.length_drop,zb6]
 simp[List.getD,List.getElem?_drop]
theorem zr9(s:ByteArray):∀(bound i:Nat) (acc:Array Value),s.size<=i+bound->(Conv.runesFrom s bound i acc).toList=acc.toList++(rns ((sb s).drop i)).map (fun r:Nat=>Value.int .i32 (r:Int)):=by
 intro bound
 induction bound with
 | zero =>
  intro i acc h
  have:(sb s).drop i=[]:=List.drop_eq_nil_of_le (by rw[zb6];omega)
  rw[this,zjq,Conv.runesFrom]
  simp
 | succ bound ih =>
  intro i acc h
  rw[Conv.runesFrom]
  by_cases hi:i<s.size
  . have hne:(sb s).drop i≠[]:=fun e=>by
      have:=congrArg List.length e
      rw[List.length_drop,zb6]at this
      simp at this
      omega
    have h1:=(dcN_b ((sb s).drop i)).1
    rw[if_pos hi,zg6 hne,dc_eq]
    dsimp only
    rw[ih _ _ (by omega),Array.toList_push,List.drop_drop,List.map_cons,List.append_assoc]
    rfl
  . have:(sb s).drop i=[]:=List.drop_eq_nil_of_le (by rw[zb6];omega)
    rw[if_neg hi,this,zjq]
    simp
def mpC(l:List Rn)(xs:List Nat):List Int:=(rns xs).map (fun r:Nat=>glR (r:Int) l)
theorem zv1(l:List Rn):mpC l []=[]:=rfl
theorem zsu{l:List Rn}{xs:List Nat}(h:xs≠[]):mpC l xs=glR ((dcN xs).1:Int) l::mpC l (xs.drop (dcN xs).2):=by
 unfold mpC
 rw[zg6 h]
 rfl
theorem zv2(l:List Rn)(xs:List Nat):(mpC l xs).length<=xs.length:=by unfold mpC;rw[List.length_map];exact zjr _ _
def fdB(n:Int):Bool:=decide (-32768<=n/\n<=32767)
theorem zq2{n:Int}:fdB n=true ↔ -32768<=n/\n<=32767:=by unfold fdB;exact decide_eq_true_iff
def rn(c:Int->Nat)(M:Nat):List Int->Nat
 | []=>0
 | x::t=>min M (1+(t.takeWhile (fun y=>c y==c x)).length)
structure Pk where
 c:Int->Nat
 M:Nat
 en:Nat->Int->List Nat
def pkF(P:Pk):Nat->List Int->List Nat
 | 0,_=>[]
 | _+1,[]=>[]
 | n+1,x::t=>[P.M*P.c x+rn P.c P.M (x::t)-1]++(((x::t).take (rn P.c P.M (x::t))).flatMap (P.en (P.c x))++pkF P n ((x::t).drop (rn P.c P.M (x::t))))
def pk(P:Pk)(l:List Int):List Nat:=pkF P l.length l
structure Pn where
 x:Int
 y:Int
 on:Bool
structure Pa where
 g:Int
 dx:Int
 dy:Int
structure Ol where
 cs:List (List Pn)
 ps:List Pa
def Pn.none:Pn:=⟨0,0,false⟩
def Pa.none:Pa:=⟨0,0,0⟩
def Ol.none:Ol:=⟨[],[]⟩
def hd1(s:List Nat):Nat:=s.headD 0
def hd2:List Nat->Nat
 | x::y::_=>256*x+y
 | _=>0
