import Derived.Test.YtgbhidcokobmmaaGreatDoorZL6
import Derived.Laws.BytesArg
set_option linter.unusedSimpArgs false
set_option linter.unusedVariables false
namespace Go.Proofs.YtgbhidcokobmmaaGreatDoor
open Go.RowKit Go.Maps
theorem Rw.nil(base:Nat)(w:World):Rw 5 base w none 0 []:=⟨Byt.nil,World.ownsRow_nil w base _ 1⟩
theorem Rb.cut{w:World}{a:Option Addr}{cap:Nat}{xs:List Nat}(h:Rb w a cap xs)(q n:Nat)(hq:q+n<=xs.length):Rb w (a.map (fun x=>x.add q)) (cap-q) ((xs.drop q).take n):=by
 obtain⟨h1,h2,h3,h5,h4⟩:=h
 refine⟨(h1.drop q).take n,by simp;omega,by omega,(by simp;intro h;have:=h5 h;omega),?_⟩
 rcases h4 with rfl|⟨b,off,rfl,hb1,hc⟩
 . exact .inl (by simp)
 . have zcr:(⟨b,off,none⟩:Addr).add q=⟨b,off+q,none⟩:=by unfold Addr.add;split <;> simp_all
   refine .inr ⟨b,off+q,by simp[zcr],hb1,fun i hi=>?_⟩
   simp at hi
   rw[Nat.add_assoc,hc (q+i) (by omega)]
   simp[List.getD,show i<n by omega]
theorem Row.rb{w:World}{G:Nat->Prop}{a:Option Addr}{c:Nat}{xs:List Nat}(h:Row w G (.slice a xs.length c) xs)(hB:Byt xs):Rb w a c xs:=Rw.rd (e:=5) (base:=0) ⟨hB,h.1⟩
structure Tb where
 tx:ByteArray
 bs:List Nat
def Tb.none:Tb:=⟨⟨#[]⟩,[]⟩
def tlt(a b:ByteArray):Prop:=a.toList<b.toList
theorem zmu(a:ByteArray):¬tlt a a:=List.lt_irrefl _
theorem zoc{a b c:ByteArray}(h:tlt a b)(h':tlt b c):tlt a c:=List.lt_trans h h'
theorem toList_inj{a b:ByteArray}(h:a.toList=b.toList):a=b:=by
 rw[ByteArray.toList_eq,ByteArray.toList_eq]at h
 cases a;cases b
 simp only at h
 rw[Array.toList_inj.1 h]
def Ris(l:List Tb):Prop:=l.Pairwise (fun s t=>tlt s.tx t.tx)
def Dis(l:List Tb):Prop:=l.Pairwise (fun s t=>s.tx≠t.tx)
theorem Ris.uniq:∀ {l m:List Tb},Ris l->Ris m->l.Perm m->l=m:=by
 intro l
 induction l with
 | nil=>intro m _ _ hp;exact(List.Perm.nil_eq hp)
 | cons a l ih =>
  intro m hl hm hp
  cases m with
  | nil=>exact absurd hp.length_eq (by simp)
  | cons b m =>
   have hl':=List.pairwise_cons.1 hl
   have hm':=List.pairwise_cons.1 hm
   have e:a=b:=by
    have ha:a∈b::m:=hp.subset (by simp)
    have hb:b∈a::l:=hp.symm.subset (by simp)
    rcases List.mem_cons.1 ha with h1|h1
    . exact h1
    . rcases List.mem_cons.1 hb with h2|h2
      . exact h2.symm
      . exact absurd (zoc (hl'.1 b h2) (hm'.1 a h1)) (zmu _)
   subst e
   rw[ih hl'.2 hm'.2 (List.Perm.cons_inv hp)]
def Frm(l:List Tb):Prop:=1<=l.length/\l.length<=32/\(∀t∈l,gd (sb t.tx)=true/\t.bs.length<=1048576)/\Dis l
theorem zzr{xs:List Nat}(h:gd xs=true):xs.length=4:=by simp[gd]at h;exact h.1
theorem Frm.tag{l:List Tb}(h:Frm l){t:Tb}(ht:t∈l):(sb t.tx).length=4:=zzr (h.2.2.1 t ht).1
def pw(n:Nat):Nat:=if n<2 then 1 else if n<4 then 2 else if n<8 then 4 else if n<16 then 8 else if n<32 then 16 else 32
def lg(n:Nat):Nat:=if n<2 then 0 else if n<4 then 1 else if n<8 then 2 else if n<16 then 3 else if n<32 then 4 else 5
def hdr(n:Nat):List Nat:=be4 65536++(be2 n++(be2 ((16*pw n:Nat):Int)++(be2 ((lg n:Nat):Int)++be2 ((16*n-16*pw n:Nat):Int))))
structure Rn where
 fr:Int
 tq:Int
 gl:Int
def Rn.none:Rn:=⟨0,0,0⟩
theorem Rn.ext'{x y:Rn}(h1:x.fr=y.fr)(h2:x.tq=y.tq)(h3:x.gl=y.gl):x=y:=by
 obtain⟨a,b,c⟩:=x;obtain⟨d,e,f⟩:=y;dsimp only at h1 h2 h3;subst h1 h2 h3
 rfl
def inR(x:Rn)(c:Int):Bool:=decide (x.fr<=c/\c<=x.tq)
def glR(c:Int):List Rn->Int
 | []=>0
 | x::l=>if inR x c then x.gl+(c-x.fr)else glR c l
theorem zu2{c:Int}:∀ {l:List Rn},(∀j,j<l.length->inR (l.getD j Rn.none) c=false)->glR c l=0:=by
 intro l
 induction l with
 | nil=>intro _;rfl
 | cons x l ih =>
  intro h
  rw[glR,show inR x c=false from h 0 (by simp),if_neg (by decide)]
  exact ih (fun j hj=>h (j+1) (by simpa using hj))
theorem zu3{c:Int}:∀ {l:List Rn} {n:Nat},n<l.length->(∀j,j<n->inR (l.getD j Rn.none) c=false)->inR (l.getD n Rn.none) c=true->glR c l=(l.getD n Rn.none).gl+(c-(l.getD n Rn.none).fr):=by
 intro l
 induction l with
 | nil=>intro n h;simp at h
 | cons x l ih =>
  intro n hn h he
  cases n with
  | zero=>rw[glR,show inR x c=true from he,if_pos rfl];rfl
  | succ n =>
   rw[glR,show inR x c=false from h 0 (by omega),if_neg (by decide)]
   exact ih (n:=n) (by simpa using hn) (fun j hj=>h (j+1) (by omega)) he
