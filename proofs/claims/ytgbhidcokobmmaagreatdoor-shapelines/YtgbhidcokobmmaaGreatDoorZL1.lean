import Derived.Test.YtgbhidcokobmmaaGreatDoorProg
import Derived.WalkKit
import Derived.ProofKit
import Derived.Below
import Derived.Laws.AppendOwnNone
import Derived.Maps.AppendAt
import Derived.Maps.OwnSet
set_option linter.unusedSimpArgs false
set_option linter.unusedVariables false
namespace Go.Proofs.YtgbhidcokobmmaaGreatDoor
open Go.RowKit
def Y(n:Nat):Value:=.int .u8 (n:Int)
theorem zdt{w:World}{base base':Nat}{e:TypeId}{size:Nat}{v:Value}{n:Nat}{xs:List Value}(h:w.ownsRow base e size v n xs)(hb:base'<=base):w.ownsRow base' e size v n xs:=by
 refine⟨h.1,?_⟩
 rcases h.2 with h0|⟨g,cap,cur,h1,h2,h3⟩
 . exact .inl h0
 . exact .inr ⟨g,cap,cur,h1,Nat.le_trans hb h2,h3⟩
section
variable {P:Program} {w:World} {ops:Array Oper} {rest:List Oper} {o:Oper} {a:Act} {Q:Exit->Act->World->Prop}
end
structure Keep(G:Nat->Prop)(w w':World):Prop where
 os:w'.os=w.os
 tape:w'.tape=w.tape
 output:w'.output=w.output
 size:w.heap.size<=w'.heap.size
 block:∀k,G k->w'.heap[k]?=w.heap[k]?
theorem Keep.refl(G:Nat->Prop)(w:World):Keep G w w:=⟨rfl,rfl,rfl,Nat.le_refl _,fun _ _=>rfl⟩
theorem Keep.trans{G:Nat->Prop}{a b c:World}(h:Keep G a b)(k:Keep G b c):Keep G a c :=
 ⟨k.os.trans h.os,k.tape.trans h.tape,k.output.trans h.output,Nat.le_trans h.size k.size,fun i hi=>(k.block i hi).trans (h.block i hi)⟩
theorem Keep.mono{G G':Nat->Prop}{w w':World}(h:Keep G w w')(hG:∀k,G' k->G k):Keep G' w w':=⟨h.os,h.tape,h.output,h.size,fun k hk=>h.block k (hG k hk)⟩
theorem Keep.of_below{G:Nat->Prop}{w w':World}{B:Nat}(h:Below B w w')(hG:∀k,G k->k<B):Keep G w w':=⟨h.os,h.tape,h.output,h.size,fun k hk=>h.block k (hG k hk)⟩
theorem Keep.below{G:Nat->Prop}{w w':World}{B:Nat}(h:Keep G w w')(hG:∀k,k<B->G k):Below B w w':=⟨h.os,h.tape,h.output,h.size,fun k hk=>h.block k (hG k hk)⟩
theorem Keep.setCell{G:Nat->Prop}{a w:World}(h:Keep G a w){p:Addr}(hp:¬G p.block)(u:Value):Keep G a (w.setCell p u) :=
 h.trans ⟨rfl,rfl,rfl,by simp[World.setCell],fun k hk=>Below.heap_setCell _ _ _ _ (fun e=>hp (e ▸ hk))⟩
theorem Keep.cell{G:Nat->Prop}{w w':World}(h:Keep G w w'){p:Addr}(hp:G p.block):w'.cell? p=w.cell? p:=World.cell?_of_block (w:=w) (h.block p.block hp)
def I64(n:Int):Prop:=-9223372036854775808<=n/\n<=9223372036854775807
theorem zaa{a b:Bool}(h:a=b):Ending.returned (.bool a)=.returned (.bool b):=by rw[h]
theorem zbf{a b:Int}{k:IntKind}(h:a=b):Ending.returned (.int k a)=.returned (.int k b):=by rw[h]
theorem bl1{w:World}(o:Obj):Below w.heap.size w (w.alloc o):=(Below.refl _ _).alloc (Nat.le_refl _) o
theorem bl2{w:World}(o o':Obj):Below w.heap.size w ((w.alloc o).alloc o'):=(bl1 o).alloc (by simp) o'
theorem bl3{w:World}(o o' o'':Obj):Below w.heap.size w (((w.alloc o).alloc o').alloc o''):=(bl2 o o').alloc (by simp;omega) o''
def mkB(ms:List Bool)(g:Int):Bool:=(decide (0<=g)&&decide (g<(ms.length:Int)))&&ms.getD g.toNat false
theorem zlq{ms:List Bool}{g:Int}(h:¬(0<=g/\g<(ms.length:Int))):mkB ms g=false:=by
 unfold mkB
 by_cases h0:0<=g
 . rw[decide_eq_false (show ¬g<(ms.length:Int) by omega),Bool.and_false];rfl
 . rw[decide_eq_false h0];rfl
theorem zue{ms:List Bool}{g:Int}(h0:0<=g)(h1:g<(ms.length:Int)):mkB ms g=ms.getD g.toNat false:=by
 unfold mkB
 rw[decide_eq_true h0,decide_eq_true h1]
 rfl
def plB(L:List Int)(i:Int):Bool:=decide (0<=i)&&decide (i<(L.length:Int))
theorem zal{L:List Int}{i:Int}:plB L i=true↔0<=i/\i<(L.length:Int):=by unfold plB;rw[Bool.and_eq_true,decide_eq_true_iff,decide_eq_true_iff]
theorem zt7{L:List Int}{i:Int}(h:¬(0<=i/\i<(L.length:Int))):plB L i=false:=by
 cases hp:plB L i with
 | false=>rfl
 | true=>exact absurd (zal.1 hp) h
def psB(ms:List Bool)(L:List Int)(sk:Bool)(i:Nat):Bool:=sk&&mkB ms (L.getD i 0)
def nxF(ms:List Bool)(L:List Int)(sk:Bool):Nat->Nat->Int
 | 0,_=>-1
 | n+1,k=>if psB ms L sk k then nxF ms L sk n (k+1)else (k:Int)
def nxQ(ms:List Bool)(L:List Int)(sk:Bool)(i:Int):Int:=if plB L i then nxF ms L sk (L.length-(i.toNat+1)) (i.toNat+1)else -1
theorem zub{ms:List Bool}{L:List Int}{sk:Bool}{k:Nat}(hk:k<L.length)(h:psB ms L sk k=true):nxF ms L sk (L.length-k) k=nxF ms L sk (L.length-(k+1)) (k+1):=by
 rw[show L.length-k=(L.length-(k+1))+1 by omega,nxF,if_pos h]
theorem zpn{ms:List Bool}{L:List Int}{sk:Bool}{k:Nat}(hk:k<L.length)(h:psB ms L sk k=false):nxF ms L sk (L.length-k) k=(k:Int):=by
 rw[show L.length-k=(L.length-(k+1))+1 by omega,nxF,if_neg (by rw[h];decide)]
theorem zj1{ms:List Bool}{L:List Int}{sk:Bool}{k:Nat}(hk:L.length<=k):nxF ms L sk (L.length-k) k=-1:=by rw[show L.length-k=0 by omega,nxF]
theorem zx9{ms:List Bool}{L:List Int}{sk:Bool}:∀(n k:Nat),k+n=L.length->(nxF ms L sk n k=-1/\∀i,k<=i->i<L.length->psB ms L sk i=true)\/(∃m:Nat,nxF ms L sk n k=(m:Int)/\k<=m/\m<L.length/\psB ms L sk m=false/\∀i,k<=i->i<m->psB ms L sk i=true):=by
 intro n
 induction n with
 | zero=>intro k hk;exact .inl ⟨rfl,fun i h1 h2=>by omega⟩
 | succ n ih =>
  intro k hk
  rw[nxF]
  cases hp:psB ms L sk k with
  | false=>exact .inr ⟨k,by rw[if_neg (by decide)],Nat.le_refl _,by omega,hp,fun i h1 h2=>by omega⟩
  | true =>
   rw[if_pos rfl]
   rcases ih (k+1) (by omega)with ⟨h1,h2⟩|⟨m,h1,h2,h3,h4,h5⟩
   . refine .inl ⟨h1,fun i h3 h4=>?_⟩
     rcases Nat.lt_or_ge k i with h5|h5
     . exact h2 i h5 h4
     . rw[show i=k by omega];exact hp
   . refine .inr ⟨m,h1,by omega,h3,h4,fun i h6 h7=>?_⟩
     rcases Nat.lt_or_ge k i with h8|h8
     . exact h5 i h8 h7
     . rw[show i=k by omega];exact hp
theorem zua{ms:List Bool}{L:List Int}{sk:Bool}{i:Int}(h:plB L i=false):nxQ ms L sk i=-1:=by unfold nxQ;rw[h];rfl
theorem zj0{ms:List Bool}{L:List Int}{sk:Bool}{k:Nat}(hk:k<L.length):nxQ ms L sk (k:Int)=nxF ms L sk (L.length-(k+1)) (k+1):=by
 unfold nxQ
 rw[zal.2 ⟨by omega,by omega⟩,if_pos rfl,Int.toNat_natCast]
theorem zpm{ms:List Bool}{L:List Int}{sk:Bool}{k:Nat}(hk:k<L.length):(nxQ ms L sk (k:Int)=-1/\∀i,k<i->i<L.length->psB ms L sk i=true)\/(∃m:Nat,nxQ ms L sk (k:Int)=(m:Int)/\k<m/\m<L.length/\psB ms L sk m=false/\∀i,k<i->i<m->psB ms L sk i=true):=by
 rw[zj0 hk]
 exact zx9 _ (k+1) (by omega)
def bkF(ms:List Bool)(L:List Int):Nat->Int
 | 0=>-1
 | k+1=>if mkB ms (L.getD k 0)then bkF ms L k else (k:Int)
def bkQ(ms:List Bool)(L:List Int)(i:Int):Int:=if plB L i then bkF ms L i.toNat else -1
theorem zuz{ms:List Bool}{L:List Int}{i:Int}(h:plB L i=false):bkQ ms L i=-1:=by unfold bkQ;rw[h];rfl
theorem zkr{ms:List Bool}{L:List Int}{k:Nat}(hk:k<L.length):bkQ ms L (k:Int)=bkF ms L k:=by
 unfold bkQ
 rw[zal.2 ⟨by omega,by omega⟩,if_pos rfl,Int.toNat_natCast]
theorem zmc{ms:List Bool}{L:List Int}{k:Nat}(h:mkB ms (L.getD k 0)=true):bkF ms L (k+1)=bkF ms L k:=by rw[bkF,if_pos h]
theorem zks{ms:List Bool}{L:List Int}{k:Nat}(h:mkB ms (L.getD k 0)=false):bkF ms L (k+1)=(k:Int):=by rw[bkF,if_neg (by rw[h];decide)]
theorem zw2{ms:List Bool}{L:List Int}{k:Nat}:∀m,k<m->mkB ms (L.getD k 0)=false->(∀i,k<i->i<m->mkB ms (L.getD i 0)=true)->bkF ms L m=(k:Int):=by
 intro m
 induction m with
 | zero=>intro h;omega
 | succ m ih =>
  intro h h0 h1
  rcases Nat.lt_or_ge k m with h2|h2
  . rw[zmc (h1 m h2 (by omega))]
    exact ih h2 h0 (fun i h3 h4=>h1 i h3 (by omega))
  . rw[show m=k by omega]
    exact zks h0
def meF(ms:List Bool)(L:List Int)(sk:Bool):Int->List Int->Option (List Int)
 | _,[]=>some []
 | i,g::t=>if nxQ ms L sk i=-1\/L.getD (nxQ ms L sk i).toNat 0≠g then none else (meF ms L sk (nxQ ms L sk i) t).map (fun l=>nxQ ms L sk i::l)
def meQ(ms:List Bool)(L:List Int)(sk:Bool)(i:Int):List Int->Option (List Int)
 | []=>none
 | g::t=>if plB L i=true/\L.getD i.toNat 0=g then (meF ms L sk i t).map (fun l=>i::l)else none
def meL(ms:List Bool)(L:List Int)(sk:Bool)(i:Int)(a:List Int):List Int:=(meQ ms L sk i a).getD []
def meB(ms:List Bool)(L:List Int)(sk:Bool)(i:Int)(a:List Int):Bool:=(meQ ms L sk i a).isSome
structure MeI(ms:List Bool)(L:List Int)(sk:Bool)(i:Int)(a:List Int)(k:Nat)(l:List Int)(at':Int):Prop where
 len:l.length=k
 eq:meQ ms L sk i a=(meF ms L sk at' (a.drop k)).map (fun r=>l++r)
 pl:plB L at'=true
theorem MeI.first{ms:List Bool}{L:List Int}{sk:Bool}{i:Int}{g:Int}{t:List Int}(h1:plB L i=true)(h2:L.getD i.toNat 0=g):MeI ms L sk i (g::t) 1 [i] i:=by
 refine⟨rfl,?_,h1⟩
 show(if plB L i=true/\L.getD i.toNat 0=g then _ else none)=_
 rw[if_pos ⟨h1,h2⟩]
 rfl
theorem MeI.stop{ms:List Bool}{L:List Int}{sk:Bool}{i:Int}{a:List Int}{k:Nat}{l:List Int}{at':Int}(h:MeI ms L sk i a k l at')(hk:k<a.length)(hs:nxQ ms L sk at'=-1\/L.getD (nxQ ms L sk at').toNat 0≠a.getD k 0):meQ ms L sk i a=none:=by
 rw[h.eq,List.drop_eq_getElem_cons hk,meF]
 rw[List.getD_eq_getElem?_getD (l:=a),List.getElem?_eq_getElem hk,Option.getD_some]at hs
 rw[if_pos hs]
 rfl
theorem MeI.more{ms:List Bool}{L:List Int}{sk:Bool}{i:Int}{a:List Int}{k:Nat}{l:List Int}{at':Int}(h:MeI ms L sk i a k l at')(hk:k<a.length)(hs:¬(nxQ ms L sk at'=-1\/L.getD (nxQ ms L sk at').toNat 0≠a.getD k 0)):MeI ms L sk i a (k+1) (l++[nxQ ms L sk at']) (nxQ ms L sk at'):=by
 have hp:=zal.1 h.pl
 obtain⟨j,hj⟩:∃j:Nat,at'=(j:Int):=⟨at'.toNat,by omega⟩
 refine⟨by rw[List.length_append,h.len];rfl,?_,?_⟩
 . rw[h.eq,List.drop_eq_getElem_cons hk,meF]
   rw[List.getD_eq_getElem?_getD (l:=a),List.getElem?_eq_getElem hk,Option.getD_some]at hs
   rw[if_neg hs,Option.map_map]
   congr 1
   funext r
   simp
 . rcases zpm (ms:=ms) (sk:=sk) (show j<L.length by omega)with ⟨h1,_⟩|⟨m,h1,h2,h3,_⟩
   . rw[hj]at hs
     exact absurd (.inl h1) hs
   . rw[hj,h1]
     exact zal.2 ⟨by omega,by omega⟩
theorem MeI.done{ms:List Bool}{L:List Int}{sk:Bool}{i:Int}{a:List Int}{l:List Int}{at':Int}(h:MeI ms L sk i a a.length l at'):meQ ms L sk i a=some l:=by
 rw[h.eq,List.drop_length,meF]
 simp
theorem zyg{ms:List Bool}{L:List Int}{sk:Bool}{i:Int}{g:Int}{t:List Int}(h:¬(plB L i=true/\L.getD i.toNat 0=g)):meQ ms L sk i (g::t)=none:=by
 show(if plB L i=true/\L.getD i.toNat 0=g then _ else none)=_
 rw[if_neg h]
structure MetF(ms:List Bool)(L:List Int)(sk:Bool)(at':Int)(a l:List Int):Prop where
 len:l.length=a.length
 ok:∀k,k<l.length->(0<=l.getD k 0/\l.getD k 0<(L.length:Int))/\L.getD (l.getD k 0).toNat 0=a.getD k 0/\(if k=0 then at' else l.getD (k-1) 0)<l.getD k 0/\∀j:Nat,(if k=0 then at' else l.getD (k-1) 0)<(j:Int)->(j:Int)<l.getD k 0->psB ms L sk j=true
theorem zv3{ms:List Bool}{L:List Int}{sk:Bool}:∀(a:List Int) (at':Int) (l:List Int),plB L at'=true->meF ms L sk at' a=some l->MetF ms L sk at' a l:=by
 intro a
 induction a with
 | nil =>
  intro at' l _ h
  have:l=[]:=by
   rw[meF]at h;injection h with h
   exact h.symm
  subst this
  exact⟨rfl,fun k hk=>by simp at hk⟩
 | cons g t ih =>
  intro at' l hp h
  rw[meF]at h
  by_cases hs:nxQ ms L sk at'=-1\/L.getD (nxQ ms L sk at').toNat 0≠g
  . rw[if_pos hs]at h;cases h
  rw[if_neg hs]at h
  have hp2:=zal.1 hp
  obtain⟨j,hj⟩:∃j:Nat,at'=(j:Int):=⟨at'.toNat,by omega⟩
  rcases zpm (ms:=ms) (sk:=sk) (show j<L.length by omega)with ⟨h1,_⟩|⟨m,h1,h2,h3,_,h5⟩
  . rw[hj]at hs
    exact absurd (.inl h1) hs
  rw[hj]at h hs ⊢;rw[h1]at h hs
  cases hr:meF ms L sk (m:Int) t with
  | none=>rw[hr]at h;cases h
  | some r =>
   rw[hr]at h
   have hl:(m:Int)::r=l:=by injection h
   subst hl
   have hi:=ih (m:Int) r (zal.2 ⟨by omega,by omega⟩) hr
   refine⟨by rw[List.length_cons,List.length_cons,hi.len],fun k hk=>?_⟩
   cases k with
   | zero =>
    refine⟨⟨by show(0:Int)<=(m:Int);omega,by show(m:Int)<_;omega⟩,?_,?_,fun i h6 h7=>?_⟩
    . show L.getD ((m:Int)).toNat 0=g
      exact Decidable.byContradiction fun e=>hs (.inr e)
    . show(j:Int)<(m:Int);omega
    . have h6':(j:Int)<(i:Int):=h6
      have h7':(i:Int)<(m:Int):=h7
      exact h5 i (by omega) (by omega)
   | succ k =>
    have hk':k<r.length:=by simpa using hk
    obtain⟨o1,o2,o3,o4⟩:=hi.ok k hk'
    refine⟨o1,o2,?_,?_⟩
    . cases k with
      | zero=>exact o3
      | succ k=>exact o3
    . cases k with
      | zero=>exact o4
      | succ k=>exact o4
def puL(L:List Int)(f t:Int)(o:List Int):List Int:=if 0<=f/\f<=t/\t<=(L.length:Int)then L.take f.toNat++o++L.drop t.toNat else L
theorem zlj{L:List Int}{f t:Int}{o:List Int}(h:¬(0<=f/\f<=t/\t<=(L.length:Int))):puL L f t o=L:=by unfold puL;rw[if_neg h]
theorem zeb{L:List Int}{f t:Nat}{o:List Int}(h1:f<=t)(h2:t<=L.length):puL L (f:Int) (t:Int) o=L.take f++o++L.drop t:=by
 unfold puL
 rw[if_pos ⟨by omega,by omega,by omega⟩,Int.toNat_natCast,Int.toNat_natCast]
structure MeR(ms:List Bool)(L:List Int)(sk:Bool)(i:Int)(A l:List Int):Prop where
 len:l.length=A.length
 pos:0<l.length
 fst:l.getD 0 0=i
 pl:plB L i=true
 ok:∀k,k<l.length->∃m:Nat,l.getD k 0=(m:Int)/\m<L.length/\L.getD m 0=A.getD k 0/\∀j,j+1=k->l.getD j 0<(m:Int)
theorem me_r{ms:List Bool}{L:List Int}{sk:Bool}{i:Int}{A l:List Int}(h:meQ ms L sk i A=some l):MeR ms L sk i A l:=by
 cases A with
 | nil=>cases h
 | cons g t =>
  by_cases hc:plB L i=true/\L.getD i.toNat 0=g
  . rw[meQ,if_pos hc]at h
    cases hr:meF ms L sk i t with
    | none=>rw[hr]at h;cases h
    | some r =>
     rw[hr]at h
     have hl:i::r=l:=by injection h
     subst hl
     have hM:=zv3 t i r hc.1 hr
     have hp:=zal.1 hc.1
     refine⟨by rw[List.length_cons,List.length_cons,hM.len],Nat.succ_pos _,rfl,hc.1,fun k hk=>?_⟩
     cases k with
     | zero=>exact⟨i.toNat,by show i=_;omega,by omega,hc.2,fun j hj=>by omega⟩
     | succ k =>
      have hk':k<r.length:=by simpa using hk
      obtain⟨o1,o2,o3,o4⟩:=hM.ok k hk'
      have e1:(i::r).getD (k+1) 0=r.getD k 0:=rfl
      have e2:(i::r).getD k 0=if k=0 then i else r.getD (k-1) 0:=by
       cases k with
       | zero=>rfl
       | succ k=>rfl
      refine⟨(r.getD k 0).toNat,by rw[e1];omega,by omega,o2,fun j hj=>?_⟩
      obtain rfl:j=k:=by omega
      rw[e2]
      omega
  . rw[meQ,if_neg hc]at h
    cases h
theorem MeR.gap{ms:List Bool}{L:List Int}{sk:Bool}{i:Int}{A l:List Int}(h:MeR ms L sk i A l){j:Nat}:∀d,j+d<l.length->l.getD j 0+(d:Int)<=l.getD (j+d) 0:=by
 intro d
 induction d with
 | zero=>intro _;simp
 | succ d ih =>
  intro hd
  have h1:=ih (by omega)
  obtain⟨m,e,_,_,h2⟩:=h.ok (j+d+1) (by omega)
  have h3:=h2 (j+d) rfl
  rw[show j+(d+1)=j+d+1 by omega,e]
  omega
theorem MeR.lo{ms:List Bool}{L:List Int}{sk:Bool}{i:Int}{A l:List Int}(h:MeR ms L sk i A l){k:Nat}(hk:k<l.length):i+(k:Int)<=l.getD k 0:=by
 have:=h.gap (j:=0) k (by omega)
 rw[h.fst,Nat.zero_add]at this
 exact this
theorem MeR.hi{ms:List Bool}{L:List Int}{sk:Bool}{i:Int}{A l:List Int}(h:MeR ms L sk i A l){k:Nat}(hk:k<l.length):l.getD k 0+(l.length:Int)<=(L.length:Int)+(k:Int):=by
 have h1:=h.gap (j:=k) (l.length-1-k) (by omega)
 obtain⟨m,e,hm,_⟩:=h.ok (k+(l.length-1-k)) (by omega)
 rw[e]at h1
 omega
structure Ru where
 inn:List Int
 out:List Int
 ap:Int
 lk:Int
 x:Int×Int
 y:Int×Int
 w:Int×Int
def Ru.none:Ru:=⟨[],[],0,0,(0,0),(0,0),(0,0)⟩
structure Lk where
 kd:Int
 sk:Bool
 rs:List Ru
def Lk.none:Lk:=⟨0,false,[]⟩
def puB(k:Int):Bool:=decide (1<=k)&&decide (k<=4)
theorem zha{k:Int}:puB k=true↔k=1\/k=2\/k=3\/k=4:=by unfold puB;rw[Bool.and_eq_true,decide_eq_true_iff,decide_eq_true_iff];omega
def gyB(g z:Int):Bool:=decide (0<=z)&&decide (z<g)
theorem zdg{g z:Int}:gyB g z=true↔0<=z/\z<g:=by unfold gyB;rw[Bool.and_eq_true,decide_eq_true_iff,decide_eq_true_iff]
def alB(l:List Int)(g:Int)(a b:Nat):Bool:=l.all (gyB g)&&(decide (a<=l.length)&&decide (l.length<=b))
theorem zdi{l:List Int}{g:Int}{a b:Nat}:alB l g a b=true↔(∀z∈l,0<=z/\z<g)/\a<=l.length/\l.length<=b:=by
 unfold alB
 rw[Bool.and_eq_true,Bool.and_eq_true,decide_eq_true_iff,decide_eq_true_iff,List.all_eq_true]
 constructor
 . rintro ⟨h1,h2⟩
   exact⟨fun z hz=>zdg.1 (h1 z hz),h2⟩
 . rintro ⟨h1,h2⟩
   exact⟨fun z hz=>zdg.2 (h1 z hz),h2⟩
def zsB(r:Ru):Bool:=decide (r.x=(0,0))&&(decide (r.y=(0,0))&&decide (r.w=(0,0)))
def cxB(l:List Lk)(r:Ru):Bool:=decide (r.out.length=0)&&(decide (0<=r.ap)&&(decide (r.ap<(r.inn.length:Int))&&(decide (0<=r.lk)&&(decide (r.lk<(l.length:Int))&&puB (l.getD r.lk.toNat Lk.none).kd))))
def ruB(l:List Lk)(kd:Int)(r:Ru)(g:Int):Bool :=
 zsB r&&(if kd=4 then alB r.inn g 1 8&&cxB l r
  else (decide (r.ap=0)&&decide (r.lk=0))&&(if kd=1 then alB r.inn g 1 1&&alB r.out g 1 1 else if kd=2 then alB r.inn g 1 1&&alB r.out g 0 8 else alB r.inn g 2 8&&alB r.out g 1 1))
def loB(l:List Lk)(g:Int)(x:Lk):Bool:=!puB x.kd||(decide (x.rs.length<=40)&&x.rs.all (fun r=>ruB l x.kd r g))
def foU(l:List Lk)(g:Int):Bool:=decide (l.length<=10)&&l.all (loB l g)
theorem zhp{l:List Lk}{g:Int}:foU l g=true↔l.length<=10/\∀k,k<l.length->loB l g (l.getD k Lk.none)=true:=by
 unfold foU
 rw[Bool.and_eq_true,decide_eq_true_iff,List.all_eq_true]
 constructor
 . rintro ⟨h1,h2⟩
   exact⟨h1,fun k hk=>h2 _ (by rw[List.getD_eq_getElem?_getD,List.getElem?_eq_getElem hk];exact List.getElem_mem hk)⟩
 . rintro ⟨h1,h2⟩
   refine⟨h1,fun x hx=>?_⟩
   obtain⟨k,hk,e⟩:=List.getElem_of_mem hx
   have:=h2 k hk
   rw[List.getD_eq_getElem?_getD,List.getElem?_eq_getElem hk,Option.getD_some,e]at this
   exact this
theorem zl4{l:List Lk}{g:Int}(h:10<l.length):foU l g=false:=by
 unfold foU
 rw[decide_eq_false (by omega)]
 rfl
theorem zqs{l:List Lk}{g:Int}{k:Nat}(hk:k<l.length)(h:loB l g (l.getD k Lk.none)=false):foU l g=false:=by
 cases hf:foU l g with
 | false=>rfl
 | true=>rw[(zhp.1 hf).2 k hk]at h;cases h
theorem ziz{l:List Lk}{g:Int}{x:Lk}(h:puB x.kd=false):loB l g x=true:=by unfold loB;rw[h];rfl
structure RuF(l:List Lk)(kd:Int)(r:Ru)(g:Int):Prop where
 inn:∀z∈r.inn,0<=z/\z<g
 il:1<=r.inn.length/\r.inn.length<=8
 out:∀z∈r.out,0<=z/\z<g
 ol:r.out.length<=8
 one:kd=1->r.inn.length=1/\r.out.length=1
 two:kd=2->r.inn.length=1
 lig:kd=3->2<=r.inn.length/\r.out.length=1
 cx:kd=4->r.out.length=0/\0<=r.ap/\r.ap<(r.inn.length:Int)/\0<=r.lk/\r.lk<(l.length:Int)/\puB (l.getD r.lk.toNat Lk.none).kd=true
theorem ru_f{l:List Lk}{kd:Int}{r:Ru}{g:Int}(hk:puB kd=true)(h:ruB l kd r g=true):RuF l kd r g:=by
 unfold ruB at h
 rw[Bool.and_eq_true]at h;obtain⟨_,h⟩:=h
 have hk4:=zha.1 hk
 by_cases h4:kd=4
 . rw[if_pos h4,Bool.and_eq_true]at h
   obtain⟨h1,h2⟩:=h
   obtain⟨a1,a2,a3⟩:=zdi.1 h1
   unfold cxB at h2
   simp only[Bool.and_eq_true,decide_eq_true_iff]at h2
   obtain⟨b1,b2,b3,b4,b5,b6⟩:=h2
   have ho:r.out=[]:=List.length_eq_zero_iff.1 b1
   exact⟨a1,⟨a2,a3⟩,(fun z hz=>by rw[ho]at hz;cases hz),by omega,fun e=>by omega,fun e=>by omega,fun e=>by omega,fun _=>⟨b1,b2,b3,b4,b5,b6⟩⟩
 . rw[if_neg h4,Bool.and_eq_true]at h
   obtain⟨_,h⟩:=h
   by_cases h1:kd=1
   . rw[if_pos h1,Bool.and_eq_true]at h
     obtain⟨a1,a2,a3⟩:=zdi.1 h.1
     obtain⟨b1,b2,b3⟩:=zdi.1 h.2
     exact⟨a1,⟨a2,by omega⟩,b1,by omega,fun _=>⟨by omega,by omega⟩,fun e=>by omega,fun e=>by omega,fun e=>absurd e h4⟩
   . rw[if_neg h1]at h
     by_cases h2:kd=2
     . rw[if_pos h2,Bool.and_eq_true]at h
       obtain⟨a1,a2,a3⟩:=zdi.1 h.1
       obtain⟨b1,b2,b3⟩:=zdi.1 h.2
       exact⟨a1,⟨a2,by omega⟩,b1,b3,fun e=>absurd e h1,fun _=>by omega,fun e=>by omega,fun e=>absurd e h4⟩
     . rw[if_neg h2,Bool.and_eq_true]at h
       obtain⟨a1,a2,a3⟩:=zdi.1 h.1
       obtain⟨b1,b2,b3⟩:=zdi.1 h.2
       exact⟨a1,⟨by omega,a3⟩,b1,by omega,fun e=>absurd e h1,fun e=>absurd e h2,fun _=>⟨a2,by omega⟩,fun e=>absurd e h4⟩
theorem zlc{l:List Lk}{g:Int}(hf:foU l g=true){k:Nat}(hk:k<l.length)(hp:puB (l.getD k Lk.none).kd=true){r:Ru}(hr:r∈(l.getD k Lk.none).rs):RuF l (l.getD k Lk.none).kd r g:=by
 have h:=(zhp.1 hf).2 k hk
 unfold loB at h
 rw[hp]at h
 simp only[Bool.not_true,Bool.false_or]at h
 rw[Bool.and_eq_true,List.all_eq_true]at h
 exact ru_f hp (h.2 r hr)
def taF(L:List Int):List Int->List Int
 | []=>L
 | z::t=>puL (taF L t) z (z+1) []
def apF(f:Int->Int->List Int)(kd:Int)(L:List Int)(i:Int)(r:Ru)(m:List Int):List Int×Int :=
 if kd=4 then (f r.lk (m.getD r.ap.toNat 0),max (m.getD (m.length-1) 0+1+((f r.lk (m.getD r.ap.toNat 0)).length:Int)-(L.length:Int)) i)
 else if kd=3 then (puL (taF L m.tail) i (i+1) r.out,i+1)
 else (puL L i (i+1) r.out,i+(r.out.length:Int))
def rsF(f:Int->Int->List Int)(kd:Int)(sk:Bool)(ms:List Bool)(L:List Int)(i:Int):List Ru->Option (List Int×Int)
 | []=>Option.none
 | r::t=>match meQ ms L sk i r.inn with
  | Option.none=>rsF f kd sk ms L i t
  | some m=>some (apF f kd L i r m)
def duF(l:List Lk)(ms:List Bool):Nat->Nat->List Int->Int->Option (List Int×Int)
 | 0,k,L,i=>if (l.getD k Lk.none).sk&&mkB ms (L.getD i.toNat 0)then Option.none else rsF (fun _ _=>L) (l.getD k Lk.none).kd (l.getD k Lk.none).sk ms L i (l.getD k Lk.none).rs
 | n+1,k,L,i=>if (l.getD k Lk.none).sk&&mkB ms (L.getD i.toNat 0)then Option.none
  else rsF (fun q z=>((duF l ms n q.toNat L z).map Prod.fst).getD L) (l.getD k Lk.none).kd (l.getD k Lk.none).sk ms L i (l.getD k Lk.none).rs
def duL(l:List Lk)(ms:List Bool)(n k:Nat)(L:List Int)(i:Int):List Int:=((duF l ms n k L i).map Prod.fst).getD L
def duO(l:List Lk)(ms:List Bool)(n k:Nat)(L:List Int)(i:Int):Int:=((duF l ms n k L i).map Prod.snd).getD i
def duB(l:List Lk)(ms:List Bool)(n k:Nat)(L:List Int)(i:Int):Bool:=(duF l ms n k L i).isSome
def inF(l:List Lk)(ms:List Bool)(n:Nat)(L:List Int)(q z:Int):List Int:=match n with
 | 0=>L
 | n+1=>duL l ms n q.toNat L z
theorem zl7(l:List Lk)(ms:List Bool)(n k:Nat)(L:List Int)(i:Int):duF l ms n k L i=if (l.getD k Lk.none).sk&&mkB ms (L.getD i.toNat 0)then Option.none else rsF (inF l ms n L) (l.getD k Lk.none).kd (l.getD k Lk.none).sk ms L i (l.getD k Lk.none).rs:=by
 cases n with
 | zero=>rfl
 | succ n=>rfl
theorem zle{f:Int->Int->List Int}{kd:Int}{sk:Bool}{ms:List Bool}{L:List Int}{i:Int}{rs:List Ru}{k:Nat}(hk:k<rs.length)(h:meQ ms L sk i (rs.getD k Ru.none).inn=Option.none):rsF f kd sk ms L i (rs.drop k)=rsF f kd sk ms L i (rs.drop (k+1)):=by
 rw[List.drop_eq_getElem_cons hk,rsF]
 rw[List.getD_eq_getElem?_getD,List.getElem?_eq_getElem hk,Option.getD_some]at h
 rw[h]
theorem zou{f:Int->Int->List Int}{kd:Int}{sk:Bool}{ms:List Bool}{L:List Int}{i:Int}{rs:List Ru}{k:Nat}(hk:k<rs.length){m:List Int}(h:meQ ms L sk i (rs.getD k Ru.none).inn=some m):rsF f kd sk ms L i (rs.drop k)=some (apF f kd L i (rs.getD k Ru.none) m):=by
 rw[List.drop_eq_getElem_cons hk,rsF]
 rw[List.getD_eq_getElem?_getD,List.getElem?_eq_getElem hk,Option.getD_some]at h ⊢
 rw[h]
theorem zov{f:Int->Int->List Int}{kd:Int}{sk:Bool}{ms:List Bool}{L:List Int}{i:Int}{rs:List Ru}:rsF f kd sk ms L i (rs.drop rs.length)=Option.none:=by rw[List.drop_length];rfl
theorem zt4{f:Int->Int->List Int}{kd:Int}{sk:Bool}{ms:List Bool}{L:List Int}{i:Int}:∀ {rs:List Ru} {p:List Int×Int},rsF f kd sk ms L i rs=some p->∃r∈rs,∃m,meQ ms L sk i r.inn=some m/\p=apF f kd L i r m:=by
 intro rs
 induction rs with
 | nil=>intro p h;cases h
 | cons r t ih =>
  intro p h
  rw[rsF]at h
  cases hm:meQ ms L sk i r.inn with
  | none =>
   rw[hm]at h
   obtain⟨r',h1,h2⟩:=ih h
   exact⟨r',List.mem_cons_of_mem _ h1,h2⟩
  | some m =>
   rw[hm]at h;injection h with h
   exact⟨r,List.mem_cons_self ..,m,hm,h.symm⟩
structure Pd where
 g:Int
 x:Int
 y:Int
 a:Int
def Pd.none:Pd:=⟨0,0,0,0⟩
def mvB(k:Int):Bool:=decide (5<=k)&&decide (k<=7)
theorem zhg{k:Int}:mvB k=true↔k=5\/k=6\/k=7:=by unfold mvB;rw[Bool.and_eq_true,decide_eq_true_iff,decide_eq_true_iff];omega
def inN(kd:Int):Nat:=if kd=5 then 1 else 2
def prB(fi:Int->Int->Bool)(kd:Int)(sk:Bool)(r:Ru)(g:Int):Bool :=
 (((decide (r.inn.length=inN kd)&&decide (r.out.length=0))&&(decide (r.ap=0)&&decide (r.lk=0)))&&r.inn.all (gyB g))&&((fi r.x.1 r.x.2&&(fi r.y.1 r.y.2&&fi r.w.1 r.w.2))&&(!decide (kd=7)||(!sk&&decide (r.w=(0,-1)))))
def plF(fi:Int->Int->Bool)(g:Int)(x:Lk):Bool:=!mvB x.kd||(decide (x.rs.length<=40)&&x.rs.all (fun r=>prB fi x.kd x.sk r g))
def foM20(fi:Int->Int->Bool)(l:List Lk)(g:Int):Bool:=decide (l.length<=10)&&l.all (plF fi g)
theorem zd0{fi:Int->Int->Bool}{l:List Lk}{g:Int}:foM20 fi l g=true↔l.length<=10/\∀k,k<l.length->plF fi g (l.getD k Lk.none)=true:=by
 unfold foM20
 rw[Bool.and_eq_true,decide_eq_true_iff,List.all_eq_true]
 constructor
 . rintro ⟨h1,h2⟩
   exact⟨h1,fun k hk=>h2 _ (by rw[List.getD_eq_getElem?_getD,List.getElem?_eq_getElem hk];exact List.getElem_mem hk)⟩
 . rintro ⟨h1,h2⟩
   refine⟨h1,fun x hx=>?_⟩
   obtain⟨k,hk,e⟩:=List.getElem_of_mem hx
   have:=h2 k hk
   rw[List.getD_eq_getElem?_getD,List.getElem?_eq_getElem hk,Option.getD_some,e]at this
   exact this
theorem zgk{fi:Int->Int->Bool}{l:List Lk}{g:Int}(h:10<l.length):foM20 fi l g=false:=by
 unfold foM20
 rw[decide_eq_false (by omega)]
 rfl
theorem zi4{fi:Int->Int->Bool}{l:List Lk}{g:Int}{k:Nat}(hk:k<l.length)(h:plF fi g (l.getD k Lk.none)=false):foM20 fi l g=false:=by
 cases hf:foM20 fi l g with
 | false=>rfl
 | true=>rw[(zd0.1 hf).2 k hk]at h;cases h
theorem zio{fi:Int->Int->Bool}{g:Int}{x:Lk}(h:mvB x.kd=false):plF fi g x=true:=by unfold plF;rw[h];rfl
structure PrF(fi:Int->Int->Bool)(kd:Int)(sk:Bool)(r:Ru):Prop where
 inn:r.inn.length=inN kd
 fx:fi r.x.1 r.x.2=true
 fy:fi r.y.1 r.y.2=true
 fw:fi r.w.1 r.w.2=true
 an:kd=7->sk=false/\r.w=(0,-1)
theorem pr_f{fi:Int->Int->Bool}{kd:Int}{sk:Bool}{r:Ru}{g:Int}(h:prB fi kd sk r g=true):PrF fi kd sk r:=by
 unfold prB at h
 simp only[Bool.and_eq_true,Bool.or_eq_true,Bool.not_eq_true',decide_eq_true_iff,decide_eq_false_iff_not]at h
 obtain⟨⟨⟨⟨h1,_⟩,_⟩,_⟩,⟨h2,h3,h4⟩,h5⟩:=h
 refine⟨h1,h2,h3,h4,fun e=>?_⟩
 rcases h5 with h5|h5
 . exact absurd e h5
 . exact h5
theorem zlk{fi:Int->Int->Bool}{l:List Lk}{g:Int}(hf:foM20 fi l g=true){k:Nat}(hk:k<l.length)(hp:mvB (l.getD k Lk.none).kd=true){r:Ru}(hr:r∈(l.getD k Lk.none).rs):PrF fi (l.getD k Lk.none).kd (l.getD k Lk.none).sk r:=by
 have h:=(zd0.1 hf).2 k hk
 unfold plF at h
 rw[hp]at h
 simp only[Bool.not_true,Bool.false_or]at h
 rw[Bool.and_eq_true,List.all_eq_true]at h
 exact pr_f (h.2 r hr)
def laL(line adv:List Int):List Pd:=(List.range line.length).map (fun i=>⟨line.getD i 0,0,0,adv.getD i 0⟩)
theorem zdd(line adv:List Int):(laL line adv).length=line.length:=by simp[laL]
theorem zyk{line adv:List Int}{i:Nat}(hi:i<line.length):(laL line adv).getD i Pd.none=⟨line.getD i 0,0,0,adv.getD i 0⟩:=by simp[laL,List.getD,hi]
theorem zs6(line adv:List Int)(k:Nat):(List.range (k+1)).map (fun i=>(⟨line.getD i 0,0,0,adv.getD i 0⟩:Pd))=(List.range k).map (fun i=>(⟨line.getD i 0,0,0,adv.getD i 0⟩:Pd))++[⟨line.getD k 0,0,0,adv.getD k 0⟩]:=by rw[List.range_succ,List.map_append];rfl
def naL(P:List Pd):List Int:=P.map Pd.g
theorem zce(P:List Pd):(naL P).length=P.length:=by simp[naL]
theorem zud(P:List Pd)(i:Nat):(naL P).getD i 0=(P.getD i Pd.none).g:=by
 unfold naL
 rw[List.getD_eq_getElem?_getD,List.getElem?_map,List.getD_eq_getElem?_getD]
 cases P[i]? <;> rfl
def apN(ms:List Bool)(kd:Int)(sk:Bool)(L:List Int)(i:Nat)(A:List Int):Option (Int×Int) :=
 if kd=5 then (if A.getD 0 0=L.getD i 0 then some ((i:Int)+1,0)else none)
 else if kd=6 then (meQ ms L sk (i:Int) A).map (fun m=>(m.getD 1 0,0))
 else if mkB ms (L.getD i 0)=true/\A.getD 1 0=L.getD i 0/\bkQ ms L (i:Int)≠-1/\A.getD 0 0=L.getD (bkQ ms L (i:Int)).toNat 0 then some ((i:Int)+1,bkQ ms L (i:Int))else none
def fsR(ms:List Bool)(kd:Int)(sk:Bool)(L:List Int)(i:Nat):List Ru->Option (Ru×Int×Int)
 | []=>none
 | r::t=>match apN ms kd sk L i r.inn with
  | none=>fsR ms kd sk L i t
  | some p=>some (r,p)
theorem zl3{ms:List Bool}{kd:Int}{sk:Bool}{L:List Int}{i:Nat}{rs:List Ru}{k:Nat}(hk:k<rs.length)(h:apN ms kd sk L i (rs.getD k Ru.none).inn=none):fsR ms kd sk L i (rs.drop k)=fsR ms kd sk L i (rs.drop (k+1)):=by
 rw[List.drop_eq_getElem_cons hk,fsR]
 rw[List.getD_eq_getElem?_getD,List.getElem?_eq_getElem hk,Option.getD_some]at h
 rw[h]
theorem zqp{ms:List Bool}{kd:Int}{sk:Bool}{L:List Int}{i:Nat}{rs:List Ru}{k:Nat}(hk:k<rs.length){p:Int×Int}(h:apN ms kd sk L i (rs.getD k Ru.none).inn=some p):fsR ms kd sk L i (rs.drop k)=some (rs.getD k Ru.none,p):=by
 rw[List.drop_eq_getElem_cons hk,fsR]
 rw[List.getD_eq_getElem?_getD,List.getElem?_eq_getElem hk,Option.getD_some]at h ⊢
 rw[h]
theorem zqq{ms:List Bool}{kd:Int}{sk:Bool}{L:List Int}{i:Nat}{rs:List Ru}:fsR ms kd sk L i (rs.drop rs.length)=none:=by rw[List.drop_length];rfl
theorem zy9{ms:List Bool}{kd:Int}{sk:Bool}{L:List Int}{i:Nat}:∀ {rs:List Ru} {q:Ru×Int×Int},fsR ms kd sk L i rs=some q->q.1∈rs/\apN ms kd sk L i q.1.inn=some q.2:=by
 intro rs
 induction rs with
 | nil=>intro q h;cases h
 | cons r t ih =>
  intro q h
  rw[fsR]at h
  cases hm:apN ms kd sk L i r.inn with
  | none =>
   rw[hm]at h
   obtain⟨h1,h2⟩:=ih h
   exact⟨List.mem_cons_of_mem _ h1,h2⟩
  | some p =>
   rw[hm]at h;injection h with h;subst h
   exact⟨List.mem_cons_self ..,hm⟩
def adS(P:List Pd)(b:Nat):Nat->Int
 | 0=>0
 | n+1=>adS P b n+(P.getD (b+n) Pd.none).a
def w6(z:Int):Int:=IntKind.i64.wrap z
theorem w6_eq(z:Int):IntKind.i64.wrap z=w6 z:=rfl
theorem zdj(z:Int):w6 z=(z+9223372036854775808)%18446744073709551616-9223372036854775808:=by
 unfold w6
 simp only[IntKind.wrap,IntKind.bits,IntKind.signed]
 simp
 omega
theorem w6_64(z:Int):Go.RowKit.wrap64 z=w6 z:=by rw[zdj];unfold Go.RowKit.wrap64;rfl
theorem w6_id{z:Int}(h1:-9223372036854775808<=z)(h2:z<=9223372036854775807):w6 z=z:=by rw[zdj];omega
theorem w6_in(z:Int):I64 (w6 z):=by rw[zdj];unfold I64;omega
theorem ztz(a b:Int):w6 (w6 a+b)=w6 (a+b):=by rw[zdj a,zdj,zdj];omega
theorem zty(a b:Int):w6 (w6 a-b)=w6 (a-b):=by rw[zdj a,zdj,zdj];omega
def mvPJ(kd:Int)(P:List Pd)(i b:Nat)(dx dy w:Int):Pd :=
 ⟨(P.getD i Pd.none).g,w6 ((if kd=7 then (P.getD b Pd.none).x-adS P b (i-b)else (P.getD i Pd.none).x)+dx),w6 ((if kd=7 then (P.getD b Pd.none).y else (P.getD i Pd.none).y)+dy),w6 ((P.getD i Pd.none).a+w)⟩
def onP(ro re:Int×Int->Int)(ms:List Bool)(x:Lk)(P:List Pd)(i:Nat):Option (List Pd×Int) :=
 if x.sk&&mkB ms ((naL P).getD i 0)then some (P,(i:Int)+1)
 else match fsR ms x.kd x.sk (naL P) i x.rs with
  | none=>some (P,(i:Int)+1)
  | some (r,nx,b)=>if re r.x=0/\re r.y=0/\re r.w=0 then some (P.set i (mvPJ x.kd P i b.toNat (ro r.x) (ro r.y) (ro r.w)),nx)else none
def ruF20(ro re:Int×Int->Int)(ms:List Bool)(x:Lk):Nat->List Pd->Int->Option (List Pd)
 | 0,P,_=>some P
 | n+1,P,i=>if i<(P.length:Int)then (match onP ro re ms x P i.toNat with
     | none=>none
     | some (Q,nx)=>ruF20 ro re ms x n Q nx)
  else some P
theorem zzo{ms:List Bool}{kd:Int}{sk:Bool}{L:List Int}{i:Nat}{A:List Int}{p:Int×Int}(h:apN ms kd sk L i A=some p)(hA:kd=6->A.length=2):(i:Int)<p.1/\p.1<=(L.length:Int)+(i:Int)+1:=by
 unfold apN at h
 by_cases h5:kd=5
 . rw[if_pos h5]at h
   split at h
   . injection h with h;subst h;exact⟨by show(i:Int)<(i:Int)+1;omega,by show(i:Int)+1<=_;omega⟩
   . cases h
 . rw[if_neg h5]at h
   by_cases h6:kd=6
   . rw[if_pos h6]at h
     cases hm:meQ ms L sk (i:Int) A with
     | none=>rw[hm]at h;cases h
     | some m =>
      rw[hm]at h;injection h with h;subst h
      have hM:=me_r hm
      have hl:1<m.length:=by rw[hM.len,hA h6];omega
      have h1:=hM.lo hl
      have h2:=hM.hi hl
      refine⟨by show(i:Int)<m.getD 1 0;omega,by show m.getD 1 0<=_;omega⟩
   . rw[if_neg h6]at h
     split at h
     . injection h with h;subst h;exact⟨by show(i:Int)<(i:Int)+1;omega,by show(i:Int)+1<=_;omega⟩
     . cases h
theorem zfm{ro re:Int×Int->Int}{ms:List Bool}{x:Lk}{P Q:List Pd}{i:Nat}{nx:Int}(h:onP ro re ms x P i=some (Q,nx))(hx:∀r∈x.rs,x.kd=6->r.inn.length=2):Q.length=P.length/\naL Q=naL P/\(i:Int)<nx/\nx<=(P.length:Int)+(i:Int)+1:=by
 unfold onP at h
 split at h
 . injection h with h;injection h with h1 h2;subst h1 h2;exact⟨rfl,rfl,by omega,by omega⟩
 . cases hf:fsR ms x.kd x.sk (naL P) i x.rs with
   | none=>rw[hf]at h;injection h with h;injection h with h1 h2;subst h1 h2;exact⟨rfl,rfl,by omega,by omega⟩
   | some q =>
    obtain⟨r,n1,b⟩:=q;rw[hf]at h;dsimp only at h
    split at h
    . injection h with h
      injection h with h1 h2;subst h1 h2
      obtain⟨hm,ha⟩:=zy9 hf
      have hg:=zzo ha (hx r hm)
      rw[zce]at hg
      refine⟨List.length_set ..,?_,hg⟩
      unfold naL
      rw[List.map_set]
      apply List.ext_getElem?
      intro k
      by_cases hk:k=i
      . subst hk
        by_cases hk2:k<P.length
        . simp[hk2,mvPJ,List.getD]
        . rw[List.getElem?_eq_none (by rw[List.length_set,List.length_map];omega),List.getElem?_eq_none (by rw[List.length_map];omega)]
      . rw[List.getElem?_set_ne (fun e=>hk e.symm)]
    . cases h
theorem zsa{ro re:Int×Int->Int}{ms:List Bool}{x:Lk}(hx:∀r∈x.rs,x.kd=6->r.inn.length=2):∀(n m:Nat) (P:List Pd) (i:Int),0<=i->(P.length:Int)-i<=(n:Int)->n<=m->ruF20 ro re ms x m P i=ruF20 ro re ms x n P i:=by
 intro n
 induction n with
 | zero =>
  intro m P i h0 h1 _
  cases m with
  | zero=>rfl
  | succ m=>rw[ruF20,ruF20,if_neg (by omega)]
 | succ n ih =>
  intro m P i h0 h1 h2
  obtain⟨m,rfl⟩:∃m',m=m'+1:=⟨m-1,by omega⟩
  rw[ruF20,ruF20]
  by_cases hi:i<(P.length:Int)
  . rw[if_pos hi,if_pos hi]
    cases ho:onP ro re ms x P i.toNat with
    | none=>rfl
    | some q =>
     obtain⟨Q,nx⟩:=q
     obtain⟨k1,_,k2,_⟩:=zfm ho hx
     exact ih m Q nx (by omega) (by omega) (by omega)
  . rw[if_neg hi,if_neg hi]
def ruQ(ro re:Int×Int->Int)(ms:List Bool)(x:Lk)(P:List Pd)(i:Int):Option (List Pd):=ruF20 ro re ms x (P.length-i.toNat) P i
theorem zjo{ro re:Int×Int->Int}{ms:List Bool}{x:Lk}{P:List Pd}{i:Int}(h0:0<=i)(h:¬i<(P.length:Int)):ruQ ro re ms x P i=some P:=by
 unfold ruQ
 rw[show P.length-i.toNat=0 by omega,ruF20]
theorem zot{ro re:Int×Int->Int}{ms:List Bool}{x:Lk}{P:List Pd}{i:Nat}(h:i<P.length)(ho:onP ro re ms x P i=none):ruQ ro re ms x P (i:Int)=none:=by
 unfold ruQ
 rw[Int.toNat_natCast]
 obtain⟨n,hn⟩:∃n,P.length-i=n+1:=⟨P.length-i-1,by omega⟩
 rw[hn,ruF20,if_pos (by omega),Int.toNat_natCast,ho]
theorem zt3{ro re:Int×Int->Int}{ms:List Bool}{x:Lk}(hx:∀r∈x.rs,x.kd=6->r.inn.length=2){P Q:List Pd}{i:Nat}{nx:Int}(h:i<P.length)(ho:onP ro re ms x P i=some (Q,nx)):ruQ ro re ms x P (i:Int)=ruQ ro re ms x Q nx:=by
 unfold ruQ
 rw[Int.toNat_natCast]
 obtain⟨n,hn⟩:∃n,P.length-i=n+1:=⟨P.length-i-1,by omega⟩
 obtain⟨k1,_,k2,_⟩:=zfm ho hx
 rw[hn,ruF20,if_pos (by omega),Int.toNat_natCast,ho]
 exact zsa hx _ n Q nx (by omega) (by omega) (by omega)
def alM(ro re:Int×Int->Int)(ms:List Bool)(l:List Lk):List Int->List Pd->Int×List Pd
 | [],P=>(0,P)
 | k::t,P=>if 0<=k/\k<(l.length:Int) then
     (if mvB (l.getD k.toNat Lk.none).kd then (match ruQ ro re ms (l.getD k.toNat Lk.none) P 0 with
      | none=>(4,[])
      | some Q=>alM ro re ms l t Q)
     else alM ro re ms l t P)
  else (5,[])
def paEJ(fi:Int->Int->Bool)(ro re:Int×Int->Int)(ms:List Bool)(l:List Lk)(ks:List Int)(P:List Pd):Int×List Pd :=
 if foM20 fi l 65536 then (if 100<P.length then (3,[])else alM ro re ms l ks P)else (1,[])
theorem zk1{ro re:Int×Int->Int}{ms:List Bool}{l:List Lk}{ks:List Int}{P:List Pd}:alM ro re ms l (ks.drop ks.length) P=(0,P):=by rw[List.drop_length];rfl
theorem zhw{ro re:Int×Int->Int}{ms:List Bool}{l:List Lk}{ks:List Int}{P:List Pd}{r:Nat}(hr:r<ks.length)(h:¬(0<=ks.getD r 0/\ks.getD r 0<(l.length:Int))):alM ro re ms l (ks.drop r) P=(5,[]):=by
 rw[List.getD_eq_getElem?_getD,List.getElem?_eq_getElem hr,Option.getD_some]at h
 rw[List.drop_eq_getElem_cons hr,alM,if_neg h]
theorem zrm{ro re:Int×Int->Int}{ms:List Bool}{l:List Lk}{ks:List Int}{P:List Pd}{r:Nat}{k:Nat}(hr:r<ks.length)(hk:ks.getD r 0=(k:Int))(hl:k<l.length)(h:mvB (l.getD k Lk.none).kd=false):alM ro re ms l (ks.drop r) P=alM ro re ms l (ks.drop (r+1)) P:=by
 rw[List.getD_eq_getElem?_getD,List.getElem?_eq_getElem hr,Option.getD_some]at hk
 rw[List.drop_eq_getElem_cons hr,alM,hk,if_pos ⟨by omega,by omega⟩,Int.toNat_natCast,h]
 rfl
theorem zw7{ro re:Int×Int->Int}{ms:List Bool}{l:List Lk}{ks:List Int}{P:List Pd}{r:Nat}{k:Nat}(hr:r<ks.length)(hk:ks.getD r 0=(k:Int))(hl:k<l.length)(h:mvB (l.getD k Lk.none).kd=true)(hq:ruQ ro re ms (l.getD k Lk.none) P 0=none):alM ro re ms l (ks.drop r) P=(4,[]):=by
 rw[List.getD_eq_getElem?_getD,List.getElem?_eq_getElem hr,Option.getD_some]at hk
 rw[List.drop_eq_getElem_cons hr,alM,hk,if_pos ⟨by omega,by omega⟩,Int.toNat_natCast,h,hq]
 rfl
theorem zzq{ro re:Int×Int->Int}{ms:List Bool}{l:List Lk}{ks:List Int}{P Q:List Pd}{r:Nat}{k:Nat}(hr:r<ks.length)(hk:ks.getD r 0=(k:Int))(hl:k<l.length)(h:mvB (l.getD k Lk.none).kd=true)(hq:ruQ ro re ms (l.getD k Lk.none) P 0=some Q):alM ro re ms l (ks.drop r) P=alM ro re ms l (ks.drop (r+1)) Q:=by
 rw[List.getD_eq_getElem?_getD,List.getElem?_eq_getElem hr,Option.getD_some]at hk
 rw[List.drop_eq_getElem_cons hr,alM,hk,if_pos ⟨by omega,by omega⟩,Int.toNat_natCast,h,hq]
 rfl
