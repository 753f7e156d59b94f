import Derived.Test.YtgbhidcokobmmaaGreatDoorZL1
import Derived.WalkSmall
import Derived.RangeFuncNested
import Derived.RangeFuncBound
import Derived.RangeFuncCalls
import Derived.RangeFuncLeaves
import Derived.RangeFuncBox
import Derived.Shelf.Abstract
import Derived.Shelf.RegionOpen
import Derived.OwnWalkIn
import Derived.TacticsInMore
import Derived.LoopNIn
import Derived.LoopIn
set_option maxHeartbeats 4000000
set_option maxRecDepth 100000
set_option linter.unusedSimpArgs false
set_option linter.unusedVariables false
namespace Go.Proofs.YtgbhidcokobmmaaGreatDoor
def PdW(p:Pd):Prop:=I64 p.g/\I64 p.x/\I64 p.y/\I64 p.a
theorem zwd{fi:Int->Int->Bool}{l:List Lk}{g:Int}(hf:foM20 fi l g=true){k:Nat}(hk:k<l.length)(hp:mvB (l.getD k Lk.none).kd=true):∀r∈(l.getD k Lk.none).rs,(l.getD k Lk.none).kd=6->r.inn.length=2:=by
 intro r hr h6
 have:=(zlk hf hk hp hr).inn
 rw[h6]at this
 exact this
theorem zvi{ro re:Int×Int->Int}{ms:List Bool}{x:Lk}(hx:∀r∈x.rs,x.kd=6->r.inn.length=2):∀(n:Nat) (P Q:List Pd) (i:Int),0<=i->ruF20 ro re ms x n P i=some Q->Q.length=P.length/\naL Q=naL P:=by
 intro n
 induction n with
 | zero=>intro P Q i _ h;rw[ruF20]at h;injection h with h;subst h;exact⟨rfl,rfl⟩
 | succ n ih =>
  intro P Q i h0 h
  rw[ruF20]at h
  by_cases hi:i<(P.length:Int)
  . rw[if_pos hi]at h
    cases ho:onP ro re ms x P i.toNat with
    | none=>rw[ho]at h;cases h
    | some q =>
     obtain⟨R,nx⟩:=q;rw[ho]at h
     obtain⟨k1,k2,k3,_⟩:=zfm ho hx
     obtain⟨j1,j2⟩:=ih R Q nx (by omega) h
     exact⟨by rw[j1,k1],by rw[j2,k2]⟩
  . rw[if_neg hi]at h
    injection h with h;subst h
    exact⟨rfl,rfl⟩
theorem zzm{ms:List Bool}{L:List Int}:∀k,bkF ms L k=-1\/∃b:Nat,bkF ms L k=(b:Int)/\b<k:=by
 intro k
 induction k with
 | zero=>exact .inl rfl
 | succ k ih =>
  cases hm:mkB ms (L.getD k 0) with
  | true =>
   rw[zmc hm]
   rcases ih with h|⟨b,h1,h2⟩
   . exact .inl h
   . exact .inr ⟨b,h1,by omega⟩
  | false =>
   rw[zks hm]
   exact .inr ⟨k,rfl,Nat.lt_succ_self _⟩
theorem bk_lt{ms:List Bool}{L:List Int}{i:Nat}(hi:i<L.length):bkQ ms L (i:Int)=-1\/∃b:Nat,bkQ ms L (i:Int)=(b:Int)/\b<i:=by
 rw[zkr hi]
 exact zzm i
open Go.RowKit Go.Maps
structure El(α:Type) where
 sz:Nat
 dfl:α
 rep:(Nat->Prop)->World->List Value->α->Prop
 len:∀ {S:Nat->Prop} {w:World} {vs:List Value} {x:α},rep S w vs x->vs.length=sz
 one:∀ {S:Nat->Prop} {w:World} {vs:List Value} {x:α},rep S w vs x->∀u∈vs,u.oneCell'=true
 stay:∀ {S S':Nat->Prop} {w w':World} {vs:List Value} {x:α},rep S w vs x->w.heap.size<=w'.heap.size->(∀k,S k->k<w.heap.size->S' k/\w'.heap[k]?=w.heap[k]?)->rep S' w' vs x
def El.num(k:IntKind)(lo hi:Int):El Int where
 sz:=1
 dfl:=0
 rep:=fun _ _ vs z=>vs=[.int k z]/\lo<=z/\z<=hi
 len:=fun h=>by rw[h.1];rfl
 one:=fun h u hu=>by rw[h.1]at hu;rw[List.mem_singleton.1 hu];rfl
 stay:=fun h _ _=>h
def El.int:El Int:=El.num .i64 (-9223372036854775808) 9223372036854775807
theorem El.int_rep{S:Nat->Prop}{w:World}{vs:List Value}{z:Int}:El.int.rep S w vs z↔vs=[.int .i64 z]/\I64 z:=Iff.rfl
def El.bool:El Bool where
 sz:=1
 dfl:=false
 rep:=fun _ _ vs z=>vs=[.bool z]
 len:=fun h=>by rw[h];rfl
 one:=fun h u hu=>by rw[h]at hu;rw[List.mem_singleton.1 hu];rfl
 stay:=fun h _ _=>h
def El.str:El ByteArray where
 sz:=1
 dfl:=ByteArray.empty
 rep:=fun _ _ vs z=>vs=[.string z]/\z.size<=maxLen
 len:=fun h=>by rw[h.1];rfl
 one:=fun h u hu=>by rw[h.1]at hu;rw[List.mem_singleton.1 hu];rfl
 stay:=fun h _ _=>h
def El.cat{α β:Type}(E:El α)(F:El β):El (α×β) where
 sz:=E.sz+F.sz
 dfl:=(E.dfl,F.dfl)
 rep:=fun S w vs p=>∃us ts,vs=us++ts/\E.rep S w us p.1/\F.rep S w ts p.2
 len:=fun⟨us,ts,e,h1,h2⟩=>by rw[e,List.length_append,E.len h1,F.len h2]
 one:=fun⟨us,ts,e,h1,h2⟩ u hu=>by
  rw[e]at hu
  rcases List.mem_append.1 hu with hu|hu
  . exact E.one h1 u hu
  . exact F.one h2 u hu
 stay:=fun⟨us,ts,e,h1,h2⟩ hs hk=>⟨us,ts,e,E.stay h1 hs hk,F.stay h2 hs hk⟩
def El.via{α β:Type}(E:El α)(f:β->α)(d:β):El β where
 sz:=E.sz
 dfl:=d
 rep:=fun S w vs b=>E.rep S w vs (f b)
 len:=fun h=>E.len h
 one:=fun h=>E.one h
 stay:=fun h hs hk=>E.stay h hs hk
def Gr{α:Type}(E:El α)(S:Nat->Prop)(w:World)(a:Option Addr)(cap:Nat)(l:List α):Prop :=
 l.length<=cap/\cap<=maxLen/\(a=none->cap=0) /\
 ∀i,i<l.length->∃b off vs,a=some ⟨b,off,none⟩/\b<w.heap.size/\E.rep S w vs (l.getD i E.dfl)/\∀j,j<E.sz->w.cell? ⟨b,off+i*E.sz+j,none⟩=vs[j]?
theorem Gr.nil{α:Type}(E:El α)(S:Nat->Prop)(w:World)(a:Option Addr)(cap:Nat)(h:cap<=maxLen)(h0:a=none->cap=0):Gr E S w a cap []:=⟨Nat.zero_le _,h,h0,fun i hi=>by simp at hi⟩
theorem Gr.lenB{α:Type}{E:El α}{S:Nat->Prop}{w:World}{a:Option Addr}{cap:Nat}{l:List α}(h:Gr E S w a cap l):l.length<=9223372036854775807:=by
 have h1:=h.1
 have h2:=h.2.1
 unfold maxLen at h2
 omega
theorem Gr.blk{α:Type}{E:El α}{S:Nat->Prop}{w:World}{a:Option Addr}{cap:Nat}{l:List α}(h:Gr E S w a cap l)(hl:l≠[]):∃b off,a=some ⟨b,off,none⟩/\b<w.heap.size:=by
 obtain⟨b,off,vs,e,hb,_⟩:=h.2.2.2 0 (List.length_pos_iff.2 hl)
 exact⟨b,off,e,hb⟩
theorem Gr.stay{α:Type}{E:El α}{S S':Nat->Prop}{w w':World}{a:Option Addr}{cap:Nat}{l:List α}(h:Gr E S w a cap l)(hs:w.heap.size<=w'.heap.size)
    (hk:∀k,S k->k<w.heap.size->S' k/\w'.heap[k]?=w.heap[k]?) (ha:∀b o,a=some ⟨b,o,none⟩->l≠[]->b<w.heap.size->w'.heap[b]?=w.heap[b]?):Gr E S' w' a cap l:=by
 refine⟨h.1,h.2.1,h.2.2.1,fun i hi=>?_⟩
 obtain⟨b,off,vs,e,hb,h1,h2⟩:=h.2.2.2 i hi
 have hbk:=ha b off e (fun e0=>by rw[e0]at hi;simp at hi) hb
 exact⟨b,off,vs,e,Nat.lt_of_lt_of_le hb hs,E.stay h1 hs hk,fun j hj=>(World.cell?_of_block (w:=w) (a:=⟨b,off+i*E.sz+j,none⟩) hbk).trans (h2 j hj)⟩
theorem Gr.below{α:Type}{E:El α}{S:Nat->Prop}{w w':World}{a:Option Addr}{cap:Nat}{l:List α}(h:Gr E S w a cap l)(hb:Below w.heap.size w w'):Gr E S w' a cap l :=
 h.stay hb.size (fun k hk hl=>⟨hk,hb.block k hl⟩) (fun b o e hl h1=>hb.block b h1)
theorem Gr.at{α:Type}{E:El α}{S:Nat->Prop}{w wr:World}{a:Option Addr}{cap:Nat}{l:List α}(h:Gr E S w a cap l)(hb:Below w.heap.size w wr)(k:Nat)(hk:k<l.length) :
 ∃b off vs,a=some ⟨b,off,none⟩/\b<w.heap.size/\E.rep S wr vs (l.getD k E.dfl)/\∀j,j<E.sz->wr.cell? ⟨b,off+k*E.sz+j,none⟩=vs[j]?:=by
 obtain⟨b,off,vs,e,h0,h1,h2⟩:=h.2.2.2 k hk
 exact⟨b,off,vs,e,h0,E.stay h1 hb.size (fun k hk hl=>⟨hk,hb.block k hl⟩),fun j hj=>(hb.cell (p:=⟨b,off+k*E.sz+j,none⟩) h0).trans (h2 j hj)⟩
theorem Gr.take{α:Type}{E:El α}{S:Nat->Prop}{w:World}{a:Option Addr}{cap:Nat}{l:List α}(h:Gr E S w a cap l)(n:Nat):Gr E S w a cap (l.take n):=by
 refine⟨Nat.le_trans (by simp;omega) h.1,h.2.1,h.2.2.1,fun i hi=>?_⟩
 have hi':i<n/\i<l.length:=by simp at hi;omega
 obtain⟨b,off,vs,e,h0,h1,h2⟩:=h.2.2.2 i hi'.2
 have eg:(l.take n).getD i E.dfl=l.getD i E.dfl:=by simp[List.getD,List.getElem?_take,hi'.1]
 exact⟨b,off,vs,e,h0,by rw[eg];exact h1,h2⟩
theorem Gr.from{α:Type}{E:El α}{S:Nat->Prop}{w:World}{b off cap:Nat}{l:List α}(h:Gr E S w (some ⟨b,off,none⟩) cap l)(n:Nat)(hn:n<=l.length):Gr E S w (some ⟨b,off+n*E.sz,none⟩) (cap-n) (l.drop n):=by
 refine⟨by have:=h.1;simp;omega,Nat.le_trans (Nat.sub_le _ _) h.2.1,(fun e=>by cases e),fun i hi=>?_⟩
 have hi':n+i<l.length:=by simp at hi;omega
 obtain⟨b',off',vs,e,h0,h1,h2⟩:=h.2.2.2 (n+i) hi'
 cases e
 have eg:(l.drop n).getD i E.dfl=l.getD (n+i) E.dfl:=by simp[List.getD]
 refine⟨b,off+n*E.sz,vs,rfl,h0,by rw[eg];exact h1,fun j hj=>?_⟩
 rw[show off+n*E.sz+i*E.sz+j=off+(n+i)*E.sz+j by rw[Nat.add_mul];omega]
 exact h2 j hj
def El.row{α:Type}(E:El α):El (List α) where
 sz:=1
 dfl:=[]
 rep:=fun S w vs l=>∃a cap,vs=[.slice a l.length cap]/\(∀b o,a=some ⟨b,o,none⟩->l≠[]->S b)/\Gr E S w a cap l/\l.length<=140737488351232
 len:=fun⟨a,cap,e,_⟩=>by rw[e];rfl
 one:=fun⟨a,cap,e,_⟩ u hu=>by rw[e]at hu;rw[List.mem_singleton.1 hu];rfl
 stay:=fun⟨a,cap,e,hS,h,hlb⟩ hs hk=>by
  refine⟨a,cap,e,fun b o e1 hl=>?_,h.stay hs hk (fun b o e1 hl hb=>(hk b (hS b o e1 hl) hb).2),hlb⟩
  obtain⟨b',o',e2,hb⟩:=h.blk hl
  rw[e1]at e2
  cases e2
  exact(hk b (hS b o e1 hl) hb).1
theorem zi6{sz:Nat}:∀ {vss:List (List Value)},(∀i,i<vss.length->(vss.getD i []).length=sz)->vss.flatten.length=vss.length*sz:=by
 intro vss
 induction vss with
 | nil=>intro _;simp
 | cons vs t ih =>
  intro h
  have h0:vs.length=sz:=h 0 (by simp)
  have h1:=ih (fun i hi=>h (i+1) (by simpa using hi))
  rw[List.flatten_cons,List.length_append,h0,h1,List.length_cons,Nat.add_mul]
  omega
theorem zhq{sz:Nat}:∀ {vss:List (List Value)} {i j:Nat},(∀i,i<vss.length->(vss.getD i []).length=sz)->i<vss.length->j<sz->vss.flatten[i*sz+j]?=(vss.getD i [])[j]?:=by
 intro vss
 induction vss with
 | nil=>intro i j _ hi _;simp at hi
 | cons vs t ih =>
  intro i j h hi hj
  have h0:vs.length=sz:=h 0 (by simp)
  cases i with
  | zero=>rw[List.flatten_cons,Nat.zero_mul,Nat.zero_add,List.getElem?_append_left (by omega)];rfl
  | succ i =>
   have h1:=ih (fun i hi=>h (i+1) (by simpa using hi)) (i:=i) (j:=j) (by simpa using hi) hj
   rw[List.flatten_cons,List.getElem?_append_right (by rw[h0,Nat.add_mul];omega),h0,show(i+1)*sz+j-sz=i*sz+j by rw[Nat.add_mul];omega,h1]
   rfl
def Gw{α:Type}(E:El α)(t:TypeId)(base:Nat)(S:Nat->Prop)(w:World)(v:Value)(l:List α):Prop :=
 ∃vss:List (List Value),vss.length=l.length/\w.ownsRow base t E.sz v l.length vss.flatten/\∀i,i<l.length->E.rep (fun k=>S k/\v.ownBlock≠some k) w (vss.getD i []) (l.getD i E.dfl)
theorem Gw.nil{α:Type}(E:El α)(t:TypeId)(base:Nat)(S:Nat->Prop)(w:World):Gw E t base S w (.slice none 0 0) []:=⟨[],rfl,World.ownsRow_nil w base _ _,fun i hi=>by simp at hi⟩
theorem Gw.made{α:Type}{E:El α}{t:TypeId}{base:Nat}{S:Nat->Prop}{w:World}{v:Value}(h:w.ownsRow base t E.sz v 0 []):Gw E t base S w v []:=⟨[],rfl,h,fun i hi=>by simp at hi⟩
theorem Gw.slice{α:Type}{E:El α}{t:TypeId}{base:Nat}{S:Nat->Prop}{w:World}{v:Value}{l:List α}(h:Gw E t base S w v l):∃a cap,v=.slice a l.length cap/\Gr E S w a cap l/\∀b o,a=some ⟨b,o,none⟩->base<=b/\b<w.heap.size:=by
 obtain⟨vss,hl,h3,h4⟩:=h
 have h5:∀i,i<vss.length->(vss.getD i []).length=E.sz:=fun i hi=>E.len (h4 i (by omega))
 have hown:=h3
 rcases h3.2 with ⟨rfl,h0⟩|⟨g,cap,cur,rfl,hb,hg,hc1,hc2,hc3,ht⟩
 . have:l=[]:=List.length_eq_zero_iff.1 h0
   subst this
   exact⟨none,0,rfl,Gr.nil _ _ _ _ _ (Nat.zero_le _) (fun _=>rfl),fun b o e=>by cases e⟩
 . refine⟨_,cap,rfl,⟨hc1,hc2,(fun e=>by cases e),fun i hi=>?_⟩,fun b o e=>by cases e;exact⟨hb,(Array.getElem?_eq_some_iff.1 hg).1⟩⟩
   refine⟨g,0,vss.getD i [],rfl,(Array.getElem?_eq_some_iff.1 hg).1,E.stay (h4 i hi) (Nat.le_refl _) (fun k hk _=>⟨hk.1,rfl⟩),fun j hj=>?_⟩
   have zdx:∀j,(⟨g,0,none⟩:Addr).add j=⟨g,0+j,none⟩:=by intro j;unfold Addr.add;split <;> simp_all
   have e:=zhq h5 (i:=i) (j:=j) (by omega) hj
   have hjl:j<(vss.getD i []).length:=by rw[h5 i (by omega)];exact hj
   rw[List.getElem?_eq_getElem hjl]at e ⊢
   have d:=hown.cells (g:=g) rfl (i*E.sz+j) _ e
   rw[zdx]at d;rw[<-d]
   simp[Nat.add_assoc]
theorem Gw.lo{α:Type}{E:El α}{t:TypeId}{base:Nat}{S:Nat->Prop}{w:World}{v:Value}{l:List α}(h:Gw E t base S w v l){g:Nat}(hg:v.ownBlock=some g):base<=g/\g<w.heap.size:=by
 obtain⟨vss,hl,h3,h4⟩:=h
 exact World.ownsRow.lt h3 g hg
theorem Gw.stay{α:Type}{E:El α}{t:TypeId}{base:Nat}{S S':Nat->Prop}{w w':World}{v:Value}{l:List α}(h:Gw E t base S w v l)(hs:w.heap.size<=w'.heap.size)
    (hk:∀k,S k->v.ownBlock≠some k->k<w.heap.size->S' k/\w'.heap[k]?=w.heap[k]?) (ho:∀k,v.ownBlock=some k->w'.heap[k]?=w.heap[k]?):Gw E t base S' w' v l:=by
 obtain⟨vss,hl,h3,h4⟩:=h
 refine⟨vss,hl,⟨h3.1,?_⟩,fun i hi=>E.stay (h4 i hi) hs (fun k h1 h2=>⟨⟨(hk k h1.1 h1.2 h2).1,h1.2⟩,(hk k h1.1 h1.2 h2).2⟩)⟩
 rcases h3.2 with h0|⟨g,cap',cur,k1,k2,k3,k4⟩
 . exact .inl h0
 . exact .inr ⟨g,cap',cur,k1,k2,(ho g (by rw[k1];rfl)).trans k3,k4⟩
theorem Gw.below{α:Type}{E:El α}{t:TypeId}{base:Nat}{S:Nat->Prop}{w w':World}{v:Value}{l:List α}(h:Gw E t base S w v l)(hb:Below w.heap.size w w'):Gw E t base S w' v l :=
 h.stay hb.size (fun k h1 _ h2=>⟨h1,hb.block k h2⟩) (fun k hk=>hb.block k (h.lo hk).2)
theorem Gw.ty{α:Type}{E:El α}{t:TypeId}{base:Nat}{S:Nat->Prop}{w:World}{v:Value}{l:List α}(h:Gw E t base S w v l){g:Nat}(hg:v.ownBlock=some g):∃cur,w.heap[g]?=some (.cells cur t (0,0)):=by
 obtain⟨vss,hl,h3,h4⟩:=h
 rcases h3.2 with ⟨e,_⟩|⟨g',cap',cur,k1,k2,k3,k4⟩
 . rw[e]at hg;cases hg
 . rw[k1]at hg
   have e:some g'=some g:=hg
   injection e with e;rw[<-e]
   exact⟨cur,k3⟩
theorem Gw.ne{α β:Type}{E:El α}{F:El β}{t u:TypeId}{base base2:Nat}{S S2:Nat->Prop}{w:World}{v x:Value}{l:List α}{m:List β}(h:Gw E t base S w v l)(h2:Gw F u base2 S2 w x m)(ht:t≠u){g:Nat}(hg:v.ownBlock=some g):x.ownBlock≠some g:=by
 intro e
 obtain⟨c1,k1⟩:=h.ty hg
 obtain⟨c2,k2⟩:=h2.ty e
 rw[k1]at k2
 simp at k2
 exact ht k2.2
theorem zab{α:Type}{E:El α}{w:World}{ops:Array Oper}{rest:List Oper}{o:Oper}{a:Act}{Q:Exit->Act->World->Prop}(t e:TypeId){z:Value}{by':Nat}
    (ht:Tryz.prog.underlying t=some (.slice e)) (hinfo:(Tryz.prog.info? e).map (fun i=>(i.zero,i.size,i.bytes))=some (some z,E.sz,by')) (hzs:z.cells.size=E.sz) (hsz:0<E.sz) (hby:by'<=1000)
    (hgd:o.guard=none) (s x:Operand) (ho:o.op=.call { callee:=.builtin .append,args:=#[s,x],argTypes:=#[t,t] })
    (base:Nat) (S:Nat->Prop) (v:Value) (l:List α) (hs:a.eval s=v) (hown:Gw E e base S w v l) (pa:Option Addr) (pc n:Nat) (m:List α) (hn:n=m.length) (hx:a.eval x=.slice pa n pc)
    (hp:Gr E (fun k=>S k/\v.ownBlock≠some k) w pa pc m) (hlen:l.length+m.length<=1000000) (hbase:base<=w.heap.size)
    (h:∀v' w',Gw E e base S w' v' (l++m)->w.grownBy w' v.ownBlock->(v'.ownBlock=v.ownBlock\/v'.ownBlock=some w.heap.size)->wpList Tryz.prog ops Q rest (a.put o.dst v') w'):wpList Tryz.prog ops Q (o::rest) a w:=by
 subst hn
 obtain⟨i0,hi,hz0,hz1,hz2⟩:=info_parts hinfo
 obtain⟨vss,hl,h3,h4⟩:=hown
 have grown:∀v' w' (uss:List (List Value)),uss.length=m.length->(∀i,i<m.length->E.rep (fun k=>S k/\v.ownBlock≠some k) w (uss.getD i []) (m.getD i E.dfl))->w'.ownsRow base e E.sz v' (l.length+m.length) (vss.flatten++uss.flatten)->w.grownBy w' v.ownBlock->(v'.ownBlock=v.ownBlock\/v'.ownBlock=some w.heap.size)->Gw E e base S w' v' (l++m):=by
  intro v' w' uss hul hu k1 k2 k4
  have hst:∀vs y,E.rep (fun k=>S k/\v.ownBlock≠some k) w vs y->E.rep (fun k=>S k/\v'.ownBlock≠some k) w' vs y:=fun vs y hy=>E.stay hy k2.size (fun k hk hlt=>⟨⟨hk.1,by
   rcases k4 with k4|k4
   . rw[k4];exact hk.2
   . rw[k4];intro e';cases e';exact absurd hlt (Nat.lt_irrefl _)⟩,k2.block k hlt (fun e'=>hk.2 e'.symm)⟩)
  refine⟨vss++uss,by rw[List.length_append,List.length_append,hl,hul],by rw[List.length_append,List.flatten_append];exact k1,fun i hi=>?_⟩
  by_cases him:i<l.length
  . have e1:(l++m).getD i E.dfl=l.getD i E.dfl:=by simp[List.getD,List.getElem?_append_left him]
    have e2:(vss++uss).getD i []=vss.getD i []:=by simp[List.getD,List.getElem?_append_left (show i<vss.length by omega)]
    rw[e1,e2]
    exact hst _ _ (h4 i him)
  . have him':i-l.length<m.length:=by simp at hi;omega
    have e1:(l++m).getD i E.dfl=m.getD (i-l.length) E.dfl:=by simp[List.getD,List.getElem?_append_right (show l.length<=i by omega)]
    have e2:(vss++uss).getD i []=uss.getD (i-l.length) []:=by simp[List.getD,List.getElem?_append_right (show vss.length<=i by omega),hl]
    rw[e1,e2]
    exact hst _ _ (hu _ him')
 cases pa with
 | none =>
  obtain rfl:=hp.2.2.1 rfl
  have hm:m=[]:=List.length_eq_zero_iff.1 (Nat.le_zero.1 hp.1)
  subst hm
  refine wpList_append_own_none hgd s x t ho base e i0 E.sz ht hi v l.length vss.flatten hs h3 hx (h v w (by rw[List.append_nil];exact⟨vss,hl,h3,h4⟩) (World.grownBy.refl w _) (.inl rfl))
 | some ad =>
  obtain⟨uss,hul,hu⟩:∃uss:List (List Value),uss.length=m.length/\∀i,i<m.length->E.rep (fun k=>S k/\v.ownBlock≠some k) w (uss.getD i []) (m.getD i E.dfl)/\∀j,j<E.sz->w.cell? (ad.add (i*E.sz+j))=(uss.getD i [])[j]?:=by
   have key:∀k,k<=m.length->∃uss:List (List Value),uss.length=k/\∀i,i<k->E.rep (fun k=>S k/\v.ownBlock≠some k) w (uss.getD i []) (m.getD i E.dfl)/\∀j,j<E.sz->w.cell? (ad.add (i*E.sz+j))=(uss.getD i [])[j]?:=by
    intro k
    induction k with
    | zero=>exact fun _=>⟨[],rfl,fun i hi=>by omega⟩
    | succ k ih =>
     intro hk
     obtain⟨uss,h1,h2⟩:=ih (by omega)
     obtain⟨b,off,vs,e1,hb,hr,hc⟩:=hp.2.2.2 k (by omega)
     cases e1
     refine⟨uss++[vs],by simp[h1],fun i hi=>?_⟩
     by_cases hik:i<k
     . have e2:(uss++[vs]).getD i []=uss.getD i []:=by simp[List.getD,List.getElem?_append_left (show i<uss.length by omega)]
       rw[e2]
       exact h2 i hik
     . obtain rfl:i=k:=by omega
       have e2:(uss++[vs]).getD i []=vs:=by simp[List.getD,<-h1]
       rw[e2]
       refine⟨hr,fun j hj=>?_⟩
       have zdx:(⟨b,off,none⟩:Addr).add (i*E.sz+j)=⟨b,off+(i*E.sz+j),none⟩:=by unfold Addr.add;split <;> simp_all
       rw[zdx,<-Nat.add_assoc]
       exact hc j hj
   exact key m.length (Nat.le_refl _)
  have hul5:∀i,i<uss.length->(uss.getD i []).length=E.sz:=fun i hi=>E.len (hu i (by omega)).1
  refine wpList_append_own_at w hgd s x t ho base e i0 z E.sz by' ht hi hz0 hz1 hz2 hzs hsz v l.length vss.flatten hs h3 ad m.length pc uss.flatten hx (by rw[zi6 hul5,hul]) ?_ ?_ (by unfold maxLen;omega) (by
      have:=Nat.mul_le_mul hlen hby
      omega) hbase (fun v' w' k1 k2 _ k4=>h v' w' (grown v' w' uss hul (fun i hi=>(hu i hi).1) k1 k2 k4) k2 k4)
  . intro j u hj
    have hjl:j<m.length*E.sz:=by
     rcases Nat.lt_or_ge j (m.length*E.sz)with h1|h1
     . exact h1
     . rw[List.getElem?_eq_none (by rw[zi6 hul5,hul];exact h1)]at hj;cases hj
    have hjd:j/E.sz<m.length:=(Nat.div_lt_iff_lt_mul hsz).2 hjl
    have e1:j/E.sz*E.sz+j%E.sz=j:=by rw[Nat.mul_comm];exact Nat.div_add_mod j E.sz
    have h1:=(hu (j/E.sz) hjd).2 (j%E.sz) (Nat.mod_lt _ hsz)
    have h2:=zhq hul5 (i:=j/E.sz) (j:=j%E.sz) (by omega) (Nat.mod_lt _ hsz)
    rw[e1]at h1 h2;rw[h1,<-h2,hj]
  . intro u hu1
    obtain⟨vs,hvs,hu2⟩:=List.mem_flatten.1 hu1
    obtain⟨i,hi,e1⟩:=List.getElem_of_mem hvs
    have:=E.one (hu i (by omega)).1 u
    rw[List.getD_eq_getElem?_getD,List.getElem?_eq_getElem hi,Option.getD_some,e1]at this
    exact this hu2
theorem Gr.one{α:Type}{E:El α}{S:Nat->Prop}{w:World}{g:Nat}{x:α}{vs:List Value}(hr:E.rep S w vs x)(hg:g<w.heap.size)(hc:∀j,j<E.sz->w.cell? ⟨g,j,none⟩=vs[j]?):Gr E S w (some ⟨g,0,none⟩) 1 [x]:=by
 refine⟨Nat.le_refl _,by unfold maxLen;omega,(fun e=>by cases e),fun i hi=>?_⟩
 obtain rfl:i=0:=by simpa using hi
 exact⟨g,0,vs,rfl,hg,hr,fun j hj=>by simpa using hc j hj⟩
theorem Gr.bl{S:Nat->Prop}{w wr:World}{a:Option Addr}{cap:Nat}{ms:List Bool}(h:Gr El.bool S w a cap ms)(hb:Below w.heap.size w wr)(k:Nat)(hk:k<ms.length) :
 ∃b off,a=some ⟨b,off,none⟩/\b<w.heap.size/\wr.cell? ⟨b,off+k,none⟩=some (.bool (ms.getD k false)):=by
 obtain⟨b,off,vs,e,hl,hr,hc⟩:=h.at hb k hk
 have hv:vs=[.bool (ms.getD k false)]:=hr
 have:=hc 0 Nat.one_pos
 rw[hv,show k*El.bool.sz=k from Nat.mul_one k]at this
 exact⟨b,off,e,hl,this⟩
def Ri(w:World)(a:Option Addr)(cap:Nat)(zs:List Int):Prop :=
 (∀z∈zs,I64 z)/\zs.length<=cap/\cap<=maxLen /\
 (zs=[]\/∃b off,a=some ⟨b,off,none⟩/\b<w.heap.size/\∀i,i<zs.length->w.cell? ⟨b,off+i,none⟩=some (.int .i64 (zs.getD i 0)))
theorem Ri.at{w wr:World}{a:Option Addr}{cap:Nat}{zs:List Int}(h:Ri w a cap zs)(hb:Below w.heap.size w wr)(k:Nat)(hk:k<zs.length) :
 ∃b off,a=some ⟨b,off,none⟩/\b<w.heap.size/\wr.cell? ⟨b,off+k,none⟩=some (.int .i64 (zs.getD k 0)):=by
 rcases h.2.2.2 with rfl|⟨b,off,h1,h2,h3⟩
 . simp at hk
 . exact⟨b,off,h1,h2,(hb.cell (p:=⟨b,off+k,none⟩) h2).trans (h3 k hk)⟩
theorem Ri.below{w w':World}{a:Option Addr}{cap:Nat}{zs:List Int}(h:Ri w a cap zs)(hb:Below w.heap.size w w'):Ri w' a cap zs:=by
 obtain⟨h1,h2,h3,h4⟩:=h
 refine⟨h1,h2,h3,?_⟩
 rcases h4 with h4|⟨b,off,e,h5,h6⟩
 . exact .inl h4
 . exact .inr ⟨b,off,e,Nat.lt_of_lt_of_le h5 hb.size,fun i hi=>(hb.cell (p:=⟨b,off+i,none⟩) h5).trans (h6 i hi)⟩
theorem Ri.nil(w:World)(a:Option Addr)(cap:Nat)(h:cap<=maxLen):Ri w a cap []:=⟨(fun z hz=>by cases hz),Nat.zero_le _,h,.inl rfl⟩
theorem Ri.i64{w:World}{a:Option Addr}{cap:Nat}{zs:List Int}(h:Ri w a cap zs){k:Nat}(hk:k<zs.length):I64 (zs.getD k 0):=by
 refine h.1 _ ?_
 rw[List.getD_eq_getElem?_getD,List.getElem?_eq_getElem hk]
 exact List.getElem_mem hk
theorem zfq:(Tryz.prog.info? 3).map (fun i=>(i.zero,i.size,i.bytes))=some (some (.int .i64 0),1,8):=by kernel_rfl
def Io(base:Nat)(w:World)(v:Value)(zs:List Int):Prop:=(∀z∈zs,I64 z)/\w.ownsRow base 3 1 v zs.length (zs.map (Value.int .i64))
theorem Io.nil(base:Nat)(w:World):Io base w (.slice none 0 0) []:=⟨(fun t ht=>by cases ht),World.ownsRow_nil w base _ 1⟩
theorem Io.slice{base:Nat}{w:World}{v:Value}{zs:List Int}(h:Io base w v zs):∃a cap,v=.slice a zs.length cap/\Ri w a cap zs:=by
 obtain⟨h1,h3⟩:=h
 rcases h3.2 with ⟨rfl,h0⟩|⟨g,cap,cur,rfl,hb,hg,hc1,hc2,hc3,ht⟩
 . have:zs=[]:=List.length_eq_zero_iff.1 h0
   subst this
   exact⟨none,0,rfl,Ri.nil _ _ _ (Nat.zero_le _)⟩
 . refine⟨_,cap,rfl,h1,hc1,hc2,.inr ⟨g,0,rfl,(Array.getElem?_eq_some_iff.1 hg).1,fun i hi=>?_⟩⟩
   have:=h3.cells (g:=g) rfl i (.int .i64 (zs.getD i 0)) (by simp[List.getD,hi])
   have zdx:(⟨g,0,none⟩:Addr).add i=⟨g,0+i,none⟩:=by unfold Addr.add;split <;> simp_all
   rw[zdx]at this
   exact this
theorem Io.below{base:Nat}{w w':World}{v:Value}{zs:List Int}(h:Io base w v zs)(hb:Below w.heap.size w w'):Io base w' v zs:=by
 obtain⟨h1,h3⟩:=h
 refine⟨h1,h3.1,?_⟩
 rcases h3.2 with h0|⟨g,cap',cur,k1,k2,k3,k4⟩
 . exact .inl h0
 . exact .inr ⟨g,cap',cur,k1,k2,(hb.block g (Array.getElem?_eq_some_iff.1 k3).1).trans k3,k4⟩
theorem Io.lo{base:Nat}{w:World}{v:Value}{zs:List Int}(h:Io base w v zs){g:Nat}(hg:v.ownBlock=some g):base<=g:=(World.ownsRow.lt h.2 g hg).1
theorem zbc{w:World}{ops:Array Oper}{rest:List Oper}{o:Oper}{a:Act}{Q:Exit->Act->World->Prop}
    (hgd:o.guard=none) (s x:Operand) (ho:o.op=.call { callee:=.builtin .append,args:=#[s,x],argTypes:=#[37,37] })
    (base:Nat) (v:Value) (zs:List Int) (hs:a.eval s=v) (hown:Io base w v zs) (g:Nat) (z:Int) (hx:a.eval x=.slice (some ⟨g,0,none⟩) 1 1)
    (c0:w.cell? ⟨g,0,none⟩=some (.int .i64 z)) (hz:I64 z) (hlen:zs.length+1<=1000000) (hbase:base<=w.heap.size)
    (h:∀v' w',Io base w' v' (zs++[z])->w.grownBy w' v.ownBlock->wpList Tryz.prog ops Q rest (a.put o.dst v') w'):wpList Tryz.prog ops Q (o::rest) a w:=by
 obtain⟨i0,hi,hz0,hz1,hz2⟩:=info_parts zfq
 refine wpList_append_own_at w hgd s x 37 ho base 3 i0 (.int .i64 0) 1 8 Tryz.underlying37 hi hz0 hz1 hz2 rfl (by decide) v zs.length (zs.map (Value.int .i64)) hs hown.2 ⟨g,0,none⟩ 1 1 [.int .i64 z] hx rfl ?_ ?_ (by unfold maxLen;omega) (by omega) hbase ?_
 . intro j u hj
   match j,hj with
   | 0,hj=>simp at hj;subst hj;simpa [Addr.add] using c0
 . intro u hu
   simp at hu
   subst hu
   rfl
 . intro v' w' k1 k2 _ _
   refine h v' w' ⟨fun s hs=>?_,?_⟩ k2
   . rcases List.mem_append.1 hs with hs|hs
     . exact hown.1 s hs
     . rw[List.mem_singleton.1 hs];exact hz
   . rw[List.map_append,List.length_append]
     exact k1
theorem Ri.lenB{w:World}{a:Option Addr}{cap:Nat}{zs:List Int}(h:Ri w a cap zs):zs.length<=9223372036854775807:=by
 have h1:=h.2.1
 have h2:=h.2.2.1
 unfold maxLen at h2
 omega
theorem Io.own{base:Nat}{w:World}{v:Value}{zs:List Int}(h:Io base w v zs)(hne:zs≠[]) :
 ∃g cap,v=.slice (some ⟨g,0,none⟩) zs.length cap/\base<=g/\g<w.heap.size/\zs.length<=cap/\(∀k,k<zs.length->w.cell? ⟨g,k,none⟩=some (.int .i64 (zs.getD k 0)))/\(∀k,w.frozen? ⟨g,k,none⟩=false) /\
     ∀k z,k<zs.length->I64 z->Io base (w.setCell ⟨g,k,none⟩ (.int .i64 z)) v (zs.set k z):=by
 obtain⟨h1,h3⟩:=h
 rcases h3.2 with ⟨rfl,h0⟩|⟨g,cap,cur,rfl,hb,hg,hc1,hc2,hc3,ht⟩
 . exact absurd (List.length_eq_zero_iff.1 h0) hne
 . refine⟨g,cap,rfl,hb,(Array.getElem?_eq_some_iff.1 hg).1,hc1,fun k hk=>?_,fun k=>frozen_of_row w g k _ _ hg,fun k z hk hz=>⟨fun s hs=>?_,?_⟩⟩
   . have:=h3.cells (g:=g) rfl k (.int .i64 (zs.getD k 0)) (by simp[List.getD,hk])
     have zdx:(⟨g,0,none⟩:Addr).add k=⟨g,0+k,none⟩:=by unfold Addr.add;split <;> simp_all
     rw[zdx,Nat.zero_add]at this
     exact this
   . rcases List.mem_or_eq_of_mem_set hs with hs|hs
     . exact h1 s hs
     . rw[hs];exact hz
   . have zf2:=heap_setCell_same w g k cur 3 (.int .i64 z) hg
     refine⟨by simp,.inr ⟨g,cap,_,by rw[List.length_set],hb,zf2,by simpa using hc1,hc2,?_,?_⟩⟩
     . simpa using hc3
     . simp only[List.length_set,Nat.mul_one]at ht ⊢
       rw[List.map_set,<-ht]
       simp[List.take_set]
theorem zbl{z:Int}(h1:-9223372036854775808<=z)(h2:z<=9223372036854775807):IntKind.i64.wrap z=z:=by
 simp only[IntKind.wrap,IntKind.bits,IntKind.signed]
 simp
 omega
theorem zcy(S:Nat->Prop)(a:Option Addr)(ca:Nat)(ms:List Bool)(g:Int)(w:World)(hm:Gr El.bool S w a ca ms)(hg:I64 g) :
 Calls Tryz.prog 122 #[.slice a ms.length ca,.int .i64 g] w fun e w'=>e=.returned (.bool (mkB ms g))/\Below w.heap.size w w':=by
 have kl:=hm.lenB
 obtain⟨h1,h2⟩:=hg
 by_cases f1:0<=g
 rotate_left
 . have d1:decide (0<=g)=false:=decide_eq_false f1
   have HF:Hid (mkB ms g=false):=zlq (fun h=>f1 h.1)
   clear f1 hm
   go_enter Tryz.func122,Tryz.ntmps122
   go_wp2
   go_ret
   exact⟨zaa HF.out.symm,Below.refl _ _⟩
 by_cases f2:g<(ms.length:Int)
 rotate_left
 . have d1:decide (0<=g)=true:=decide_eq_true f1
   have d2:decide (g<(ms.length:Int))=false:=decide_eq_false f2
   have HF:Hid (mkB ms g=false):=zlq (fun h=>f2 h.2)
   clear f1 f2 hm
   go_enter Tryz.func122,Tryz.ntmps122
   go_wp2
   go_ret
   exact⟨zaa HF.out.symm,Below.refl _ _⟩
 have HF:Hid (mkB ms g=ms.getD g.toNat false):=zue f1 f2
 obtain⟨k,rfl⟩:∃k:Nat,g=(k:Int):=⟨g.toNat,by omega⟩
 rw[Int.toNat_natCast]at HF
 have hk:k<ms.length:=by omega
 obtain⟨b,off,rfl,hb,c0⟩:=hm.bl (Below.refl _ _) k hk
 obtain⟨q,hq⟩:∃q,ms.getD k false=q:=⟨_,rfl⟩
 rw[hq]at c0 HF
 have d1:decide ((0:Int)<=(k:Int))=true:=decide_eq_true f1
 have d2:decide ((k:Int)<(ms.length:Int))=true:=decide_eq_true f2
 have d2n:decide (k<ms.length)=true:=decide_eq_true hk
 clear hq hm
 go_enter Tryz.func122,Tryz.ntmps122
 go_wp2
 go_ret
 exact⟨zaa HF.out.symm,Below.refl _ _⟩
theorem zcs(S:Nat->Prop)(a:Option Addr)(ca:Nat)(ms:List Bool)(g:Int)(w:World)(hm:Gr El.bool S w a ca ms)(hg:I64 g) :
 Calls Tryz.prog 101 #[.slice a ms.length ca,.int .i64 g] w fun e w'=>e=.returned (.bool (mkB ms g))/\Below w.heap.size w w':=by
 have kl:=hm.lenB
 obtain⟨h1,h2⟩:=hg
 by_cases f1:g<0
 . have d1:decide (g<0)=true:=decide_eq_true f1
   have HF:Hid (mkB ms g=false):=zlq (fun h=>by omega)
   clear f1 hm
   go_enter Tryz.func101,Tryz.ntmps101
   go_wp2
   go_ret
   exact⟨zaa HF.out.symm,Below.refl _ _⟩
 by_cases f2:(ms.length:Int)<=g
 . have d1:decide (g<0)=false:=decide_eq_false f1
   have d2:decide ((ms.length:Int)<=g)=true:=decide_eq_true f2
   have HF:Hid (mkB ms g=false):=zlq (fun h=>by omega)
   clear f1 f2 hm
   go_enter Tryz.func101,Tryz.ntmps101
   go_wp2
   go_ret
   exact⟨zaa HF.out.symm,Below.refl _ _⟩
 have HF:Hid (mkB ms g=ms.getD g.toNat false):=zue (by omega) (by omega)
 obtain⟨k,rfl⟩:∃k:Nat,g=(k:Int):=⟨g.toNat,by omega⟩
 rw[Int.toNat_natCast]at HF
 have hk:k<ms.length:=by omega
 obtain⟨b,off,rfl,hb,c0⟩:=hm.bl (Below.refl _ _) k hk
 obtain⟨q,hq⟩:∃q,ms.getD k false=q:=⟨_,rfl⟩
 rw[hq]at c0 HF
 have d1:decide ((k:Int)<0)=false:=decide_eq_false f1
 have d2:decide ((ms.length:Int)<=(k:Int))=false:=decide_eq_false f2
 have d2n:decide (ms.length<=k)=false:=decide_eq_false (by omega)
 have i1:(0:Int)<=(k:Int):=by omega
 have i2:(k:Int)<(ms.length:Int):=by omega
 clear hq hm f1 f2
 go_enter Tryz.func101,Tryz.ntmps101
 go_wp2
 go_ret
 exact⟨zaa HF.out.symm,Below.refl _ _⟩
theorem zc5(a:Option Addr)(ca:Nat)(L:List Int)(i:Int)(w:World)(kl:L.length<=9223372036854775807) :
 Calls Tryz.prog 164 #[.slice a L.length ca,.int .i64 i] w fun e w'=>e=.returned (.bool (plB L i))/\w=w':=by
 by_cases f1:0<=i
 rotate_left
 . have d1:decide (0<=i)=false:=decide_eq_false f1
   have HF:Hid (plB L i=false):=zt7 (fun h=>f1 h.1)
   clear f1
   go_enter Tryz.func164,Tryz.ntmps164
   go_wp2
   go_ret
   exact⟨zaa HF.out.symm,rfl⟩
 have d1:decide (0<=i)=true:=decide_eq_true f1
 have HF:Hid (plB L i=decide (i<(L.length:Int))):=by show _=_;unfold plB;rw[d1];rfl
 go_enter Tryz.func164,Tryz.ntmps164
 go_wp2
 go_ret
 exact⟨zaa HF.out.symm,rfl⟩
theorem zcz(a:Option Addr)(ca:Nat)(L:List Int)(i:Int)(w:World)(kl:L.length<=9223372036854775807) :
 Calls Tryz.prog 168 #[.slice a L.length ca,.int .i64 i] w fun e w'=>e=.returned (.bool (plB L i))/\w=w':=by
 by_cases f1:0<=i
 rotate_left
 . have d1:decide (0<=i)=false:=decide_eq_false f1
   have HF:Hid (plB L i=false):=zt7 (fun h=>f1 h.1)
   clear f1
   go_enter Tryz.func168,Tryz.ntmps168
   go_wp2
   go_ret
   exact⟨zaa HF.out.symm,rfl⟩
 have d1:decide (0<=i)=true:=decide_eq_true f1
 have HF:Hid (plB L i=decide (i<(L.length:Int))):=by show _=_;unfold plB;rw[d1];rfl
 go_enter Tryz.func168,Tryz.ntmps168
 go_wp2
 go_ret
 exact⟨zaa HF.out.symm,rfl⟩
open Go.Shelf
attribute [local go_sem] Oper.semAt_some
abbrev Ix19 (n:Nat):={ j:Nat // j<n }
def dnL(n r:Nat):List Nat:=(List.range r).map (fun j=>n-1-j)
theorem zhr(n r:Nat):dnL n (r+1)=dnL n r++[n-1-r]:=by simp[dnL,List.range_succ]
theorem zq5(n r:Nat):(dnL n r).length=r:=by simp[dnL]
theorem zq4{n r i:Nat}:i∈dnL n r ↔ ∃j,j<r/\n-1-j=i:=by simp[dnL]
def za1{n:Nat}(xs:List (Ix19 n)):List Nat:=xs.map (fun x=>x.1)
theorem zd6{n:Nat}(xs:List (Ix19 n))(x:Ix19 n):za1 (xs++[x])=za1 xs++[x.1]:=by simp[za1]
theorem ztp(F:Fence)(n:Nat)(hf:F.fn 200)(hro:F.round=none)(hn:1<=n)(l Bs n₀ b off len cap:Nat)(f:Nat->Int)(zi0:len<=9223372036854775807)(hb:b<n₀)(hBn:Bs<n₀)(J Jx:List (Ix19 len)->World->Prop)
    (hY:∀(pre:List (Ix19 len)) (x:Ix19 len) W,J pre W->pre.length<len->YieldAt F (n-1) Tryz.prog l #[.int .i64 (x.1:Int),.int .i64 (f x.1)] W fun e W' =>
     (e=.returned (.bool true)/\J (pre++[x]) W'/\Below n₀ W W')\/(e=.returned (.bool false)/\Jx (pre++[x]) W'))
    (W:World) (hBs:W.cell? ⟨Bs,0,none⟩=some (.slice (some ⟨b,off,none⟩) len cap)) (hc:∀j,j<len->W.cell? ⟨b,off+j,none⟩=some (.int .i64 (f j))) (h0:J [] W) :
    CallsIn F n Tryz.prog 200 #[.func (.yield l) #[] #[],.pointer (some ⟨Bs,0,none⟩)] W fun e W'=>(∃v,e=.returned v) /\
     ((∃ys:List (Ix19 len),za1 ys=dnL len len/\J ys W')\/(∃pre:List (Ix19 len),(∃k,k<=len/\za1 pre=dnL len k)/\Jx pre W')):=by
 refine callsIn_of_wp Tryz.func200 rfl hf ?_ hro
 simp only[Tryz.ntmps200,List.size_toArray,List.length_cons,List.length_nil,Nat.reduceAdd,Nat.reduceSub,Array.replicate_succ,Array.replicate_zero,List.push_toArray,List.append_toArray,List.nil_append,List.cons_append]
 gi_wp2
 gi_loopw [3] (fun i wr=>∃(r:Nat) (z:Int) (pre:List (Ix19 len)),r<=len/\Hid (z=(len:Int)-1-(r:Int))/\i=.int .i64 z/\Hid (za1 pre=dnL len r)/\J pre wr/\Below n₀ W wr)
  (fun i _=>(intOf i+1).toNat)
 case atStart=>exact⟨0,(len:Int)-1,[],Nat.zero_le _,(by show _=_;omega),rfl,rfl,h0,Below.refl _ _⟩
 case round =>
  obtain⟨r,z,pre,hr,HZ,rfl,HP,hJs,hnx⟩:=hrel
  have cB:=(hnx.cell (p:=⟨Bs,0,none⟩) hBn).trans hBs
  by_cases hlt:r<len
  . obtain⟨j,hj⟩:∃j:Nat,len-1-r=j:=⟨_,rfl⟩
    obtain rfl:z=(j:Int):=by have:=HZ.out;omega
    have hjl:j<len:=by omega
    have c0:=(hnx.cell (p:=⟨b,off+j,none⟩) hb).trans (hc j hjl)
    have HPL:Hid (pre.length<len):=by
     have h1:(za1 pre).length=r:=by rw[HP.out,zq5]
     show _<_
     rw[<-h1]at hlt
     simpa [za1] using hlt
    have HP2:Hid (za1 (pre++[⟨j,hjl⟩])=dnL len (r+1)):=by show _=_;rw[zd6,HP.out,zhr,hj]
    have HZ2:Hid ((j:Int)-1=(len:Int)-1-((r+1:Nat):Int)):=by show _=_;have:=HZ.out;omega
    have i1:(0:Int)<=(j:Int):=by omega
    have i2:(j:Int)<(len:Int):=by omega
    have hYY:=hY pre ⟨j,hjl⟩ wr hJs HPL.out
    dsimp only at hYY;obtain⟨fn,tmps,assign,body,hy,hR⟩:=hYY;clear hj HZ HP HPL hY
    gi_wp2
    refine hR.mono ?_
    rintro e W3 (⟨rfl,hJ3,hk3⟩|⟨rfl,hJx3⟩)
    . gi_wp2
      go_roundw
      case rel=>exact⟨r+1,_,_,by omega,HZ2,rfl,HP2,hJ3,hnx.trans hk3⟩
      case measure=>simp[intOf]
    . gi_wp2
      refine bodyPost_ret (results_none rfl _ _ _) rfl ?_
      exact⟨⟨_,rfl⟩,.inr ⟨_,⟨r+1,by omega,HP2.out⟩,hJx3⟩⟩
  . obtain rfl:r=len:=by omega
    obtain rfl:z=-1:=by have:=HZ.out;omega
    clear HZ hY
    gi_wp2
    go_end0
    exact⟨⟨_,rfl⟩,.inl ⟨_,HP.out,hJs⟩⟩
theorem zw4(F:Fence)(n:Nat)(hf:F.fn 166)(hro:F.round=none)(a:Option Addr)(len cap:Nat)(w:World) :
 CallsIn F n Tryz.prog 166 #[.slice a len cap] w fun e w'=>e=.returned (.func (.func 200) #[] #[.pointer (some ⟨w.heap.size,0,none⟩)])/\w'=w.alloc (.cells #[.slice a len cap] 37):=by
 refine callsIn_of_wp Tryz.func166 rfl hf ?_ hro
 simp only[Tryz.ntmps166,List.size_toArray,List.length_cons,List.length_nil,Nat.reduceAdd,Nat.reduceSub,Array.replicate_succ,Array.replicate_zero,List.push_toArray,List.append_toArray,List.nil_append,List.cons_append]
 gi_wp2
 go_ret
 exact⟨rfl,rfl⟩
theorem znx(F:Fence)(n:Nat)(hf:F.fn 200)(hro:F.round=none)(hn:1<=n)(Bs n₀ b off len cap:Nat)(f:Nat->Int)(zi0:len<=9223372036854775807)(w:World)(hBs:Bs<w.heap.size)(hBn:Bs<n₀)(hb:b<n₀)(hn₀:n₀<=w.heap.size)
    (hc:w.cell? ⟨Bs,0,none⟩=some (.slice (some ⟨b,off,none⟩) len cap)) (hI:∀j,j<len->w.cell? ⟨b,off+j,none⟩=some (.int .i64 (f j))) :
    SeqStopsK F n Tryz.prog 200 #[.pointer (some ⟨Bs,0,none⟩)] (fun x:Ix19 len=>#[Value.int .i64 (x.1:Int),Value.int .i64 (f x.1)]) (Below n₀) (fun ys=>za1 ys=dnL len len)
     (fun pre=>∃k,k<=len/\za1 pre=dnL len k) len w:=fun l J Jx W hW _ _ hY h0 =>
 ztp F n hf hro hn l Bs n₀ b off len cap f zi0 hb hBn J Jx hY W ((hW.cell (p:=⟨Bs,0,none⟩) hBs).trans hc) (fun j hj=>(hW.cell (p:=⟨b,off+j,none⟩) (Nat.lt_of_lt_of_le hb hn₀)).trans (hI j hj)) h0
attribute [local go_sem] Oper.semAt_some
theorem zzl{ms:List Bool}{L:List Int}:∀k,(∀j,j<k->mkB ms (L.getD j 0)=true)->bkF ms L k=-1:=by
 intro k
 induction k with
 | zero=>intro _;rfl
 | succ k ih =>
  intro h
  rw[zmc (h k (by omega))]
  exact ih (fun j hj=>h j (by omega))
theorem zw3{ms:List Bool}{L:List Int}{f:Nat->Int}(hf:∀j,f j=L.getD j 0){k:Nat}{ys:List (Ix19 k)}(h:za1 ys=dnL k k)(hp:∀x∈ys,mkB ms (f x.1)=true):bkF ms L k=-1:=by
 refine zzl k (fun j hj=>?_)
 have hm:j∈za1 ys:=by rw[h];exact zq4.2 ⟨k-1-j,by omega,by omega⟩
 obtain⟨x,hx,e⟩:=List.mem_map.1 hm
 have:=hp x hx
 rw[hf,e]at this
 exact this
theorem zw1{ms:List Bool}{L:List Int}{f:Nat->Int}(hf:∀j,f j=L.getD j 0){k r:Nat}{ini:List (Ix19 k)}{x:Ix19 k}(hr:r<=k)(h:za1 (ini++[x])=dnL k r)(hp:∀y∈ini,mkB ms (f y.1)=true)(hx:mkB ms (f x.1)=false):bkF ms L k=(x.1:Int):=by
 obtain⟨r',rfl⟩:∃r',r=r'+1:=by
  cases r with
  | zero=>simp[za1,dnL]at h
  | succ r'=>exact⟨r',rfl⟩
 rw[zd6,zhr]at h
 obtain⟨h1,h2⟩:=List.append_inj' h rfl
 have h3:x.1=k-1-r':=by simpa using h2
 rw[hf]at hx
 refine zw2 k x.2 hx (fun i hi1 hi2=>?_)
 have hm:i∈za1 ini:=by rw[h1];exact zq4.2 ⟨k-1-i,by omega,by omega⟩
 obtain⟨y,hy,e⟩:=List.mem_map.1 hm
 have:=hp y hy
 rw[hf,e]at this
 exact this
theorem zfp{W U:World}(h:Below W.heap.size W U):KeepsOthers W U:=⟨h.size,fun k o hk _=>(h.block k (Array.getElem?_eq_some_iff.1 hk).1).trans hk⟩
theorem zco{W U:World}{B:Nat}{t:TypeId}{v:Value}(h:Boxed W B t v)(hb:Below W.heap.size W U):Boxed U B t v:=(hb.block B h.lt).trans h
theorem zrc(S:Nat->Prop)(a:Option Addr)(ca:Nat)(L:List Int)(b:Option Addr)(cb:Nat)(ms:List Bool)(i:Int)(w:World)(hL:Ri w a ca L)(hm:Gr El.bool S w b cb ms)(hi:I64 i) :
 Calls Tryz.prog 170 #[.slice a L.length ca,.slice b ms.length cb,.int .i64 i] w fun e w'=>e=.returned (.int .i64 (bkQ ms L i))/\Below w.heap.size w w':=by
 have kl:=hL.lenB
 obtain⟨hi1,hi2⟩:=hi
 have hpl:=fun W=>zc5 a ca L i W kl
 cases hp:plB L i with
 | false =>
  rw[hp]at hpl
  have HF:Hid (bkQ ms L i=-1):=zuz hp
  clear hp hL hm
  refine(callsIn_wide (n:=6)).1 ?_
  refine callsIn_of_wp_marks Tryz.func170 rfl trivial ?_ rfl
  simp only[Tryz.ntmps170,List.size_toArray,List.length_cons,List.length_nil,Nat.reduceAdd,Nat.reduceSub,Array.replicate_succ,Array.replicate_zero,List.push_toArray,List.append_toArray,List.nil_append,List.cons_append]
  gi_wp2_with (refine⟨trivial,?_⟩;gi_at_call 164;refine(callsIn_wide.2 (hpl _)).mono ?_;rintro e w' ⟨rfl,rfl⟩)
  have c0:((w.alloc (.cells #[.slice b ms.length cb] 77)).alloc (.cells #[.int .i64 (-1)] 3)).cell? ⟨w.heap.size+1,0,none⟩=some (.int .i64 (-1)):=by
   have h:=(Boxed.new (w.alloc (.cells #[.slice b ms.length cb] 77)) 3 (.int .i64 (-1))).cell
   rw[World.size_alloc]at h
   exact h
  refine⟨.int .i64 (-1),?_,zbf HF.out.symm,(bl1 _).trans ((bl1 _).mono (bl1 _).size)⟩
  simp[results,Tryz.f170,go_sem,c0]
 | true =>
 rw[hp]at hpl
 obtain⟨p1,p2⟩:=zal.1 hp
 obtain⟨k,rfl⟩:∃k:Nat,i=(k:Int):=⟨i.toNat,by omega⟩
 have hk:k<L.length:=by omega
 have HX:Hid (bkQ ms L (k:Int)=bkF ms L k):=zkr hk
 obtain⟨b0,off,rfl,hb0,_⟩:=hL.at (Below.refl _ _) k hk
 obtain⟨f,hf⟩:∃f:Nat->Int,∀j,f j=L.getD j 0:=⟨_,fun _=>rfl⟩
 have zus:=hL.2.1
 have zkc:=hL.2.2.1
 unfold maxLen at zkc
 have HLF:Hid (∀W,Below w.heap.size w W->∀j,j<k->W.cell? ⟨b0,off+j,none⟩=some (.int .i64 (f j))):=fun W hW j hj=>by
  obtain⟨b1,o1,e1,_,c1⟩:=hL.at hW j (by omega)
  cases e1
  rw[hf]
  exact c1
 have HFI:Hid (∀j,j<k->I64 (f j)):=fun j hj=>by rw[hf];exact hL.i64 (by omega)
 have HFF:Hid (∀j,f j=L.getD j 0):=hf
 have HM:Hid (Gr El.bool S w b cb ms):=hm
 clear hp hL hm hf
 refine(callsIn_wide (n:=6)).1 ?_
 refine callsIn_of_wp_marks Tryz.func170 rfl trivial ?_ rfl
 simp only[Tryz.ntmps170,List.size_toArray,List.length_cons,List.length_nil,Nat.reduceAdd,Nat.reduceSub,Array.replicate_succ,Array.replicate_zero,List.push_toArray,List.append_toArray,List.nil_append,List.cons_append]
 gi_wp2_with first
  | (refine⟨trivial,?_⟩;gi_at_call 164;refine(callsIn_wide.2 (hpl _)).mono ?_;rintro e w' ⟨rfl,rfl⟩)
  | (refine⟨trivial,?_⟩;gi_at_call 166;refine(zw4 Fence.wide _ trivial rfl _ _ _ _).mono ?_;rintro e w' ⟨rfl,rfl⟩)
 have bM:=Boxed.new w 77 (.slice b ms.length cb)
 have bR:=Boxed.new (w.alloc (.cells #[.slice b ms.length cb] 77)) 3 (.int .i64 0)
 have bN:=Boxed.new ((w.alloc (.cells #[.slice b ms.length cb] 77)).alloc (.cells #[.int .i64 0] 3)) 37 (.slice (some ⟨b0,off,none⟩) k ca)
 have bM2:=(bM.alloc (.cells #[.int .i64 0] 3)).alloc (.cells #[.slice (some ⟨b0,off,none⟩) k ca] 37)
 have bR2:=bR.alloc (.cells #[.slice (some ⟨b0,off,none⟩) k ca] 37)
 simp only[World.size_alloc]at bR2 bN
 obtain⟨W0,hW0⟩:∃W0,W0=(((w.alloc (.cells #[.slice b ms.length cb] 77)).alloc (.cells #[.int .i64 0] 3)).alloc (.cells #[.slice (some ⟨b0,off,none⟩) k ca] 37)):=⟨_,rfl⟩
 have hs0:W0.heap.size=w.heap.size+3:=by rw[hW0];simp
 have hB0:Below w.heap.size w W0:=by rw[hW0];exact(((Below.refl _ w).alloc (Nat.le_refl _) _).alloc (by simp) _).alloc (by simp;omega) _
 rw[<-hW0]at bM2 bR2 bN;rw[<-hW0];clear hW0 bM bR hpl
 refine wpIn_rangeFunc_ownG (F:=Fence.wide) rfl (by omega) (gf:=200) (lb:=#[.pointer (some ⟨w.heap.size+1+1,0,none⟩)]) rfl trivial (enters_of Tryz.func200 (by kernel_rfl) rfl)
  (znx Fence.wide _ trivial rfl (by omega) (w.heap.size+1+1) (w.heap.size+3) b0 off k ca f (by omega) W0 (by omega) (by omega) (by omega) (by omega) bN.cell (HLF.out _ hB0)) belowK_t (belowK_b (by omega)) (Below.refl _ _) (fun _=>rfl)
  (fun pre W=>((∀x∈pre,mkB ms (f x.1)=true)/\(Boxed W w.heap.size 77 (.slice b ms.length cb)/\Boxed W (w.heap.size+1) 3 (.int .i64 0)/\w.heap.size+3<=W.heap.size))/\Below w.heap.size w W)
  (fun c pre W=>((c=.ret/\∃ini last,pre=ini++[last]/\(∀x∈ini,mkB ms (f x.1)=true)/\mkB ms (f last.1)=false/\Boxed W (w.heap.size+1) 3 (.int .i64 (last.1:Int)))/\Below w.heap.size w W))
  (OwnFrom.and (OwnFrom.and (ownFrom_pure _ _) (OwnFrom.and (Own.from (boxed_own _ _ _) _) (OwnFrom.and (Own.from (boxed_own _ _ _) _) (fun s A B row hs hg hr=>Nat.le_trans hs hg.size)))) (ownFrom_below (Nat.le_refl _) (by omega)))
  (fun c=>OwnFrom.and (Own.from (fun s A B row hs hg hr=>by obtain⟨hc,ini,last,e1,e2,e3,e4⟩:=hs;exact⟨hc,ini,last,e1,e2,e3,boxed_own _ _ (fun _:Unit=>_) () A B row e4 hg hr⟩) _) (ownFrom_below (Nat.le_refl _) (by omega)))
  ⟨⟨(fun x hx=>by cases hx),bM2,bR2,by omega⟩,hB0⟩
  (fun x=>{ tmps:=#[.slice (some ⟨b0,off,none⟩) L.length ca,.slice b ms.length cb,.int .i64 (k:Int),undef,.pointer (some ⟨w.heap.size,0,none⟩),undef,.pointer (some ⟨w.heap.size+1,0,none⟩),.int .i64 (x.1:Int),.int .i64 (f x.1),.slice (some ⟨b0,off,none⟩) L.length ca,.int .i64 (k:Int),.bool true,.bool false,.slice (some ⟨b0,off,none⟩) L.length ca,.int .i64 (k:Int),.slice (some ⟨b0,off,none⟩) k ca,.func (.func 200) #[] #[.pointer (some ⟨w.heap.size+1+1,0,none⟩)],.int .i64 (x.1:Int),.int .i64 (f x.1),undef,undef,undef,undef,undef],defers:=[] }) ?assign ?body ?done ?stop
 case assign =>
  intro l x W K hK
  gi_wp2
  exact hK
 case body =>
  rintro l pre x W ⟨⟨hp,bx,bR,hsz⟩,hB⟩ _
  have hd:1<=6-1-1:=by omega
  have hmk:=zcy S b cb ms (f x.1) W (HM.out.below hB) (HFI.out _ x.2)
  have cM:=bx.cell
  have cR:=bR.cell
  have cF:=bR.frozen
  obtain⟨q,hq⟩:∃q,mkB ms (f x.1)=q:=⟨_,rfl⟩
  have HQ:Hid (mkB ms (f x.1)=q):=hq
  have HBX:Hid (Boxed W w.heap.size 77 (.slice b ms.length cb)):=bx
  have HBR:Hid (Boxed W (w.heap.size+1) 3 (.int .i64 0)):=bR
  have HPP:Hid (∀x∈pre,mkB ms (f x.1)=true):=hp
  rw[hq]at hmk;clear hq bx bR hp
  gi_wp2_with (refine⟨trivial,?_⟩;gi_at_call 122;refine(CallsIn.inRound l (callsIn_wide.2 hmk)).mono ?_)
  rintro e u ⟨rfl,hbu⟩
  have hB2:=hB.trans (hbu.mono hB.size)
  have bxu:=zco HBX.out hbu
  have bRu:=zco HBR.out hbu
  have HKE:Hid (KeepsOthers W u):=zfp hbu
  have HKB:Hid (Below (w.heap.size+3) W u):=hbu.mono hsz
  have HSZ:Hid (w.heap.size+3<=u.heap.size):=Nat.le_trans hsz hbu.size
  have cR2:=bRu.cell
  have cF2:=bRu.frozen
  have HBX2:Hid (Boxed u w.heap.size 77 (.slice b ms.length cb)):=bxu
  have HBR2:Hid (Boxed u (w.heap.size+1) 3 (.int .i64 0)):=bRu
  clear hmk hbu bxu bRu HBX HBR cM cR cF hsz
  cases q with
  | true =>
   gi_wp2
   exact⟨HKE.out.from _,HKB.out,⟨⟨fun y hy=>by
    rcases List.mem_append.1 hy with hy|hy
    . exact HPP.out y hy
    . rw[List.mem_singleton.1 hy];exact HQ.out,HBX2.out,HBR2.out,HSZ.out⟩,hB2⟩⟩
  | false =>
   gi_wp2
   exact⟨(HKE.out.trans (KeepsOthers.setCell _ _ _)).from _,⟨⟨rfl,pre,x,rfl,HPP.out,HQ.out,HBR2.out.set _⟩,hB2.setCell (p:=⟨w.heap.size+1,0,none⟩) (by simp) _⟩⟩
 case done =>
  rintro D ys W hD hys ⟨⟨hp,bx,bR,hsz⟩,hB⟩ hK
  have HF:Hid (bkQ ms L (k:Int)=-1):=by show _=_;rw[HX.out];exact zw3 HFF.out hys hp
  have cR:=bR.cell
  have cF:=bR.frozen
  clear hp bx hsz
  gi_wp2
  have hK':=(KeepsOthers.setCell W ⟨w.heap.size+1,0,none⟩ (.int .i64 (-1))).same D _ hK rfl
  refine⟨by simp,.inl ⟨_,_,rfl,run_takeDeferred hK',?_⟩⟩
  have hc5:=cell_kept (bR.set (.int .i64 (-1))).cell (grownBy_putObj' _ D (.deferred none)) (fun r e=>by cases e;exact⟨_,hK',rfl⟩)
  refine⟨.int .i64 (-1),?_,zbf HF.out.symm,(hB.setCell (p:=⟨w.heap.size+1,0,none⟩) (by simp) _).trans (belowK_b (w:=w) (Nat.le_refl _) _ D _ _ (by omega) hK' rfl rfl)⟩
  simp[results,Tryz.f170,go_sem,hc5]
 case stop =>
  rintro D c pre W hD ⟨r,hr,hys⟩ ⟨⟨rfl,ini,last,rfl,hp,hl,bR⟩,hB⟩ hK
  have HF:Hid (bkQ ms L (k:Int)=(last.1:Int)):=by show _=_;rw[HX.out];exact zw1 HFF.out hr hys hp hl
  have cR:=bR.cell
  clear hp hl hys
  gi_wp2
  refine⟨by simp,.inl ⟨_,_,rfl,run_takeDeferred hK,?_⟩⟩
  have hc5:=cell_kept cR (grownBy_putObj' _ D (.deferred none)) (fun r e=>by cases e;exact⟨_,hK,rfl⟩)
  refine⟨.int .i64 (last.1:Int),?_,zbf HF.out.symm,hB.trans (belowK_b (w:=w) (Nat.le_refl _) W D _ _ (by omega) hK rfl rfl)⟩
  simp[results,Tryz.f170,go_sem,hc5]
