import Derived.Test.YtkmcodofnckdmaaGreatZK7
set_option maxHeartbeats 4000000
set_option maxRecDepth 100000
set_option linter.unusedSimpArgs false
set_option linter.unusedVariables false
namespace Go.Proofs.YtkmcodofnckdmaaGreat
open Tryz Go.RowKit Go.Maps
structure El(α:Type) where
 sz:Nat
 dfl:α
 rep:(Nat->Prop)->World->LV->α->Prop
 len:∀ {S:Nat->Prop} {w:World} {vs:LV} {x:α},rep S w vs x->vs.length=sz
 one:∀ {S:Nat->Prop} {w:World} {vs:LV} {x:α},rep S w vs x->∀u∈vs,u.oneCell'=true
 stay:∀ {S S':Nat->Prop} {w w':World} {vs:LV} {x:α},rep S w vs x->w.heap.size<=w'.heap.size->(∀k,S k->k<w.heap.size->S' k/\w'.heap[k]?=w.heap[k]?)->rep S' w' vs x
def El.num(k:IntKind)(lo hi:Int):El Int where
 sz:=1
 dfl:=0
 rep:=fun _ _ vs z=>vs=[.int k z]/\lo<=z/\z<=hi
 len:=fun h=>by rw[h.1];rfl
 one:=fun h u hu=>by rw[h.1]at hu;rw[List.mem_singleton.1 hu];rfl
 stay:=fun h _ _=>h
def El.int:El Int:=El.num .i64 (-9223372036854775808) 9223372036854775807
theorem El.int_rep{S:Nat->Prop}{w:World}{vs:LV}{z:Int}:El.int.rep S w vs z↔vs=[.int .i64 z]/\I64 z:=Iff.rfl
def El.bool:El Bool where
 sz:=1
 dfl:=false
 rep:=fun _ _ vs z=>vs=[.bool z]
 len:=fun h=>by rw[h];rfl
 one:=fun h u hu=>by rw[h]at hu;rw[List.mem_singleton.1 hu];rfl
 stay:=fun h _ _=>h
def El.cat{α β:Type}(E:El α)(F:El β):El (α×β) where
 sz:=E.sz+F.sz
 dfl:=(E.dfl,F.dfl)
 rep:=fun S w vs p=>∃us ts,vs=us++ts/\E.rep S w us p.1/\F.rep S w ts p.2
 len:=fun⟨us,ts,e,h1,h2⟩=>by rw[e,qA,E.len h1,F.len h2]
 one:=fun⟨us,ts,e,h1,h2⟩ u hu=>by
  rw[e]at hu;rcases List.mem_append.1 hu with hu|hu
  . exact E.one h1 u hu
  . exact F.one h2 u hu
 stay:=fun⟨us,ts,e,h1,h2⟩ hs hk=>⟨us,ts,e,E.stay h1 hs hk,F.stay h2 hs hk⟩
def El.via{α β:Type}(E:El α)(f:β->α)(d:β):El β where
 sz:=E.sz
 dfl:=d
 rep:=fun S w vs b=>E.rep S w vs (f b)
 len:=fun h=>E.len h
 one:=fun h=>E.one h
 stay:=fun h hs hk=>E.stay h hs hk
def Gr{α:Type}(E:El α)(S:Nat->Prop)(w:World)(a:OA)(cap:Nat)(l:List α):Prop :=
 l.length<=cap/\cap<=maxLen/\(a=none->cap=0) /\
 ∀i,i<l.length->∃b off vs,a=some ⟨b,off,none⟩/\b<w.heap.size/\E.rep S w vs (l.getD i E.dfl)/\∀j,j<E.sz->w.cell? ⟨b,off+i*E.sz+j,none⟩=vs[j]?
theorem Gr.nil{α:Type}(E:El α)(S:Nat->Prop)(w:World)(a:OA)(cap:Nat)(h:cap<=maxLen)(h0:a=none->cap=0):Gr E S w a cap []:=⟨qD _,h,h0,fun i hi=>by simp at hi⟩
theorem Gr.lenB{α:Type}{E:El α}{S:Nat->Prop}{w:World}{a:OA}{cap:Nat}{l:List α}(h:Gr E S w a cap l):l.length<=9223372036854775807:=by
 have h1:=h.1;have h2:=h.2.1;unfold maxLen at h2;omega
theorem Gr.blk{α:Type}{E:El α}{S:Nat->Prop}{w:World}{a:OA}{cap:Nat}{l:List α}(h:Gr E S w a cap l)(hl:l≠[]):∃b off,a=some ⟨b,off,none⟩/\b<w.heap.size:=by
 obtain⟨b,off,vs,e,hb,_⟩:=h.2.2.2 0 (List.length_pos_iff.2 hl);exact⟨b,off,e,hb⟩
theorem Gr.stay{α:Type}{E:El α}{S S':Nat->Prop}{w w':World}{a:OA}{cap:Nat}{l:List α}(h:Gr E S w a cap l)(hs:w.heap.size<=w'.heap.size)
    (hk:∀k,S k->k<w.heap.size->S' k/\w'.heap[k]?=w.heap[k]?) (ha:∀b o,a=some ⟨b,o,none⟩->l≠[]->b<w.heap.size->w'.heap[b]?=w.heap[b]?):Gr E S' w' a cap l:=by
 refine⟨h.1,h.2.1,h.2.2.1,fun i hi=>?_⟩;obtain⟨b,off,vs,e,hb,h1,h2⟩:=h.2.2.2 i hi;have hbk:=ha b off e (fun e0=>by rw[e0]at hi;simp at hi) hb;exact⟨b,off,vs,e,qN hb hs,E.stay h1 hs hk,fun j hj=>(World.cell?_of_block (w:=w) (a:=⟨b,off+i*E.sz+j,none⟩) hbk).trans (h2 j hj)⟩
theorem Gr.below{α:Type}{E:El α}{S:Nat->Prop}{w w':World}{a:OA}{cap:Nat}{l:List α}(h:Gr E S w a cap l)(hb:Below w.heap.size w w'):Gr E S w' a cap l :=
 h.stay hb.size (fun k hk hl=>⟨hk,hb.block k hl⟩) (fun b o e hl h1=>hb.block b h1)
theorem Gr.wide{α:Type}{E:El α}{S S':Nat->Prop}{w:World}{a:OA}{cap:Nat}{l:List α}(h:Gr E S w a cap l)(hk:∀k,S k->k<w.heap.size->S' k):Gr E S' w a cap l :=
 h.stay (qE _) (fun k h1 h2=>⟨hk k h1 h2,rfl⟩) (fun _ _ _ _ _=>rfl)
theorem Gr.at{α:Type}{E:El α}{S:Nat->Prop}{w wr:World}{a:OA}{cap:Nat}{l:List α}(h:Gr E S w a cap l)(hb:Below w.heap.size w wr)(k:Nat)(hk:k<l.length) :
 ∃b off vs,a=some ⟨b,off,none⟩/\b<w.heap.size/\E.rep S wr vs (l.getD k E.dfl)/\∀j,j<E.sz->wr.cell? ⟨b,off+k*E.sz+j,none⟩=vs[j]?:=by
 obtain⟨b,off,vs,e,h0,h1,h2⟩:=h.2.2.2 k hk;exact⟨b,off,vs,e,h0,E.stay h1 hb.size (fun k hk hl=>⟨hk,hb.block k hl⟩),fun j hj=>(hb.cell (p:=⟨b,off+k*E.sz+j,none⟩) h0).trans (h2 j hj)⟩
theorem Gr.take{α:Type}{E:El α}{S:Nat->Prop}{w:World}{a:OA}{cap:Nat}{l:List α}(h:Gr E S w a cap l)(n:Nat):Gr E S w a cap (l.take n):=by
 refine⟨qF (by simp;omega) h.1,h.2.1,h.2.2.1,fun i hi=>?_⟩;have hi':i<n/\i<l.length:=by simp at hi;omega
 obtain⟨b,off,vs,e,h0,h1,h2⟩:=h.2.2.2 i hi'.2;have eg:(l.take n).getD i E.dfl=l.getD i E.dfl:=by simp[List.getD,List.getElem?_take,hi'.1]
 exact⟨b,off,vs,e,h0,by rw[eg];exact h1,h2⟩
theorem Gr.from{α:Type}{E:El α}{S:Nat->Prop}{w:World}{b off cap:Nat}{l:List α}(h:Gr E S w (some ⟨b,off,none⟩) cap l)(n:Nat)(hn:n<=l.length):Gr E S w (some ⟨b,off+n*E.sz,none⟩) (cap-n) (l.drop n):=by
 refine⟨by have:=h.1;simp;omega,qF (Nat.sub_le _ _) h.2.1,(fun e=>by cases e),fun i hi=>?_⟩;have hi':n+i<l.length:=by simp at hi;omega
 obtain⟨b',off',vs,e,h0,h1,h2⟩:=h.2.2.2 (n+i) hi';cases e;have eg:(l.drop n).getD i E.dfl=l.getD (n+i) E.dfl:=by simp[List.getD]
 refine⟨b,off+n*E.sz,vs,rfl,h0,by rw[eg];exact h1,fun j hj=>?_⟩;rw[show off+n*E.sz+i*E.sz+j=off+(n+i)*E.sz+j by rw[Nat.add_mul];omega];exact h2 j hj
def El.row{α:Type}(E:El α):El (List α) where
 sz:=1
 dfl:=[]
 rep:=fun S w vs l=>∃a cap,vs=[.slice a l.length cap]/\(∀b o,a=some ⟨b,o,none⟩->l≠[]->S b)/\Gr E S w a cap l/\l.length<=140737488351232
 len:=fun⟨a,cap,e,_⟩=>by rw[e];rfl
 one:=fun⟨a,cap,e,_⟩ u hu=>by rw[e]at hu;rw[List.mem_singleton.1 hu];rfl
 stay:=fun⟨a,cap,e,hS,h,hlb⟩ hs hk=>by
  refine⟨a,cap,e,fun b o e1 hl=>?_,h.stay hs hk (fun b o e1 hl hb=>(hk b (hS b o e1 hl) hb).2),hlb⟩;obtain⟨b',o',e2,hb⟩:=h.blk hl;rw[e1]at e2;cases e2;exact(hk b (hS b o e1 hl) hb).1
theorem ze9{sz:Nat}:∀ {vss:List (LV)},(∀i,i<vss.length->(vss.getD i []).length=sz)->vss.flatten.length=vss.length*sz:=by
 intro vss
 induction vss with
 | nil=>intro _;simp
 | cons vs t ih =>
  intro h;have h0:vs.length=sz:=h 0 (by simp);have h1:=ih (fun i hi=>h (i+1) (by simpa using hi));rw[List.flatten_cons,qA,h0,h1,List.length_cons,Nat.add_mul];omega
theorem zgq{sz:Nat}:∀ {vss:List (LV)} {i j:Nat},(∀i,i<vss.length->(vss.getD i []).length=sz)->i<vss.length->j<sz->vss.flatten[i*sz+j]?=(vss.getD i [])[j]?:=by
 intro vss
 induction vss with
 | nil=>intro i j _ hi _;simp at hi
 | cons vs t ih =>
  intro i j h hi hj;have h0:vs.length=sz:=h 0 (by simp);cases i with
  | zero=>rw[List.flatten_cons,Nat.zero_mul,Nat.zero_add,List.getElem?_append_left (by omega)];rfl
  | succ i =>
   have h1:=ih (fun i hi=>h (i+1) (by simpa using hi)) (i:=i) (j:=j) (by simpa using hi) hj;rw[List.flatten_cons,qO (by rw[h0,Nat.add_mul];omega),h0,show(i+1)*sz+j-sz=i*sz+j by rw[Nat.add_mul];omega,h1];rfl
def Gw{α:Type}(E:El α)(t:TypeId)(base:Nat)(S:Nat->Prop)(w:World)(v:Value)(l:List α):Prop :=
 ∃vss:List (LV),vss.length=l.length/\w.ownsRow base t E.sz v l.length vss.flatten/\∀i,i<l.length->E.rep (fun k=>S k/\v.ownBlock≠some k) w (vss.getD i []) (l.getD i E.dfl)
theorem Gw.nil{α:Type}(E:El α)(t:TypeId)(base:Nat)(S:Nat->Prop)(w:World):Gw E t base S w (.slice none 0 0) []:=⟨[],rfl,World.ownsRow_nil w base _ _,fun i hi=>by simp at hi⟩
theorem Gw.made{α:Type}{E:El α}{t:TypeId}{base:Nat}{S:Nat->Prop}{w:World}{v:Value}(h:w.ownsRow base t E.sz v 0 []):Gw E t base S w v []:=⟨[],rfl,h,fun i hi=>by simp at hi⟩
theorem Gw.slice{α:Type}{E:El α}{t:TypeId}{base:Nat}{S:Nat->Prop}{w:World}{v:Value}{l:List α}(h:Gw E t base S w v l):∃a cap,v=.slice a l.length cap/\Gr E S w a cap l/\∀b o,a=some ⟨b,o,none⟩->base<=b/\b<w.heap.size:=by
 obtain⟨vss,hl,h3,h4⟩:=h;have h5:∀i,i<vss.length->(vss.getD i []).length=E.sz:=fun i hi=>E.len (h4 i (by omega));have hown:=h3;rcases h3.2 with ⟨rfl,h0⟩|⟨g,cap,cur,rfl,hb,hg,hc1,hc2,hc3,ht⟩
 . have:l=[]:=List.length_eq_zero_iff.1 h0
   subst this;exact⟨none,0,rfl,Gr.nil _ _ _ _ _ (qD _) (fun _=>rfl),fun b o e=>by cases e⟩
 . refine⟨_,cap,rfl,⟨hc1,hc2,(fun e=>by cases e),fun i hi=>?_⟩,fun b o e=>by cases e;exact⟨hb,(Array.getElem?_eq_some_iff.1 hg).1⟩⟩
   refine⟨g,0,vss.getD i [],rfl,(Array.getElem?_eq_some_iff.1 hg).1,E.stay (h4 i hi) (qE _) (fun k hk _=>⟨hk.1,rfl⟩),fun j hj=>?_⟩;have zdp:∀j,(⟨g,0,none⟩:Addr).add j=⟨g,0+j,none⟩:=(by intro j;unfold Addr.add;split <;> simp_all);have e:=zgq h5 (i:=i) (j:=j) (by omega) hj;have hjl:j<(vss.getD i []).length:=(by rw[h5 i (by omega)];exact hj);rw[qG hjl]at e ⊢;have d:=hown.cells (g:=g) rfl (i*E.sz+j) _ e;rw[zdp]at d;rw[<-d];simp[Nat.add_assoc]
theorem Gw.lo{α:Type}{E:El α}{t:TypeId}{base:Nat}{S:Nat->Prop}{w:World}{v:Value}{l:List α}(h:Gw E t base S w v l){g:Nat}(hg:v.ownBlock=some g):base<=g/\g<w.heap.size:=by
 obtain⟨vss,hl,h3,h4⟩:=h;exact World.ownsRow.lt h3 g hg
theorem Gw.stay{α:Type}{E:El α}{t:TypeId}{base:Nat}{S S':Nat->Prop}{w w':World}{v:Value}{l:List α}(h:Gw E t base S w v l)(hs:w.heap.size<=w'.heap.size)
    (hk:∀k,S k->v.ownBlock≠some k->k<w.heap.size->S' k/\w'.heap[k]?=w.heap[k]?) (ho:∀k,v.ownBlock=some k->w'.heap[k]?=w.heap[k]?):Gw E t base S' w' v l:=by
 obtain⟨vss,hl,h3,h4⟩:=h;refine⟨vss,hl,⟨h3.1,?_⟩,fun i hi=>E.stay (h4 i hi) hs (fun k h1 h2=>⟨⟨(hk k h1.1 h1.2 h2).1,h1.2⟩,(hk k h1.1 h1.2 h2).2⟩)⟩;rcases h3.2 with h0|⟨g,cap',cur,k1,k2,k3,k4⟩
 . exact .inl h0
 . exact .inr ⟨g,cap',cur,k1,k2,(ho g (by rw[k1];rfl)).trans k3,k4⟩
theorem Gw.below{α:Type}{E:El α}{t:TypeId}{base:Nat}{S:Nat->Prop}{w w':World}{v:Value}{l:List α}(h:Gw E t base S w v l)(hb:Below w.heap.size w w'):Gw E t base S w' v l :=
 h.stay hb.size (fun k h1 _ h2=>⟨h1,hb.block k h2⟩) (fun k hk=>hb.block k (h.lo hk).2)
theorem Gw.ty{α:Type}{E:El α}{t:TypeId}{base:Nat}{S:Nat->Prop}{w:World}{v:Value}{l:List α}(h:Gw E t base S w v l){g:Nat}(hg:v.ownBlock=some g):∃cur,w.heap[g]?=some (.cells cur t (0,0)):=by
 obtain⟨vss,hl,h3,h4⟩:=h;rcases h3.2 with ⟨e,_⟩|⟨g',cap',cur,k1,k2,k3,k4⟩
 . rw[e]at hg;cases hg
 . rw[k1]at hg
   have e:some g'=some g:=hg;injection e with e;rw[<-e];exact⟨cur,k3⟩
theorem Gw.ne{α β:Type}{E:El α}{F:El β}{t u:TypeId}{base base2:Nat}{S S2:Nat->Prop}{w:World}{v x:Value}{l:List α}{m:List β}(h:Gw E t base S w v l)(h2:Gw F u base2 S2 w x m)(ht:t≠u){g:Nat}(hg:v.ownBlock=some g):x.ownBlock≠some g:=by
 intro e;obtain⟨c1,k1⟩:=h.ty hg;obtain⟨c2,k2⟩:=h2.ty e;rw[k1]at k2;simp at k2;exact ht k2.2
theorem Gw.beside{α β:Type}{E:El α}{F:El β}{t u:TypeId}{base base2:Nat}{S S2:Nat->Prop}{w w':World}{v x:Value}{l:List α}{m:List β}(h:Gw E t base S w v l)(h2:Gw F u base2 S2 w x m)(ht:t≠u)(hS:∀k,S k->x.ownBlock≠some k)(hg:w.grownBy w' x.ownBlock):Gw E t base S w' v l :=
 h.stay hg.size (fun k h1 _ h3=>⟨h1,hg.block k h3 (fun e=>hS k h1 e.symm)⟩) (fun k hk=>hg.block k (h.lo hk).2 (fun e=>h.ne h2 ht hk e.symm))
theorem zab{α:Type}{E:El α}{w:World}{ops:Array Oper}{rest:List Oper}{o:Oper}{a:Act}{Q:Exit->Act->World->Prop}(t e:TypeId){z:Value}{by':Nat}
    (ht:Tryz.prog.underlying t=some (.slice e)) (zsl:(Tryz.prog.info? e).map (fun i=>(i.zero,i.size,i.bytes))=some (some z,E.sz,by')) (hzs:z.cells.size=E.sz) (hsz:0<E.sz) (hby:by'<=1000)
    (hgd:o.guard=none) (s x:Operand) (ho:o.op=.call { callee:=.builtin .append,args:=#[s,x],argTypes:=#[t,t] })
    (base:Nat) (S:Nat->Prop) (v:Value) (l:List α) (hs:a.eval s=v) (hown:Gw E e base S w v l) (pa:OA) (pc n:Nat) (m:List α) (hn:n=m.length) (hx:a.eval x=.slice pa n pc)
    (hp:Gr E (fun k=>S k/\v.ownBlock≠some k) w pa pc m) (hlen:l.length+m.length<=1000000) (hbase:base<=w.heap.size)
    (h:∀v' w',Gw E e base S w' v' (l++m)->w.grownBy w' v.ownBlock->(v'.ownBlock=v.ownBlock\/v'.ownBlock=some w.heap.size)->wpList Tryz.prog ops Q rest (a.put o.dst v') w'):wpList Tryz.prog ops Q (o::rest) a w:=by
 subst hn;obtain⟨i0,hi,hz0,hz1,hz2⟩:=info_parts zsl;obtain⟨vss,hl,h3,h4⟩:=hown;have grown:∀v' w' (uss:List (LV)),uss.length=m.length->(∀i,i<m.length->E.rep (fun k=>S k/\v.ownBlock≠some k) w (uss.getD i []) (m.getD i E.dfl))->w'.ownsRow base e E.sz v' (l.length+m.length) (vss.flatten++uss.flatten)->w.grownBy w' v.ownBlock->(v'.ownBlock=v.ownBlock\/v'.ownBlock=some w.heap.size)->Gw E e base S w' v' (l++m):=by
  intro v' w' uss hul hu k1 k2 k4
  have hst:∀vs y,E.rep (fun k=>S k/\v.ownBlock≠some k) w vs y->E.rep (fun k=>S k/\v'.ownBlock≠some k) w' vs y:=fun vs y hy=>E.stay hy k2.size (fun k hk hlt=>⟨⟨hk.1,by
   rcases k4 with k4|k4
   . rw[k4];exact hk.2
   . rw[k4];intro e';cases e';exact absurd hlt (Nat.lt_irrefl _)⟩,k2.block k hlt (fun e'=>hk.2 e'.symm)⟩)
  refine⟨vss++uss,by rw[qA,qA,hl,hul],by rw[qA,List.flatten_append];exact k1,fun i hi=>?_⟩;by_cases him:i<l.length
  . have e1:(l++m).getD i E.dfl=l.getD i E.dfl:=by simp[List.getD,List.getElem?_append_left him]
    have e2:(vss++uss).getD i []=vss.getD i []:=(by simp[List.getD,List.getElem?_append_left (show i<vss.length by omega)]);rw[e1,e2];exact hst _ _ (h4 i him)
  . have him':i-l.length<m.length:=by simp at hi;omega
    have e1:(l++m).getD i E.dfl=m.getD (i-l.length) E.dfl:=(by simp[List.getD,qO (show l.length<=i by omega)]);have e2:(vss++uss).getD i []=uss.getD (i-l.length) []:=(by simp[List.getD,qO (show vss.length<=i by omega),hl]);rw[e1,e2];exact hst _ _ (hu _ him')
 cases pa with
 | none =>
  obtain rfl:=hp.2.2.1 rfl;have hm:m=[]:=List.length_eq_zero_iff.1 (Nat.le_zero.1 hp.1);subst hm;refine wpList_append_own_none hgd s x t ho base e i0 E.sz ht hi v l.length vss.flatten hs h3 hx (h v w (by rw[List.append_nil];exact⟨vss,hl,h3,h4⟩) (World.grownBy.refl w _) (.inl rfl))
 | some ad =>
  obtain⟨uss,hul,hu⟩:∃uss:List (LV),uss.length=m.length/\∀i,i<m.length->E.rep (fun k=>S k/\v.ownBlock≠some k) w (uss.getD i []) (m.getD i E.dfl)/\∀j,j<E.sz->w.cell? (ad.add (i*E.sz+j))=(uss.getD i [])[j]?:=by
   have key:∀k,k<=m.length->∃uss:List (LV),uss.length=k/\∀i,i<k->E.rep (fun k=>S k/\v.ownBlock≠some k) w (uss.getD i []) (m.getD i E.dfl)/\∀j,j<E.sz->w.cell? (ad.add (i*E.sz+j))=(uss.getD i [])[j]?:=by
    intro k
    induction k with
    | zero=>exact fun _=>⟨[],rfl,fun i hi=>by omega⟩
    | succ k ih =>
     intro hk;obtain⟨uss,h1,h2⟩:=ih (by omega);obtain⟨b,off,vs,e1,hb,hr,hc⟩:=hp.2.2.2 k (by omega);cases e1;refine⟨uss++[vs],by simp[h1],fun i hi=>?_⟩;by_cases hik:i<k
     . have e2:(uss++[vs]).getD i []=uss.getD i []:=by simp[List.getD,List.getElem?_append_left (show i<uss.length by omega)]
       rw[e2];exact h2 i hik
     . obtain rfl:i=k:=by omega
       have e2:(uss++[vs]).getD i []=vs:=(by simp[List.getD,<-h1]);rw[e2];refine⟨hr,fun j hj=>?_⟩;have zdp:(⟨b,off,none⟩:Addr).add (i*E.sz+j)=⟨b,off+(i*E.sz+j),none⟩:=(by unfold Addr.add;split <;> simp_all);rw[zdp,<-Nat.add_assoc];exact hc j hj
   exact key m.length (qE _)
  have zzd:∀i,i<uss.length->(uss.getD i []).length=E.sz:=fun i hi=>E.len (hu i (by omega)).1
  refine wpList_append_own_at w hgd s x t ho base e i0 z E.sz by' ht hi hz0 hz1 hz2 hzs hsz v l.length vss.flatten hs h3 ad m.length pc uss.flatten hx (by rw[ze9 zzd,hul]) ?_ ?_ (by unfold maxLen;omega) (by
      have:=Nat.mul_le_mul hlen hby
      omega) hbase (fun v' w' k1 k2 _ k4=>h v' w' (grown v' w' uss hul (fun i hi=>(hu i hi).1) k1 k2 k4) k2 k4)
  . intro j u hj
    have hjl:j<m.length*E.sz:=by
     rcases Nat.lt_or_ge j (m.length*E.sz)with h1|h1
     . exact h1
     . rw[List.getElem?_eq_none (by rw[ze9 zzd,hul];exact h1)]at hj;cases hj
    have hjd:j/E.sz<m.length:=(Nat.div_lt_iff_lt_mul hsz).2 hjl;have e1:j/E.sz*E.sz+j%E.sz=j:=(by rw[Nat.mul_comm];exact Nat.div_add_mod j E.sz);have h1:=(hu (j/E.sz) hjd).2 (j%E.sz) (Nat.mod_lt _ hsz);have h2:=zgq zzd (i:=j/E.sz) (j:=j%E.sz) (by omega) (Nat.mod_lt _ hsz);rw[e1]at h1 h2;rw[h1,<-h2,hj]
  . intro u hu1
    obtain⟨vs,hvs,hu2⟩:=List.mem_flatten.1 hu1;obtain⟨i,hi,e1⟩:=List.getElem_of_mem hvs;have:=E.one (hu i (by omega)).1 u;rw[qH,qG hi,Option.getD_some,e1]at this;exact this hu2
theorem Gr.one{α:Type}{E:El α}{S:Nat->Prop}{w:World}{g:Nat}{x:α}{vs:LV}(hr:E.rep S w vs x)(hg:g<w.heap.size)(hc:∀j,j<E.sz->w.cell? ⟨g,j,none⟩=vs[j]?):Gr E S w (some ⟨g,0,none⟩) 1 [x]:=by
 refine⟨qE _,by unfold maxLen;omega,(fun e=>by cases e),fun i hi=>?_⟩;obtain rfl:i=0:=by simpa using hi
 exact⟨g,0,vs,rfl,hg,hr,fun j hj=>by simpa using hc j hj⟩
theorem Gr.one_new{α:Type}{E:El α}{S:Nat->Prop}{w:World}{x:α}(vs:LV)(t:TypeId)(hr:E.rep S w vs x):Gr E S (w.alloc (.cells vs.toArray t)) (some ⟨w.heap.size,0,none⟩) 1 [x]:=by
 refine Gr.one (E.stay hr (bl1 _).size (fun k hk hl=>⟨hk,(bl1 _).block k hl⟩)) (by simp) (fun j hj=>?_);have:=cell_of_row _ w.heap.size j _ _ (0,0) (heap_alloc_new w (.cells vs.toArray t));rw[this];simp
theorem zdb{P:Program}(w:World){o:Oper}{a:Act}{K:Act->World->Prop}{Q:Exit->Act->World->Prop}(s x:Operand)(t:TypeId)
    (ho:o.op=.call { callee:=.builtin .append,args:=#[s,x],argTypes:=#[t,t] })
    (base:Nat) (e:TypeId) (i:TypeInfo) (z:Value) (size bytes:Nat) (ht:P.underlying t=some (.slice e)) (hi:P.info? e=some i) (hz:i.zero=some z)
    (hsize:i.size=size) (hby:i.bytes=bytes) (hzs:z.cells.size=size) (hsz:0<size)
    (v:Value) (n:Nat) (xs:LV) (hs:a.eval s=v) (hown:w.ownsRow base e size v n xs)
    (ad:Addr) (m c:Nat) (news:LV) (hx:a.eval x=.slice (some ad) m c) (hl:news.length=m*size) (hnews:∀j u,news[j]?=some u->w.cell? (ad.add j)=some u) (h1:∀u∈news,u.oneCell'=true)
    (h63:n+m<=maxLen) (hbytes:(n+m)*bytes<=140737488355328) (hbase:base<=w.heap.size)
    (h:∀v' w',w'.ownsRow base e size v' (n+m) (xs++news)->w.grownBy w' v.ownBlock->(v'=.slice none 0 0↔v=.slice none 0 0/\m=0)->(v'.ownBlock=v.ownBlock\/v'.ownBlock=some w.heap.size)->K (a.put o.dst v') w') :
    o.wp P a w K Q:=by
 obtain⟨v',w',hr,h2,h3,h4,h5⟩:=run_append_own_at (P:=P) w base t o.type e i z size bytes ht hi hz hsize hby hzs hsz v n xs hown ad m c news hl hnews h1 h63 hbytes hbase;unfold Oper.wp execOp;simp only[ho,resolve,invoke,builtin,Sem.run_bind,Sem.run_pure,Result.andThen_ok,List.map_toArray,List.map_cons,List.map_nil,hs,hx,hr];exact h v' w' h2 h3 h4 h5
theorem zvv{sz:Nat}:∀ {vss:List (LV)} {i j:Nat} (x:Value),(∀i,i<vss.length->(vss.getD i []).length=sz)->i<vss.length->j<sz->(vss.set i ((vss.getD i []).set j x)).flatten=vss.flatten.set (i*sz+j) x:=by
 intro vss
 induction vss with
 | nil=>intro i j x _ hi _;simp at hi
 | cons vs t ih =>
  intro i j x h hi hj;have h0:vs.length=sz:=h 0 (by simp);cases i with
  | zero =>
   rw[List.set_cons_zero,List.getD_cons_zero,List.flatten_cons,List.flatten_cons,Nat.zero_mul,Nat.zero_add,List.set_append_left _ _ (by omega)]
  | succ i =>
   have h1:=ih (i:=i) (j:=j) x (fun i hi=>h (i+1) (by simpa using hi)) (by simpa using hi) hj;rw[List.set_cons_succ,List.getD_cons_succ,List.flatten_cons,List.flatten_cons,h1,List.set_append_right _ _ (by rw[h0,Nat.add_mul];omega),h0,show(i+1)*sz+j-sz=i*sz+j by rw[Nat.add_mul];omega]
theorem Gw.own{α:Type}{E:El α}{t:TypeId}{base:Nat}{S:Nat->Prop}{w:World}{v:Value}{l:List α}(h:Gw E t base S w v l)(hne:l≠[]) :
 ∃g cap,v=.slice (some ⟨g,0,none⟩) l.length cap/\base<=g/\g<w.heap.size/\l.length<=cap/\(∀n,w.frozen? ⟨g,n,none⟩=false) /\
     (∀i,i<l.length->∃vs,E.rep S w vs (l.getD i E.dfl)/\∀j,j<E.sz->w.cell? ⟨g,i*E.sz+j,none⟩=vs[j]?) /\
     ∀i j x y,i<l.length->j<E.sz->(∀S' vs,E.rep S' w vs (l.getD i E.dfl)->E.rep S' w (vs.set j x) y)->Gw E t base S (w.setCell ⟨g,i*E.sz+j,none⟩ x) v (l.set i y):=by
 have hsl:=h;obtain⟨a0,c0,e0,hgr,_⟩:=hsl.slice;obtain⟨vss,hl,h3,h4⟩:=h;have h5:∀i,i<vss.length->(vss.getD i []).length=E.sz:=fun i hi=>E.len (h4 i (by omega));rcases h3.2 with ⟨rfl,e1⟩|⟨g,cap,cur,rfl,hb,hg,hc1,hc2,hc3,ht⟩
 . exact absurd (List.length_eq_zero_iff.1 e1) hne
 . refine⟨g,cap,rfl,hb,(Array.getElem?_eq_some_iff.1 hg).1,hc1,fun n=>frozen_of_row w g n _ _ hg,fun i hi=>?_,fun i j x y hi hj zhy=>?_⟩
   . obtain⟨b,off,vs,e2,hb2,hr,hc⟩:=hgr.2.2.2 i hi
     injection e0 with e0;rw[<-e0]at e2;cases e2;exact⟨vs,hr,fun j hj=>by simpa using hc j hj⟩
   . have zzf:=heap_setCell_same w g (i*E.sz+j) cur t x hg
     have hoth:∀k,k≠g->(w.setCell ⟨g,i*E.sz+j,none⟩ x).heap[k]?=w.heap[k]?:=fun k hk=>Below.heap_setCell _ _ _ _ (fun e=>hk e);have hsz:(w.setCell ⟨g,i*E.sz+j,none⟩ x).heap.size=w.heap.size:=(by simp[World.setCell]);have hst:∀vs z,E.rep (fun k=>S k/\(Value.slice (some ⟨g,0,none⟩) l.length cap).ownBlock≠some k) w vs z->E.rep (fun k=>S k/\(Value.slice (some ⟨g,0,none⟩) l.length cap).ownBlock≠some k) (w.setCell ⟨g,i*E.sz+j,none⟩ x) vs z:=fun vs z hz=>E.stay hz (by rw[hsz];exact qE _) (fun k hk _=>⟨hk,hoth k (fun e=>hk.2 (by rw[e];rfl))⟩);have hfl:=zvv (i:=i) (j:=j) x h5 (by omega) hj;refine⟨vss.set i ((vss.getD i []).set j x),by rw[List.length_set,List.length_set,hl],⟨?_,.inr ⟨g,cap,_,by rw[List.length_set],hb,zzf,by simpa using hc1,hc2,by simpa using hc3,?_⟩⟩,fun k hk=>?_⟩
     . rw[hfl,List.length_set,List.length_set];exact h3.1
     . rw[hfl,List.length_set,<-ht]
       simp[List.take_set]
     . rw[List.length_set]at hk
       by_cases hki:k=i
       . subst hki
         have e1:(vss.set k ((vss.getD k []).set j x)).getD k []=(vss.getD k []).set j x:=(by simp[List.getD,show k<vss.length by omega]);have e2:(l.set k y).getD k E.dfl=y:=(by simp[List.getD,hk]);rw[e1,e2];exact hst _ _ (zhy _ _ (h4 k hk))
       . have e1:(vss.set i ((vss.getD i []).set j x)).getD k []=vss.getD k []:=by simp[List.getD,List.getElem?_set_ne (fun e=>hki e.symm)]
         have e2:(l.set i y).getD k E.dfl=l.getD k E.dfl:=(by simp[List.getD,List.getElem?_set_ne (fun e=>hki e.symm)]);rw[e1,e2];exact hst _ _ (h4 k hk)
theorem zai{α:Type}{E:El α}{w:World}{o:Oper}{a:Act}{K:Act->World->Prop}{Q:Exit->Act->World->Prop}(t e:TypeId){z:Value}{by':Nat}
    (ht:Tryz.prog.underlying t=some (.slice e)) (zsl:(Tryz.prog.info? e).map (fun i=>(i.zero,i.size,i.bytes))=some (some z,E.sz,by')) (hzs:z.cells.size=E.sz) (hsz:0<E.sz) (hby:by'<=1000)
    (s x:Operand) (ho:o.op=.call { callee:=.builtin .append,args:=#[s,x],argTypes:=#[t,t] })
    (base:Nat) (S:Nat->Prop) (v:Value) (l:List α) (hs:a.eval s=v) (hown:Gw E e base S w v l) (ad:Addr) (pc n:Nat) (m:List α) (hn:n=m.length) (hx:a.eval x=.slice (some ad) n pc)
    (hp:Gr E (fun k=>S k/\v.ownBlock≠some k) w (some ad) pc m) (hlen:l.length+m.length<=1000000) (hbase:base<=w.heap.size)
    (h:∀v' w',Gw E e base S w' v' (l++m)->w.grownBy w' v.ownBlock->(v'.ownBlock=v.ownBlock\/v'.ownBlock=some w.heap.size)->K (a.put o.dst v') w'):o.wp Tryz.prog a w K Q:=by
 subst hn;obtain⟨i0,hi,hz0,hz1,hz2⟩:=info_parts zsl;obtain⟨vss,hl,h3,h4⟩:=hown;obtain⟨uss,hul,hu⟩:∃uss:List (LV),uss.length=m.length/\∀i,i<m.length->E.rep (fun k=>S k/\v.ownBlock≠some k) w (uss.getD i []) (m.getD i E.dfl)/\∀j,j<E.sz->w.cell? (ad.add (i*E.sz+j))=(uss.getD i [])[j]?:=by
  have key:∀k,k<=m.length->∃uss:List (LV),uss.length=k/\∀i,i<k->E.rep (fun k=>S k/\v.ownBlock≠some k) w (uss.getD i []) (m.getD i E.dfl)/\∀j,j<E.sz->w.cell? (ad.add (i*E.sz+j))=(uss.getD i [])[j]?:=by
   intro k
   induction k with
   | zero=>exact fun _=>⟨[],rfl,fun i hi=>by omega⟩
   | succ k ih =>
    intro hk;obtain⟨uss,h1,h2⟩:=ih (by omega);obtain⟨b,off,vs,e1,hb,hr,hc⟩:=hp.2.2.2 k (by omega);cases e1;refine⟨uss++[vs],by simp[h1],fun i hi=>?_⟩;by_cases hik:i<k
    . have e2:(uss++[vs]).getD i []=uss.getD i []:=by simp[List.getD,List.getElem?_append_left (show i<uss.length by omega)]
      rw[e2];exact h2 i hik
    . obtain rfl:i=k:=by omega
      have e2:(uss++[vs]).getD i []=vs:=(by simp[List.getD,<-h1]);rw[e2];refine⟨hr,fun j hj=>?_⟩;have zdp:(⟨b,off,none⟩:Addr).add (i*E.sz+j)=⟨b,off+(i*E.sz+j),none⟩:=(by unfold Addr.add;split <;> simp_all);rw[zdp,<-Nat.add_assoc];exact hc j hj
  exact key m.length (qE _)
 have zzd:∀i,i<uss.length->(uss.getD i []).length=E.sz:=fun i hi=>E.len (hu i (by omega)).1
 refine zdb w s x t ho base e i0 z E.sz by' ht hi hz0 hz1 hz2 hzs hsz v l.length vss.flatten hs h3 ad m.length pc uss.flatten hx (by rw[ze9 zzd,hul]) ?_ ?_ (by unfold maxLen;omega) (by
     have:=Nat.mul_le_mul hlen hby
     omega) hbase (fun v' w' k1 k2 _ k4=>h v' w' ?_ k2 k4)
 . intro j u hj
   have hjl:j<m.length*E.sz:=by
    rcases Nat.lt_or_ge j (m.length*E.sz)with h1|h1
    . exact h1
    . rw[List.getElem?_eq_none (by rw[ze9 zzd,hul];exact h1)]at hj;cases hj
   have hjd:j/E.sz<m.length:=(Nat.div_lt_iff_lt_mul hsz).2 hjl;have e1:j/E.sz*E.sz+j%E.sz=j:=(by rw[Nat.mul_comm];exact Nat.div_add_mod j E.sz);have h1:=(hu (j/E.sz) hjd).2 (j%E.sz) (Nat.mod_lt _ hsz);have h2:=zgq zzd (i:=j/E.sz) (j:=j%E.sz) (by omega) (Nat.mod_lt _ hsz);rw[e1]at h1 h2;rw[h1,<-h2,hj]
 . intro u hu1
   obtain⟨vs,hvs,hu2⟩:=List.mem_flatten.1 hu1;obtain⟨i,hi,e1⟩:=List.getElem_of_mem hvs;have:=E.one (hu i (by omega)).1 u;rw[qH,qG hi,Option.getD_some,e1]at this;exact this hu2
 . have hst:∀vs y,E.rep (fun k=>S k/\v.ownBlock≠some k) w vs y->E.rep (fun k=>S k/\v'.ownBlock≠some k) w' vs y:=fun vs y hy=>E.stay hy k2.size (fun k hk hlt=>⟨⟨hk.1,by
     rcases k4 with k4|k4
     . rw[k4];exact hk.2
     . rw[k4];intro e';cases e';exact absurd hlt (Nat.lt_irrefl _)⟩,k2.block k hlt (fun e'=>hk.2 e'.symm)⟩)
   refine⟨vss++uss,by rw[qA,qA,hl,hul],by rw[qA,List.flatten_append];exact k1,fun i hi=>?_⟩;by_cases him:i<l.length
   . have e1:(l++m).getD i E.dfl=l.getD i E.dfl:=by simp[List.getD,List.getElem?_append_left him]
     have e2:(vss++uss).getD i []=vss.getD i []:=(by simp[List.getD,List.getElem?_append_left (show i<vss.length by omega)]);rw[e1,e2];exact hst _ _ (h4 i him)
   . have him':i-l.length<m.length:=by simp at hi;omega
     have e1:(l++m).getD i E.dfl=m.getD (i-l.length) E.dfl:=(by simp[List.getD,qO (show l.length<=i by omega)]);have e2:(vss++uss).getD i []=uss.getD (i-l.length) []:=(by simp[List.getD,qO (show vss.length<=i by omega),hl]);rw[e1,e2];exact hst _ _ (hu _ him').1
def Bk(t:TypeId)(w:World)(g:Nat)(cs:LV):Prop:=w.heap[g]?=some (.cells cs.toArray t (0,0))
theorem Bk.lt{t:TypeId}{w:World}{g:Nat}{cs:LV}(h:Bk t w g cs):g<w.heap.size:=(Array.getElem?_eq_some_iff.1 h).1
theorem Bk.below{t:TypeId}{w w':World}{g:Nat}{cs:LV}(h:Bk t w g cs)(hb:Below w.heap.size w w'):Bk t w' g cs:=(hb.block g h.lt).trans h
theorem Bk.kept{t:TypeId}{G:Nat->Prop}{w w':World}{g:Nat}{cs:LV}(h:Bk t w g cs)(hk:Keep G w w')(hg:G g):Bk t w' g cs:=(hk.block g hg).trans h
theorem Bk.new(t:TypeId)(w:World)(cs:LV):Bk t (w.alloc (.cells cs.toArray t)) w.heap.size cs:=heap_alloc_new w _
theorem Bk.new1(t:TypeId)(w:World)(o:Obj)(cs:LV):Bk t ((w.alloc o).alloc (.cells cs.toArray t)) (w.heap.size+1) cs:=by
 have h:=Bk.new t (w.alloc o) cs;simpa using h
theorem Bk.cell{t:TypeId}{w:World}{g:Nat}{cs:LV}(h:Bk t w g cs)(j:Nat)(hj:j<cs.length):w.cell? ⟨g,j,none⟩=cs[j]?:=by
 rw[cell_of_row w g j _ _ (0,0) h];simp
theorem Bk.fz{t:TypeId}{w:World}{g:Nat}{cs:LV}(h:Bk t w g cs)(j:Nat):w.frozen? ⟨g,j,none⟩=false:=frozen_of_row w g j _ _ h
theorem Bk.two{t:TypeId}{w:World}{g:Nat}{x y:Value}(h:Bk t w g [x,y]):w.cell? ⟨g,0,none⟩=some x/\w.cell? ⟨g,1,none⟩=some y/\w.frozen? ⟨g,0,none⟩=false/\w.frozen? ⟨g,1,none⟩=false :=
 ⟨h.cell 0 (by simp),h.cell 1 (by simp),h.fz 0,h.fz 1⟩
theorem Bk.three{t:TypeId}{w:World}{g:Nat}{x y z:Value}(h:Bk t w g [x,y,z]):w.cell? ⟨g,0,none⟩=some x/\w.cell? ⟨g,1,none⟩=some y/\w.cell? ⟨g,2,none⟩=some z/\w.frozen? ⟨g,0,none⟩=false/\w.frozen? ⟨g,1,none⟩=false/\w.frozen? ⟨g,2,none⟩=false :=
 ⟨h.cell 0 (by simp),h.cell 1 (by simp),h.cell 2 (by simp),h.fz 0,h.fz 1,h.fz 2⟩
theorem Bk.four{t:TypeId}{w:World}{g:Nat}{x y z u:Value}(h:Bk t w g [x,y,z,u]):w.cell? ⟨g,0,none⟩=some x/\w.cell? ⟨g,1,none⟩=some y/\w.cell? ⟨g,2,none⟩=some z/\w.cell? ⟨g,3,none⟩=some u/\w.frozen? ⟨g,0,none⟩=false/\w.frozen? ⟨g,1,none⟩=false/\w.frozen? ⟨g,2,none⟩=false/\w.frozen? ⟨g,3,none⟩=false :=
 ⟨h.cell 0 (by simp),h.cell 1 (by simp),h.cell 2 (by simp),h.cell 3 (by simp),h.fz 0,h.fz 1,h.fz 2,h.fz 3⟩
theorem Bk.set{t:TypeId}{w:World}{g:Nat}{cs:LV}(h:Bk t w g cs)(j:Nat)(z:Value):Bk t (w.setCell ⟨g,j,none⟩ z) g (cs.set j z):=by
 have:=heap_setCell_same w g j _ _ z h;unfold Bk;rw[this];simp
theorem Bk.other{t:TypeId}{w:World}{g b:Nat}{cs:LV}(h:Bk t w g cs)(j:Nat)(z:Value)(hb:g≠b):Bk t (w.setCell ⟨b,j,none⟩ z) g cs:=(Below.heap_setCell _ _ _ _ (fun e=>hb e)).trans h
theorem Bk.grown{t:TypeId}{w w':World}{g:Nat}{cs:LV}{v:Option Nat}(h:Bk t w g cs)(hg:w.grownBy w' v)(hv:v≠some g):Bk t w' g cs:=(hg.block g h.lt (fun e=>hv e.symm)).trans h
def Ri(w:World)(a:OA)(cap:Nat)(zs:LI):Prop :=
 (∀z∈zs,I64 z)/\zs.length<=cap/\cap<=maxLen /\
 (zs=[]\/∃b off,a=some ⟨b,off,none⟩/\b<w.heap.size/\∀i,i<zs.length->w.cell? ⟨b,off+i,none⟩=some (.int .i64 (zs.getD i 0)))
theorem Ri.at{w wr:World}{a:OA}{cap:Nat}{zs:LI}(h:Ri w a cap zs)(hb:Below w.heap.size w wr)(k:Nat)(hk:k<zs.length) :
 ∃b off,a=some ⟨b,off,none⟩/\b<w.heap.size/\wr.cell? ⟨b,off+k,none⟩=some (.int .i64 (zs.getD k 0)):=by
 rcases h.2.2.2 with rfl|⟨b,off,h1,h2,h3⟩
 . simp at hk
 . exact⟨b,off,h1,h2,(hb.cell (p:=⟨b,off+k,none⟩) h2).trans (h3 k hk)⟩
theorem Ri.below{w w':World}{a:OA}{cap:Nat}{zs:LI}(h:Ri w a cap zs)(hb:Below w.heap.size w w'):Ri w' a cap zs:=by
 obtain⟨h1,h2,h3,h4⟩:=h;refine⟨h1,h2,h3,?_⟩;rcases h4 with h4|⟨b,off,e,h5,h6⟩
 . exact .inl h4
 . exact .inr ⟨b,off,e,qN h5 hb.size,fun i hi=>(hb.cell (p:=⟨b,off+i,none⟩) h5).trans (h6 i hi)⟩
theorem Ri.nil(w:World)(a:OA)(cap:Nat)(h:cap<=maxLen):Ri w a cap []:=⟨(fun z hz=>by cases hz),qD _,h,.inl rfl⟩
theorem Ri.i64{w:World}{a:OA}{cap:Nat}{zs:LI}(h:Ri w a cap zs){k:Nat}(hk:k<zs.length):I64 (zs.getD k 0):=by
 refine h.1 _ ?_;rw[qH,qG hk];exact List.getElem_mem hk
theorem zcu:(Tryz.prog.info? 3).map (fun i=>(i.zero,i.size,i.bytes))=some (some (.int .i64 0),1,8):=by kernel_rfl
def Io(base:Nat)(w:World)(v:Value)(zs:LI):Prop:=(∀z∈zs,I64 z)/\w.ownsRow base 3 1 v zs.length (zs.map (Value.int .i64))
theorem Io.nil(base:Nat)(w:World):Io base w (.slice none 0 0) []:=⟨(fun t ht=>by cases ht),World.ownsRow_nil w base _ 1⟩
theorem Io.slice{base:Nat}{w:World}{v:Value}{zs:LI}(h:Io base w v zs):∃a cap,v=.slice a zs.length cap/\Ri w a cap zs:=by
 obtain⟨h1,h3⟩:=h;rcases h3.2 with ⟨rfl,h0⟩|⟨g,cap,cur,rfl,hb,hg,hc1,hc2,hc3,ht⟩
 . have:zs=[]:=List.length_eq_zero_iff.1 h0
   subst this;exact⟨none,0,rfl,Ri.nil _ _ _ (qD _)⟩
 . refine⟨_,cap,rfl,h1,hc1,hc2,.inr ⟨g,0,rfl,(Array.getElem?_eq_some_iff.1 hg).1,fun i hi=>?_⟩⟩
   have:=h3.cells (g:=g) rfl i (.int .i64 (zs.getD i 0)) (by simp[List.getD,hi]);have zdp:(⟨g,0,none⟩:Addr).add i=⟨g,0+i,none⟩:=(by unfold Addr.add;split <;> simp_all);rw[zdp]at this;exact this
theorem Io.below{base:Nat}{w w':World}{v:Value}{zs:LI}(h:Io base w v zs)(hb:Below w.heap.size w w'):Io base w' v zs:=by
 obtain⟨h1,h3⟩:=h;refine⟨h1,h3.1,?_⟩;rcases h3.2 with h0|⟨g,cap',cur,k1,k2,k3,k4⟩
 . exact .inl h0
 . exact .inr ⟨g,cap',cur,k1,k2,(hb.block g (Array.getElem?_eq_some_iff.1 k3).1).trans k3,k4⟩
theorem Io.lo{base:Nat}{w:World}{v:Value}{zs:LI}(h:Io base w v zs){g:Nat}(hg:v.ownBlock=some g):base<=g:=(World.ownsRow.lt h.2 g hg).1
theorem zad{w:World}{ops:Array Oper}{rest:List Oper}{o:Oper}{a:Act}{Q:Exit->Act->World->Prop}
    (hgd:o.guard=none) (s x:Operand) (ho:o.op=.call { callee:=.builtin .append,args:=#[s,x],argTypes:=#[29,29] })
    (base:Nat) (v:Value) (zs:LI) (hs:a.eval s=v) (hown:Io base w v zs) (g:Nat) (z:Int) (hx:a.eval x=.slice (some ⟨g,0,none⟩) 1 1)
    (c0:w.cell? ⟨g,0,none⟩=some (.int .i64 z)) (hz:I64 z) (hlen:zs.length+1<=1000000) (hbase:base<=w.heap.size)
    (h:∀v' w',Io base w' v' (zs++[z])->w.grownBy w' v.ownBlock->wpList Tryz.prog ops Q rest (a.put o.dst v') w'):wpList Tryz.prog ops Q (o::rest) a w:=by
 obtain⟨i0,hi,hz0,hz1,hz2⟩:=info_parts zcu;refine wpList_append_own_at w hgd s x 29 ho base 3 i0 (.int .i64 0) 1 8 underlying29 hi hz0 hz1 hz2 rfl (by decide) v zs.length (zs.map (Value.int .i64)) hs hown.2 ⟨g,0,none⟩ 1 1 [.int .i64 z] hx rfl ?_ ?_ (by unfold maxLen;omega) (by omega) hbase ?_
 . intro j u hj
   match j,hj with
   | 0,hj=>simp at hj;subst hj;simpa [Addr.add] using c0
 . intro u hu
   simp at hu;subst hu;rfl
 . intro v' w' k1 k2 _ _
   refine h v' w' ⟨fun s hs=>?_,?_⟩ k2
   . rcases List.mem_append.1 hs with hs|hs
     . exact hown.1 s hs
     . rw[List.mem_singleton.1 hs];exact hz
   . rw[List.map_append,qA]
     exact k1
theorem Ri.lenB{w:World}{a:OA}{cap:Nat}{zs:LI}(h:Ri w a cap zs):zs.length<=9223372036854775807:=by
 have h1:=h.2.1;have h2:=h.2.2.1;unfold maxLen at h2;omega
theorem Io.own{base:Nat}{w:World}{v:Value}{zs:LI}(h:Io base w v zs)(hne:zs≠[]) :
 ∃g cap,v=.slice (some ⟨g,0,none⟩) zs.length cap/\base<=g/\g<w.heap.size/\zs.length<=cap/\(∀k,k<zs.length->w.cell? ⟨g,k,none⟩=some (.int .i64 (zs.getD k 0)))/\(∀k,w.frozen? ⟨g,k,none⟩=false) /\
     ∀k z,k<zs.length->I64 z->Io base (w.setCell ⟨g,k,none⟩ (.int .i64 z)) v (zs.set k z):=by
 obtain⟨h1,h3⟩:=h;rcases h3.2 with ⟨rfl,h0⟩|⟨g,cap,cur,rfl,hb,hg,hc1,hc2,hc3,ht⟩
 . exact absurd (List.length_eq_zero_iff.1 h0) hne
 . refine⟨g,cap,rfl,hb,(Array.getElem?_eq_some_iff.1 hg).1,hc1,fun k hk=>?_,fun k=>frozen_of_row w g k _ _ hg,fun k z hk hz=>⟨fun s hs=>?_,?_⟩⟩
   . have:=h3.cells (g:=g) rfl k (.int .i64 (zs.getD k 0)) (by simp[List.getD,hk])
     have zdp:(⟨g,0,none⟩:Addr).add k=⟨g,0+k,none⟩:=(by unfold Addr.add;split <;> simp_all);rw[zdp,Nat.zero_add]at this;exact this
   . rcases List.mem_or_eq_of_mem_set hs with hs|hs
     . exact h1 s hs
     . rw[hs];exact hz
   . have zzf:=heap_setCell_same w g k cur 3 (.int .i64 z) hg
     refine⟨by simp,.inr ⟨g,cap,_,by rw[List.length_set],hb,zzf,by simpa using hc1,hc2,?_,?_⟩⟩
     . simpa using hc3
     . simp only[List.length_set,Nat.mul_one]at ht ⊢
       rw[List.map_set,<-ht];simp[List.take_set]
def PnE:El Pn:=(El.int.cat (El.int.cat El.bool)).via (fun p=>(p.x,p.y,p.on)) Pn.none
def PaE:El Pa:=(El.int.cat (El.int.cat El.int)).via (fun p=>(p.g,p.dx,p.dy)) Pa.none
def PnW(p:Pn):Prop:=I64 p.x/\I64 p.y
def PaW(p:Pa):Prop:=I64 p.g/\I64 p.dx/\I64 p.dy
def pnC(p:Pn):LV:=[.int .i64 p.x,.int .i64 p.y,.bool p.on]
def paC(p:Pa):LV:=[.int .i64 p.g,.int .i64 p.dx,.int .i64 p.dy]
theorem za0{S:Nat->Prop}{w:World}{vs:LV}{p:Pn}:PnE.rep S w vs p↔vs=pnC p/\PnW p:=by
 constructor
 . rintro ⟨us,ts,rfl,⟨rfl,h1⟩,us2,ts2,rfl,⟨rfl,h2⟩,h3⟩
   have h3:ts2=[.bool p.on]:=h3;subst h3;exact⟨rfl,h1,h2⟩
 . rintro ⟨rfl,h1,h2⟩
   exact⟨[_],_,rfl,⟨rfl,h1⟩,[_],[_],rfl,⟨rfl,h2⟩,rfl⟩
theorem zce{S:Nat->Prop}{w:World}{vs:LV}{p:Pa}:PaE.rep S w vs p↔vs=paC p/\PaW p:=by
 constructor
 . rintro ⟨us,ts,rfl,⟨rfl,h1⟩,us2,ts2,rfl,⟨rfl,h2⟩,⟨rfl,h3⟩⟩
   exact⟨rfl,h1,h2,h3⟩
 . rintro ⟨rfl,h1,h2,h3⟩
   exact⟨[_],_,rfl,⟨rfl,h1⟩,[_],[_],rfl,⟨rfl,h2⟩,⟨rfl,h3⟩⟩
theorem Gr.pn{S:Nat->Prop}{w wr:World}{a:OA}{cap:Nat}{l:List Pn}(h:Gr PnE S w a cap l)(hb:Below w.heap.size w wr)(k:Nat)(hk:k<l.length) :
 ∃b off,a=some ⟨b,off,none⟩/\b<w.heap.size/\PnW (l.getD k Pn.none)/\wr.cell? ⟨b,off+k*3,none⟩=some (.int .i64 (l.getD k Pn.none).x)/\wr.cell? ⟨b,off+k*3+1,none⟩=some (.int .i64 (l.getD k Pn.none).y)/\wr.cell? ⟨b,off+k*3+2,none⟩=some (.bool (l.getD k Pn.none).on):=by
 obtain⟨b,off,vs,e,hl,hr,hc⟩:=h.at hb k hk;obtain⟨rfl,hw⟩:=za0.1 hr;exact⟨b,off,e,hl,hw,hc 0 (by decide),hc 1 (by decide),hc 2 (by decide)⟩
theorem Gr.pa{S:Nat->Prop}{w wr:World}{a:OA}{cap:Nat}{l:List Pa}(h:Gr PaE S w a cap l)(hb:Below w.heap.size w wr)(k:Nat)(hk:k<l.length) :
 ∃b off,a=some ⟨b,off,none⟩/\b<w.heap.size/\PaW (l.getD k Pa.none)/\wr.cell? ⟨b,off+k*3,none⟩=some (.int .i64 (l.getD k Pa.none).g)/\wr.cell? ⟨b,off+k*3+1,none⟩=some (.int .i64 (l.getD k Pa.none).dx)/\wr.cell? ⟨b,off+k*3+2,none⟩=some (.int .i64 (l.getD k Pa.none).dy):=by
 obtain⟨b,off,vs,e,hl,hr,hc⟩:=h.at hb k hk;obtain⟨rfl,hw⟩:=zce.1 hr;exact⟨b,off,e,hl,hw,hc 0 (by decide),hc 1 (by decide),hc 2 (by decide)⟩
theorem Gr.rw{α:Type}{E:El α}{S:Nat->Prop}{w wr:World}{a:OA}{cap:Nat}{m:List (List α)}(h:Gr E.row S w a cap m)(hb:Below w.heap.size w wr)(k:Nat)(hk:k<m.length) :
 ∃b off a' cap',a=some ⟨b,off,none⟩/\b<w.heap.size/\wr.cell? ⟨b,off+k,none⟩=some (.slice a' (m.getD k []).length cap')/\Gr E S wr a' cap' (m.getD k [])/\(m.getD k []).length<=140737488351232/\∀b o,a'=some ⟨b,o,none⟩->m.getD k []≠[]->S b:=by
 obtain⟨b,off,vs,e,hl,⟨a',cap',hv,hS,hr,hlb⟩,hc⟩:=h.at hb k hk;have:=hc 0 Nat.one_pos;rw[hv,show k*E.row.sz=k from Nat.mul_one k]at this;exact⟨b,off,a',cap',e,hl,this,hr,hlb,hS⟩
theorem getL'{α:Type}{m:List (List α)}{k:Nat}(hk:k<m.length):m.getD k []=m[k]:=by simp[List.getD,hk]
theorem zla{α:Type}{m:List (List α)}{k:Nat}(hk:k<m.length):m.getD k []∈m:=by rw[getL' hk];exact List.getElem_mem hk
theorem zbm{α:Type}{m:List α}{d:α}{k:Nat}(hk:k<m.length):m.getD k d∈m:=by rw[qH,qG hk];exact List.getElem_mem hk
theorem zfw{α:Type}{p:α->Prop}{d:α}{m:List α}(h:∀k,k<m.length->p (m.getD k d)):∀x∈m,p x:=by
 intro x hx;obtain⟨i,hi,e⟩:=List.getElem_of_mem hx;have:=h i hi;rw[qH,qG hi,Option.getD_some,e]at this;exact this
theorem zak{α:Type}{m:List α}{d:α}{k:Nat}(hk:k<m.length):m.take (k+1)=m.take k++[m.getD k d]:=by
 rw[List.take_add_one,qG hk];simp[List.getD,hk]
theorem zdo:(Tryz.prog.info? 65).map (fun i=>(i.zero,i.size,i.bytes))=some (some (.agg #[.int .i64 0,.int .i64 0,.bool false]),3,24):=by kernel_rfl
theorem zse:(Tryz.prog.info? 54).map (fun i=>(i.zero,i.size,i.bytes))=some (some (.agg #[.int .i64 0,.int .i64 0,.int .i64 0]),3,24):=by kernel_rfl
theorem zju:(Tryz.prog.info? 63).map (fun i=>(i.zero,i.size,i.bytes))=some (some (.slice none 0 0),1,24):=by kernel_rfl
theorem zkh(z:Int):IntKind.i16.wrap z=if 32768<=z%65536 then z%65536-65536 else z%65536:=by
 simp[IntKind.wrap,IntKind.bits,IntKind.signed]
theorem zil(z:Int):(IntKind.i16.wrap z != z)=!fdB z:=by
 rw[zkh,fdB,Bool.eq_iff_iff,bne_iff_ne,Bool.not_eq_true',decide_eq_false_iff_not];split <;> omega
theorem zki(z:Int):IntKind.i64.wrap (IntKind.i16.wrap z)=IntKind.i16.wrap z:=by
 rw[zkh];simp only[IntKind.wrap,IntKind.bits,IntKind.signed];split <;> (simp;omega)
theorem zkd{α:Type}{p:α->Bool}{r:List α}{d:α}{k:Nat}(hk:k<r.length)(h:p (r.getD k d)=false):r.all p=false:=by
 rw[Bool.eq_false_iff];intro e;have:=List.all_eq_true.1 e (r.getD k d) (zbm hk);rw[h]at this;cases this
theorem zgw{α:Type}{p:α->Bool}{r:List α}{d:α}(h:∀j,j<r.length->p (r.getD j d)=true):r.all p=true:=by
 rw[List.all_eq_true];exact zfw h
theorem zb6{p:Nat->Prop}{k:Nat}(h:∀j,j<k->p j)(h1:p k):∀j,j<k+1->p j:=fun j hj=>by
 rcases Nat.lt_or_ge j k with h2|h2
 . exact h j h2
 . rw[show j=k by omega];exact h1
theorem zda(a:OA)(cap:Nat)(r:LI)(w:World)(h:Ri w a cap r) :
 Calls Tryz.prog 130 #[.slice a r.length cap] w fun e w'=>e=.returned (.bool (r.all fdB))/\w=w':=by
 have k2:=h.lenB;have HH:Hid (Ri w a cap r):=h;clear h;go_enter func130,ntmps130;go_wp2
 go_loopw [7] (fun i wr=>∃k:Nat,k<=r.length/\i=.int .i64 k/\(∀j,j<k->fdB (r.getD j 0)=true)/\w=wr) (fun i _=>r.length-(intOf i).toNat)
 case atStart=>exact⟨0,qD _,rfl,(fun j hj=>by omega),rfl⟩
 case round =>
  obtain⟨k,hk,rfl,hok,rfl⟩:=hrel;have HOK:Hid (∀j,j<k->fdB (r.getD j 0)=true):=hok;clear hok;by_cases hkn:k<r.length
  . obtain⟨b,off,ea,hb,d0⟩:=HH.out.at (Below.refl _ _) k hkn
    subst ea;obtain⟨z,hzz⟩:∃z,r.getD k 0=z:=⟨_,rfl⟩;have HZ:Hid (r.getD k 0=z):=hzz;rw[hzz]at d0;have i1:(0:Int)<=(k:Int):=(by omega);have i2:(k:Int)<(r.length:Int):=(by omega);have hw1:=zki z;have hw2:=zil z;clear hzz;cases hf:fdB z with
    | false =>
     have HF:Hid (r.all fdB=false):=zkd hkn (by rw[HZ.out];exact hf);rw[hf]at hw2;clear hf HZ HOK;go_wp2;go_ret;exact⟨zaa HF.out.symm,rfl⟩
    | true =>
     have zb5:Hid (∀j,j<k+1->fdB (r.getD j 0)=true):=zb6 HOK.out (by rw[HZ.out];exact hf);rw[hf]at hw2;clear hf HZ HOK;go_wp2;go_roundw
     case rel=>exact⟨k+1,by omega,by go_num,zb5.out,trivial⟩
     case measure=>simp[intOf];omega
  . obtain rfl:k=r.length:=by omega
    have HF:Hid (r.all fdB=true):=zgw HOK.out;have g1:¬(r.length:Int)<(r.length:Int):=(by omega);clear HOK;go_wp2;go_ret;exact⟨zaa HF.out.symm,rfl⟩
theorem zwv(w:World)(x y:Int)(hx:I64 x)(hy:I64 y):Ri (w.alloc (.cells #[.int .i64 x,.int .i64 y] 3)) (some ⟨w.heap.size,0,none⟩) 2 [x,y]:=by
 have hN:=heap_alloc_new w (.cells #[.int .i64 x,.int .i64 y] 3);refine⟨fun z hz=>?_,qE _,by unfold maxLen;omega,.inr ⟨w.heap.size,0,rfl,by simp,fun i hi=>?_⟩⟩
 . simp at hz
   rcases hz with rfl|rfl
   . exact hx
   . exact hy
 . match i,hi with
   | 0,_=>exact cell_of_row _ w.heap.size 0 _ _ (0,0) hN
   | 1,_=>exact cell_of_row _ w.heap.size 1 _ _ (0,0) hN
theorem zqm(x y:Int):[x,y].all fdB=(fdB x&&fdB y):=by simp
theorem zmk(S:Nat->Prop)(a:OA)(cap:Nat)(l:List Pa)(w:World)(h:Gr PaE S w a cap l) :
 Calls Tryz.prog 156 #[.slice a l.length cap] w fun e w'=>e=.returned (.bool (decide (l.length<=6)&&l.all paF))/\Below w.heap.size w w':=by
 have k2:=h.lenB;have HH:Hid (Gr PaE S w a cap l):=h;clear h;by_cases h6:6<l.length
 . have HF:Hid ((decide (l.length<=6)&&l.all paF)=false):=by show _=_;rw[qB (by omega),Bool.false_and]
   have g1:(6:Int)<(l.length:Int):=(by omega);go_enter func156,ntmps156;go_wp2;go_ret;exact⟨zaa HF.out.symm,Below.refl _ _⟩
 have HL:Hid ((decide (l.length<=6)&&l.all paF)=l.all paF):=by show _=_;rw[qC (by omega),Bool.true_and]
 have g1:¬(6:Int)<(l.length:Int):=by omega
 go_enter func156,ntmps156;go_wp2
 go_loopw [10] (fun i wr=>∃k:Nat,k<=l.length/\i=.int .i64 k/\(∀j,j<k->paF (l.getD j Pa.none)=true)/\Below w.heap.size w wr) (fun i _=>l.length-(intOf i).toNat)
 case atStart=>exact⟨0,qD _,rfl,(fun j hj=>by omega),Below.refl _ _⟩
 case round =>
  obtain⟨k,hk,rfl,hok,hB⟩:=hrel;have HOK:Hid (∀j,j<k->paF (l.getD j Pa.none)=true):=hok;clear hok;by_cases hkn:k<l.length
  . obtain⟨b,off,ea,hb,⟨w0,w1,w2⟩,d0,d1,d2⟩:=HH.out.pa hB k hkn
    subst ea;have HN:Hid (paF (l.getD k Pa.none)=false->(decide (l.length<=6)&&l.all paF)=false):=fun hf=>by rw[HL.out];exact zkd hkn hf
    have HY:Hid (paF (l.getD k Pa.none)=true->∀j,j<k+1->paF (l.getD j Pa.none)=true):=fun hf=>zb6 HOK.out hf;generalize l.getD k Pa.none=p at *;obtain⟨g,x,y⟩:=p;dsimp only at w0 w1 w2 d0 d1 d2;have i1:(0:Int)<=(k:Int):=(by omega);have i2:(k:Int)<(l.length:Int):=(by omega);clear HOK;by_cases hg0:g<0
    . have HF:Hid ((decide (l.length<=6)&&l.all paF)=false):=HN.out (by unfold paF;rw[qB (by show ¬(0<=g/\g<=65535);omega),Bool.false_and])
      have g2:decide (g<0)=true:=qC hg0;clear HN HY;go_wp2;go_ret;exact⟨zaa HF.out.symm,hB.alloc hB.size _⟩
    have g2:decide (g<0)=false:=qB hg0;by_cases hg1:65535<g
    . have HF:Hid ((decide (l.length<=6)&&l.all paF)=false):=HN.out (by unfold paF;rw[qB (by show ¬(0<=g/\g<=65535);omega),Bool.false_and])
      have g3:decide (65535<g)=true:=qC hg1;clear HN HY;go_wp2;go_ret;exact⟨zaa HF.out.symm,hB.alloc hB.size _⟩
    have g3:decide (65535<g)=false:=qB hg1;have hpf:paF ⟨g,x,y⟩=(fdB x&&fdB y):=(by unfold paF;rw[qC (by show 0<=g/\g<=65535;omega),Bool.true_and]);rw[hpf]at HN HY;obtain⟨W,hW⟩:∃W,W=(wr.alloc (.cells #[.int .i64 g,.int .i64 x,.int .i64 y] 54)).alloc (.cells #[.int .i64 x,.int .i64 y] 3):=⟨_,rfl⟩;have hri:=zwv (wr.alloc (.cells #[.int .i64 g,.int .i64 x,.int .i64 y] 54)) x y w1 w2;have hsz:(wr.alloc (.cells #[.int .i64 g,.int .i64 x,.int .i64 y] 54)).heap.size=wr.heap.size+1:=(by simp);rw[<-hW,hsz]at hri;have hbW:Below w.heap.size w W:=(by rw[hW];exact(hB.alloc hB.size _).alloc (by simp;have:=hB.size;omega) _);have hfo:=zda _ _ _ _ hri;rw[zqm]at hfo;simp only[List.length_cons,List.length_nil,Nat.zero_add]at hfo;clear hpf hri hsz;cases hf:(fdB x&&fdB y) with
    | false =>
     have HF:Hid ((decide (l.length<=6)&&l.all paF)=false):=HN.out hf;rw[hf]at hfo;clear hf HN HY;go_wp2_with fail
     rw[<-hW];clear hW;refine hfo.mono ?_;rintro e u1 ⟨rfl,rfl⟩;clear hfo;go_wp2;go_ret;exact⟨zaa HF.out.symm,hbW⟩
    | true =>
     have zb5:Hid (∀j,j<k+1->paF (l.getD j Pa.none)=true):=HY.out hf;rw[hf]at hfo;clear hf HN HY;go_wp2_with fail
     rw[<-hW];clear hW;refine hfo.mono ?_;rintro e u1 ⟨rfl,rfl⟩;clear hfo;go_wp2;go_roundw
     case rel=>exact⟨k+1,by omega,by go_num,zb5.out,hbW⟩
     case measure=>simp[intOf];omega
  . obtain rfl:k=l.length:=by omega
    have HF:Hid ((decide (l.length<=6)&&l.all paF)=true):=(by show _=_;rw[HL.out];exact zgw HOK.out);have g1:¬(l.length:Int)<(l.length:Int):=(by omega);clear HOK;go_wp2;go_ret;exact⟨zaa HF.out.symm,hB⟩
theorem zan{cs:List (List Pn)}{k:Nat}(hk:k<cs.length):((cs.take (k+1)).flatten).length=((cs.take k).flatten).length+(cs.getD k []).length:=by
 rw[zak (d:=[]) hk,List.flatten_append,qA,List.flatten_singleton]
theorem zav(cs:List (List Pn))(k:Nat):((cs.take k).flatten).length<=cs.flatten.length:=by
 conv=>rhs;rw[<-List.take_append_drop k cs,List.flatten_append,qA]
 omega
def coF(cs:List (List Pn)):Bool:=decide (cs.length<=10)&&(cs.all (fun c=>decide (0<c.length))&&(decide (cs.flatten.length<=80)&&cs.flatten.all pnF))
theorem z3j{cs:List (List Pn)}(h:¬(cs.length<=10/\(∀c∈cs,0<c.length)/\cs.flatten.length<=80/\∀c∈cs,c.all pnF=true)):coF cs=false:=by
 rw[Bool.eq_false_iff];intro e;unfold coF at e;simp only[Bool.and_eq_true,qM,List.all_eq_true]at e;refine h ⟨e.1,e.2.1,e.2.2.1,fun c hc=>List.all_eq_true.2 fun p hp=>e.2.2.2 p (List.mem_flatten.2 ⟨c,hc,hp⟩)⟩
theorem z0n{cs:List (List Pn)}(h1:cs.length<=10)(h2:∀j,j<cs.length->0<(cs.getD j []).length/\(cs.getD j []).all pnF=true)(h3:cs.flatten.length<=80):coF cs=true:=by
 unfold coF;simp only[Bool.and_eq_true,qM,List.all_eq_true];refine⟨h1,fun c hc=>(zfw (p:=fun c=>0<c.length/\c.all pnF=true) h2 c hc).1,h3,fun p hp=>?_⟩;obtain⟨c,hc,hpc⟩:=List.mem_flatten.1 hp;exact List.all_eq_true.1 (zfw (p:=fun c=>0<c.length/\c.all pnF=true) h2 c hc).2 p hpc
theorem zp1(S:Nat->Prop)(a:OA)(cap:Nat)(cs:List (List Pn))(w:World)(h:Gr PnE.row S w a cap cs) :
 Calls Tryz.prog 155 #[.slice a cs.length cap] w fun e w'=>e=.returned (.bool (coF cs))/\Below w.heap.size w w':=by
 have k2:=h.lenB;have HH:Hid (Gr PnE.row S w a cap cs):=h;have HNO:Hid (¬(cs.length<=10/\(∀c∈cs,0<c.length)/\cs.flatten.length<=80/\∀c∈cs,c.all pnF=true)->coF cs=false):=z3j;clear h;by_cases h10:10<cs.length
 . have HF:Hid (coF cs=false):=HNO.out (fun h=>by omega)
   have g1:(10:Int)<(cs.length:Int):=(by omega);go_enter func155,ntmps155;go_wp2;go_ret;exact⟨zaa HF.out.symm,Below.refl _ _⟩
 have g1:¬(10:Int)<(cs.length:Int):=by omega
 go_enter func155,ntmps155;go_wp2
 go_loopw [3,13] (fun n i wr=>∃k m:Nat,k<=cs.length/\i=.int .i64 k/\n=.int .i64 (m:Int)/\m=((cs.take k).flatten).length/\m<=80/\(∀j,j<k->0<(cs.getD j []).length/\(cs.getD j []).all pnF=true)/\Below w.heap.size w wr) (fun _ i _=>cs.length-(intOf i).toNat)
 case atStart=>exact⟨0,0,qD _,rfl,rfl,rfl,by omega,(fun j hj=>by omega),Below.refl _ _⟩
 case round =>
  obtain⟨k,m,hk,rfl,rfl,hm,hm80,hok,hB⟩:=hrel;have HOK:Hid (∀j,j<k->0<(cs.getD j []).length/\(cs.getD j []).all pnF=true):=hok;have HM:Hid (m=((cs.take k).flatten).length):=hm;clear hok hm;by_cases hkn:k<cs.length
  . obtain⟨b,off,a1,c1,ea,hb,d0,hrow,hlb,_⟩:=HH.out.rw hB k hkn
    subst ea;have zc5:=zla hkn;have hst:=zan hkn;have hle:=zav cs (k+1);rw[<-HM.out]at hst;have HX:Hid (∀c,cs.getD k []=c->0<c.length->c.all pnF=true->∀j,j<k+1->0<(cs.getD j []).length/\(cs.getD j []).all pnF=true):=fun c hc h1 h2=>zb6 HOK.out (by rw[hc];exact⟨h1,h2⟩);obtain⟨c,hc⟩:∃c,cs.getD k []=c:=⟨_,rfl⟩;replace HX:=HX.out c hc;rw[hc]at d0 hrow hlb zc5 hst;have HM2:Hid (m+c.length=((cs.take (k+1)).flatten).length):=hst.symm;have HLE:Hid (m+c.length<=cs.flatten.length):=(by show _<=_;omega);have HN:Hid (¬(0<c.length/\m+c.length<=80/\c.all pnF=true)->coF cs=false):=fun hn=>HNO.out (fun hy=>hn ⟨hy.2.1 c zc5,by have:=HLE.out;omega,hy.2.2.2 c zc5⟩);have HX:Hid (0<c.length->c.all pnF=true->∀j,j<k+1->0<(cs.getD j []).length/\(cs.getD j []).all pnF=true):=HX;have i1:(0:Int)<=(k:Int):=(by omega);have i2:(k:Int)<(cs.length:Int):=(by omega);clear hc zc5 hst hle HOK HM HLE;by_cases h0:c.length=0
    . have HF:Hid (coF cs=false):=HN.out (fun h=>by omega)
      have g2:((c.length:Int)==0)=true:=(by simp[h0]);clear HN HX HM2 hrow h0;go_wp2;go_ret;exact⟨zaa HF.out.symm,hB⟩
    have g2:((c.length:Int)==0)=false:=(by simp;intro e;rw[e]at h0;exact h0 rfl);by_cases h80:80<m+c.length
    . have HF:Hid (coF cs=false):=HN.out (fun h=>by omega)
      have g3:decide ((80:Int)<(m:Int)+(c.length:Int))=true:=qC (by omega);clear HN HX HM2 hrow h0;go_wp2;go_ret;exact⟨zaa HF.out.symm,hB⟩
    have g3:decide ((80:Int)<(m:Int)+(c.length:Int))=false:=qB (by omega);have HP:Hid (0<c.length):=(by show _<_;omega);have hcl:c.length<=80:=(by omega);have HRW:Hid (Gr PnE S wr a1 c1 c):=hrow;have HBW:Hid (Below w.heap.size w wr):=hB;clear hrow h0;go_wp2;obtain⟨wo,rfl⟩:∃wo,wo=wr:=⟨_,rfl⟩;clear d0 hB
    go_loopw [30] (fun i wr=>∃t:Nat,t<=c.length/\i=.int .i64 t/\(∀j,j<t->pnF (c.getD j Pn.none)=true)/\Below wo.heap.size wo wr) (fun i _=>c.length-(intOf i).toNat)
    case atStart=>exact⟨0,qD _,rfl,(fun j hj=>by omega),Below.refl _ _⟩
    case round =>
     obtain⟨t,ht,rfl,hok,hB⟩:=hrel;have HOK:Hid (∀j,j<t->pnF (c.getD j Pn.none)=true):=hok;have hBW:=HBW.out.trans (hB.mono HBW.out.size);clear hok;by_cases htn:t<c.length
     . obtain⟨b2,o2,eb,hb2,⟨w0,w1⟩,q0,q1,q2⟩:=HRW.out.pn hB t htn
       subst eb;have HN2:Hid (pnF (c.getD t Pn.none)=false->coF cs=false):=fun hf=>HN.out (fun h=>by have:=zkd htn hf;rw[h.2.2]at this;cases this);have HY2:Hid (pnF (c.getD t Pn.none)=true->∀j,j<t+1->pnF (c.getD j Pn.none)=true):=fun hf=>zb6 HOK.out hf;generalize c.getD t Pn.none=p at *;obtain⟨x,y,on⟩:=p;dsimp only at w0 w1 q0 q1 q2;have hpf:pnF ⟨x,y,on⟩=(fdB x&&fdB y):=rfl;rw[hpf]at HN2 HY2;have j1:(0:Int)<=(t:Int):=(by omega);have j2:(t:Int)<(c.length:Int):=(by omega);obtain⟨W,hW⟩:∃W,W=(wr.alloc (.cells #[.int .i64 x,.int .i64 y,.bool on] 65)).alloc (.cells #[.int .i64 x,.int .i64 y] 3):=⟨_,rfl⟩;have hri:=zwv (wr.alloc (.cells #[.int .i64 x,.int .i64 y,.bool on] 65)) x y w0 w1;have hsz:(wr.alloc (.cells #[.int .i64 x,.int .i64 y,.bool on] 65)).heap.size=wr.heap.size+1:=(by simp);rw[<-hW,hsz]at hri;have hbX:Below w.heap.size w W:=(by rw[hW];exact(hBW.alloc hBW.size _).alloc (by simp;have:=hBW.size;omega) _);have hbY:Below wo.heap.size wo W:=(by rw[hW];exact(hB.alloc hB.size _).alloc (by simp;have:=hB.size;omega) _);have hfo:=zda _ _ _ _ hri;rw[zqm]at hfo;simp only[List.length_cons,List.length_nil,Nat.zero_add]at hfo;clear hpf hri hsz HOK;cases hf:(fdB x&&fdB y) with
       | false =>
        have HF:Hid (coF cs=false):=HN2.out hf;rw[hf]at hfo;clear hf HN2 HY2;go_wp2_with fail
        rw[<-hW];clear hW;refine hfo.mono ?_;rintro e u1 ⟨rfl,rfl⟩;clear hfo;go_wp2;go_ret;exact⟨zaa HF.out.symm,hbX⟩
       | true =>
        have zb5:Hid (∀j,j<t+1->pnF (c.getD j Pn.none)=true):=HY2.out hf;rw[hf]at hfo;clear hf HN2 HY2;go_wp2_with fail
        rw[<-hW];clear hW;refine hfo.mono ?_;rintro e u1 ⟨rfl,rfl⟩;clear hfo;go_wp2;go_roundw
        case rel=>exact⟨t+1,by omega,by go_num,zb5.out,hbY⟩
        case measure=>simp[intOf];omega
     . obtain rfl:t=c.length:=by omega
       have zp9:Hid (∀j,j<k+1->0<(cs.getD j []).length/\(cs.getD j []).all pnF=true):=HX.out HP.out (zgw HOK.out);have j2:¬(c.length:Int)<(c.length:Int):=(by omega);clear HOK HX;go_wp2;go_roundw
       case rel=>exact⟨k+1,m+c.length,by omega,by go_num,by go_num,HM2.out,by omega,zp9.out,hBW⟩
       case measure=>simp[intOf];omega
  . obtain rfl:k=cs.length:=by omega
    have HF:Hid (coF cs=true):=z0n (by omega) HOK.out (by have:=HM.out;rw[List.take_length]at this;omega);have g4:¬(cs.length:Int)<(cs.length:Int):=(by omega);clear HOK HM;go_wp2;go_ret;exact⟨zaa HF.out.symm,hB⟩
