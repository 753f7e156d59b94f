import Derived.Test.YtkmcodofnckdmaaGreatZK13
set_option maxHeartbeats 4000000
set_option maxRecDepth 100000
set_option linter.unusedSimpArgs false
set_option linter.unusedVariables false
namespace Go.Proofs.YtkmcodofnckdmaaGreat
open Go.RowKit Go.Maps
def slZ:Value:=.slice none 0 0
theorem zna(n:Nat):∀c∈(Builtin.zeroCells slZ.cells n).toList,isI c=false:=by
 intro c hc
 simp only[Builtin.zeroCells,slZ,Value.cells,Array.toList_map,List.mem_map]at hc
 obtain⟨j,_,rfl⟩:=hc
 show isI ((#[Value.slice none 0 0])[j%1]!)=false
 rw[Nat.mod_one]
 rfl
theorem zqg{P:Program}{w w':World}{v v':Value}(base:Nat)(t ty e:TypeId)(i:TypeInfo)(ht:P.underlying t=some (.slice e))(hi:P.info? e=some i)(hz:i.zero=some slZ)(hsize:i.size=1)(hby:i.bytes=24)
    (n:Nat) (xs:LV) (hown:w.ownsRow base e 1 v n xs) (hn:∀g,v.ownBlock=some g->NoI w g)
    (a:Addr) (m pc:Nat) (news:LV) (hm:0<m) (hl:news.length=m*1) (hnews:∀j u,news[j]?=some u->w.cell? (a.add j)=some u) (h1:∀u∈news,isI u=false/\u.oneCell'=true) (hlen:n+m<=1000000)
    (hr:(Builtin.append_ #[t,t] ty #[v,.slice (some a) m pc]).run P w=.ok v' w'):∀g,v'.ownBlock=some g->NoI w' g:=by
 have hl':news.length=m*i.size:=by rw[hsize,hl]
 have zpp:∀u∈news,isI u=false:=fun u hu=>(h1 u hu).1
 rcases hown.2 with ⟨rfl,rfl⟩|⟨g,cap,cur,rfl,hbg,hg,hnc,hcm,hcs,zw6⟩
 . have h2:=run_append_nil (P:=P) w t ty e i slZ ht hi hz a m pc news hl' hnews hm (by omega) (by rw[hby];omega)
   rw[h2]at hr;injection hr with e1 e2;subst e1 e2
   intro g hg
   simp[Value.ownBlock]at hg
   subst hg
   refine NoI.of (heap_alloc_new w.drew _) (fun c hc=>?_)
   rw[Array.toList_append,List.mem_append]at hc
   rcases hc with hc|hc
   . exact zpp c (by simpa using hc)
   . exact zna _ c hc
 . have zuw:=(hn g rfl).mem hg
   have hxs:∀c∈xs,isI c=false:=fun c hc=>zuw c (by rw[<-zw6]at hc;exact List.mem_of_mem_take hc)
   by_cases hroom:n+m<=cap
   . have z3o:n*i.size+news.length<=cur.size:=by rw[hsize,hl,hcs];omega
     have h2:=run_append_room (P:=P) w t ty e i ht hi g n cap cur hg a m pc news hl' hnews (fun u hu=>(h1 u hu).2) hroom z3o
     rw[h2]at hr;injection hr with e1 e2;subst e1 e2
     intro g' hg'
     simp[Value.ownBlock]at hg'
     subst hg'
     refine NoI.of (setRow_heap w g cur _ e _ hg) (fun c hc=>?_)
     simp only[List.mem_append]at hc
     rcases hc with (hc|hc)|hc
     . exact zuw c (List.mem_of_mem_take hc)
     . exact zpp c hc
     . exact zuw c (List.mem_of_mem_drop hc)
   . have holds:∀j u,xs[j]?=some u->w.cell? ((⟨g,0,none⟩:Addr).add j)=some u:=hown.cells (g:=g) rfl
     have h2:=run_append_grow (P:=P) w t ty e i slZ ht hi hz ⟨g,0,none⟩ n cap xs (by rw[hsize];exact hown.1) holds a m pc news hl' hnews (by omega) (by omega) (growslice_fits (by omega) (by rw[hby];omega))
     rw[h2]at hr;injection hr with e1 e2;subst e1 e2
     intro g' hg'
     simp[Value.ownBlock]at hg'
     subst hg'
     refine NoI.of (heap_alloc_new w.drew _) (fun c hc=>?_)
     rw[Array.toList_append,Array.toList_append,List.mem_append,List.mem_append]at hc
     rcases hc with (hc|hc)|hc
     . exact hxs c (by simpa using hc)
     . exact zpp c (by simpa using hc)
     . exact zna _ c hc
theorem zw4:(Tryz.prog.info? 173).map (fun i=>(i.zero,i.size,i.bytes))=some (some slZ,1,24):=by kernel_rfl
def Kn(B:Nat->Prop)(w w':World):Prop:=Keep (fun k=>k<w.heap.size/\¬(B k/\NoI w k)) w w'
theorem Kn.size{B:Nat->Prop}{w w':World}(h:Kn B w w'):w.heap.size<=w'.heap.size:=Keep.size h
theorem Kn.of{B:Nat->Prop}{w w':World}(h:Below w.heap.size w w'):Kn B w w':=Keep.of_below h (fun k hk=>hk.1)
theorem Kn.refl(B:Nat->Prop)(w:World):Kn B w w:=Keep.refl _ _
theorem NoI.same{w w':World}{g:Nat}(h:w'.heap[g]?=w.heap[g]?):NoI w' g↔NoI w g:=by
 constructor
 . intro k j v hv
   rw[<-World.cell?_of_block (w:=w) (a:=⟨g,j,none⟩) h]at hv
   exact k j v hv
 . intro k j v hv
   rw[World.cell?_of_block (w:=w) (a:=⟨g,j,none⟩) h]at hv
   exact k j v hv
theorem Kn.trans{B C:Nat->Prop}{a b c:World}(h:Kn B a b)(k:Kn C b c)(hC:∀i,C i->i<a.heap.size->B i):Kn B a c :=
 Keep.trans h (Keep.mono k (fun i hi=>⟨Nat.lt_of_lt_of_le hi.1 h.size,fun hc=>hi.2 ⟨hC i hc.1 hi.1,(NoI.same (Keep.block h i hi)).1 hc.2⟩⟩))
theorem Kn.below{B:Nat->Prop}{n:Nat}{w w':World}(h:Kn B w w')(hn:n<=w.heap.size)(hB:∀k,B k->n<=k):Below n w w':=Keep.below h (fun k hk=>⟨by omega,fun hc=>by have:=hB k hc.1;omega⟩)
theorem Kn.block{B:Nat->Prop}{w w':World}(h:Kn B w w'){k:Nat}(h1:k<w.heap.size)(h2:¬B k):w'.heap[k]?=w.heap[k]?:=Keep.block h k ⟨h1,fun hc=>h2 hc.1⟩
theorem Kn.int{B:Nat->Prop}{w w':World}(h:Kn B w w'){k:Nat}(h1:k<w.heap.size)(h2:¬NoI w k):w'.heap[k]?=w.heap[k]?:=Keep.block h k ⟨h1,fun hc=>h2 hc.2⟩
theorem Kn.grown{B:Nat->Prop}{w w':World}{r:Option Nat}(hg:w.grownBy w' r)(hr:∀k,r=some k->B k/\NoI w k):Kn B w w':=⟨hg.os,hg.tape,hg.output,hg.size,fun k hk=>hg.block k hk.1 (fun e=>hk.2 (hr k e.symm))⟩
theorem Kn.set{B:Nat->Prop}{w:World}{g:Nat}(h:B g/\NoI w g)(j:Nat)(x:Value):Kn B w (w.setCell ⟨g,j,none⟩ x) :=
 Keep.setCell (Keep.refl _ _) (p:=⟨g,j,none⟩) (fun hc=>hc.2 h) x
theorem Rd.kn{B:Nat->Prop}{w w':World}{a:OA}{cap:Nat}{xs:LN}(h:Rd w a cap xs)(hk:Kn B w w'):Rd w' a cap xs:=by
 obtain⟨h1,h2,h3,h5,h4⟩:=h
 refine⟨h1,h2,h3,h5,?_⟩
 rcases h4 with h4|⟨b,off,e,hb1,hc⟩
 . exact .inl h4
 . by_cases h0:xs=[]
   . exact .inl h0
   . have hl:0<xs.length:=List.length_pos_iff.2 h0
     have hn:¬NoI w b:=by
      intro hn
      have:=hn _ _ (hc 0 hl)
      cases this
     exact .inr ⟨b,off,e,Nat.lt_of_lt_of_le hb1 hk.size,fun i hi=>(World.cell?_of_block (w:=w) (a:=⟨b,off+i,none⟩) (hk.int hb1 hn)).trans (hc i hi)⟩
theorem Fr.kn{B:Nat->Prop}{w w':World}{v:Value}{k:Nat}{q:Rat}(h:Fr w v k q)(hk:Kn B w w'):Fr w' v k q:=by
 obtain⟨n,xs,ys,⟨a,c,a',c',rfl,h1,h2⟩,h3⟩:=h
 exact⟨n,xs,ys,⟨a,c,a',c',rfl,h1.kn hk,h2.kn hk⟩,h3⟩
theorem Rz.kn{B:Nat->Prop}{w w':World}{a:OA}{cap k:Nat}{qs:List Rat}(h:Rz w a cap k qs)(hk:Kn B w w')(hB:∀b o,a=some ⟨b,o,none⟩->¬B b):Rz w' a cap k qs:=by
 refine⟨h.1,h.2.1,fun i hi=>?_⟩
 obtain⟨b,off,x,y,z,e,hb,c0,c1,c2,hF⟩:=h.2.2 i hi
 have hbl:=hk.block hb (hB b off e)
 exact⟨b,off,x,y,z,e,Nat.lt_of_lt_of_le hb hk.size,(World.cell?_of_block (w:=w) (a:=⟨b,off+i*3,none⟩) hbl).trans c0,(World.cell?_of_block (w:=w) (a:=⟨b,off+i*3+1,none⟩) hbl).trans c1,(World.cell?_of_block (w:=w) (a:=⟨b,off+i*3+2,none⟩) hbl).trans c2,hF.kn hk⟩
theorem Rf.kn{B:Nat->Prop}{w w':World}{a:OA}{cap k:Nat}{qs:List Rat}(h:Rf w a cap k qs)(hk:Kn B w w')(hB:∀b o,a=some ⟨b,o,none⟩->¬B b):Rf w' a cap k qs:=⟨h.1.kn hk hB,h.2⟩
theorem Ro.noi{T:TypeId}{base:Nat}{w:World}{v:Value}{k:Nat}{qs:List Rat}(h:Ro T base w v k qs):∀g,v.ownBlock=some g->NoI w g:=by
 obtain⟨vs,h3,hnI,h4⟩:=h
 exact hnI
theorem Ro.kn{B:Nat->Prop}{T:TypeId}{base:Nat}{w w':World}{v:Value}{k:Nat}{qs:List Rat}(h:Ro T base w v k qs)(hk:Kn B w w')(hB:∀g,v.ownBlock=some g->¬B g):Ro T base w' v k qs:=by
 have hlo:=fun g hg=>(h.lo (g:=g) hg).2
 obtain⟨vs,h3,hnI,h4⟩:=h
 refine⟨vs,⟨h3.1,?_⟩,fun g e=>?_,fun i hi=>?_⟩
 . rcases h3.2 with h0|⟨g,cap',cur,k1,k2,k3,k4⟩
   . exact .inl h0
   . exact .inr ⟨g,cap',cur,k1,k2,(hk.block (Array.getElem?_eq_some_iff.1 k3).1 (hB g (by rw[k1];rfl))).trans k3,k4⟩
 . exact(NoI.same (hk.block (hlo g e) (hB g e))).2 (hnI g e)
 . obtain⟨x,y,z,k0,k1,k2,k3⟩:=h4 i hi
   exact⟨x,y,z,k0,k1,k2,k3.kn hk⟩
theorem Bk.kn{B:Nat->Prop}{t:TypeId}{w w':World}{g:Nat}{cs:LV}(h:Bk t w g cs)(hk:Kn B w w')(hB:¬B g):Bk t w' g cs:=(hk.block h.lt hB).trans h
def Rr(B:Nat->Prop)(w:World)(v:Value)(K:Nat)(T:List (List Rat)):Prop :=
 ∃vs:LV,w.ownsRow 0 173 1 v T.length vs/\(∀g,v.ownBlock=some g->B g/\NoI w g) /\
  (∀i,i<T.length->Ro 125 0 w (vs.getD i nilV) K (T.getD i [])/\∀g,(vs.getD i nilV).ownBlock=some g->B g/\v.ownBlock≠some g) /\
  ∀i j g,i<T.length->j<T.length->i≠j->(vs.getD i nilV).ownBlock=some g->(vs.getD j nilV).ownBlock≠some g
theorem Rr.nil(B:Nat->Prop)(w:World)(K:Nat):Rr B w (.slice none 0 0) K []:=⟨[],World.ownsRow_nil w 0 _ _,(fun g e=>by cases e),(fun i hi=>by simp at hi),(fun i j g hi=>by simp at hi)⟩
theorem z4f{C B:Nat->Prop}{w w':World}{t:TypeId}{sz n:Nat}{v:Value}{vs:LV}(h3:w.ownsRow 0 t sz v n vs)(hk:Kn B w w')(hd:∀g,v.ownBlock=some g->¬B g):w'.ownsRow 0 t sz v n vs:=by
 refine⟨h3.1,?_⟩
 rcases h3.2 with h0|⟨g,cap',cur,k1,k2,k3,k4⟩
 . exact .inl h0
 . exact .inr ⟨g,cap',cur,k1,k2,(hk.block (Array.getElem?_eq_some_iff.1 k3).1 (hd g (by rw[k1];rfl))).trans k3,k4⟩
theorem Rr.kn{C B:Nat->Prop}{w w':World}{v:Value}{K:Nat}{T:List (List Rat)}(h:Rr C w v K T)(hk:Kn B w w')(hd:∀k,C k->¬B k):Rr C w' v K T:=by
 obtain⟨vs,h3,h4,h5,h6⟩:=h
 refine⟨vs,z4f (C:=C) h3 hk (fun g e=>hd g (h4 g e).1),fun g e=>⟨(h4 g e).1,(NoI.same (hk.block (World.ownsRow.lt h3 g e).2 (hd g (h4 g e).1))).2 (h4 g e).2⟩,fun i hi=>⟨(h5 i hi).1.kn hk (fun g e=>hd g ((h5 i hi).2 g e).1),(h5 i hi).2⟩,h6⟩
theorem Rr.below{C:Nat->Prop}{w w':World}{v:Value}{K:Nat}{T:List (List Rat)}(h:Rr C w v K T)(hb:Below w.heap.size w w'):Rr C w' v K T:=h.kn (Kn.of (B:=fun _=>False) hb) (fun _ _ h=>h)
theorem Rr.mono{B C:Nat->Prop}{w:World}{v:Value}{K:Nat}{T:List (List Rat)}(h:Rr B w v K T)(hC:∀k,B k->k<w.heap.size->C k):Rr C w v K T:=by
 obtain⟨vs,h3,h4,h5,h6⟩:=h
 refine⟨vs,h3,fun g e=>⟨hC g (h4 g e).1 (World.ownsRow.lt h3 g e).2,(h4 g e).2⟩,fun i hi=>⟨(h5 i hi).1,fun g e=>⟨hC g ((h5 i hi).2 g e).1 ((h5 i hi).1.lo e).2,((h5 i hi).2 g e).2⟩⟩,h6⟩
theorem Rr.slice{B:Nat->Prop}{w:World}{v:Value}{K:Nat}{T:List (List Rat)}(h:Rr B w v K T):∃a cap,v=.slice a T.length cap/\T.length<=cap/\cap<=maxLen:=by
 obtain⟨vs,h3,h4,h5,h6⟩:=h
 rcases h3.2 with ⟨h0,h1⟩|⟨g,cap',cur,k1,k2,k3,k4,k5,_⟩
 . exact⟨none,0,by rw[h1];exact h0,by omega,Nat.zero_le _⟩
 . exact⟨_,cap',k1,k4,k5⟩
theorem Rr.at{B:Nat->Prop}{w:World}{v:Value}{K:Nat}{T:List (List Rat)}(h:Rr B w v K T)(i:Nat)(hi:i<T.length) :
 ∃g cap u,v=.slice (some ⟨g,0,none⟩) T.length cap/\g<w.heap.size/\B g/\T.length<=cap/\cap<=maxLen/\w.cell? ⟨g,i,none⟩=some u/\w.frozen? ⟨g,i,none⟩=false/\Ro 125 0 w u K (T.getD i [])/\(∀b,u.ownBlock=some b->B b/\b≠g):=by
 obtain⟨vs,h3,h4,h5,h6⟩:=h
 rcases h3.2 with ⟨h0,h1⟩|⟨g,cap',cur,k1,k2,k3,k4,k5,k6,k7⟩
 . omega
 . have hvl:vs.length=T.length:=by have:=h3.1;omega
   have e:vs[i]?=some (vs.getD i nilV):=by rw[List.getD_eq_getElem?_getD,List.getElem?_eq_getElem (by omega)];rfl
   have hc:=h3.cells (g:=g) (by rw[k1];rfl) i _ e
   have zb1:(⟨g,0,none⟩:Addr).add i=⟨g,i,none⟩:=by unfold Addr.add;split <;> simp_all
   rw[zb1]at hc
   refine⟨g,cap',vs.getD i nilV,k1,(Array.getElem?_eq_some_iff.1 k3).1,(h4 g (by rw[k1];rfl)).1,k4,k5,hc,frozen_of_row w g i _ _ k3,(h5 i hi).1,fun b e1=>⟨((h5 i hi).2 b e1).1,fun e2=>((h5 i hi).2 b e1).2 (by rw[k1,e2];rfl)⟩⟩
theorem Rr.put{B C:Nat->Prop}{w w':World}{v:Value}{K:Nat}{T:List (List Rat)}(h:Rr B w v K T)(i:Nat)(hi:i<T.length){g cap:Nat}{u u':Value}{l':List Rat}(hv:v=.slice (some ⟨g,0,none⟩) T.length cap)(hc:w.cell? ⟨g,i,none⟩=some u)(hg:w.grownBy w' u.ownBlock)(hu:Ro 125 0 w' u' K l')(ho:u'.ownBlock=u.ownBlock\/u'.ownBlock=some w.heap.size)(zba:isI u'=false)(hBC:∀k,B k->C k)(hsz:C w.heap.size) :
 Rr C (w'.setCell ⟨g,i,none⟩ u') v K (T.set i l')/\Kn B w (w'.setCell ⟨g,i,none⟩ u'):=by
 obtain⟨vs,h3,h4,h5,h6⟩:=h
 have hvg:v.ownBlock=some g:=by rw[hv];rfl
 have hvl:vs.length=T.length:=by have:=h3.1;omega
 have e:vs[i]?=some (vs.getD i nilV):=by rw[List.getD_eq_getElem?_getD,List.getElem?_eq_getElem (by omega)];rfl
 have zb1:(⟨g,0,none⟩:Addr).add i=⟨g,i,none⟩:=by unfold Addr.add;split <;> simp_all
 have hc2:=h3.cells (g:=g) hvg i _ e
 rw[zb1,hc]at hc2
 have huv:u=vs.getD i nilV:=Option.some.inj hc2
 have hgl:=(World.ownsRow.lt h3 g hvg).2
 have huB:∀b,u.ownBlock=some b->B b/\b≠g:=fun b e1=>by
  rw[huv]at e1
  exact⟨((h5 i hi).2 b e1).1,fun e2=>((h5 i hi).2 b e1).2 (by rw[hvg,e2])⟩
 have hun:∀b,u.ownBlock=some b->NoI w b:=fun b e1=>(h5 i hi).1.noi b (by rw[<-huv];exact e1)
 have hgk:w'.heap[g]?=w.heap[g]?:=hg.block g hgl (fun e1=>(huB g e1.symm).2 rfl)
 have hng:NoI w' g:=(NoI.same hgk).2 (h4 g hvg).2
 have k1:Kn B w w':=Kn.grown hg (fun k e1=>⟨(huB k e1).1,hun k e1⟩)
 have k2:Kn (fun k=>k=g) w' (w'.setCell ⟨g,i,none⟩ u'):=Kn.set (B:=fun k=>k=g) ⟨rfl,hng⟩ i u'
 have k3:Kn B w (w'.setCell ⟨g,i,none⟩ u'):=k1.trans k2 (fun j hj _=>by rw[hj];exact(h4 g hvg).1)
 have kr:Kn (fun k=>some k=u.ownBlock) w w':=Kn.grown hg (fun k e1=>⟨e1.symm,hun k e1⟩)
 have hu'g:∀b,u'.ownBlock=some b->b≠g:=fun b e1=>by
  rcases ho with ho|ho
  . rw[ho]at e1;exact(huB b e1).2
  . rw[ho]at e1
    injection e1 with e1
    omega
 have zkq:(vs.set i u').getD i nilV=u':=by simp[List.getD,show i<vs.length by omega]
 have z3n:∀j,j≠i->(vs.set i u').getD j nilV=vs.getD j nilV:=fun j hj=>by simp[List.getD,List.getElem?_set_ne (fun e=>hj e.symm)]
 have tset:(T.set i l').getD i []=l':=by simp[List.getD,hi]
 have toth:∀j,j≠i->(T.set i l').getD j []=T.getD j []:=fun j hj=>by simp[List.getD,List.getElem?_set_ne (fun e=>hj e.symm)]
 have zpp:∀j b,j<T.length->j≠i->(vs.getD j nilV).ownBlock=some b->u'.ownBlock≠some b:=fun j b hj hji e1 e2=>by
  rcases ho with ho|ho
  . rw[ho,huv]at e2
    exact h6 j i b hj hi hji e1 e2
  . rw[ho]at e2
    injection e2 with e2
    have:=((h5 j hj).1.lo e1).2
    omega
 refine⟨⟨vs.set i u',⟨by rw[List.length_set,List.length_set];exact h3.1,?_⟩,fun b e1=>?_,fun j hj=>?_,fun j m b hj hm hjm e1=>?_⟩,k3⟩
 . rcases h3.2 with ⟨h0,h1⟩|⟨g',cap',cur,q1,q2,q3,q4,q5,q6,q7⟩
   . rw[h0]at hv;cases hv
   . rw[q1]at hvg
     have e1:some g'=some g:=hvg
     injection e1 with e1;subst e1
     have hst:=heap_setCell_same w' g' i cur _ u' (hgk.trans q3)
     refine .inr ⟨g',cap',_,by rw[List.length_set];exact q1,q2,hst,by rw[List.length_set];exact q4,q5,by simpa using q6,?_⟩
     rw[List.length_set,<-q7]
     simp[List.take_set]
 . have e2:=e1
   rw[hvg]at e2;injection e2 with e2;subst e2
   exact⟨hBC _ (h4 g hvg).1,fun j y hy=>by
    by_cases hji:j=i
    . subst hji
      have hcw:w'.cell? ⟨g,j,none⟩=some u:=(World.cell?_of_block (w:=w) (a:=⟨g,j,none⟩) hgk).trans hc
      rw[World.cell?_setCell_same w' ⟨g,j,none⟩ u' hcw]at hy
      injection hy with hy;rw[<-hy]
      exact zba
    . rw[World.cell?_setCell_other w' ⟨g,i,none⟩ ⟨g,j,none⟩ u' (fun e3=>hji (by injection e3 with _ e4 _;exact e4.symm))]at hy
      exact hng j y hy⟩
 . rw[List.length_set]at hj
   by_cases hji:j=i
   . subst hji
     rw[zkq,tset]
     refine⟨hu.kn k2 (fun b e1=>hu'g b e1),fun b e1=>⟨?_,fun e2=>hu'g b e1 (by rw[hvg]at e2;injection e2 with e2;exact e2.symm)⟩⟩
     rcases ho with ho|ho
     . rw[ho]at e1;exact hBC b (huB b e1).1
     . rw[ho]at e1
       injection e1 with e1;rw[<-e1]
       exact hsz
   . rw[z3n j hji,toth j hji]
     refine⟨((h5 j hj).1.kn kr (fun b e1 e2=>h6 j i b hj hi hji e1 (by rw[<-huv];exact e2.symm))).kn k2 (fun b e1 e2=>((h5 j hj).2 b e1).2 (by rw[hvg,e2])),fun b e1=>⟨hBC b ((h5 j hj).2 b e1).1,((h5 j hj).2 b e1).2⟩⟩
 . rw[List.length_set]at hj hm
   by_cases hji:j=i
   . subst hji
     rw[zkq]at e1
     rw[z3n m (fun x=>hjm x.symm)]
     intro e2
     exact zpp m b hm (fun x=>hjm x.symm) e2 e1
   . rw[z3n j hji]at e1
     by_cases hmi:m=i
     . subst hmi
       rw[zkq]
       exact zpp j b hj hji e1
     . rw[z3n m hmi]
       exact h6 j m b hj hm hjm e1
theorem zax{w:World}{o:Oper}{a:Act}{K':Act->World->Prop}{Q:Exit->Act->World->Prop}
    (s x:Operand) (ho:o.op=.call { callee:=.builtin .append,args:=#[s,x],argTypes:=#[230,230] })
    (B C:Nat->Prop) (v:Value) (K:Nat) (T:List (List Rat)) (hs:a.eval s=v) (h:Rr B w v K T) (g:Nat) (hx:a.eval x=.slice (some ⟨g,0,none⟩) 1 1) (u:Value) (l:List Rat) (c0:w.cell? ⟨g,0,none⟩=some u) (hu:Ro 125 0 w u K l) (zba:isI u=false/\u.oneCell'=true) (hd:∀b,u.ownBlock=some b->¬B b/\C b) (hBC:∀k,B k->C k) (hsz:C w.heap.size) (hlen:T.length+1<=1000000)
    (h':∀v' w',Rr C w' v' K (T++[l])->Kn B w w'->w.grownBy w' v.ownBlock->K' (a.put o.dst v') w'):o.wp Tryz.prog a w K' Q:=by
 obtain⟨vs,h3,h4,h5,h6⟩:=h
 obtain⟨i0,hi,hz0,hz1,hz2⟩:=info_parts zw4
 have hvl:vs.length=T.length:=by have:=h3.1;omega
 have hnews:∀j y,[u][j]?=some y->w.cell? ((⟨g,0,none⟩:Addr).add j)=some y:=by
  intro j y hj
  match j,hj with
  | 0,hj=>simp at hj;subst hj;simpa [Addr.add] using c0
 obtain⟨v',w',hr,k1,k2,_,k4⟩:=run_append_own_at (P:=Tryz.prog) w 0 230 o.type 173 i0 slZ 1 24 Tryz.underlying230 hi hz0 hz1 hz2 rfl (by decide) v T.length vs h3 ⟨g,0,none⟩ 1 1 [u] rfl hnews (fun y hy=>by rw[List.mem_singleton.1 hy];exact zba.2) (by unfold maxLen;omega) (by omega) (Nat.zero_le _)
 have hn':=zqg 0 230 o.type 173 i0 Tryz.underlying230 hi hz0 hz1 hz2 T.length vs h3 (fun b e=>(h4 b e).2) ⟨g,0,none⟩ 1 1 [u] (by decide) rfl hnews (fun y hy=>by rw[List.mem_singleton.1 hy];exact zba) hlen hr
 have kn:Kn B w w':=Kn.grown k2 (fun k e=>h4 k e)
 have kr:Kn (fun k=>some k=v.ownBlock) w w':=Kn.grown k2 (fun k e=>⟨e.symm,(h4 k e).2⟩)
 have hul:=fun b e=>(hu.lo (g:=b) e).2
 have z13:(vs++[u]).getD T.length nilV=u:=by simp[List.getD,<-hvl]
 have hfst:∀j,j<T.length->(vs++[u]).getD j nilV=vs.getD j nilV:=fun j hj=>by simp[List.getD,List.getElem?_append_left (show j<vs.length by omega)]
 have tlast:(T++[l]).getD T.length []=l:=by simp[List.getD]
 have tfst:∀j,j<T.length->(T++[l]).getD j []=T.getD j []:=fun j hj=>by simp[List.getD,List.getElem?_append_left hj]
 have hv'n:∀b,b<w.heap.size->v'.ownBlock=some b->v.ownBlock=some b:=fun b hb e=>by
  rcases k4 with k4|k4
  . rw[<-k4];exact e
  . rw[k4]at e
    injection e with e
    omega
 have hR:Rr C w' v' K (T++[l]):=by
  refine⟨vs++[u],by rw[List.length_append];exact k1,fun b e=>⟨?_,hn' b e⟩,fun j hj=>?_,fun j m b hj hm hjm e1=>?_⟩
  . rcases k4 with k4|k4
    . rw[k4]at e;exact hBC b (h4 b e).1
    . rw[k4]at e
      injection e with e;rw[<-e]
      exact hsz
  . by_cases hjt:j<T.length
    . rw[hfst j hjt,tfst j hjt]
      refine⟨(h5 j hjt).1.kn kr (fun b e e2=>((h5 j hjt).2 b e).2 e2.symm),fun b e=>⟨hBC b ((h5 j hjt).2 b e).1,fun e2=>((h5 j hjt).2 b e).2 (hv'n b ((h5 j hjt).1.lo e).2 e2)⟩⟩
    . obtain rfl:j=T.length:=by simp at hj;omega
      rw[z13,tlast]
      refine⟨hu.kn kn (fun b e=>(hd b e).1),fun b e=>⟨(hd b e).2,fun e2=>(hd b e).1 (h4 b (hv'n b (hul b e) e2)).1⟩⟩
  . have hj':j<T.length\/j=T.length:=by simp at hj;omega
    have hm':m<T.length\/m=T.length:=by simp at hm;omega
    rcases hj' with hj'|rfl
    . rw[hfst j hj']at e1
      rcases hm' with hm'|rfl
      . rw[hfst m hm']
        exact h6 j m b hj' hm' hjm e1
      . rw[z13]
        intro e2
        exact(hd b e2).1 ((h5 j hj').2 b e1).1
    . rw[z13]at e1
      rcases hm' with hm'|rfl
      . rw[hfst m hm']
        intro e2
        exact(hd b e1).1 ((h5 m hm').2 b e2).1
      . exact absurd rfl hjm
 unfold Oper.wp execOp
 simp only[ho,resolve,invoke,builtin,Sem.run_bind,Sem.run_pure,Result.andThen_ok,List.map_toArray,List.map_cons,List.map_nil,hs,hx,hr]
 exact h' v' w' hR kn k2
theorem Ro.one{w:World}{g k:Nat}{x y z:Value}{q:Rat}(h:Bk 125 w g [x,y,z])(hF:Fr w (.agg #[x,y,z]) k q):Ro 125 0 w (.slice (some ⟨g,0,none⟩) 1 1) k [q]:=by
 refine⟨[x,y,z],⟨rfl,.inr ⟨g,1,#[x,y,z],rfl,Nat.zero_le _,h,Nat.le_refl _,by unfold maxLen;omega,rfl,rfl⟩⟩,fun b e=>?_,fun i hi=>?_⟩
 . have e:some g=some b:=e
   injection e with e;subst e
   exact NoI.of h (fun c hc=>(hF.noI c (by simpa using hc)).1)
 . obtain rfl:i=0:=by simpa using hi
   exact⟨x,y,z,rfl,rfl,rfl,hF⟩
def riB(t:Te):Bool:=decide (0<=t.st)&&(decide (t.st<t.pk)&&(decide (t.pk<t.en)||(t.pk==16384&&t.en==16384)))
theorem zj7(t:Te)(w:World) :
 Calls Tryz.prog 198 #[.agg #[.int .i64 t.st,.int .i64 t.pk,.int .i64 t.en]] w fun e w'=>e=.returned (.bool (riB t))/\Below w.heap.size w w':=by
 obtain⟨st,pk,en⟩:=t
 simp only[riB]
 by_cases h1:0<=st
 . have g1:decide (0<=st)=true:=decide_eq_true h1
   rw[g1]
   by_cases h2:st<pk
   . have g2:decide (st<pk)=true:=decide_eq_true h2
     rw[g2]
     by_cases h3:pk<en
     . have g3:decide (pk<en)=true:=decide_eq_true h3
       rw[g3]
       go_enter Tryz.func198,Tryz.ntmps198
       go_wp2
       go_ret
       exact⟨zaa (by simp),al1 _⟩
     . have g3:decide (pk<en)=false:=decide_eq_false h3
       rw[g3]
       by_cases h4:pk=16384
       . have g4:(pk==16384)=true:=by simp[h4]
         rw[g4];clear h4
         go_enter Tryz.func198,Tryz.ntmps198
         go_wp2
         go_ret
         exact⟨zaa (by simp),al1 _⟩
       . have g4:(pk==16384)=false:=by simp[h4]
         rw[g4];clear h4
         go_enter Tryz.func198,Tryz.ntmps198
         go_wp2
         go_ret
         exact⟨zaa (by simp),al1 _⟩
   . have g2:decide (st<pk)=false:=decide_eq_false h2
     rw[g2]
     go_enter Tryz.func198,Tryz.ntmps198
     go_wp2
     go_ret
     exact⟨zaa (by simp),al1 _⟩
 . have g1:decide (0<=st)=false:=decide_eq_false h1
   rw[g1]
   go_enter Tryz.func198,Tryz.ntmps198
   go_wp2
   go_ret
   exact⟨zaa (by simp),al1 _⟩
theorem zo8(t:Te)(w:World)(h1:crd t.st=true)(h2:crd t.pk=true)(h3:crd t.en=true) :
 Calls Tryz.prog 199 #[.agg #[.int .i64 t.st,.int .i64 t.pk,.int .i64 t.en]] w fun e w'=>e=.returned (.agg #[.int .i64 (-t.en),.int .i64 (-t.pk),.int .i64 (-t.st)])/\Below w.heap.size w w':=by
 obtain⟨st,pk,en⟩:=t;rw[crdT]at h1 h2 h3
 dsimp only at *
 have k1:IntKind.i64.wrap (-en)=-en:=zbb (by omega) (by omega)
 have k2:IntKind.i64.wrap (-pk)=-pk:=zbb (by omega) (by omega)
 have k3:IntKind.i64.wrap (-st)=-st:=zbb (by omega) (by omega)
 go_enter Tryz.func199,Tryz.ntmps199
 go_wp2
 exact bodyPost_ret (v:=.agg #[.int .i64 (-en),.int .i64 (-pk),.int .i64 (-st)]) (by simp[results,Tryz.results199,go_sem]) rfl ⟨rfl,al2 _ _⟩
theorem zrq{t:Te}:riB t=true↔(0<=t.st/\t.st<t.pk/\(t.pk<t.en\/(t.pk=16384/\t.en=16384))):=by
 simp[riB]
theorem zz7{t:Te}(h1:crd t.st=true)(h2:crd t.pk=true)(h3:crd t.en=true)(h:t.pk<0):riB ⟨-t.en,-t.pk,-t.st⟩=tfB t:=by
 rw[crdT]at h1 h2 h3;rw[Bool.eq_iff_iff,zrq,zd3]
 unfold TfT
 dsimp only
 omega
theorem zz6{t:Te}(h1:crd t.st=true)(h2:crd t.pk=true)(h3:crd t.en=true)(h:¬t.pk<0)(hz:¬(t.st=0/\t.pk=0/\t.en=0)):riB t=tfB t:=by
 rw[crdT]at h1 h2 h3;rw[Bool.eq_iff_iff,zrq,zd3]
 unfold TfT
 omega
theorem zhx(t:Te)(w:World) :
 Calls Tryz.prog 154 #[.agg #[.int .i64 t.st,.int .i64 t.pk,.int .i64 t.en]] w fun e w'=>e=.returned (.bool (tfB t))/\Below w.heap.size w w':=by
 obtain⟨W,hW,X1,hbW⟩:∃W,W=w.alloc (.cells #[.int .i64 t.st,.int .i64 t.pk,.int .i64 t.en] 146)/\Box 146 W w.heap.size (.int .i64 t.st) (.int .i64 t.pk) (.int .i64 t.en)/\Below w.heap.size w W:=⟨_,rfl,Box.new _ _ _ _ _,al1 _⟩
 cases c1:crd t.st with
 | false =>
  have HF:Hid (tfB t=false):=zq5 (fun h=>by rw[crdT.2 h.1]at c1;cases c1)
  obtain⟨st,pk,en⟩:=t
  dsimp only at *
  go_enter Tryz.func154,Tryz.ntmps154
  go_wp2_with fail
  refine(zak st _).mono ?_
  rintro e u1 ⟨rfl,rfl⟩;rw[c1];go_wp2
  go_ret
  exact⟨zaa HF.out.symm,hW ▸ hbW⟩
 | true =>
  cases c2:crd t.pk with
  | false =>
   have HF:Hid (tfB t=false):=zq5 (fun h=>by rw[crdT.2 h.2.1]at c2;cases c2)
   obtain⟨st,pk,en⟩:=t
   dsimp only at *
   go_enter Tryz.func154,Tryz.ntmps154
   go_wp2_with fail
   refine(zak st _).mono ?_
   rintro e u1 ⟨rfl,rfl⟩;rw[c1]
   go_wp2_with fail
   refine(zak pk _).mono ?_
   rintro e u1 ⟨rfl,rfl⟩;rw[c2];go_wp2
   go_ret
   exact⟨zaa HF.out.symm,hW ▸ hbW⟩
  | true =>
   cases c3:crd t.en with
   | false =>
    have HF:Hid (tfB t=false):=zq5 (fun h=>by rw[crdT.2 h.2.2.1]at c3;cases c3)
    obtain⟨st,pk,en⟩:=t
    dsimp only at *
    go_enter Tryz.func154,Tryz.ntmps154
    go_wp2_with fail
    refine(zak st _).mono ?_
    rintro e u1 ⟨rfl,rfl⟩;rw[c1]
    go_wp2_with fail
    refine(zak pk _).mono ?_
    rintro e u1 ⟨rfl,rfl⟩;rw[c2]
    go_wp2_with fail
    refine(zak en _).mono ?_
    rintro e u1 ⟨rfl,rfl⟩;rw[c3];go_wp2
    go_ret
    exact⟨zaa HF.out.symm,hW ▸ hbW⟩
   | true =>
    by_cases hn:t.pk<0
    . have HF:Hid (riB ⟨-t.en,-t.pk,-t.st⟩=tfB t):=zz7 c1 c2 c3 hn
      have ht:=fun U=>zo8 t U c1 c2 c3
      have hr:=fun U=>zj7 ⟨-t.en,-t.pk,-t.st⟩ U
      obtain⟨st,pk,en⟩:=t
      dsimp only at *
      go_enter Tryz.func154,Tryz.ntmps154
      go_wp2_with fail
      rw[<-hW];clear hW
      refine(zak st _).mono ?_
      rintro e u1 ⟨rfl,rfl⟩;rw[c1];obtain⟨p0,p1,p2,_⟩:=X1.cells
      go_wp2_with fail
      refine(zak pk _).mono ?_
      rintro e u1 ⟨rfl,rfl⟩;rw[c2]
      go_wp2_with fail
      refine(zak en _).mono ?_
      rintro e u1 ⟨rfl,rfl⟩;rw[c3];clear c1 c2 c3
      go_wp2_with fail
      refine(ht _).mono ?_
      rintro e u1 ⟨rfl,hb1⟩
      replace hbW:=hbW.trans (hb1.mono hbW.size)
      clear ht hb1 p0 p1 p2
      go_wp2_with fail
      refine(hr _).mono ?_
      rintro e u2 ⟨rfl,hb2⟩;rw[HF.out]
      replace hbW:=hbW.trans (hb2.mono hbW.size)
      clear hr hb2;go_wp2
      go_ret
      exact⟨rfl,hbW⟩
    . have HF:Hid (¬(t.st=0/\t.pk=0/\t.en=0)->riB t=tfB t):=zz6 c1 c2 c3 hn
      have HZ:Hid (t.st=0/\t.pk=0/\t.en=0->tfB t=true):=fun h=>by
       rw[zd3]
       unfold TfT
       omega
      have hr:=fun U=>zj7 t U
      obtain⟨st,pk,en⟩:=t
      dsimp only at *
      go_enter Tryz.func154,Tryz.ntmps154
      go_wp2_with fail
      rw[<-hW];clear hW
      refine(zak st _).mono ?_
      rintro e u1 ⟨rfl,rfl⟩;rw[c1];obtain⟨p0,p1,p2,_⟩:=X1.cells
      go_wp2_with fail
      refine(zak pk _).mono ?_
      rintro e u1 ⟨rfl,rfl⟩;rw[c2]
      go_wp2_with fail
      refine(zak en _).mono ?_
      rintro e u1 ⟨rfl,rfl⟩;rw[c3];clear c1 c2 c3
      by_cases s0:st=0
      . subst s0
        by_cases q0:pk=0
        . subst q0
          by_cases e0:en=0
          . subst e0
            go_wp2
            go_ret
            exact⟨zaa (HZ.out (by simp)).symm,hbW⟩
          . go_wp2_with fail
            refine(hr _).mono ?_
            rintro e u2 ⟨rfl,hb2⟩
            rw[HF.out (by omega)]
            replace hbW:=hbW.trans (hb2.mono hbW.size)
            clear hr hb2;go_wp2
            go_ret
            exact⟨rfl,hbW⟩
        . go_wp2_with fail
          refine(hr _).mono ?_
          rintro e u2 ⟨rfl,hb2⟩
          rw[HF.out (by omega)]
          replace hbW:=hbW.trans (hb2.mono hbW.size)
          clear hr hb2;go_wp2
          go_ret
          exact⟨rfl,hbW⟩
      . go_wp2_with fail
        refine(hr _).mono ?_
        rintro e u2 ⟨rfl,hb2⟩
        rw[HF.out (by omega)]
        replace hbW:=hbW.trans (hb2.mono hbW.size)
        clear hr hb2;go_wp2
        go_ret
        exact⟨rfl,hbW⟩
theorem zmk(a:OA)(cap:Nat)(cs:LI)(k:Nat)(w:World)(h:Ri w a cap cs)(hk:k<=1000000) :
 Calls Tryz.prog 211 #[.slice a cs.length cap,.int .i64 (k:Int)] w fun e w'=>e=.returned (.int .i64 (cs.getD k 0))/\Below w.heap.size w w':=by
 have k1:=h.lenB
 by_cases hkn:k<cs.length
 . obtain⟨b,off,ea,hb,d0⟩:=h.at (Below.refl _ _) k hkn
   subst ea
   have g1:(k:Int)<(cs.length:Int):=by omega
   generalize cs.getD k 0=z at *
   clear h
   go_enter Tryz.func211,Tryz.ntmps211
   go_wp2
   go_ret
   exact⟨rfl,Below.refl _ _⟩
 . have g1:¬(k:Int)<(cs.length:Int):=by omega
   have HZ:Hid (cs.getD k 0=0):=by show _=_;rw[List.getD_eq_getElem?_getD,List.getElem?_eq_none (by omega)];rfl
   clear h
   go_enter Tryz.func211,Tryz.ntmps211
   go_wp2
   go_ret
   exact⟨z33 (by first | rfl | exact HZ.out.symm),Below.refl _ _⟩
theorem z3e{l:List Te}{p:Te->Bool}{k:Nat}(hk:k<l.length)(h:p (l.getD k Te.none)=false):l.all p=false:=by
 rw[Bool.eq_false_iff]
 intro e
 have:=allT.1 e k hk
 rw[h]at this
 cases this
theorem zg7(a:OA)(cap:Nat)(l:List Te)(n:Int)(w:World)(h:Tz w a cap l) :
 Calls Tryz.prog 99 #[.slice a l.length cap,.int .i64 n] w fun e w'=>e=.returned (.bool (rgB l n))/\Below w.heap.size w w':=by
 have k1:=h.1
 have k2:=h.lenB
 by_cases hl:(l.length:Int)=n
 . have HR:Hid (rgB l n=l.all tfB):=by show _=_;rw[rgB,decide_eq_true hl,Bool.and_true]
   have g1:((l.length:Int) != n)=false:=by simp[hl]
   have HH:Hid (Tz w a cap l):=h
   clear hl h
   go_enter Tryz.func99,Tryz.ntmps99
   go_wp2
   go_loopw [13] (fun i wr=>∃k:Nat,k<=l.length/\i=.int .i64 k/\(∀j,j<k->tfB (l.getD j Te.none)=true)/\Below w.heap.size w wr) (fun i _=>l.length-(intOf i).toNat)
   case atStart=>exact⟨0,Nat.zero_le _,rfl,(fun j hj=>by omega),Below.refl _ _⟩
   case round =>
    obtain⟨k,hk,rfl,hok,hB⟩:=hrel
    have HOK:Hid (∀j,j<k->tfB (l.getD j Te.none)=true):=hok
    clear hok
    by_cases hkn:k<l.length
    . obtain⟨b,off,ea,hb,d0,d1,d2⟩:=HH.out.at hB k hkn
      subst ea
      have hfo:=fun U=>zhx (l.getD k Te.none) U
      obtain⟨t,ht⟩:∃t,l.getD k Te.none=t:=⟨_,rfl⟩
      have HT:Hid (l.getD k Te.none=t):=ht
      rw[ht]at d0 d1 d2 hfo;clear ht
      cases hf:tfB t with
      | false =>
       have HF:Hid (rgB l n=false):=by show _=_;rw[HR.out];exact z3e hkn (by rw[HT.out];exact hf)
       simp only[hf]at hfo
       clear hf HT HOK;obtain⟨st,pk,en⟩:=t
       dsimp only at *
       go_wp2_with fail
       refine(hfo _).mono ?_
       rintro e u1 ⟨rfl,hb1⟩
       replace hB:=(hB.alloc hB.size _).trans (hb1.mono (hB.alloc hB.size _).size)
       clear hb1 hfo;go_wp2
       go_ret
       exact⟨zaa HF.out.symm,hB⟩
      | true =>
       have zea:Hid (∀j,j<k+1->tfB (l.getD j Te.none)=true):=fun j hj=>by
        rcases Nat.lt_or_ge j k with h1|h1
        . exact HOK.out j h1
        . rw[show j=k by omega,HT.out];exact hf
       simp only[hf]at hfo
       clear hf HT HOK;obtain⟨st,pk,en⟩:=t
       dsimp only at *
       go_wp2_with fail
       refine(hfo _).mono ?_
       rintro e u1 ⟨rfl,hb1⟩
       replace hB:=(hB.alloc hB.size _).trans (hb1.mono (hB.alloc hB.size _).size)
       clear hb1 hfo;go_wp2
       go_roundw
       case rel=>exact⟨k+1,by omega,by go_num,zea.out,hB⟩
       case measure=>simp[intOf];omega
    . obtain rfl:k=l.length:=by omega
      have HF:Hid (rgB l n=true):=by show _=_;rw[HR.out];exact allT.2 HOK.out
      clear HOK;go_wp2
      go_ret
      exact⟨zaa HF.out.symm,hB⟩
 . have HR:Hid (rgB l n=false):=by show _=_;rw[rgB,decide_eq_false hl,Bool.and_false]
   have g1:((l.length:Int) != n)=true:=by simp[hl]
   clear h hl
   go_enter Tryz.func99,Tryz.ntmps99
   go_wp2
   go_ret
   exact⟨zaa HR.out.symm,Below.refl _ _⟩
theorem zlf(a:OA)(ca:Nat)(pts:LI)(n:Nat)(w:World)(h:Ri w a ca pts)(hn:n<=1000000) :
 Calls Tryz.prog 157 #[.slice a pts.length ca,.int .i64 (n:Int)] w fun e w'=>e=.returned (.bool (risB pts n))/\w=w':=by
 have k2:=h.lenB
 have HH:Hid (Ri w a ca pts):=h
 clear h
 go_enter Tryz.func157,Tryz.ntmps157
 go_wp2
 go_loopw [5,10] (fun l i wr=>∃k:Nat,k<=pts.length/\i=.int .i64 k/\l=.int .i64 (lastI pts k)/\(∀j,j<k->risP pts n j)/\w=wr) (fun _ i _=>pts.length-(intOf i).toNat)
 case atStart=>exact⟨0,Nat.zero_le _,rfl,rfl,(fun j hj=>by omega),rfl⟩
 case round =>
  obtain⟨k,hk,rfl,rfl,hok,rfl⟩:=hrel
  have HOK:Hid (∀j,j<k->risP pts n j):=hok
  clear hok
  by_cases hkn:k<pts.length
  . obtain⟨b,off,ea,hb,d0⟩:=HH.out.at (Below.refl _ _) k hkn
    have hzi:=HH.out.i64 hkn
    subst ea
    have HL:Hid (lastI pts (k+1)=pts.getD k 0):=by show _=_;unfold lastI;rw[if_neg (by omega),Nat.add_sub_cancel]
    obtain⟨z,hzz⟩:∃z,pts.getD k 0=z:=⟨_,rfl⟩
    obtain⟨l,hll⟩:∃z,lastI pts k=z:=⟨_,rfl⟩
    have HP:Hid (risP pts n k↔l<z/\z<(n:Int)):=by show _↔_;unfold risP;rw[hzz,hll]
    rw[hzz]at d0 HL hzi;rw[hll]
    have i1:(0:Int)<=(k:Int):=by omega
    have i2:(k:Int)<(pts.length:Int):=by omega
    clear hzz hll
    by_cases h1:l<z
    . have g1:¬z<=l:=by omega
      have g1b:decide (z<=l)=false:=decide_eq_false g1
      by_cases h2:z<(n:Int)
      . have g2:decide (z ≥ (n:Int))=false:=decide_eq_false (by omega)
        have zea:Hid (∀j,j<k+1->risP pts n j):=za4 HOK.out (HP.out.2 ⟨h1,h2⟩)
        clear HOK HP;go_wp2
        go_roundw
        case rel=>exact⟨k+1,by omega,by go_num,by rw[HL.out],zea.out,trivial⟩
        case measure=>simp[intOf];omega
      . have g2:decide (z ≥ (n:Int))=true:=decide_eq_true (by omega)
        have HF:Hid (risB pts n=false):=zih hkn (fun h=>h2 (HP.out.1 h).2)
        clear HOK HP;go_wp2
        go_ret
        exact⟨zaa HF.out.symm,rfl⟩
    . have g1:z<=l:=by omega
      have g1b:decide (z<=l)=true:=decide_eq_true g1
      have HF:Hid (risB pts n=false):=zih hkn (fun h=>h1 (HP.out.1 h).1)
      clear HOK HP;go_wp2
      go_ret
      exact⟨zaa HF.out.symm,rfl⟩
  . obtain rfl:k=pts.length:=by omega
    have HF:Hid (risB pts n=true):=zig HOK.out
    have g1:¬(pts.length:Int)<(pts.length:Int):=by omega
    clear HOK;go_wp2
    go_ret
    exact⟨zaa HF.out.symm,rfl⟩
theorem zgb(a:OA)(cap:Nat)(r:LI)(w:World)(h:Ri w a cap r) :
 Calls Tryz.prog 104 #[.slice a r.length cap] w fun e w'=>e=.returned (.bool (r.all fdB))/\w=w':=by
 have k2:=h.lenB
 have HH:Hid (Ri w a cap r):=h
 clear h
 go_enter Tryz.func104,Tryz.ntmps104
 go_wp2
 go_loopw [7] (fun i wr=>∃k:Nat,k<=r.length/\i=.int .i64 k/\(∀j,j<k->fdB (r.getD j 0)=true)/\w=wr) (fun i _=>r.length-(intOf i).toNat)
 case atStart=>exact⟨0,Nat.zero_le _,rfl,(fun j hj=>by omega),rfl⟩
 case round =>
  obtain⟨k,hk,rfl,hok,rfl⟩:=hrel
  have HOK:Hid (∀j,j<k->fdB (r.getD j 0)=true):=hok
  clear hok
  by_cases hkn:k<r.length
  . obtain⟨b,off,ea,hb,d0⟩:=HH.out.at (Below.refl _ _) k hkn
    subst ea
    obtain⟨z,hzz⟩:∃z,r.getD k 0=z:=⟨_,rfl⟩
    have HZ:Hid (r.getD k 0=z):=hzz
    rw[hzz]at d0
    have i1:(0:Int)<=(k:Int):=by omega
    have i2:(k:Int)<(r.length:Int):=by omega
    have hw1:=zf8 z
    have hw2:=zew z
    clear hzz
    cases hf:fdB z with
    | false =>
     have HF:Hid (r.all fdB=false):=zhf hkn (by rw[HZ.out];exact hf)
     rw[hf]at hw2;clear hf HZ HOK;go_wp2
     go_ret
     exact⟨zaa HF.out.symm,rfl⟩
    | true =>
     have zea:Hid (∀j,j<k+1->fdB (r.getD j 0)=true):=za4 HOK.out (by rw[HZ.out];exact hf)
     rw[hf]at hw2;clear hf HZ HOK;go_wp2
     go_roundw
     case rel=>exact⟨k+1,by omega,by go_num,zea.out,trivial⟩
     case measure=>simp[intOf];omega
  . obtain rfl:k=r.length:=by omega
    have HF:Hid (r.all fdB=true):=zet HOK.out
    have g1:¬(r.length:Int)<(r.length:Int):=by omega
    clear HOK;go_wp2
    go_ret
    exact⟨zaa HF.out.symm,rfl⟩
theorem z4h{t:Tu}{n:Nat}(ha:t.al=true):nmB t n=(decide (t.pts.length=0)&&(decide (t.dx.length=n)&&decide (t.dy.length=n))):=by
 unfold nmB
 rw[if_pos ha]
 by_cases h1:t.pts.length=0 <;> by_cases h2:t.dx.length=n <;> by_cases h3:t.dy.length=n <;> simp[h1,h2,h3]
theorem z1c{t:Tu}{n:Nat}(ha:t.al=false):nmB t n=(decide (0<t.pts.length)&&(risB t.pts n&&(decide (t.dx.length=t.pts.length)&&decide (t.dy.length=t.pts.length)))):=by
 unfold nmB
 rw[if_neg (by rw[ha];decide)]
 by_cases h2:t.dx.length=t.pts.length <;> by_cases h3:t.dy.length=t.pts.length <;> simp[h2,h3]
theorem zp8(S:Nat->Prop)(ra:OA)(rc:Nat)(pa:OA)(pc:Nat)(xa:OA)(xc:Nat)(ya:OA)(yc:Nat)(t:Tu)(n:Nat)(w:World)(h:TuC S w ra rc pa pc xa xc ya yc t)(hn:n<=1000000) :
 Calls Tryz.prog 103 #[.agg #[.slice ra t.rg.length rc,.bool t.al,.slice pa t.pts.length pc,.slice xa t.dx.length xc,.slice ya t.dy.length yc],.int .i64 (n:Int)] w fun e w'=>e=.returned (.bool (nmB t n))/\Below w.heap.size w w':=by
 obtain⟨b0,b1,b2,b3⟩:=h.len
 obtain⟨W,hW,X1,hbW⟩:∃W,W=w.alloc (.cells #[.slice ra t.rg.length rc,.bool t.al,.slice pa t.pts.length pc,.slice xa t.dx.length xc,.slice ya t.dy.length yc] 144)/\Bk 144 W w.heap.size [.slice ra t.rg.length rc,.bool t.al,.slice pa t.pts.length pc,.slice xa t.dx.length xc,.slice ya t.dy.length yc]/\Below w.heap.size w W:=⟨_,rfl,Bk.new _ _ _,bl1 _⟩
 obtain⟨p0,p1,p2,p3,p4,_⟩:=X1.five
 have hP:=(h.below hbW).pts
 cases ha:t.al with
 | true =>
  have HE:Hid (_):=z4h (n:=n) ha
  rw[ha]at hW X1 p1;clear ha X1 hP h
  generalize t.pts.length=m at *
  generalize t.dx.length=x at *
  generalize t.dy.length=y at *
  generalize nmB t n=Q at *
  go_enter Tryz.func103,Tryz.ntmps103
  go_upto_region 1 with fail
  rw[<-hW];clear hW
  by_cases h1:m=0
  rotate_left
  . have g1:((m:Int)==0)=false:=beq_eq_false_iff_ne.2 (by omega)
    have HF:Hid (Q=false):=by show _=_;rw[HE.out,decide_eq_false h1];rfl
    clear HE;go_wp2
    go_ret
    exact⟨zaa HF.out.symm,hbW⟩
  have g1:((m:Int)==0)=true:=beq_iff_eq.2 (by omega)
  by_cases h2:x=n
  rotate_left
  . have g2:((x:Int)==(n:Int))=false:=beq_eq_false_iff_ne.2 (by omega)
    have HF:Hid (Q=false):=by show _=_;rw[HE.out,decide_eq_true h1,decide_eq_false h2];rfl
    clear HE h1;go_wp2
    go_ret
    exact⟨zaa HF.out.symm,hbW⟩
  have g2:((x:Int)==(n:Int))=true:=beq_iff_eq.2 (by omega)
  by_cases h3:y=n
  . have g3:((y:Int)==(n:Int))=true:=beq_iff_eq.2 (by omega)
    have HF:Hid (Q=true):=by show _=_;rw[HE.out,decide_eq_true h1,decide_eq_true h2,decide_eq_true h3];rfl
    clear HE h1 h2 h3;go_wp2
    go_ret
    exact⟨zaa HF.out.symm,hbW⟩
  . have g3:((y:Int)==(n:Int))=false:=beq_eq_false_iff_ne.2 (by omega)
    have HF:Hid (Q=false):=by show _=_;rw[HE.out,decide_eq_true h1,decide_eq_true h2,decide_eq_false h3];rfl
    clear HE h1 h2 h3;go_wp2
    go_ret
    exact⟨zaa HF.out.symm,hbW⟩
 | false =>
  have HE:Hid (_):=z1c (n:=n) ha
  have hr:=zlf pa pc t.pts n W hP hn
  rw[ha]at hW X1 p1;clear ha X1 hP h
  generalize risB t.pts n=r at *
  generalize t.pts.length=m at *
  generalize t.dx.length=x at *
  generalize t.dy.length=y at *
  generalize nmB t n=Q at *
  go_enter Tryz.func103,Tryz.ntmps103
  go_upto_region 1 with fail
  rw[<-hW];clear hW
  by_cases h1:0<m
  rotate_left
  . have g1:decide ((m:Int) > 0)=false:=decide_eq_false (by omega)
    have HF:Hid (Q=false):=by show _=_;rw[HE.out,decide_eq_false h1];rfl
    clear HE hr;go_wp2
    go_ret
    exact⟨zaa HF.out.symm,hbW⟩
  have g1:decide ((m:Int) > 0)=true:=decide_eq_true (by omega)
  cases r with
  | false =>
   have HF:Hid (Q=false):=by show _=_;rw[HE.out,decide_eq_true h1];rfl
   clear HE
   go_wp2_with fail
   refine hr.mono ?_
   rintro e u ⟨rfl,rfl⟩;go_wp2
   go_ret
   exact⟨zaa HF.out.symm,hbW⟩
  | true =>
  by_cases h2:x=m
  rotate_left
  . have g2:((x:Int)==(m:Int))=false:=beq_eq_false_iff_ne.2 (by omega)
    have HF:Hid (Q=false):=by show _=_;rw[HE.out,decide_eq_true h1,decide_eq_false h2];rfl
    clear HE
    go_wp2_with fail
    refine hr.mono ?_
    rintro e u ⟨rfl,rfl⟩;go_wp2
    go_ret
    exact⟨zaa HF.out.symm,hbW⟩
  have g2:((x:Int)==(m:Int))=true:=beq_iff_eq.2 (by omega)
  by_cases h3:y=m
  . have g3:((y:Int)==(m:Int))=true:=beq_iff_eq.2 (by omega)
    have HF:Hid (Q=true):=by show _=_;rw[HE.out,decide_eq_true h1,decide_eq_true h2,decide_eq_true h3];rfl
    clear HE h2 h3
    go_wp2_with fail
    refine hr.mono ?_
    rintro e u ⟨rfl,rfl⟩;go_wp2
    go_ret
    exact⟨zaa HF.out.symm,hbW⟩
  . have g3:((y:Int)==(m:Int))=false:=beq_eq_false_iff_ne.2 (by omega)
    have HF:Hid (Q=false):=by show _=_;rw[HE.out,decide_eq_true h1,decide_eq_true h2,decide_eq_false h3];rfl
    clear HE h2 h3
    go_wp2_with fail
    refine hr.mono ?_
    rintro e u ⟨rfl,rfl⟩;go_wp2
    go_ret
    exact⟨zaa HF.out.symm,hbW⟩
theorem foT_1{o:Ol}{l:List Tu}{ax:Int}(h:foB o=false):foT o l ax=false:=by unfold foT;rw[h];rfl
theorem foT_2{o:Ol}{l:List Tu}{ax:Int}(h:¬(0<=ax/\ax<=4)):foT o l ax=false:=by unfold foT;rw[decide_eq_false h];simp
theorem foT_3{o:Ol}{l:List Tu}{ax:Int}(h:¬l.length<=40):foT o l ax=false:=by unfold foT;rw[decide_eq_false h];simp
theorem foT_4{o:Ol}{l:List Tu}{ax:Int}{k:Nat}(hk:k<l.length)(h:tuB (l.getD k Tu.none) (cntO o) ax=false):foT o l ax=false :=
 z49 (fun hc=>by have:=hc.2.2.2 k hk;rw[h]at this;cases this)
theorem zdt(S:Nat->Prop)(a:OA)(ca:Nat)(b:OA)(cb:Nat)(o:Ol)(S2:Nat->Prop)(la:OA)(lc:Nat)(l:List Tu)(ax:Int)(w:World)(hc:Gr PnE.row S w a ca o.cs)(hp:Gr PaE S w b cb o.ps)(hl:Gr TuE S2 w la lc l)(hi:I64 ax) :
 Calls Tryz.prog 58 #[.agg #[.slice a o.cs.length ca,.slice b o.ps.length cb],.slice la l.length lc,.int .i64 ax] w fun e w'=>e=.returned (.bool (foT o l ax))/\Below w.heap.size w w':=by
 have kl:=hl.lenB
 obtain⟨W,hW,X1,hbW⟩:∃W,W=w.alloc (.cells #[.slice a o.cs.length ca,.slice b o.ps.length cb] 57)/\Bk 57 W w.heap.size [.slice a o.cs.length ca,.slice b o.ps.length cb]/\Below w.heap.size w W:=⟨_,rfl,Bk.new _ _ _,bl1 _⟩
 replace hc:=hc.below hbW;replace hp:=hp.below hbW;replace hl:=hl.below hbW;obtain⟨p0,p1,_⟩:=X1.two
 have hf1:=zfa S a ca b cb o W hc hp
 unfold I64 at hi
 obtain⟨Q,hQ⟩:∃q,foT o l ax=q:=⟨_,rfl⟩
 have HQQ:Hid (foT o l ax=Q):=hQ
 rw[hQ];clear hQ
 go_enter Tryz.func58,Tryz.ntmps58
 go_upto_region 1 with fail
 rw[<-hW];clear hW
 cases hfo:foB o with
 | false =>
  have HF:Hid (Q=false):=by show _=_;rw[<-HQQ.out];exact foT_1 hfo
  rw[hfo]at hf1;clear hfo
  go_wp2_with fail
  refine hf1.mono ?_
  rintro e m2 ⟨rfl,hb1⟩
  have zau:=hbW.trans (hb1.mono hbW.size)
  clear hb1 hf1;go_wp2
  go_ret
  exact⟨zaa HF.out.symm,zau⟩
 | true =>
 rw[hfo]at hf1
 have HFO:Hid (foB o=true):=hfo
 have HOL:Hid (o.cs.flatten.length<=100000/\o.ps.length<=100000):=by have:=za1.1 hfo;exact⟨by have:=this.2.2.2.2.1;omega,by have:=this.2.2.1;omega⟩
 have HCN:Hid (cntO o<=86):=zfl hfo
 clear hfo
 go_wp2_with fail
 refine hf1.mono ?_
 rintro e m1 ⟨rfl,hb1⟩;replace hc:=hc.below hb1;replace hp:=hp.below hb1;replace hl:=hl.below hb1;replace X1:=X1.below hb1
 replace hbW:=hbW.trans (hb1.mono hbW.size)
 clear hb1 hf1 p0 p1;obtain⟨p0,p1,_⟩:=X1.two
 by_cases h0:ax<0
 . have g0:decide (ax<0)=true:=decide_eq_true h0
   have HF:Hid (Q=false):=by show _=_;rw[<-HQQ.out];exact foT_2 (by omega)
   go_wp2
   go_ret
   exact⟨zaa HF.out.symm,hbW⟩
 have g0:decide (ax<0)=false:=decide_eq_false h0
 by_cases h4:ax > 4
 . have g4:decide (ax > 4)=true:=decide_eq_true h4
   have HF:Hid (Q=false):=by show _=_;rw[<-HQQ.out];exact foT_2 (by omega)
   go_wp2
   go_ret
   exact⟨zaa HF.out.symm,hbW⟩
 have g4:decide (ax > 4)=false:=decide_eq_false h4
 by_cases h40:l.length<=40
 rotate_left
 . have g5:decide ((l.length:Int) > 40)=true:=decide_eq_true (by omega)
   have HF:Hid (Q=false):=by show _=_;rw[<-HQQ.out];exact foT_3 h40
   clear hl
   generalize l.length=n at *
   go_wp2
   go_ret
   exact⟨zaa HF.out.symm,hbW⟩
 have g5:decide ((l.length:Int) > 40)=false:=decide_eq_false (by omega)
 have HAX:Hid (0<=ax/\ax<=4):=⟨by omega,by omega⟩
 go_wp2_with fail
 refine(zfb S a ca b cb o _ hc hp HOL.out.1 HOL.out.2).mono ?_
 rintro e m2 ⟨rfl,hb1⟩;replace hl:=hl.below hb1
 replace hbW:=hbW.trans (hb1.mono hbW.size)
 clear hb1 p0 p1 X1 hc hp g0 g4 h0 h4
 have HL:Hid (Gr TuE S2 m2 la lc l):=hl
 have HBW:Hid (Below w.heap.size w m2):=hbW
 clear hl hbW
 obtain⟨cn,hcn⟩:∃n,cntO o=n:=⟨_,rfl⟩
 have HCO:Hid (cntO o=cn):=hcn
 rw[hcn]at HCN ⊢;clear hcn
 have HQN:Hid (∀k,k<l.length->tuB (l.getD k Tu.none) cn ax=false->Q=false):=fun k hk h=>by rw[<-HQQ.out];exact foT_4 hk (by rw[HCO.out];exact h)
 have HQY:Hid ((∀k,k<l.length->tuB (l.getD k Tu.none) cn ax=true)->Q=true):=fun h=>by rw[<-HQQ.out];exact zbc.2 ⟨HFO.out,HAX.out,h40,fun k hk=>by rw[HCO.out];exact h k hk⟩
 clear HFO HAX HOL HCO;go_wp2;clear g5
 go_loopw [30] (fun i wr=>∃k:Nat,k<=l.length/\i=.int .i64 k/\(∀j,j<k->tuB (l.getD j Tu.none) cn ax=true)/\Below m2.heap.size m2 wr) (fun i _=>l.length-(intOf i).toNat)
 case atStart=>exact⟨0,Nat.zero_le _,rfl,(fun j hj=>by omega),Below.refl _ _⟩
 case round =>
  obtain⟨k,hk,rfl,hok,hB⟩:=hrel
  have HOK:Hid (∀j,j<k->tuB (l.getD j Tu.none) cn ax=true):=hok
  clear hok
  by_cases hkn:k<l.length
  . obtain⟨b0,off,ra,rc,pa,pc,xa,xc,ya,yc,ea,hb,ht,d0,d1,d2,d3,d4⟩:=HL.out.tu hB k hkn
    subst ea
    have HN:=fun(h:tuB (l.getD k Tu.none) cn ax=false)=>HQN.out k hkn h
    have HY:=fun(h:tuB (l.getD k Tu.none) cn ax=true)=>za4 HOK.out h
    obtain⟨t,htt⟩:∃t,l.getD k Tu.none=t:=⟨_,rfl⟩
    rw[htt]at ht d0 d1 d2 d3 d4 HN HY
    have HY:Hid (tuB t cn ax=true->∀j,j<k+1->tuB (l.getD j Tu.none) cn ax=true):=HY
    have HN:Hid (tuB t cn ax=false->Q=false):=HN
    clear htt HOK
    have i1:(0:Int)<=(k:Int):=by omega
    have i2:(k:Int)<(l.length:Int):=by omega
    obtain⟨V,hV,X0,hb0⟩:∃V,V=wr.alloc (.cells #[.slice ra t.rg.length rc,.bool t.al,.slice pa t.pts.length pc,.slice xa t.dx.length xc,.slice ya t.dy.length yc] 144)/\Bk 144 V wr.heap.size [.slice ra t.rg.length rc,.bool t.al,.slice pa t.pts.length pc,.slice xa t.dx.length xc,.slice ya t.dy.length yc]/\Below wr.heap.size wr V:=⟨_,rfl,Bk.new _ _ _,bl1 _⟩
    replace ht:=ht.below hb0
    replace hB:=hB.trans (hb0.mono hB.size)
    obtain⟨q0,q1,q2,q3,q4,_⟩:=X0.five
    go_upto_region 7 with fail
    rw[<-hV];clear hV d0 d1 d2 d3 d4 hb0
    have c1:=zg7 ra rc t.rg ax V ht.tz
    cases h1:rgB t.rg ax with
    | false =>
     have HF:Hid (Q=false):=HN.out (by unfold tuB;rw[h1];rfl)
     rw[h1]at c1;clear h1 HN HY HQN HQY
     go_wp2_with fail
     refine c1.mono ?_
     rintro e y1 ⟨rfl,hb1⟩
     have zau:=HBW.out.trans ((hB.trans (hb1.mono hB.size)).mono HBW.out.size)
     clear hb1 c1 hB;go_wp2
     go_ret
     exact⟨zaa HF.out.symm,zau⟩
    | true =>
    rw[h1]at c1
    go_wp2_with fail
    refine c1.mono ?_
    rintro e y1 ⟨rfl,hb1⟩;replace ht:=ht.below hb1
    replace hB:=hB.trans (hb1.mono hB.size)
    replace X0:=X0.below hb1;clear q0 q1 q2 q3 q4 hb1 c1;obtain⟨q0,q1,q2,q3,q4,_⟩:=X0.five
    have c1:=zp8 S2 ra rc pa pc xa xc ya yc t cn y1 ht (by have:=HCN.out;omega)
    cases h2:nmB t cn with
    | false =>
     have HF:Hid (Q=false):=HN.out (by unfold tuB;rw[h1,h2];rfl)
     rw[h2]at c1;clear h1 h2 HN HY HQN HQY
     go_wp2_with fail
     refine c1.mono ?_
     rintro e y2 ⟨rfl,hb1⟩
     have zau:=HBW.out.trans ((hB.trans (hb1.mono hB.size)).mono HBW.out.size)
     clear hb1 c1 hB;go_wp2
     go_ret
     exact⟨zaa HF.out.symm,zau⟩
    | true =>
    rw[h2]at c1
    go_wp2_with fail
    refine c1.mono ?_
    rintro e y2 ⟨rfl,hb1⟩;replace ht:=ht.below hb1
    replace hB:=hB.trans (hb1.mono hB.size)
    replace X0:=X0.below hb1;clear q0 q1 q2 q3 q4 hb1 c1;obtain⟨q0,q1,q2,q3,q4,_⟩:=X0.five
    have c1:=zgb xa xc t.dx y2 ht.dx
    have c2:=zgb ya yc t.dy y2 ht.dy
    cases h3:t.dx.all fdB with
    | false =>
     have HF:Hid (Q=false):=HN.out (by unfold tuB;rw[h1,h2,h3];rfl)
     rw[h3]at c1;clear h1 h2 h3 HN HY HQN HQY
     go_wp2_with fail
     refine c1.mono ?_
     rintro e y3 ⟨rfl,rfl⟩
     have zau:=HBW.out.trans (hB.mono HBW.out.size)
     clear c1 hB;go_wp2
     go_ret
     exact⟨zaa HF.out.symm,zau⟩
    | true =>
    rw[h3]at c1
    go_wp2_with fail
    refine c1.mono ?_
    rintro e y3 ⟨rfl,rfl⟩;clear c1
    cases h5:t.dy.all fdB with
    | false =>
     have HF:Hid (Q=false):=HN.out (by unfold tuB;rw[h1,h2,h3,h5];rfl)
     rw[h5]at c2;clear h1 h2 h3 h5 HN HY HQN HQY
     go_wp2_with fail
     refine c2.mono ?_
     rintro e y3 ⟨rfl,rfl⟩
     have zau:=HBW.out.trans (hB.mono HBW.out.size)
     clear c2 hB;go_wp2
     go_ret
     exact⟨zaa HF.out.symm,zau⟩
    | true =>
    rw[h5]at c2
    have HY2:Hid (∀j,j<k+1->tuB (l.getD j Tu.none) cn ax=true):=HY.out (by unfold tuB;rw[h1,h2,h3,h5];rfl)
    have HB2:Hid (Below m2.heap.size m2 y2):=hB
    clear h1 h2 h3 h5 HN HY HQN HQY hB
    go_wp2_with fail
    refine c2.mono ?_
    rintro e y3 ⟨rfl,rfl⟩;clear c2;go_wp2
    go_roundw
    case rel=>exact⟨k+1,by omega,by go_num,HY2.out,HB2.out⟩
    case measure=>simp[intOf];omega
  . obtain rfl:k=l.length:=by omega
    have g9:¬(l.length:Int)<(l.length:Int):=by omega
    have HF:Hid (Q=true):=HQY.out HOK.out
    have zau:=HBW.out.trans (hB.mono HBW.out.size)
    clear HOK HQN HQY;go_wp2
    go_ret
    exact⟨zaa HF.out.symm,zau⟩
