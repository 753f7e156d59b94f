import Derived.Test.YtgbhidcokobmmaaGreatDoorZL13
set_option linter.unusedSimpArgs false
set_option linter.unusedVariables false
namespace Go.Proofs.YtgbhidcokobmmaaGreatDoor
open Go.RowKit Go.Maps
theorem ztg{sz:Nat}:∀ {vss:List (List Value)} {i j:Nat} (x:Value),(∀i,i<vss.length->(vss.getD i []).length=sz)->i<vss.length->j<sz->(vss.set i ((vss.getD i []).set j x)).flatten=vss.flatten.set (i*sz+j) x:=by
 intro vss
 induction vss with
 | nil=>intro i j x _ hi _;simp at hi
 | cons vs t ih =>
  intro i j x h hi hj
  have h0:vs.length=sz:=h 0 (by simp)
  cases i with
  | zero =>
   rw[List.set_cons_zero,List.getD_cons_zero,List.flatten_cons,List.flatten_cons,Nat.zero_mul,Nat.zero_add,List.set_append_left _ _ (by omega)]
  | succ i =>
   have h1:=ih (i:=i) (j:=j) x (fun i hi=>h (i+1) (by simpa using hi)) (by simpa using hi) hj
   rw[List.set_cons_succ,List.getD_cons_succ,List.flatten_cons,List.flatten_cons,h1,List.set_append_right _ _ (by rw[h0,Nat.add_mul];omega),h0,show(i+1)*sz+j-sz=i*sz+j by rw[Nat.add_mul];omega]
theorem Gw.own{α:Type}{E:El α}{t:TypeId}{base:Nat}{S:Nat->Prop}{w:World}{v:Value}{l:List α}(h:Gw E t base S w v l)(hne:l≠[]) :
 ∃g cap,v=.slice (some ⟨g,0,none⟩) l.length cap/\base<=g/\g<w.heap.size/\l.length<=cap/\(∀n,w.frozen? ⟨g,n,none⟩=false) /\
     (∀i,i<l.length->∃vs,E.rep S w vs (l.getD i E.dfl)/\∀j,j<E.sz->w.cell? ⟨g,i*E.sz+j,none⟩=vs[j]?) /\
     ∀i j x y,i<l.length->j<E.sz->(∀S' vs,E.rep S' w vs (l.getD i E.dfl)->E.rep S' w (vs.set j x) y)->Gw E t base S (w.setCell ⟨g,i*E.sz+j,none⟩ x) v (l.set i y):=by
 have hsl:=h
 obtain⟨a0,c0,e0,hgr,_⟩:=hsl.slice;obtain⟨vss,hl,h3,h4⟩:=h
 have h5:∀i,i<vss.length->(vss.getD i []).length=E.sz:=fun i hi=>E.len (h4 i (by omega))
 rcases h3.2 with ⟨rfl,e1⟩|⟨g,cap,cur,rfl,hb,hg,hc1,hc2,hc3,ht⟩
 . exact absurd (List.length_eq_zero_iff.1 e1) hne
 . refine⟨g,cap,rfl,hb,(Array.getElem?_eq_some_iff.1 hg).1,hc1,fun n=>frozen_of_row w g n _ _ hg,fun i hi=>?_,fun i j x y hi hj zxn=>?_⟩
   . obtain⟨b,off,vs,e2,hb2,hr,hc⟩:=hgr.2.2.2 i hi
     injection e0 with e0;rw[<-e0]at e2
     cases e2
     exact⟨vs,hr,fun j hj=>by simpa using hc j hj⟩
   . have zf2:=heap_setCell_same w g (i*E.sz+j) cur t x hg
     have hoth:∀k,k≠g->(w.setCell ⟨g,i*E.sz+j,none⟩ x).heap[k]?=w.heap[k]?:=fun k hk=>Below.heap_setCell _ _ _ _ (fun e=>hk e)
     have hsz:(w.setCell ⟨g,i*E.sz+j,none⟩ x).heap.size=w.heap.size:=by simp[World.setCell]
     have hst:∀vs z,E.rep (fun k=>S k/\(Value.slice (some ⟨g,0,none⟩) l.length cap).ownBlock≠some k) w vs z->E.rep (fun k=>S k/\(Value.slice (some ⟨g,0,none⟩) l.length cap).ownBlock≠some k) (w.setCell ⟨g,i*E.sz+j,none⟩ x) vs z:=fun vs z hz=>E.stay hz (by rw[hsz];exact Nat.le_refl _) (fun k hk _=>⟨hk,hoth k (fun e=>hk.2 (by rw[e];rfl))⟩)
     have hfl:=ztg (i:=i) (j:=j) x h5 (by omega) hj
     refine⟨vss.set i ((vss.getD i []).set j x),by rw[List.length_set,List.length_set,hl],⟨?_,.inr ⟨g,cap,_,by rw[List.length_set],hb,zf2,by simpa using hc1,hc2,by simpa using hc3,?_⟩⟩,fun k hk=>?_⟩
     . rw[hfl,List.length_set,List.length_set];exact h3.1
     . rw[hfl,List.length_set,<-ht]
       simp[List.take_set]
     . rw[List.length_set]at hk
       by_cases hki:k=i
       . subst hki
         have e1:(vss.set k ((vss.getD k []).set j x)).getD k []=(vss.getD k []).set j x:=by simp[List.getD,show k<vss.length by omega]
         have e2:(l.set k y).getD k E.dfl=y:=by simp[List.getD,hk]
         rw[e1,e2]
         exact hst _ _ (zxn _ _ (h4 k hk))
       . have e1:(vss.set i ((vss.getD i []).set j x)).getD k []=vss.getD k []:=by simp[List.getD,List.getElem?_set_ne (fun e=>hki e.symm)]
         have e2:(l.set i y).getD k E.dfl=l.getD k E.dfl:=by simp[List.getD,List.getElem?_set_ne (fun e=>hki e.symm)]
         rw[e1,e2]
         exact hst _ _ (h4 k hk)
def PnE:El Pn:=(El.int.cat (El.int.cat El.bool)).via (fun p=>(p.x,p.y,p.on)) Pn.none
def PaE:El Pa:=(El.int.cat (El.int.cat El.int)).via (fun p=>(p.g,p.dx,p.dy)) Pa.none
def PnW(p:Pn):Prop:=I64 p.x/\I64 p.y
def pnC(p:Pn):List Value:=[.int .i64 p.x,.int .i64 p.y,.bool p.on]
theorem zru{S:Nat->Prop}{w:World}{vs:List Value}{p:Pn}:PnE.rep S w vs p↔vs=pnC p/\PnW p:=by
 constructor
 . rintro ⟨us,ts,rfl,⟨rfl,h1⟩,us2,ts2,rfl,⟨rfl,h2⟩,h3⟩
   have h3:ts2=[.bool p.on]:=h3
   subst h3
   exact⟨rfl,h1,h2⟩
 . rintro ⟨rfl,h1,h2⟩
   exact⟨[_],_,rfl,⟨rfl,h1⟩,[_],[_],rfl,⟨rfl,h2⟩,rfl⟩
theorem Gr.rw{α:Type}{E:El α}{S:Nat->Prop}{w wr:World}{a:Option Addr}{cap:Nat}{m:List (List α)}(h:Gr E.row S w a cap m)(hb:Below w.heap.size w wr)(k:Nat)(hk:k<m.length) :
 ∃b off a' cap',a=some ⟨b,off,none⟩/\b<w.heap.size/\wr.cell? ⟨b,off+k,none⟩=some (.slice a' (m.getD k []).length cap')/\Gr E S wr a' cap' (m.getD k [])/\(m.getD k []).length<=140737488351232/\∀b o,a'=some ⟨b,o,none⟩->m.getD k []≠[]->S b:=by
 obtain⟨b,off,vs,e,hl,⟨a',cap',hv,hS,hr,hlb⟩,hc⟩:=h.at hb k hk
 have:=hc 0 Nat.one_pos
 rw[hv,show k*E.row.sz=k from Nat.mul_one k]at this
 exact⟨b,off,a',cap',e,hl,this,hr,hlb,hS⟩
theorem getL'{α:Type}{m:List (List α)}{k:Nat}(hk:k<m.length):m.getD k []=m[k]:=by simp[List.getD,hk]
theorem zx8{α:Type}{p:α->Prop}{d:α}{m:List α}(h:∀k,k<m.length->p (m.getD k d)):∀x∈m,p x:=by
 intro x hx
 obtain⟨i,hi,e⟩:=List.getElem_of_mem hx
 have:=h i hi
 rw[List.getD_eq_getElem?_getD,List.getElem?_eq_getElem hi,Option.getD_some,e]at this
 exact this
theorem zfa{α:Type}{m:List α}{d:α}{k:Nat}(hk:k<m.length):m.take (k+1)=m.take k++[m.getD k d]:=by
 rw[List.take_add_one,List.getElem?_eq_getElem hk]
 simp[List.getD,hk]
theorem zwf:(Tryz.prog.info? 307).map (fun i=>(i.zero,i.size,i.bytes))=some (some (.agg #[.int .i64 0,.int .i64 0,.bool false]),3,24):=by kernel_rfl
theorem zc8{cs:List (List Pn)}{k:Nat}(hk:k<cs.length):((cs.take (k+1)).flatten).length=((cs.take k).flatten).length+(cs.getD k []).length:=by
 rw[zfa (d:=[]) hk,List.flatten_append,List.length_append,List.flatten_singleton]
theorem zer(cs:List (List Pn))(k:Nat):((cs.take k).flatten).length<=cs.flatten.length:=by
 conv=>rhs;rw[<-List.take_append_drop k cs,List.flatten_append,List.length_append]
 omega
