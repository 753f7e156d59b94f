import Derived.Test.YtkmcodofnckdmaaGreatZK48
import Derived.Deep.Strs
import Derived.OpenShut
import Derived.SizedLaws
import Derived.Lib.SmallJoins
set_option maxRecDepth 100000
set_option linter.unusedSimpArgs false
set_option linter.unusedVariables false
namespace Go.Proofs.YtkmcodofnckdmaaGreat
open Tryz Go.RowKit
open Go.ChangeShapes Go.WideShapes Go.Joins Go.Deep
def Opens{α:Type}(E:El α)(t:TypeId):Prop :=
 Tryz.prog.cellsOf t=E.sz/\∀(H:Type) (enc:TypeId×Value->H) (W:World) (held:Bool) (fuel:Nat) (cs:LV) (x:DataW H×List MemPlace),
  DataW.trod enc Tryz.prog W 0 (fun _=>true) held fuel t cs=some x->(∀n∈x.1.weights Tryz.prog t,n<=reachBytes)->∃y:α,E.rep (fun k=>k<W.heap.size) W cs y
theorem Opens.num{t:TypeId}{k:IntKind}{lo hi:Int}(ht:Tryz.prog.underlying t=some (.int k))(hc:Tryz.prog.cellsOf t=1)(hb:∀z,(Lit.int k z).wf=true->lo<=z/\z<=hi):Opens (El.num k lo hi) t :=
 ⟨hc,fun H enc W held fuel cs x h hz=>by
  obtain⟨z,e,_,hw⟩:=DataW.trod_int ht h
  exact⟨z,e,hb z hw⟩⟩
theorem Opens.int{t:TypeId}(ht:Tryz.prog.underlying t=some (.int .i64))(hc:Tryz.prog.cellsOf t=1):Opens El.int t:=Opens.num ht hc (fun z hw=>zif hw)
theorem Opens.bool{t:TypeId}(ht:Tryz.prog.underlying t=some .bool)(hc:Tryz.prog.cellsOf t=1):Opens El.bool t :=
 ⟨hc,fun H enc W held fuel cs x h hz=>by
  obtain⟨z,e,_⟩:=DataW.trod_bool ht h
  exact⟨z,e⟩⟩
theorem Opens.via{α β:Type}{E:El α}{t:TypeId}(h:Opens E t){f:β->α}{d:β}(hf:∀x,∃y,f y=x):Opens (E.via f d) t :=
 ⟨h.1,fun H enc W held fuel cs x h1 hz=>by
  obtain⟨z,hz⟩:=h.2 H enc W held fuel cs x h1 hz;obtain⟨y,rfl⟩:=hf z
  exact⟨y,hz⟩⟩
theorem zl7{α:Type}{d:α}{p:Nat->α->Prop}:∀n,(∀i,i<n->∃o,p i o)->∃os:List α,os.length=n/\∀i,i<n->p i (os.getD i d):=by
 intro n
 induction n with
 | zero=>exact fun _=>⟨[],rfl,fun i hi=>by omega⟩
 | succ n ih =>
  intro h;obtain⟨os,hl,ho⟩:=ih (fun i hi=>h i (by omega));obtain⟨o,h1⟩:=h n (by omega);refine⟨os++[o],by simp[hl],fun i hi=>?_⟩;by_cases hi':i<n
  . have e:(os++[o]).getD i d=os.getD i d:=by simp[List.getD,List.getElem?_append_left (show i<os.length by omega)]
    rw[e];exact ho i hi'
  . have e:i=n:=by omega
    subst e;have e:(os++[o]).getD i d=o:=(by simp[List.getD,<-hl]);rw[e];exact h1
theorem zgz{H:Type}{P:Program}{e:TypeId}{d:DataW H}:∀ {l:List (DataW H)},d∈l->∀ {n:Nat},n∈d.weights P e->n∈DataW.weightsAll P e l
 | c::l,h,n,hn=>by
  rw[DataW.weightsAll,List.mem_append];rcases List.mem_cons.1 h with h|h
  . exact .inl (by rw[<-h];exact hn)
  . exact .inr (zgz h hn)
theorem Opens.row{α:Type}{E:El α}{t e:TypeId}(h:Opens E e)(ht:Tryz.prog.underlying t=some (.slice e))(hc:Tryz.prog.cellsOf t=1)(hsz:0<E.sz)(hby:1<=Tryz.prog.bytesOf e):Opens E.row t :=
 ⟨hc,fun H enc W held fuel cs x hf hz=>by
  rcases open_slice ht hf with ⟨hcs,_⟩|⟨ad,len,cap,m,n,D,Pl,hcs,_,hl,hm,hmm,hx,hel⟩
  . exact⟨[],none,0,hcs,(fun b o e1=>by cases e1),Gr.nil _ _ _ _ _ (qD _) (fun _=>rfl),qD _⟩
  . have hle:len<=m:=by rw[hmm];split <;> omega
    subst hx;have hzm:∀i,i<len->∀k∈(D i).weights Tryz.prog e,k<=reachBytes:=by
     intro i hi k hk;refine hz k ?_;simp only[DataW.weights,ht,List.mem_cons,List.mem_append];exact .inr (.inl (zgz (List.mem_map.2 ⟨i,List.mem_range.2 hi,rfl⟩) hk))
    have hzl:len<=140737488351232:=by
     have h1:=hz ((((List.range len).map D).length+((List.range (m-len)).map fun j=>D (len+j)).length)*Tryz.prog.bytesOf e) (by simp only[DataW.weights,ht];exact List.mem_cons_self);rw[qK,qK,List.length_range,List.length_range]at h1;have h2:(len+(m-len))*1<=(len+(m-len))*Tryz.prog.bytesOf e:=Nat.mul_le_mul_left _ hby
     have h3:reachBytes=140737488351232:=rfl;omega
    have zar:∀i,i<len->∃o:α,∃vs,E.rep (fun k=>k<W.heap.size) W vs o/\∀j,j<E.sz->W.cell? ((ad.add (i*E.sz)).add j)=vs[j]?:=by
     intro i hi;obtain⟨cs',hc',ht'⟩:=hel i (by omega);rw[h.1]at hc';obtain⟨hlen,_,hcell⟩:=World.cells?_some hc';obtain⟨o,ho⟩:=h.2 H enc W held n cs' _ ht' (hzm i hi);refine⟨o,cs',ho,fun j hj=>?_⟩;have:=hcell j (by omega);rw[this,qG (by omega)]
    obtain⟨os,hol,ho⟩:=zl7 (d:=E.dfl) len zar;have key:∀i,i<len->∃b off vs,ad=⟨b,off,none⟩/\b<W.heap.size/\E.rep (fun k=>k<W.heap.size) W vs (os.getD i E.dfl)/\∀j,j<E.sz->W.cell? ⟨b,off+i*E.sz+j,none⟩=vs[j]?:=by
     intro i hi;obtain⟨vs,h1,h2⟩:=ho i hi;obtain⟨b,off,spot⟩:=ad;have h0:=h2 0 hsz;have hv:0<vs.length:=(by rw[E.len h1];exact hsz);rw[qG hv]at h0;have hspot:spot=none:=by
      obtain⟨vs',h1',h2'⟩:=ho 0 (by omega);have h0':=h2' 0 hsz;rw[qG (by rw[E.len h1'];exact hsz)]at h0';have:=World.cell?_spot h0';simpa [Addr.add] using this
     subst hspot;have zdp:∀i,(⟨b,off,none⟩:Addr).add i=⟨b,off+i,none⟩:=(by intro i;unfold Addr.add;split <;> simp_all);have z2r:∀i j,((⟨b,off,none⟩:Addr).add i).add j=⟨b,off+i+j,none⟩:=(by intro i j;rw[zdp];unfold Addr.add;split <;> simp_all);have hlt:=World.block_lt_of_cell? W _ h0;rw[z2r]at hlt;exact⟨b,off,vs,rfl,hlt,h1,fun j hj=>by rw[<-z2r];exact h2 j hj⟩
    refine⟨os,some ad,cap,by rw[hcs,hol],fun b o e1 hne=>?_,⟨by omega,hm,(fun e=>by cases e),fun i hi=>?_⟩,by rw[hol];exact hzl⟩
    . obtain⟨b',off',_,e2,hb',_⟩:=key 0 (by have:=List.length_pos_iff.2 hne;omega)
      rw[e2]at e1;cases e1;exact hb'
    . obtain⟨b,off,vs,e2,hb,h1,h2⟩:=key i (by omega)
      exact⟨b,off,vs,by rw[e2],hb,h1,h2⟩⟩
def OpensF{α:Type}(E:El α)(fs:List Field)(off:Nat):Prop :=
 ∀(H:Type) (enc:TypeId×Value->H) (W:World) (held:Bool) (n:Nat) (cs:LV),(∀f∈fs,∃y,DataW.trod enc Tryz.prog W 0 (fun _=>true) held n f.type ((cs.drop f.offset).take (Tryz.prog.cellsOf f.type))=some y/\∀k∈y.1.weights Tryz.prog f.type,k<=reachBytes) ->
  ∃x:α,E.rep (fun k=>k<W.heap.size) W ((cs.drop off).take E.sz) x
theorem OpensF.last{α:Type}{E:El α}{f:Field}{off:Nat}(h:Opens E f.type)(ho:f.offset=off):OpensF E [f] off:=by
 intro H enc W held n cs hy;obtain⟨y,hy,hz⟩:=hy f (by simp);rw[h.1,ho]at hy;exact h.2 H enc W held n _ y hy hz
theorem OpensF.more{α β:Type}{E:El α}{F:El β}{f:Field}{fs:List Field}{off:Nat}(h:Opens E f.type)(ho:f.offset=off)(hs:OpensF F fs (off+E.sz)):OpensF (E.cat F) (f::fs) off:=by
 intro H enc W held n cs hy;obtain⟨y,hy0,hz0⟩:=hy f (by simp);rw[h.1,ho]at hy0;obtain⟨x,hx⟩:=h.2 H enc W held n _ y hy0 hz0;obtain⟨z,hz⟩:=hs H enc W held n cs (fun g hg=>hy g (by simp[hg]));refine⟨(x,z),(cs.drop off).take E.sz,(cs.drop (off+E.sz)).take F.sz,?_,hx,hz⟩;show(cs.drop off).take (E.sz+F.sz)=_;rw[List.take_add,List.drop_drop]
theorem Opens.struct{α:Type}{E:El α}{t:TypeId}{fs:Array Field}(ht:Tryz.prog.underlying t=some (.struct fs))(hc:Tryz.prog.cellsOf t=E.sz)(h:OpensF E fs.toList 0):Opens E t :=
 ⟨hc,fun H enc W held fuel cs x hf hz=>by
  obtain⟨xs,n,_,hx,hl,hlen,hff⟩:=DataW.trod_struct ht hf;subst hx
  obtain⟨y,hy⟩:=h H enc W held n cs (fun f hf'=>by
   obtain⟨i,hi,e⟩:=List.getElem_of_mem hf';have:=hff i f (by rw[<-e];simp);have hix:i<xs.length:=(by simpa [hlen] using hi);rw[this];refine⟨xs[i]'hix,by rw[qG],fun k hk=>hz k ?_⟩;simp only[DataW.weights,ht];refine DataW.weights_mem_each (j:=i) (t:=f.type) (d:=(xs[i]'hix).1) ?_ ?_ k hk
   . rw[List.getElem?_map,qG hi,e]
     rfl
   . rw[List.getElem?_map,qG hix]
     rfl)
  rw[List.drop_zero,List.take_of_length_le (by rw[hl,hc];exact qE _)]at hy
  exact⟨y,hy⟩⟩
theorem Opens.agg{α:Type}{E:El α}{t:TypeId}(h:Opens E t){fs:Array Field}(ht:Tryz.prog.underlying t=some (.struct fs)){H:Type}{enc:TypeId×Value->H}{W:World}{held:Bool}{r:Reach}{b0:Nat}{v:Value}{d:DataW H}{p:List MemPlace}
    (hv:Value.okWide Tryz.prog W r b0 t v) (hd:DataW.Trod enc Tryz.prog W 0 (fun _=>true) held t v d p) (hz:∀n∈d.weights Tryz.prog t,n<=reachBytes):∃(cs:Array Value) (y:α),v=.agg cs/\E.rep (fun k=>k<W.heap.size) W cs.toList y:=by
 obtain⟨cs,rfl,hsz⟩:=okWide_struct ht hv;obtain⟨fuel,hf⟩:=hd;obtain⟨y,hy⟩:=h.2 H enc W held fuel _ _ hf hz;exact⟨cs,y,rfl,by simpa [Value.cells] using hy⟩
theorem za3:Opens El.int 3:=Opens.int underlying3 (by kernel_rfl)
theorem zfh:Opens El.bool 4:=Opens.bool underlying4 (by kernel_rfl)
theorem zu2:Opens PnE 65 :=
 (Opens.struct (E:=El.int.cat (El.int.cat El.bool)) underlying65 (by kernel_rfl) (OpensF.more za3 rfl (OpensF.more za3 rfl (OpensF.last zfh rfl)))).via (fun x=>⟨⟨x.1,x.2.1,x.2.2⟩,rfl⟩)
theorem zu3:Opens PaE 54 :=
 (Opens.struct (E:=El.int.cat (El.int.cat El.int)) underlying54 (by kernel_rfl) (OpensF.more za3 rfl (OpensF.more za3 rfl (OpensF.last za3 rfl)))).via (fun x=>⟨⟨x.1,x.2.1,x.2.2⟩,rfl⟩)
theorem zrz:Opens PnE.row 63:=Opens.row zu2 underlying63 (by kernel_rfl) (by decide) (of_decide_eq_true (by kernel_rfl))
theorem zpc:Opens PnE.row.row 37:=Opens.row zrz underlying37 (by kernel_rfl) Nat.one_pos (of_decide_eq_true (by kernel_rfl))
theorem zr0:Opens PaE.row 55:=Opens.row zu3 underlying55 (by kernel_rfl) (by decide) (of_decide_eq_true (by kernel_rfl))
theorem zjp:Opens (PnE.row.row.cat PaE.row) 57 :=
 Opens.struct underlying57 (by kernel_rfl) (OpensF.more zpc rfl (OpensF.last zr0 rfl))
open Go.Maps
theorem zgl:Opens El.int.row 29:=Opens.row za3 underlying29 (by kernel_rfl) Nat.one_pos (of_decide_eq_true (by kernel_rfl))
theorem zu1:Opens TeE 146 :=
 (Opens.struct (E:=El.int.cat (El.int.cat El.int)) underlying146 (by kernel_rfl) (OpensF.more za3 rfl (OpensF.more za3 rfl (OpensF.last za3 rfl)))).via (fun x=>⟨⟨x.1,x.2.1,x.2.2⟩,rfl⟩)
theorem zk1:Opens TeE.row 116:=Opens.row zu1 underlying116 (by kernel_rfl) (by decide) (of_decide_eq_true (by kernel_rfl))
theorem zu0:Opens TuE 144 :=
 (Opens.struct (E:=TeE.row.cat (El.bool.cat (El.int.row.cat (El.int.row.cat El.int.row)))) underlying144 (by kernel_rfl) (OpensF.more zk1 rfl (OpensF.more zfh rfl (OpensF.more zgl rfl (OpensF.more zgl rfl (OpensF.last zgl rfl)))))).via (fun x=>⟨⟨x.1,x.2.1,x.2.2.1,x.2.2.2.1,x.2.2.2.2⟩,rfl⟩)
theorem zry:Opens TuE.row 58:=Opens.row zu0 underlying58 (by kernel_rfl) (by decide) (of_decide_eq_true (by kernel_rfl))
theorem zpb:Opens (El.int.cat El.int) 60:=Opens.struct underlying60 (by kernel_rfl) (OpensF.more za3 rfl (OpensF.last za3 rfl))
theorem zu4:Opens GlE 62:=by
 refine⟨by kernel_rfl,fun H enc W held fuel cs x hf hz=>?_⟩;have h:=(Opens.struct (E:=(PnE.row.row.cat PaE.row).cat (TuE.row.cat ((El.int.cat El.int).cat El.bool))) underlying62 (by kernel_rfl) (OpensF.more zjp rfl (OpensF.more zry rfl (OpensF.more zpb rfl (OpensF.last zfh rfl))))).2 H enc W held fuel cs x hf hz;obtain⟨⟨⟨l,m⟩,n,⟨y,z⟩,q⟩,us,ts,rfl,⟨us1,ts1,rfl,h1,h2⟩,us2,ts2,rfl,h3,us3,ts3,rfl,⟨us4,ts4,rfl,h4,h5⟩,h6⟩:=h;refine⟨⟨⟨l,m⟩,n,y,z,q⟩,us1,ts1++(us2++((us4++ts4)++ts3)),by simp only[qI],h1,ts1,us2++((us4++ts4)++ts3),rfl,h2,us2,(us4++ts4)++ts3,rfl,h3,us4,ts4++ts3,by simp only[qI],h4,ts4,ts3,rfl,h5,h6⟩
theorem zr2:Opens GlE.row 22:=Opens.row zu4 underlying22 (by kernel_rfl) (by decide) (of_decide_eq_true (by kernel_rfl))
theorem zpa:Opens TeE.row.row 23:=Opens.row zk1 underlying23 (by kernel_rfl) Nat.one_pos (of_decide_eq_true (by kernel_rfl))
theorem zr1:Opens El.int.row.row 24:=Opens.row zgl underlying24 (by kernel_rfl) Nat.one_pos (of_decide_eq_true (by kernel_rfl))
theorem zl3:Opens (TeE.row.row.cat El.int.row.row) 26:=Opens.struct underlying26 (by kernel_rfl) (OpensF.more zpa rfl (OpensF.last zr1 rfl))
theorem opens_set:Opens (GlE.row.cat ((TeE.row.row.cat El.int.row.row).cat El.int)) 28 :=
 Opens.struct underlying28 (by kernel_rfl) (OpensF.more zr2 rfl (OpensF.more zl3 rfl (OpensF.last za3 rfl)))
theorem Gr.tzz{S:Nat->Prop}{w:World}{a:OA}{cap:Nat}{m:List (List Te)}(h:Gr TeE.row S w a cap m):Tzz w a cap m:=by
 refine⟨h.1,h.2.1,fun i hi=>?_⟩;obtain⟨b,off,a',cap',h1,h2,h3,h4,-⟩:=h.rw (Below.refl _ _) i hi;exact⟨b,off,a',cap',h1,h2,h3,h4.tz⟩
theorem Gr.rii{S:Nat->Prop}{w:World}{a:OA}{cap:Nat}{m:List (LI)}(h:Gr El.int.row S w a cap m):Rii w a cap m:=by
 refine⟨h.1,h.2.1,fun i hi=>?_⟩;obtain⟨b,off,a',cap',h1,h2,h3,h4,-⟩:=h.rw (Below.refl _ _) i hi;exact⟨b,off,a',cap',h1,h2,h3,h4.ri⟩
theorem zu5{H:Type}{enc:TypeId×Value->H}{W:World}{held:Bool}{r:Reach}{b0:Nat}{v:Value}{d:DataW H}{p:List MemPlace}
    (hv:Value.okWide Tryz.prog W r b0 28 v) (hd:DataW.Trod enc Tryz.prog W 0 (fun _=>true) held 28 v d p) (hz:∀n∈d.weights Tryz.prog 28,n<=reachBytes) :
    ∃a ca,∃l:List Gl,∃ga gc ma mc,∃s:Sr,∃ax:Int,v=.agg #[.slice a l.length ca,.slice ga s.rg.length gc,.slice ma s.rw.length mc,.int .i64 ax]/\Gr GlE (fun k=>k<W.heap.size) W a ca l/\Tzz W ga gc s.rg/\Rii W ma mc s.rw/\I64 ax:=by
 obtain⟨cs,⟨l,⟨m,n⟩,z⟩,rfl,us,ts,e,⟨a,ca,h1,_,h2,_⟩,us1,ts1,e1,⟨us2,ts2,e2,⟨b,cb,h3,_,h4,_⟩,c,cc,h5,_,h6,_⟩,⟨h7,h8⟩⟩:=opens_set.agg underlying28 hv hd hz;subst h1 h3 h5 h7;refine⟨a,ca,l,b,cb,c,cc,⟨m,n⟩,z,?_,h2,h4.tzz,h6.rii,h8⟩;congr 1;apply Array.ext';rw[e,e1,e2];rfl
