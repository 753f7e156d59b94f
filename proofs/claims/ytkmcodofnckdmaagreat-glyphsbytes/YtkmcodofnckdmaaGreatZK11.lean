import Derived.Test.YtkmcodofnckdmaaGreatZK10
import Derived.Test.YtkmcodofnckdmaaGreatChecked
set_option linter.unusedSimpArgs false
set_option linter.unusedVariables false
namespace Go.Proofs.YtkmcodofnckdmaaGreat
open Tryz
structure Tu where
 rg:List Te
 al:Bool
 pts:LI
 dx:LI
 dy:LI
def Tu.none:Tu:=⟨[],false,[],[],[]⟩
def nmB(t:Tu)(n:Nat):Bool:=if t.al then decide (t.pts.length=0/\t.dx.length=n/\t.dy.length=n)else (decide (0<t.pts.length)&&(risB t.pts n&&decide (t.dx.length=t.pts.length/\t.dy.length=t.pts.length)))
def tuB(t:Tu)(n:Nat)(ax:Int):Bool:=rgB t.rg ax&&(nmB t n&&(t.dx.all fdB&&t.dy.all fdB))
def foT(o:Ol)(l:List Tu)(ax:Int):Bool:=foB o&&(decide (0<=ax/\ax<=4)&&(decide (l.length<=40)&&l.all (fun t=>tuB t (cntO o) ax)))
theorem zcz{t:Tu}{n:Nat}{ax:Int}:tuB t n ax=true↔rgB t.rg ax=true/\nmB t n=true/\t.dx.all fdB=true/\t.dy.all fdB=true:=by
 unfold tuB;simp only[Bool.and_eq_true]
theorem zbb{o:Ol}{l:List Tu}{ax:Int}:foT o l ax=true↔foB o=true/\(0<=ax/\ax<=4)/\l.length<=40/\∀k,k<l.length->tuB (l.getD k Tu.none) (cntO o) ax=true:=by
 unfold foT;simp only[Bool.and_eq_true,qM,List.all_eq_true];constructor
 . rintro ⟨h1,h2,h3,h4⟩
   exact⟨h1,h2,h3,fun k hk=>h4 _ (by rw[qH,qG hk];exact List.getElem_mem hk)⟩
 . rintro ⟨h1,h2,h3,h4⟩
   refine⟨h1,h2,h3,fun t ht=>?_⟩;obtain⟨k,hk,e⟩:=List.getElem_of_mem ht;have:=h4 k hk;rw[qH,qG hk,Option.getD_some,e]at this;exact this
theorem z26{o:Ol}{l:List Tu}{ax:Int}(h:¬(foB o=true/\(0<=ax/\ax<=4)/\l.length<=40/\∀k,k<l.length->tuB (l.getD k Tu.none) (cntO o) ax=true)):foT o l ax=false:=by
 cases hf:foT o l ax with
 | false=>rfl
 | true=>exact absurd (zbb.1 hf) h
theorem zjr{t:Tu}{n:Nat}(ha:t.al=true):nmB t n=true↔t.pts=[]/\t.dx.length=n/\t.dy.length=n:=by
 unfold nmB;rw[if_pos ha,qM,List.length_eq_zero_iff]
theorem ze2{t:Tu}{n:Nat}(ha:t.al=false):nmB t n=true↔0<t.pts.length/\risB t.pts n=true/\t.dx.length=t.pts.length/\t.dy.length=t.pts.length:=by
 unfold nmB;rw[if_neg (by rw[ha];decide)];simp only[Bool.and_eq_true,qM]
theorem zlw{pts:LI}{n:Nat}(h:risB pts n=true):pts.length<=n:=by
 have hk:∀k,k<pts.length->(k:Int)<=pts.getD k 0:=by
  intro k
  induction k with
  | zero=>intro hk;exact(zeh 0 (fun j hj=>zd1.1 h j (by omega))).1
  | succ k ih =>
   intro hk;have h1:=ih (by omega);have h2:=zd1.1 h (k+1) hk;unfold risP lastI at h2;rw[if_neg (by omega),Nat.add_sub_cancel]at h2;omega
 by_cases h0:pts.length=0
 . omega
 . have h1:=hk (pts.length-1) (by omega)
   have h2:=(zd1.1 h (pts.length-1) (by omega)).2;omega
theorem zf3{o:Ol}(h:foB o=true):cntO o<=86:=by
 have hf:=zbg.1 h;have h1:=hf.2.2.1;have h2:=hf.2.2.2.2.1;unfold cntO;omega
open Go.RowKit Go.Maps
def Gi(base:Nat)(w:World)(v:Value)(l:LI):Prop:=Gw El.int 3 base (fun _=>False) w v l
theorem Gi.nil(base:Nat)(w:World):Gi base w (.slice none 0 0) []:=Gw.nil _ _ _ _ _
theorem Gi.lo{base:Nat}{w:World}{v:Value}{l:LI}(h:Gi base w v l){g:Nat}(hg:v.ownBlock=some g):base<=g/\g<w.heap.size:=Gw.lo h hg
theorem Gr.ri{S:Nat->Prop}{w:World}{a:OA}{cap:Nat}{l:LI}(h:Gr El.int S w a cap l):Ri w a cap l:=by
 have hz:∀i,i<l.length->I64 (l.getD i 0):=fun i hi=>by
  obtain⟨b,off,vs,e,hb,hr,hc⟩:=h.2.2.2 i hi;exact hr.2
 refine⟨fun z hz1=>?_,h.1,h.2.1,?_⟩
 . obtain⟨i,hi,e⟩:=List.getElem_of_mem hz1
   have:=hz i hi;rw[qH,qG hi,Option.getD_some,e]at this;exact this
 . by_cases h0:l=[]
   . exact .inl h0
   . obtain⟨b,off,e,hb⟩:=h.blk h0
     refine .inr ⟨b,off,e,hb,fun i hi=>?_⟩;obtain⟨b',off',vs,e',hb',hr,hc⟩:=h.2.2.2 i hi;rw[e]at e';cases e';have:=hc 0 Nat.one_pos;rw[hr.1,show i*El.int.sz=i from Nat.mul_one i]at this;exact this
theorem Gi.slice{base:Nat}{w:World}{v:Value}{l:LI}(h:Gi base w v l):∃a cap,v=.slice a l.length cap/\Ri w a cap l/\∀b o,a=some ⟨b,o,none⟩->base<=b/\b<w.heap.size:=by
 obtain⟨a,cap,e,hg,hb⟩:=Gw.slice h;exact⟨a,cap,e,hg.ri,hb⟩
theorem Gi.stay{base:Nat}{w w':World}{v:Value}{l:LI}(h:Gi base w v l)(hs:w.heap.size<=w'.heap.size)(ho:∀k,v.ownBlock=some k->w'.heap[k]?=w.heap[k]?):Gi base w' v l :=
 Gw.stay h hs (fun k hk=>hk.elim) ho
theorem Gi.below{base:Nat}{w w':World}{v:Value}{l:LI}(h:Gi base w v l)(hb:Below w.heap.size w w'):Gi base w' v l:=Gw.below h hb
theorem Gi.grown{base:Nat}{w w':World}{v:Value}{l:LI}{r:Option Nat}(h:Gi base w v l)(hg:w.grownBy w' r)(hr:∀k,v.ownBlock=some k->r≠some k):Gi base w' v l :=
 h.stay hg.size (fun k hk=>hg.block k (h.lo hk).2 (fun e=>hr k hk e.symm))
theorem Gi.ne{base:Nat}{w:World}{v:Value}{l:LI}{t:TypeId}{g:Nat}{cs:LV}(h:Gi base w v l)(hb:Bk t w g cs)(ht:t≠3):v.ownBlock≠some g:=by
 intro e;obtain⟨cur,k⟩:=Gw.ty h e;rw[hb]at k;simp at k;exact ht k.2
theorem Gi.set{base:Nat}{w:World}{v:Value}{l:LI}{t:TypeId}{g:Nat}{cs:LV}(h:Gi base w v l)(hb:Bk t w g cs)(ht:t≠3)(j:Nat)(z:Value):Gi base (w.setCell ⟨g,j,none⟩ z) v l :=
 h.stay (by simp[World.setCell]) (fun k hk=>Below.heap_setCell _ _ _ _ (fun e=>h.ne hb ht (by rw[hk,e])))
theorem zah{w:World}{ops:Array Oper}{rest:List Oper}{o:Oper}{a:Act}{Q:Exit->Act->World->Prop}
    (hgd:o.guard=none) (s x:Operand) (ho:o.op=.call { callee:=.builtin .append,args:=#[s,x],argTypes:=#[29,29] })
    (base:Nat) (v:Value) (l:LI) (hs:a.eval s=v) (hown:Gi base w v l) (g:Nat) (z:Int) (hx:a.eval x=.slice (some ⟨g,0,none⟩) 1 1)
    (hg:g<w.heap.size) (c0:w.cell? ⟨g,0,none⟩=some (.int .i64 z)) (hz:I64 z) (hlen:l.length+1<=1000000) (hbase:base<=w.heap.size)
    (h:∀v' w',Gi base w' v' (l++[z])->w.grownBy w' v.ownBlock->(v'.ownBlock=v.ownBlock\/v'.ownBlock=some w.heap.size)->wpList Tryz.prog ops Q rest (a.put o.dst v') w'):wpList Tryz.prog ops Q (o::rest) a w:=by
 refine zab 29 3 underlying29 zcu rfl Nat.one_pos (by decide) hgd s x ho base (fun _=>False) v l hs hown (some ⟨g,0,none⟩) 1 1 [z] rfl hx ?_ hlen hbase (fun v' w' k1 k2 k3=>h v' w' k1 k2 k3);refine Gr.one (vs:=[.int .i64 z]) ⟨rfl,hz⟩ hg (fun j hj=>?_);obtain rfl:j=0:=by simp[El.int,El.num]at hj;exact hj
 exact c0
def TeE:El Te:=(El.int.cat (El.int.cat El.int)).via (fun t=>(t.st,t.pk,t.en)) Te.none
def teV(t:Te):LV:=[.int .i64 t.st,.int .i64 t.pk,.int .i64 t.en]
theorem zfo{S:Nat->Prop}{w:World}{vs:LV}{p:Te}:TeE.rep S w vs p↔vs=teV p/\Tw p:=by
 constructor
 . rintro ⟨us,ts,rfl,⟨rfl,h1⟩,us2,ts2,rfl,⟨rfl,h2⟩,⟨rfl,h3⟩⟩
   exact⟨rfl,h1,h2,h3⟩
 . rintro ⟨rfl,h1,h2,h3⟩
   exact⟨[_],_,rfl,⟨rfl,h1⟩,[_],[_],rfl,⟨rfl,h2⟩,⟨rfl,h3⟩⟩
theorem Gr.tz{S:Nat->Prop}{w:World}{a:OA}{cap:Nat}{l:List Te}(h:Gr TeE S w a cap l):Tz w a cap l:=by
 refine⟨h.1,h.2.1,fun t ht=>?_,h.2.2.1,fun i hi=>?_⟩
 . obtain⟨i,hi,e⟩:=List.getElem_of_mem ht
   obtain⟨b,off,vs,e1,hb,hr,hc⟩:=h.2.2.2 i hi;have h2:=(zfo.1 hr).2;rw[qH,qG hi,Option.getD_some,e]at h2;exact h2
 . obtain⟨b,off,vs,e1,hb,hr,hc⟩:=h.2.2.2 i hi
   obtain⟨rfl,h2⟩:=zfo.1 hr;exact⟨b,off,e1,hb,hc 0 (by decide),hc 1 (by decide),hc 2 (by decide)⟩
def TuE:El Tu:=(TeE.row.cat (El.bool.cat (El.int.row.cat (El.int.row.cat El.int.row)))).via (fun t=>(t.rg,t.al,t.pts,t.dx,t.dy)) Tu.none
def TuC(S:Nat->Prop)(w:World)(ra:OA)(rc:Nat)(pa:OA)(pc:Nat)(xa:OA)(xc:Nat)(ya:OA)(yc:Nat)(t:Tu):Prop :=
 TeE.row.rep S w [.slice ra t.rg.length rc] t.rg/\El.int.row.rep S w [.slice pa t.pts.length pc] t.pts/\El.int.row.rep S w [.slice xa t.dx.length xc] t.dx/\El.int.row.rep S w [.slice ya t.dy.length yc] t.dy
theorem zke{S:Nat->Prop}{w:World}{vs:LV}{t:Tu}:TuE.rep S w vs t ↔ ∃ra rc pa pc xa xc ya yc,vs=[.slice ra t.rg.length rc,.bool t.al,.slice pa t.pts.length pc,.slice xa t.dx.length xc,.slice ya t.dy.length yc]/\TuC S w ra rc pa pc xa xc ya yc t:=by
 constructor
 . rintro ⟨us,ts,rfl,h1,us2,ts2,rfl,h2,us3,ts3,rfl,h3,us4,ts4,rfl,h4,h5⟩
   have h2:us2=[.bool t.al]:=h2;subst h2;have r1:=h1;obtain⟨ra,rc,e1,_⟩:=h1;have r3:=h3;obtain⟨pa,pc,e3,_⟩:=h3;have r4:=h4;obtain⟨xa,xc,e4,_⟩:=h4;have r5:=h5;obtain⟨ya,yc,e5,_⟩:=h5;subst e1 e3 e4 e5;exact⟨ra,rc,pa,pc,xa,xc,ya,yc,rfl,r1,r3,r4,r5⟩
 . rintro ⟨ra,rc,pa,pc,xa,xc,ya,yc,rfl,h1,h2,h3,h4⟩
   exact⟨_,_,rfl,h1,[.bool t.al],_,rfl,rfl,_,_,rfl,h2,_,_,rfl,h3,h4⟩
theorem zax{α:Type}{E:El α}{S:Nat->Prop}{w:World}{a:OA}{c:Nat}{l:List α}(h:E.row.rep S w [.slice a l.length c] l):Gr E S w a c l/\l.length<=140737488351232:=by
 obtain⟨a',c',e,_,h1,h2⟩:=h;injection e with e;injection e with e1 e2 e3;subst e1 e3;exact⟨h1,h2⟩
theorem TuC.tz{S:Nat->Prop}{w:World}{ra:OA}{rc:Nat}{pa:OA}{pc:Nat}{xa:OA}{xc:Nat}{ya:OA}{yc:Nat}{t:Tu}(h:TuC S w ra rc pa pc xa xc ya yc t):Tz w ra rc t.rg:=(zax h.1).1.tz
theorem TuC.pts{S:Nat->Prop}{w:World}{ra:OA}{rc:Nat}{pa:OA}{pc:Nat}{xa:OA}{xc:Nat}{ya:OA}{yc:Nat}{t:Tu}(h:TuC S w ra rc pa pc xa xc ya yc t):Ri w pa pc t.pts:=(zax h.2.1).1.ri
theorem TuC.dx{S:Nat->Prop}{w:World}{ra:OA}{rc:Nat}{pa:OA}{pc:Nat}{xa:OA}{xc:Nat}{ya:OA}{yc:Nat}{t:Tu}(h:TuC S w ra rc pa pc xa xc ya yc t):Ri w xa xc t.dx:=(zax h.2.2.1).1.ri
theorem TuC.dy{S:Nat->Prop}{w:World}{ra:OA}{rc:Nat}{pa:OA}{pc:Nat}{xa:OA}{xc:Nat}{ya:OA}{yc:Nat}{t:Tu}(h:TuC S w ra rc pa pc xa xc ya yc t):Ri w ya yc t.dy:=(zax h.2.2.2).1.ri
theorem TuC.below{S:Nat->Prop}{w w':World}{ra:OA}{rc:Nat}{pa:OA}{pc:Nat}{xa:OA}{xc:Nat}{ya:OA}{yc:Nat}{t:Tu}(h:TuC S w ra rc pa pc xa xc ya yc t)(hb:Below w.heap.size w w'):TuC S w' ra rc pa pc xa xc ya yc t :=
 ⟨TeE.row.stay h.1 hb.size (fun k hk hl=>⟨hk,hb.block k hl⟩),El.int.row.stay h.2.1 hb.size (fun k hk hl=>⟨hk,hb.block k hl⟩),El.int.row.stay h.2.2.1 hb.size (fun k hk hl=>⟨hk,hb.block k hl⟩),El.int.row.stay h.2.2.2 hb.size (fun k hk hl=>⟨hk,hb.block k hl⟩)⟩
theorem TuC.len{S:Nat->Prop}{w:World}{ra:OA}{rc:Nat}{pa:OA}{pc:Nat}{xa:OA}{xc:Nat}{ya:OA}{yc:Nat}{t:Tu}(h:TuC S w ra rc pa pc xa xc ya yc t):t.rg.length<=140737488351232/\t.pts.length<=140737488351232/\t.dx.length<=140737488351232/\t.dy.length<=140737488351232:=⟨(zax h.1).2,(zax h.2.1).2,(zax h.2.2.1).2,(zax h.2.2.2).2⟩
theorem Gr.tu{S:Nat->Prop}{w wr:World}{a:OA}{cap:Nat}{l:List Tu}(h:Gr TuE S w a cap l)(hb:Below w.heap.size w wr)(k:Nat)(hk:k<l.length) :
 ∃b off ra rc pa pc xa xc ya yc,a=some ⟨b,off,none⟩/\b<w.heap.size/\TuC S wr ra rc pa pc xa xc ya yc (l.getD k Tu.none) /\
     wr.cell? ⟨b,off+k*5,none⟩=some (.slice ra (l.getD k Tu.none).rg.length rc)/\wr.cell? ⟨b,off+k*5+1,none⟩=some (.bool (l.getD k Tu.none).al)/\wr.cell? ⟨b,off+k*5+2,none⟩=some (.slice pa (l.getD k Tu.none).pts.length pc)/\wr.cell? ⟨b,off+k*5+3,none⟩=some (.slice xa (l.getD k Tu.none).dx.length xc)/\wr.cell? ⟨b,off+k*5+4,none⟩=some (.slice ya (l.getD k Tu.none).dy.length yc):=by
 obtain⟨b,off,vs,e,h1,hr,hc⟩:=h.at hb k hk;obtain⟨ra,rc,pa,pc,xa,xc,ya,yc,rfl,ht⟩:=zke.1 hr;exact⟨b,off,ra,rc,pa,pc,xa,xc,ya,yc,e,h1,ht,hc 0 (by decide),hc 1 (by decide),hc 2 (by decide),hc 3 (by decide),hc 4 (by decide)⟩
theorem Bk.five{t:TypeId}{w:World}{g:Nat}{x y z u v:Value}(h:Bk t w g [x,y,z,u,v]):w.cell? ⟨g,0,none⟩=some x/\w.cell? ⟨g,1,none⟩=some y/\w.cell? ⟨g,2,none⟩=some z/\w.cell? ⟨g,3,none⟩=some u/\w.cell? ⟨g,4,none⟩=some v/\w.frozen? ⟨g,0,none⟩=false/\w.frozen? ⟨g,1,none⟩=false/\w.frozen? ⟨g,2,none⟩=false/\w.frozen? ⟨g,3,none⟩=false/\w.frozen? ⟨g,4,none⟩=false :=
 ⟨h.cell 0 (by simp),h.cell 1 (by simp),h.cell 2 (by simp),h.cell 3 (by simp),h.cell 4 (by simp),h.fz 0,h.fz 1,h.fz 2,h.fz 3,h.fz 4⟩
def nth:List Oper->Nat->Option Oper
 | [],_=>none
 | o::_,0=>some o
 | _::l,n+1=>nth l n
theorem zk3:∀(l:List Oper) (i:Nat),nth l i=l.toArray[i]?:=by
 intro l
 induction l with
 | nil=>intro i;simp[nth]
 | cons o l ih =>
  intro i;cases i with
  | zero=>simp[nth]
  | succ i=>simp[nth,ih i]
theorem hTake{P:Program}{md:Region.Mode}{l:List Oper}{Q:Exit->Act->World->Prop}{S:World->Prop}{i:Nat}{o:Oper}{v:Value}{fuel:Nat}{listed:Array Bool}{a:Act}{w:World}(hi:nth l i=some o)
    (hs:Region.noSelect l.toArray=true) (hf:Region.free md l.toArray listed i=true) (hr:(Region.ready md l.toArray listed).contains i=true)
    (hQ:∀c a w,Q (.panic c) (a.put o.dst v) w->Q (.panic c) a w) (hy:YieldsIf P l.toArray S o v a) (hS:S w)
    (h:wpAnyH P md l.toArray Q S fuel (listed.setIfInBounds i true) (a.put o.dst v) w):wpAnyH P md l.toArray Q S (fuel+1) listed a w :=
 wpAnyH_take ((zk3 l i).symm.trans hi) hs hf hr hQ hy hS h
theorem hCall{P:Program}{md:Region.Mode}{l:List Oper}{Q:Exit->Act->World->Prop}{S:World->Prop}{i:Nat}{o:Oper}{fuel:Nat}{listed:Array Bool}{a:Act}{w:World}(hi:nth l i=some o)
    (hr:Region.ready md l.toArray listed=[i]) (hw:Region.wanted o (yielded l.toArray a.tmps)=true)
    (h:∀K:Act->World->Prop,Shut (∀a w,S w->(S w->wpAnyH P md l.toArray Q S fuel (listed.setIfInBounds i true) a w)->K a w)->Oper.wp P o a w K Q) :
    wpAnyH P md l.toArray Q S (fuel+1) listed a w :=
 wpAnyH_ready hr (by simp) (AllReadyH.cons ((zk3 l i).symm.trans hi) (fun K hK=>by rw[if_pos hw];exact h K hK) AllReadyH.nil)
theorem hCons{P:Program}{md:Region.Mode}{l:List Oper}{Q:Exit->Act->World->Prop}{S:World->Prop}{i:Nat}{o:Oper}{fuel:Nat}{listed:Array Bool}{a:Act}{w:World}{rs:LN}(hi:nth l i=some o)
    (hw:Region.wanted o (yielded l.toArray a.tmps)=true)
    (h:∀K:Act->World->Prop,Shut (∀a w,S w->(S w->wpAnyH P md l.toArray Q S fuel (listed.setIfInBounds i true) a w)->K a w)->Oper.wp P o a w K Q)
    (hs:AllReadyH P md l.toArray Q S fuel listed a w rs):AllReadyH P md l.toArray Q S fuel listed a w (i::rs) :=
 AllReadyH.cons ((zk3 l i).symm.trans hi) (fun K hK=>by rw[if_pos hw];exact h K hK) hs
theorem pZ:(∀ {α:Type} (l:List α) (i:Nat) (x:α),l.toArray.setIfInBounds i x=(l.set i x).toArray)/\(∀ {α:Type} (a:α) (l:List α) (x:α),(a::l).set 0 x=x::l)/\(∀ {α:Type} (a:α) (l:List α) (n:Nat) (x:α),(a::l).set (n+1) x=a::l.set n x):=⟨fun _ _ _=>List.setIfInBounds_toArray ..,fun _ _ _=>rfl,fun _ _ _ _=>rfl⟩
theorem hT{P:Program}{md:Region.Mode}{l:List Oper}{Q:Exit->Act->World->Prop}{S:World->Prop}(i:Nat){o:Oper}{v:Value}{fuel:Nat}{listed:Array Bool}{a a2:Act}{w:World}(hS:S w)
    (h:wpAnyH P md l.toArray Q S fuel (listed.setIfInBounds i true) a2 w)
    (hi:nth l i=some o:=by rfl) (hs:Region.noSelect l.toArray=true:=by kernel_rfl) (hf:Region.free md l.toArray listed i=true:=by kernel_rfl) (hr:(Region.ready md l.toArray listed).contains i=true:=by kernel_rfl)
    (hQ:∀c a w,Q (.panic c) (a.put o.dst v) w->Q (.panic c) a w:=by exact fun _ _ _ h=>h) (hw:Region.wanted o (yielded l.toArray a.tmps)=true:=by rfl)
    (hy:∀w9,S w9->(execOp a.eval o).run P w9=.ok (.value v) w9:=by intro w9 hSw;(try dsimp only at hSw);go_simp;try with_reducible rfl)
    (ha:a.put o.dst v=a2:=by(try simp only[Act.put,pZ]);try rfl):wpAnyH P md l.toArray Q S (fuel+1) listed a w:=by
 subst ha;exact wpAnyH_take ((zk3 l i).symm.trans hi) hs hf hr hQ (Or.inl ⟨hw,hy⟩) hS h
theorem hN{P:Program}{md:Region.Mode}{l:List Oper}{Q:Exit->Act->World->Prop}{S:World->Prop}(i:Nat){o:Oper}{fuel:Nat}{listed:Array Bool}{a a2:Act}{w:World}(hS:S w)
    (h:wpAnyH P md l.toArray Q S fuel (listed.setIfInBounds i true) a2 w)
    (hi:nth l i=some o:=by rfl) (hs:Region.noSelect l.toArray=true:=by kernel_rfl) (hf:Region.free md l.toArray listed i=true:=by kernel_rfl) (hr:(Region.ready md l.toArray listed).contains i=true:=by kernel_rfl)
    (hQ:∀c a w,Q (.panic c) (a.put o.dst undef) w->Q (.panic c) a w:=by exact fun _ _ _ h=>h) (hw:Region.wanted o (yielded l.toArray a.tmps)=false:=by rfl)
    (ha:a.put o.dst undef=a2:=by(try simp only[Act.put,pZ]);try rfl):wpAnyH P md l.toArray Q S (fuel+1) listed a w:=by
 subst ha;exact wpAnyH_take ((zk3 l i).symm.trans hi) hs hf hr hQ (Or.inr ⟨hw,rfl⟩) hS h
