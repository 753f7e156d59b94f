import Derived.Test.YtgbhidcokobmmaaGreatDoorZW25
import Derived.Deep.Strs
import Derived.OpenShut
import Derived.SizedLaws
import Derived.Lib.SmallJoins
import Derived.Test.YtgbhidcokobmmaaGreatDoorRows
import Derived.LaidLaws
import Derived.Lib.LaidTab
set_option maxHeartbeats 8000000
set_option maxRecDepth 100000
set_option linter.unusedSimpArgs false
set_option linter.unusedVariables false
namespace Go.Proofs.YtgbhidcokobmmaaGreatDoor
open Go.RowKit Go.Maps
theorem zru{l:List Rn}(h:∀k,k<l.length->-1000000<=(l.getD k Rn.none).gl/\(l.getD k Rn.none).gl<=1000000/\-1000000<=(l.getD k Rn.none).fr)(c:Int)(h0:0<=c)(h1:c<=1114111):NoR l c:=by
 intro k hk hin
 obtain⟨g1,g2,g3⟩:=h k hk
 unfold inR at hin
 simp only[Bool.and_eq_true,decide_eq_true_iff]at hin
 exact⟨⟨by omega,by omega⟩,⟨by omega,by omega⟩⟩
theorem sbAA:sb ⟨#[65,65]⟩=[65,65]:=by decide +kernel
theorem zd2(w:World)(hT:Spn w) :
 Calls Tryz.prog 8 #[] w fun e w'=>e=.returned (.bool true)/\Below w.heap.size w w':=by
 obtain⟨W0,hW0⟩:∃W0,W0=w.alloc (.cells #[.int .i64 300,.int .i64 (-1)] 62):=⟨_,rfl⟩
 have sW0:W0.heap.size=w.heap.size+1:=by rw[hW0,World.size_alloc]
 have dW0:Below w.heap.size w W0:=by rw[hW0];exact bl1 _
 have cW0:Below w.heap.size w W0:=dW0
 have BW0:Bk 62 W0 (w.heap.size) [.int .i64 300,.int .i64 (-1)]:=by rw[hW0];exact Bk.new _ _ _
 obtain⟨W1,hW1⟩:∃W1,W1=W0.alloc (.cells #[.slice none 0 0,.slice none 0 0,.slice none 0 0,.int .i64 300,.int .i64 (-1),.bool false,.slice none 0 0,.slice none 0 0,.slice none 0 0,.int .i64 300,.int .i64 (-1),.bool false] 64):=⟨_,rfl⟩
 have sW1:W1.heap.size=w.heap.size+1+1:=by rw[hW1,World.size_alloc,sW0]
 have dW1:Below W0.heap.size W0 W1:=by rw[hW1];exact bl1 _
 have cW1:Below w.heap.size w W1:=cW0.trans (dW1.mono cW0.size)
 have BW1:Bk 64 W1 (w.heap.size+1) [.slice none 0 0,.slice none 0 0,.slice none 0 0,.int .i64 300,.int .i64 (-1),.bool false,.slice none 0 0,.slice none 0 0,.slice none 0 0,.int .i64 300,.int .i64 (-1),.bool false]:=by rw[hW1,<-sW0];exact Bk.new _ _ _
 replace BW0:=BW0.below dW1
 obtain⟨W2,hW2⟩:∃W2,W2=W1.alloc (.cells #[.int .i64 65,.int .i64 65,.int .i64 1] 72):=⟨_,rfl⟩
 have sW2:W2.heap.size=w.heap.size+1+1+1:=by rw[hW2,World.size_alloc,sW1]
 have dW2:Below W1.heap.size W1 W2:=by rw[hW2];exact bl1 _
 have cW2:Below w.heap.size w W2:=cW1.trans (dW2.mono cW1.size)
 have BW2:Bk 72 W2 (w.heap.size+1+1) [.int .i64 65,.int .i64 65,.int .i64 1]:=by rw[hW2,<-sW1];exact Bk.new _ _ _
 replace BW0:=BW0.below dW2;replace BW1:=BW1.below dW2
 obtain⟨W3,hW3⟩:∃W3,W3=W2.alloc (.cells #[.slice none 0 0,.slice none 0 0,.slice none 0 0,.slice none 0 0,.slice (some ⟨w.heap.size+1,0,none⟩) 2 2,.slice none 0 0,.slice none 0 0,.slice (some ⟨w.heap.size+1+1,0,none⟩) 1 1,.slice none 0 0,.slice none 0 0,.slice none 0 0] 36):=⟨_,rfl⟩
 have sW3:W3.heap.size=w.heap.size+1+1+1+1:=by rw[hW3,World.size_alloc,sW2]
 have dW3:Below W2.heap.size W2 W3:=by rw[hW3];exact bl1 _
 have cW3:Below w.heap.size w W3:=cW2.trans (dW3.mono cW2.size)
 have BW3:Bk 36 W3 (w.heap.size+1+1+1) [.slice none 0 0,.slice none 0 0,.slice none 0 0,.slice none 0 0,.slice (some ⟨w.heap.size+1,0,none⟩) 2 2,.slice none 0 0,.slice none 0 0,.slice (some ⟨w.heap.size+1+1,0,none⟩) 1 1,.slice none 0 0,.slice none 0 0,.slice none 0 0]:=by rw[hW3,<-sW2];exact Bk.new _ _ _
 replace BW0:=BW0.below dW3;replace BW1:=BW1.below dW3;replace BW2:=BW2.below dW3
 have hgl:Gr GlE (fun _=>True) W3 (some ⟨w.heap.size+1,0,none⟩) 2 foA.gl:=by
  refine⟨Nat.le_refl _,by unfold maxLen;decide,(fun e=>by cases e),fun i hi=>?_⟩
  have hrep:GlE.rep (fun _=>True) W3 [.slice none 0 0,.slice none 0 0,.slice none 0 0,.int .i64 300,.int .i64 (-1),.bool false] ⟨Ol.none,[],300,-1,false⟩:=zld.2 ⟨none,0,none,0,none,0,rfl,⟨none,0,rfl,fun _ _ _ _=>trivial,Gr.nil _ _ _ _ _ (Nat.zero_le _) (fun _=>rfl),by decide⟩,⟨none,0,rfl,fun _ _ _ _=>trivial,Gr.nil _ _ _ _ _ (Nat.zero_le _) (fun _=>rfl),by decide⟩,⟨none,0,rfl,fun _ _ _ _=>trivial,Gr.nil _ _ _ _ _ (Nat.zero_le _) (fun _=>rfl),by decide⟩,⟨by decide,by decide⟩,⟨by decide,by decide⟩⟩
  have h2:i=0\/i=1:=by
   have:i<2:=hi
   omega
  refine⟨w.heap.size+1,0,[.slice none 0 0,.slice none 0 0,.slice none 0 0,.int .i64 300,.int .i64 (-1),.bool false],rfl,BW1.lt,?_,fun j hj=>?_⟩
  . rcases h2 with rfl|rfl <;> exact hrep
  . have hj6:j<6:=hj
    rcases h2 with rfl|rfl
    . rw[BW1.cell _ (by show 0+0*6+j<12;omega)]
      rcases (by omega:j=0\/j=1\/j=2\/j=3\/j=4\/j=5)with rfl|rfl|rfl|rfl|rfl|rfl <;> rfl
    . rw[BW1.cell _ (by show 0+1*6+j<12;omega)]
      rcases (by omega:j=0\/j=1\/j=2\/j=3\/j=4\/j=5)with rfl|rfl|rfl|rfl|rfl|rfl <;> rfl
 have hrn:Gr RnE (fun _=>True) W3 (some ⟨w.heap.size+1+1,0,none⟩) 1 foA.rn:=Gr.one (zlc.2 ⟨rfl,⟨by decide,by decide⟩,⟨by decide,by decide⟩,⟨by decide,by decide⟩⟩) BW2.lt (fun j hj=>BW2.cell j hj)
 have hFo:FoR (fun _=>True) W3 ⟨none,0,0,none,0,0,none,0,none,0,some ⟨w.heap.size+1,0,none⟩,2,none,0,0,none,0,0,some ⟨w.heap.size+1+1,0,none⟩,1,none,0,none,0,none,0⟩ foA:=⟨by unfold Tzz;simp[foA,maxLen],by unfold Rii;simp[foA,maxLen],hgl,hrn,(Gr.nil _ _ _ _ _ (Nat.zero_le _) (fun _=>rfl)),(Gr.nil _ _ _ _ _ (Nat.zero_le _) (fun _=>rfl)),(Gr.nil _ _ _ _ _ (Nat.zero_le _) (fun _=>rfl))⟩
 have hBo:FoB foA:=⟨by decide,by decide,(fun l hl=>by cases hl),by decide,⟨by decide,(fun k hk=>by cases hk),(fun k hk=>by cases hk)⟩,fun z h0 h1=>zru (fun k hk=>by
  obtain rfl:k=0:=by
   have:k<1:=hk
   omega
  exact⟨by decide,by decide,by decide⟩) z h0 h1⟩
 have hsh:=zgk (fun _=>True) ⟨none,0,0,none,0,0,none,0,none,0,some ⟨w.heap.size+1,0,none⟩,2,none,0,0,none,0,0,some ⟨w.heap.size+1+1,0,none⟩,1,none,0,none,0,none,0⟩ foA none 0 [] ⟨#[65,65]⟩ none 0 [] W3 hFo hBo (Gr.nil _ _ _ _ _ (Nat.zero_le _) (fun _=>rfl)) (Gr.nil _ _ _ _ _ (Nat.zero_le _) (fun _=>rfl)) (by decide) (hT.below cW3)
 rw[sbAA,zs3]at hsh
 replace hsh:Calls Tryz.prog 12 #[.agg #[.slice none 0 0,.slice none 0 0,.slice none 0 0,.slice none 0 0,.slice (some ⟨w.heap.size+1,0,none⟩) 2 2,.slice none 0 0,.slice none 0 0,.slice (some ⟨w.heap.size+1+1,0,none⟩) 1 1,.slice none 0 0,.slice none 0 0,.slice none 0 0],.slice none 0 0,.string ⟨#[65,65]⟩,.slice none 0 0] W3 fun e w'=>PaA (0,[⟨1,0,0,300⟩,⟨1,0,0,300⟩]) W3.heap.size w' e/\Below W3.heap.size W3 w':=hsh
 obtain⟨x0,x1,x2,x3,x4,x5,x6,x7,x8,x9,x10⟩:=BW3.elevenH;clear hgl hrn hFo hBo BW0 BW1 BW2 hT cW0 cW1 cW2
 go_enter Tryz.func8,Tryz.ntmps8
 go_upto_region 3 with fail
 rw[<-hW0,<-hW1,<-hW2,<-hW3];clear hW0 dW0 sW0 hW1 dW1 sW1 hW2 dW2 sW2 hW3 dW3 sW3
 go_wp2_with fail
 refine hsh.mono ?_
 rintro e u ⟨hr,hb⟩;obtain⟨v,rfl,hG⟩:=hr.out;obtain⟨oa,oc,rfl,hgr,-⟩:=hG.slice
 have hbu:=cW3.trans (hb.mono cW3.size)
 have hwi:=zbc _ oa oc _ u hgr
 rw[zs0]at hwi
 have HGR:Hid (Gr PdE (fun _=>False) u oa oc [⟨1,0,0,300⟩,⟨1,0,0,300⟩]):=hgr
 clear hsh hr hG hgr hb x0 x1 x2 x3 x4 x5 x6 x7 x8 x9 x10
 go_wp2_with fail
 refine hwi.mono ?_
 rintro e u2 ⟨rfl,hb⟩
 have zag:=hbu.trans (hb.mono hbu.size)
 obtain⟨b,off,ea,hb0,hw4,d0,-,-,-⟩:=HGR.out.pd hb 1 (by decide)
 subst ea
 replace d0:u2.cell? ⟨b,off+4,none⟩=some (.int .i64 1):=d0
 clear hwi hb hw4 HGR
 go_wp2_with fail
 go_ret
 exact⟨rfl,zag⟩
def IsRowK(k:IntKind)(w:World)(a:Option Addr)(len cap:Nat)(zs:List Int):Prop :=
 (a=none/\len=0/\cap=0/\zs=[]) \/
 ∃x,a=some x/\len<=cap/\cap<=maxLen/\zs.length=cap/\(∀i,i<zs.length->w.cell? (x.add i)=some (.int k (zs.getD i 0)))/\∀n∈zs,(Lit.int k n).wf=true
theorem zel{n:Int}(h:(Lit.int .u8 n).wf=true):0<=n/\n<256:=by
 simp[Lit.wf,IntKind.min,IntKind.max,IntKind.bits,IntKind.signed]at h
 omega
theorem zd5{n:Int}(h:(Lit.int .i64 n).wf=true):-9223372036854775808<=n/\n<=9223372036854775807:=by
 simp[Lit.wf,IntKind.min,IntKind.max,IntKind.bits,IntKind.signed]at h
 omega
theorem IsRowK.cells{k:IntKind}{w:World}{a:Option Addr}{len cap:Nat}{zs:List Int}(h:IsRowK k w a len cap zs) :
 ∃ys:List Int,len=ys.length/\(∀y∈ys,(Lit.int k y).wf=true)/\ys.length<=cap/\cap<=maxLen/\(a=none->cap=0) /\
     (ys=[]\/∃b off,a=some ⟨b,off,none⟩/\b<w.heap.size/\∀i,i<ys.length->w.cell? ⟨b,off+i,none⟩=some (.int k (ys.getD i 0))):=by
 rcases h with ⟨rfl,rfl,rfl,rfl⟩|⟨x,rfl,h1,h2,h3,hc,hw⟩
 . exact⟨[],rfl,(fun y hy=>by cases hy),Nat.le_refl _,Nat.zero_le _,fun _=>rfl,.inl rfl⟩
 . refine⟨zs.take len,by simp;omega,fun y hy=>hw y (List.mem_of_mem_take hy),by simp;omega,h2,(by simp),?_⟩
   by_cases h0:len=0
   . exact .inl (by simp[h0])
   . obtain⟨b,off,spot⟩:=x
     have c0:=hc 0 (by omega)
     have hspot:spot=none:=by simpa [Addr.add] using World.cell?_spot c0
     subst hspot
     refine .inr ⟨b,off,rfl,?_,fun i hi=>?_⟩
     . have:=World.block_lt_of_cell? w _ c0
       simpa [Addr.add] using this
     . simp at hi
       have zbq:(⟨b,off,none⟩:Addr).add i=⟨b,off+i,none⟩:=by unfold Addr.add;split <;> simp_all
       have hci:=hc i (by omega)
       rw[zbq]at hci;rw[hci]
       simp[List.getD,show i<len by omega]
theorem IsRowK.rb{w:World}{a:Option Addr}{len cap:Nat}{zs:List Int}(h:IsRowK .u8 w a len cap zs):∃xs:List Nat,len=xs.length/\Rb w a cap xs:=by
 obtain⟨ys,h1,h2,h3,h4,h5,h6⟩:=h.cells
 have hb:∀y∈ys,0<=y/\y<256:=fun y hy=>zel (h2 y hy)
 refine⟨ys.map Int.toNat,by simp[h1],?_,by simpa using h3,h4,h5,?_⟩
 . intro x hx
   obtain⟨y,hy,rfl⟩:=List.mem_map.1 hx
   have:=hb y hy
   omega
 . rcases h6 with rfl|⟨b,off,e,hlt,hc⟩
   . exact .inl rfl
   . refine .inr ⟨b,off,e,hlt,fun i hi=>?_⟩
     simp at hi
     rw[hc i hi]
     have h0:ys.getD i 0=ys[i]:=by simp[List.getD,hi]
     have hy:=hb ys[i] (List.getElem_mem hi)
     rw[h0]
     simp[List.getD,hi]
     omega
open Go.ChangeShapes Go.WideShapes Go.Joins Go.Deep
def Opens{α:Type}(E:El α)(t:TypeId):Prop :=
 Tryz.prog.cellsOf t=E.sz/\∀(H:Type) (enc:TypeId×Value->H) (W:World) (held:Bool) (fuel:Nat) (cs:List Value) (x:DataW H×List MemPlace),
  DataW.trod enc Tryz.prog W 0 (fun _=>true) held fuel t cs=some x->(∀n∈x.1.weights Tryz.prog t,n<=reachBytes)->∃y:α,E.rep (fun k=>k<W.heap.size) W cs y
theorem Opens.num{t:TypeId}{k:IntKind}{lo hi:Int}(ht:Tryz.prog.underlying t=some (.int k))(hc:Tryz.prog.cellsOf t=1)(hb:∀z,(Lit.int k z).wf=true->lo<=z/\z<=hi):Opens (El.num k lo hi) t :=
 ⟨hc,fun H enc W held fuel cs x h hz=>by
  obtain⟨z,e,_,hw⟩:=DataW.trod_int ht h
  exact⟨z,e,hb z hw⟩⟩
theorem Opens.int{t:TypeId}(ht:Tryz.prog.underlying t=some (.int .i64))(hc:Tryz.prog.cellsOf t=1):Opens El.int t:=Opens.num ht hc (fun z hw=>zd5 hw)
theorem Opens.bool{t:TypeId}(ht:Tryz.prog.underlying t=some .bool)(hc:Tryz.prog.cellsOf t=1):Opens El.bool t :=
 ⟨hc,fun H enc W held fuel cs x h hz=>by
  obtain⟨z,e,_⟩:=DataW.trod_bool ht h
  exact⟨z,e⟩⟩
theorem Opens.str{t:TypeId}(ht:Tryz.prog.underlying t=some .string)(hc:Tryz.prog.cellsOf t=1):Opens El.str t :=
 ⟨hc,fun H enc W held fuel cs x h hz=>by
  obtain⟨z,e,_,hw⟩:=DataW.trod_string ht h
  exact⟨z,e,hw⟩⟩
theorem Opens.via{α β:Type}{E:El α}{t:TypeId}(h:Opens E t){f:β->α}{d:β}(hf:∀x,∃y,f y=x):Opens (E.via f d) t :=
 ⟨h.1,fun H enc W held fuel cs x h1 hz=>by
  obtain⟨z,hz⟩:=h.2 H enc W held fuel cs x h1 hz
  obtain⟨y,rfl⟩:=hf z
  exact⟨y,hz⟩⟩
theorem zf7{α:Type}{d:α}{p:Nat->α->Prop}:∀n,(∀i,i<n->∃o,p i o)->∃os:List α,os.length=n/\∀i,i<n->p i (os.getD i d):=by
 intro n
 induction n with
 | zero=>exact fun _=>⟨[],rfl,fun i hi=>by omega⟩
 | succ n ih =>
  intro h
  obtain⟨os,hl,ho⟩:=ih (fun i hi=>h i (by omega))
  obtain⟨o,h1⟩:=h n (by omega)
  refine⟨os++[o],by simp[hl],fun i hi=>?_⟩
  by_cases hi':i<n
  . have e:(os++[o]).getD i d=os.getD i d:=by simp[List.getD,List.getElem?_append_left (show i<os.length by omega)]
    rw[e]
    exact ho i hi'
  . have e:i=n:=by omega
    subst e
    have e:(os++[o]).getD i d=o:=by simp[List.getD,<-hl]
    rw[e]
    exact h1
theorem zdg{H:Type}{P:Program}{e:TypeId}{d:DataW H}:∀ {l:List (DataW H)},d∈l->∀ {n:Nat},n∈d.weights P e->n∈DataW.weightsAll P e l
 | c::l,h,n,hn=>by
  rw[DataW.weightsAll,List.mem_append]
  rcases List.mem_cons.1 h with h|h
  . exact .inl (by rw[<-h];exact hn)
  . exact .inr (zdg h hn)
theorem Opens.row{α:Type}{E:El α}{t e:TypeId}(h:Opens E e)(ht:Tryz.prog.underlying t=some (.slice e))(hc:Tryz.prog.cellsOf t=1)(hsz:0<E.sz)(hby:1<=Tryz.prog.bytesOf e):Opens E.row t :=
 ⟨hc,fun H enc W held fuel cs x hf hz=>by
  rcases open_slice ht hf with ⟨hcs,_⟩|⟨ad,len,cap,m,n,D,Pl,hcs,_,hl,hm,hmm,hx,hel⟩
  . exact⟨[],none,0,hcs,(fun b o e1=>by cases e1),Gr.nil _ _ _ _ _ (Nat.zero_le _) (fun _=>rfl),Nat.zero_le _⟩
  . have hle:len<=m:=by rw[hmm];split <;> omega
    subst hx
    have hzm:∀i,i<len->∀k∈(D i).weights Tryz.prog e,k<=reachBytes:=by
     intro i hi k hk
     refine hz k ?_
     simp only[DataW.weights,ht,List.mem_cons,List.mem_append]
     exact .inr (.inl (zdg (List.mem_map.2 ⟨i,List.mem_range.2 hi,rfl⟩) hk))
    have hzl:len<=140737488351232:=by
     have h1:=hz ((((List.range len).map D).length+((List.range (m-len)).map fun j=>D (len+j)).length)*Tryz.prog.bytesOf e) (by simp only[DataW.weights,ht];exact List.mem_cons_self)
     rw[List.length_map,List.length_map,List.length_range,List.length_range]at h1
     have h2:(len+(m-len))*1<=(len+(m-len))*Tryz.prog.bytesOf e:=Nat.mul_le_mul_left _ hby
     have h3:reachBytes=140737488351232:=rfl
     omega
    have zle:∀i,i<len->∃o:α,∃vs,E.rep (fun k=>k<W.heap.size) W vs o/\∀j,j<E.sz->W.cell? ((ad.add (i*E.sz)).add j)=vs[j]?:=by
     intro i hi
     obtain⟨cs',hc',ht'⟩:=hel i (by omega)
     rw[h.1]at hc'
     obtain⟨hlen,_,hcell⟩:=World.cells?_some hc'
     obtain⟨o,ho⟩:=h.2 H enc W held n cs' _ ht' (hzm i hi)
     refine⟨o,cs',ho,fun j hj=>?_⟩
     have:=hcell j (by omega)
     rw[this,List.getElem?_eq_getElem (by omega)]
    obtain⟨os,hol,ho⟩:=zf7 (d:=E.dfl) len zle
    have key:∀i,i<len->∃b off vs,ad=⟨b,off,none⟩/\b<W.heap.size/\E.rep (fun k=>k<W.heap.size) W vs (os.getD i E.dfl)/\∀j,j<E.sz->W.cell? ⟨b,off+i*E.sz+j,none⟩=vs[j]?:=by
     intro i hi
     obtain⟨vs,h1,h2⟩:=ho i hi
     obtain⟨b,off,spot⟩:=ad
     have h0:=h2 0 hsz
     have hv:0<vs.length:=by rw[E.len h1];exact hsz
     rw[List.getElem?_eq_getElem hv]at h0
     have hspot:spot=none:=by
      obtain⟨vs',h1',h2'⟩:=ho 0 (by omega)
      have h0':=h2' 0 hsz
      rw[List.getElem?_eq_getElem (by rw[E.len h1'];exact hsz)]at h0'
      have:=World.cell?_spot h0'
      simpa [Addr.add] using this
     subst hspot
     have zbq:∀i,(⟨b,off,none⟩:Addr).add i=⟨b,off+i,none⟩:=by intro i;unfold Addr.add;split <;> simp_all
     have zsq:∀i j,((⟨b,off,none⟩:Addr).add i).add j=⟨b,off+i+j,none⟩:=by intro i j;rw[zbq];unfold Addr.add;split <;> simp_all
     have hlt:=World.block_lt_of_cell? W _ h0
     rw[zsq]at hlt
     exact⟨b,off,vs,rfl,hlt,h1,fun j hj=>by rw[<-zsq];exact h2 j hj⟩
    refine⟨os,some ad,cap,by rw[hcs,hol],fun b o e1 hne=>?_,⟨by omega,hm,(fun e=>by cases e),fun i hi=>?_⟩,by rw[hol];exact hzl⟩
    . obtain⟨b',off',_,e2,hb',_⟩:=key 0 (by have:=List.length_pos_iff.2 hne;omega)
      rw[e2]at e1
      cases e1
      exact hb'
    . obtain⟨b,off,vs,e2,hb,h1,h2⟩:=key i (by omega)
      exact⟨b,off,vs,by rw[e2],hb,h1,h2⟩⟩
def OpensF{α:Type}(E:El α)(fs:List Field)(off:Nat):Prop :=
 ∀(H:Type) (enc:TypeId×Value->H) (W:World) (held:Bool) (n:Nat) (cs:List Value),(∀f∈fs,∃y,DataW.trod enc Tryz.prog W 0 (fun _=>true) held n f.type ((cs.drop f.offset).take (Tryz.prog.cellsOf f.type))=some y/\∀k∈y.1.weights Tryz.prog f.type,k<=reachBytes) ->
  ∃x:α,E.rep (fun k=>k<W.heap.size) W ((cs.drop off).take E.sz) x
theorem OpensF.last{α:Type}{E:El α}{f:Field}{off:Nat}(h:Opens E f.type)(ho:f.offset=off):OpensF E [f] off:=by
 intro H enc W held n cs hy
 obtain⟨y,hy,hz⟩:=hy f (by simp)
 rw[h.1,ho]at hy
 exact h.2 H enc W held n _ y hy hz
theorem OpensF.more{α β:Type}{E:El α}{F:El β}{f:Field}{fs:List Field}{off:Nat}(h:Opens E f.type)(ho:f.offset=off)(hs:OpensF F fs (off+E.sz)):OpensF (E.cat F) (f::fs) off:=by
 intro H enc W held n cs hy
 obtain⟨y,hy0,hz0⟩:=hy f (by simp)
 rw[h.1,ho]at hy0
 obtain⟨x,hx⟩:=h.2 H enc W held n _ y hy0 hz0
 obtain⟨z,hz⟩:=hs H enc W held n cs (fun g hg=>hy g (by simp[hg]))
 refine⟨(x,z),(cs.drop off).take E.sz,(cs.drop (off+E.sz)).take F.sz,?_,hx,hz⟩
 show(cs.drop off).take (E.sz+F.sz)=_
 rw[List.take_add,List.drop_drop]
theorem Opens.struct{α:Type}{E:El α}{t:TypeId}{fs:Array Field}(ht:Tryz.prog.underlying t=some (.struct fs))(hc:Tryz.prog.cellsOf t=E.sz)(h:OpensF E fs.toList 0):Opens E t :=
 ⟨hc,fun H enc W held fuel cs x hf hz=>by
  obtain⟨xs,n,_,hx,hl,hlen,hff⟩:=DataW.trod_struct ht hf
  subst hx
  obtain⟨y,hy⟩:=h H enc W held n cs (fun f hf'=>by
   obtain⟨i,hi,e⟩:=List.getElem_of_mem hf'
   have:=hff i f (by rw[<-e];simp)
   have hix:i<xs.length:=by simpa [hlen] using hi
   rw[this]
   refine⟨xs[i]'hix,by rw[List.getElem?_eq_getElem],fun k hk=>hz k ?_⟩
   simp only[DataW.weights,ht]
   refine DataW.weights_mem_each (j:=i) (t:=f.type) (d:=(xs[i]'hix).1) ?_ ?_ k hk
   . rw[List.getElem?_map,List.getElem?_eq_getElem hi,e]
     rfl
   . rw[List.getElem?_map,List.getElem?_eq_getElem hix]
     rfl)
  rw[List.drop_zero,List.take_of_length_le (by rw[hl,hc];exact Nat.le_refl _)]at hy
  exact⟨y,hy⟩⟩
theorem Opens.agg{α:Type}{E:El α}{t:TypeId}(h:Opens E t){fs:Array Field}(ht:Tryz.prog.underlying t=some (.struct fs)){H:Type}{enc:TypeId×Value->H}{W:World}{held:Bool}{r:Reach}{b0:Nat}{v:Value}{d:DataW H}{p:List MemPlace}
    (hv:Value.okWide Tryz.prog W r b0 t v) (hd:DataW.Trod enc Tryz.prog W 0 (fun _=>true) held t v d p) (hz:∀n∈d.weights Tryz.prog t,n<=reachBytes):∃(cs:Array Value) (y:α),v=.agg cs/\E.rep (fun k=>k<W.heap.size) W cs.toList y:=by
 obtain⟨cs,rfl,hsz⟩:=okWide_struct ht hv
 obtain⟨fuel,hf⟩:=hd
 obtain⟨y,hy⟩:=h.2 H enc W held fuel _ _ hf hz
 exact⟨cs,y,rfl,by simpa [Value.cells] using hy⟩
theorem Opens.cell{α:Type}{E:El α}{t:TypeId}(h:Opens E t){H:Type}{enc:TypeId×Value->H}{W:World}{held:Bool}{v:Value}{d:DataW H}{p:List MemPlace}
    (hd:DataW.Trod enc Tryz.prog W 0 (fun _=>true) held t v d p) (hz:∀n∈d.weights Tryz.prog t,n<=reachBytes) (zle:v.cells=#[v]):∃y:α,E.rep (fun k=>k<W.heap.size) W [v] y:=by
 obtain⟨fuel,hf⟩:=hd
 obtain⟨y,hy⟩:=h.2 H enc W held fuel _ _ hf hz
 exact⟨y,by simpa [zle] using hy⟩
def E32:El Int:=El.num .i32 (-2147483648) 2147483647
theorem zhy:Opens E32 21:=Opens.num Tryz.underlying21 (by kernel_rfl) (fun z h=>by simp[Lit.wf,IntKind.min,IntKind.max,IntKind.bits,IntKind.signed]at h;omega)
theorem opens_i32sH:Opens E32.row 69:=Opens.row zhy Tryz.underlying69 (by kernel_rfl) Nat.one_pos (of_decide_eq_true (by kernel_rfl))
theorem zhz{H:Type}{enc:TypeId×Value->H}{W:World}{held:Bool}{a:Option Addr}{len cap:Nat}{d:DataW H}{p:List MemPlace}
    (hd:DataW.Trod enc Tryz.prog W 0 (fun _=>true) held 69 (.slice a len cap) d p) (hz:∀n∈d.weights Tryz.prog 69,n<=reachBytes):∃l:List Int,len=l.length/\Gr E32 (fun k=>k<W.heap.size) W a cap l:=by
 obtain⟨l,a',cap',e,_,hg,_⟩:=opens_i32sH.cell hd hz rfl
 simp at e
 obtain⟨rfl,rfl,rfl⟩:=e
 exact⟨l,rfl,hg⟩
theorem zeo{H:Type}{enc:TypeId×Value->H}{W:World}{base:Nat}{sp:Nat->Bool}{held:Bool}{fuel:Nat}{cs:List Value}{z:Int}{x:DataW H×List MemPlace}(h:DataW.trod enc Tryz.prog W base sp held fuel 3 cs=some x)(hx:x.1=.lit (.int .i64 z)):cs=[.int .i64 z]:=by
 obtain⟨n,e,h2,_⟩:=DataW.trod_int Tryz.underlying3 h
 rw[h2]at hx
 simp at hx
 rw[e,hx]
theorem zj8{α:Type}{l:List α}(h:l.length=4):∃a b c d,l=[a,b,c,d]:=by
 rcases l with _|⟨a,_|⟨b,_|⟨c,_|⟨d,_|⟨e,l⟩⟩⟩⟩⟩ <;> simp at h
 exact⟨a,b,c,d,rfl⟩
theorem zcf{H:Type}{enc:TypeId×Value->H}{W:World}{base:Nat}{sp:Nat->Bool}{held:Bool}{fuel:Nat}{cs:List Value}{z0 z1 z2 z3:Int}{x:DataW H×List MemPlace}
    (h:DataW.trod enc Tryz.prog W base sp held fuel 168 cs=some x) (hx:x.1=.agg [.lit (.int .i64 z0),.lit (.int .i64 z1),.lit (.int .i64 z2),.lit (.int .i64 z3)]):cs=[.int .i64 z0,.int .i64 z1,.int .i64 z2,.int .i64 z3]:=by
 obtain⟨xs,n,_,hxx,hl,hlen,hff⟩:=DataW.trod_struct Tryz.underlying168 h
 have hc4:Tryz.prog.cellsOf 168=4:=by kernel_rfl
 have hc1:Tryz.prog.cellsOf 3=1:=by kernel_rfl
 rw[hc4]at hl
 obtain⟨x0,x1,x2,x3,rfl⟩:=zj8 (l:=xs) hlen
 obtain⟨c0,c1,c2,c3,rfl⟩:=zj8 hl
 rw[hxx]at hx
 simp only[List.map_cons,List.map_nil,DataW.agg.injEq,List.cons.injEq,and_true]at hx
 obtain⟨e0,e1,e2,e3⟩:=hx
 have h0:DataW.trod enc Tryz.prog W base sp held n 3 (([c0,c1,c2,c3].drop 0).take (Tryz.prog.cellsOf 3))=some x0:=hff 0 _ rfl
 have h1:DataW.trod enc Tryz.prog W base sp held n 3 (([c0,c1,c2,c3].drop 1).take (Tryz.prog.cellsOf 3))=some x1:=hff 1 _ rfl
 have h2:DataW.trod enc Tryz.prog W base sp held n 3 (([c0,c1,c2,c3].drop 2).take (Tryz.prog.cellsOf 3))=some x2:=hff 2 _ rfl
 have h3:DataW.trod enc Tryz.prog W base sp held n 3 (([c0,c1,c2,c3].drop 3).take (Tryz.prog.cellsOf 3))=some x3:=hff 3 _ rfl
 rw[hc1]at h0 h1 h2 h3
 have r0:=zeo h0 e0
 have r1:=zeo h1 e1
 have r2:=zeo h2 e2
 have r3:=zeo h3 e3
 simp at r0 r1 r2 r3
 rw[r0,r1,r2,r3]
theorem zp0{α:Type}{l:List α}(h:l.length=5):∃a b c d e,l=[a,b,c,d,e]:=by
 rcases l with _|⟨a,_|⟨b,_|⟨c,_|⟨d,_|⟨e,_|⟨f,l⟩⟩⟩⟩⟩⟩ <;> simp at h
 exact⟨a,b,c,d,e,rfl⟩
theorem gSpan : Tryz.prog.globalNamed "foundry/subst.spans" = some 0 := by kernel_rfl
theorem gSpanType:(Tryz.prog.globals[0]?).map (·.type)=some 169:=by kernel_rfl
theorem zq6 {W : World} (h : laidMet Tryz.prog [("foundry/subst.spans", Rows.laid_foundry_subst_spans)] W) : Spn W := by
 obtain⟨ps,⟨g',t',⟨cs⟩,fuel,p,q,hg',ht',zqy,hd,_,_⟩,_⟩:=h
 obtain rfl:=Option.some.inj (gSpan.symm.trans hg')
 obtain rfl:=Option.some.inj (gSpanType.symm.trans ht')
 have hd2:DataW.trod _ Tryz.prog W _ _ _ fuel 169 cs=some _:=hd
 obtain⟨xs,m,_,hxx,hl,hlen,ht⟩:=DataW.trod_array Tryz.underlying169 hd2
 have hC:Tryz.prog.cellsOf 169=20:=by kernel_rfl
 have hc:Tryz.prog.cellsOf 168=4:=by kernel_rfl
 obtain⟨x0,x1,x2,x3,x4,rfl⟩:=zp0 hlen
 have hx:=congrArg Prod.fst hxx
 simp only[Rows.laid_foundry_subst_spans,List.map_cons,List.map_nil,DataW.agg.injEq,List.cons.injEq,and_true]at hx
 obtain⟨e0,e1,e2,e3,e4⟩:=hx
 have h0:=ht 0 (by decide)
 have h1:=ht 1 (by decide)
 have h2:=ht 2 (by decide)
 have h3:=ht 3 (by decide)
 have h4:=ht 4 (by decide)
 rw[hc]at h0 h1 h2 h3 h4
 have r0:=zcf h0 e0.symm
 have r1:=zcf h1 e1.symm
 have r2:=zcf h2 e2.symm
 have r3:=zcf h3 e3.symm
 have r4:=zcf h4 e4.symm
 rw[hC]at hl
 have hall:cs=spN.map (fun(z:Nat)=>Value.int .i64 (z:Int)):=by
  have hh:cs=((cs.drop (0*4)).take 4)++(((cs.drop (1*4)).take 4)++(((cs.drop (2*4)).take 4)++(((cs.drop (3*4)).take 4)++((cs.drop (4*4)).take 4)))):=by
   rw[List.take_of_length_le (l:=cs.drop (4*4)) (by rw[List.length_drop];omega)]
   have k3:(cs.drop (3*4)).take 4++cs.drop (4*4)=cs.drop (3*4):=by
    have:=List.take_append_drop 4 (cs.drop (3*4))
    rwa [List.drop_drop]at this
   have k2:(cs.drop (2*4)).take 4++cs.drop (3*4)=cs.drop (2*4):=by
    have:=List.take_append_drop 4 (cs.drop (2*4))
    rwa [List.drop_drop]at this
   have k1:(cs.drop (1*4)).take 4++cs.drop (2*4)=cs.drop (1*4):=by
    have:=List.take_append_drop 4 (cs.drop (1*4))
    rwa [List.drop_drop]at this
   have k0:(cs.drop (0*4)).take 4++cs.drop (1*4)=cs:=by
    simp
   rw[k3,k2,k1,k0]
  rw[hh,r0,r1,r2,r3,r4]
  rfl
 have hsz:0<W.heap.size:=by
  unfold World.var? at zqy
  rw[gSpan]at zqy
  simp only[Option.bind_some]at zqy
  cases hb:W.heap[0]? with
  | none=>rw[hb]at zqy;cases zqy
  | some o=>exact(Array.getElem?_eq_some_iff.1 hb).1
 refine⟨hsz,fun i hi=>?_⟩
 have h9:=World.var?_cell gSpan zqy i
 rw[hall]at h9;rw[h9]
 have h20:i<spN.length:=hi
 simp[List.getD,h20]
