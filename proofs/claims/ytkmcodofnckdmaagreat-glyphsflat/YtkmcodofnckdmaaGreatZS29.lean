import Derived.Test.YtkmcodofnckdmaaGreatZS28
set_option maxHeartbeats 8000000
set_option maxRecDepth 100000
set_option linter.unusedSimpArgs false
set_option linter.unusedVariables false
namespace Go.Proofs.YtkmcodofnckdmaaGreat
open Go.RowKit Go.Maps
theorem zo5{z:Int}(h1:-9223372036854775808<=z)(h2:z<=9223372036854775807):IntKind.i64.wrap z=z:=by
 unfold IntKind.wrap
 simp[IntKind.bits,IntKind.signed]
 omega
theorem zpw{x y:Int}(h:x=y):Ending.returned (.int .i64 x)=Ending.returned (.int .i64 y):=by rw[h]
theorem zt6{w:World}{b cap:Nat}{ts:List Bool}(h:Rl w (some ⟨b,0,none⟩) cap ts)(x k:Nat)(hx:x<=ts.length):Rl w (some ⟨b,x,none⟩) (cap-x) ((ts.drop x).take k):=by
 have:=(Gr.from h x hx).take k
 rw[show 0+x*El.bool.sz=x by rw[Nat.zero_add];exact Nat.mul_one x]at this
 exact this
theorem zt8{w:World}{b cap:Nat}{zs:List Int}(h:Ri w (some ⟨b,0,none⟩) cap zs)(x k:Nat)(hx:x<=zs.length):Ri w (some ⟨b,x,none⟩) (cap-x) ((zs.drop x).take k):=by
 have:=(h.drop x hx).take k
 rw[Nat.zero_add]at this
 exact this
theorem Ri.grown{w w':World}{a:Option Addr}{cap:Nat}{zs:List Int}{row:Option Nat}(h:Ri w a cap zs)(hg:w.grownBy w' row)(hn:∀g,row=some g->NoI w g):Ri w' a cap zs:=by
 obtain⟨h1,h2,h3,h4⟩:=h
 refine⟨h1,h2,h3,?_⟩
 rcases h4 with h4|⟨b,off,e,hb1,hc⟩
 . exact .inl h4
 . by_cases h0:zs=[]
   . exact .inl h0
   . have hl:0<zs.length:=List.length_pos_iff.2 h0
     have hne:some b≠row:=by
      intro e2
      have:=hn b e2.symm _ _ (hc 0 hl)
      cases this
     exact .inr ⟨b,off,e,Nat.lt_of_lt_of_le hb1 hg.size,fun i hi=>(World.cell?_of_block (w:=w) (a:=⟨b,off+i,none⟩) (hg.block b hb1 hne)).trans (hc i hi)⟩
theorem Gw.lower{α:Type}{E:El α}{t:TypeId}{base base':Nat}{S:Nat->Prop}{w:World}{v:Value}{l:List α}(h:Gw E t base S w v l)(hb:base'<=base):Gw E t base' S w v l:=by
 obtain⟨vss,hl,h3,h4⟩:=h
 refine⟨vss,hl,⟨h3.1,?_⟩,h4⟩
 rcases h3.2 with h0|⟨g,cap',cur,k1,k2,k3,k4⟩
 . exact .inl h0
 . exact .inr ⟨g,cap',cur,k1,Nat.le_trans hb k2,k3,k4⟩
theorem Gw.aside{α:Type}{E:El α}{t:TypeId}{base:Nat}{w:World}{v:Value}{l:List α}(h:Gw E t base (fun _=>False) w v l){g:Nat}(hb:v.ownBlock≠some g)(j:Nat)(x:Value):Gw E t base (fun _=>False) (w.setCell ⟨g,j,none⟩ x) v l :=
 h.stay (by simp[World.setCell]) (fun k hk=>hk.elim) (fun k hk=>Below.heap_setCell _ _ _ _ (fun e=>hb (by rw[hk];exact congrArg some e)))
theorem Fam.put{α:Type}{E:El α}{t:TypeId}{base:Nat}{w:World}{vs:List Value}{ls:List (List α)}(h:Fam E t base w vs ls)(k:Nat)(hk:k<vs.length){g j:Nat}{x:Value}{l':List α}(hg:(vs.getD k nilV).ownBlock=some g)(h1:Gw E t base (fun _=>False) (w.setCell ⟨g,j,none⟩ x) (vs.getD k nilV) l'):Fam E t base (w.setCell ⟨g,j,none⟩ x) vs (ls.set k l'):=by
 refine⟨by rw[List.length_set];exact h.1,fun i hi=>?_,h.2.2⟩
 by_cases hik:i=k
 . subst hik
   have e4:(ls.set i l').getD i []=l':=by have:=h.1;simp[List.getD,show i<ls.length by omega]
   rw[e4]
   exact h1
 . have e3:(ls.set k l').getD i []=ls.getD i []:=by simp[List.getD,List.getElem?_set_ne (fun e=>hik e.symm)]
   rw[e3]
   exact(h.2.1 i hi).aside (fun e=>h.2.2 i k g hi hk hik e hg) j x
theorem Ro.beside{T:TypeId}{base:Nat}{w w':World}{v:Value}{k:Nat}{qs:List Rat}{r:Option Nat}(h:Ro T base w v k qs)(hg:w.grownBy w' r)(hn:∀g,r=some g->NoI w g)(hne:∀g,v.ownBlock=some g->r≠some g):Ro T base w' v k qs:=by
 have hlo:=fun g hg=>(h.lo (g:=g) hg).2
 obtain⟨vs,h3,hnI,h4⟩:=h
 refine⟨vs,⟨h3.1,?_⟩,fun g e j u hu=>?_,fun i hi=>?_⟩
 . rcases h3.2 with h0|⟨g,cap',cur,k1,k2,k3,k4⟩
   . exact .inl h0
   . exact .inr ⟨g,cap',cur,k1,k2,(hg.block g (Array.getElem?_eq_some_iff.1 k3).1 (fun e=>hne g (by rw[k1];rfl) e.symm)).trans k3,k4⟩
 . rw[World.cell?_of_block (w:=w) (a:=⟨g,j,none⟩) (hg.block g (hlo g e) (fun e2=>hne g e e2.symm))]at hu
   exact hnI g e j u hu
 . obtain⟨x,y,z,k0,k1,k2,k3⟩:=h4 i hi
   exact⟨x,y,z,k0,k1,k2,k3.grown hg hn⟩
theorem Ro.noI{T:TypeId}{base:Nat}{w:World}{v:Value}{k:Nat}{qs:List Rat}(h:Ro T base w v k qs):∀g,v.ownBlock=some g->NoI w g:=by
 obtain⟨vs,h3,hnI,h4⟩:=h
 exact hnI
def R2(T:TypeId)(base:Nat)(w:World)(vx vy:Value)(qx qy:List Rat):Prop:=Ro T base w vx 7 qx/\Ro T base w vy 7 qy/\∀g,vx.ownBlock=some g->vy.ownBlock≠some g
theorem R2.nil(T:TypeId)(base:Nat)(w:World):R2 T base w (.slice none 0 0) (.slice none 0 0) [] []:=⟨Ro.nil _ _ _ _,Ro.nil _ _ _ _,fun g e=>by cases e⟩
theorem R2.below{T:TypeId}{base:Nat}{w w':World}{vx vy:Value}{qx qy:List Rat}(h:R2 T base w vx vy qx qy)(hb:Below w.heap.size w w'):R2 T base w' vx vy qx qy:=⟨h.1.below hb,h.2.1.below hb,h.2.2⟩
theorem R2.growX{T:TypeId}{base:Nat}{w w':World}{vx vy v':Value}{qx qy q':List Rat}(h:R2 T base w vx vy qx qy)(h1:Ro T base w' v' 7 q')(hg:w.grownBy w' vx.ownBlock)(ho:v'.ownBlock=vx.ownBlock\/v'.ownBlock=some w.heap.size):R2 T base w' v' vy q' qy :=
 ⟨h1,h.2.1.beside hg h.1.noI (fun g e e2=>h.2.2 g e2 e),fun g e e2=>by
  rcases ho with ho|ho
  . rw[ho]at e;exact h.2.2 g e e2
  . rw[ho]at e
    injection e with e
    have:=(h.2.1.lo e2).2
    omega⟩
theorem R2.growY{T:TypeId}{base:Nat}{w w':World}{vx vy v':Value}{qx qy q':List Rat}(h:R2 T base w vx vy qx qy)(h1:Ro T base w' v' 7 q')(hg:w.grownBy w' vy.ownBlock)(ho:v'.ownBlock=vy.ownBlock\/v'.ownBlock=some w.heap.size):R2 T base w' vx v' qx q' :=
 ⟨h.1.beside hg h.2.1.noI (fun g e=>h.2.2 g e),h1,fun g e e2=>by
  rcases ho with ho|ho
  . rw[ho]at e2;exact h.2.2 g e e2
  . rw[ho]at e2
    injection e2 with e2
    have:=(h.1.lo e).2
    omega⟩
theorem zfg(S:Nat->Prop)(a:Option Addr)(ca:Nat)(b:Option Addr)(cb:Nat)(o:Ol)(w:World)(hc:Gr PnE.row S w a ca o.cs)(hl:o.cs.flatten.length<=100000)(hl2:o.ps.length<=100000) :
 Calls Tryz.prog 97 #[.agg #[.slice a o.cs.length ca,.slice b o.ps.length cb]] w fun e w'=>e=.returned (.int .i64 (cntO o:Int))/\Below w.heap.size w w':=by
 obtain⟨W,hW,X1,hbW⟩:∃W,W=w.alloc (.cells #[.slice a o.cs.length ca,.slice b o.ps.length cb] 57)/\Bk 57 W w.heap.size [.slice a o.cs.length ca,.slice b o.ps.length cb]/\Below w.heap.size w W:=⟨_,rfl,Bk.new _ _ _,bl1 _⟩
 obtain⟨p0,p1,_⟩:=X1.two
 have hlt:=X1.lt
 have hB:Below W.heap.size W W:=Below.refl _ _
 have hpt:=fun U (hb:Below W.heap.size W U)=>zca S a ca (.slice b o.ps.length cb) o.cs U ((hc.below hbW).below hb) hl rfl
 have HE:Hid ((o.ps.length:Int)+(o.cs.flatten.length:Int)=(cntO o:Int)):=by show _=_;unfold cntO;omega
 have hw1:IntKind.i64.wrap ((o.ps.length:Int)+(o.cs.flatten.length:Int))=(o.ps.length:Int)+(o.cs.flatten.length:Int):=zo5 (by omega) (by omega)
 clear hc X1
 generalize o.cs.flatten.length=N at *
 generalize cntO o=M at *
 go_enter Tryz.func97,Tryz.ntmps97
 go_upto_region 1 with fail
 rw[<-hW];clear hW
 refine wp_region_held_drew (S:=fun w9=>w9.cell? ⟨w.heap.size,0,none⟩=some (.slice a o.cs.length ca)/\w9.cell? ⟨w.heap.size,1,none⟩=some (.slice b o.ps.length cb)) (by kernel_rfl) ?_ (fun hH=>?_)
 . (try dsimp only)
   go_keep
 have hdr:Below W.heap.size W W.drew:=Below.drew1
 generalize W.drew=Z1 at hdr hH ⊢
 replace hB:=hB.trans (hdr.mono hB.size)
 clear hdr;refine hT 0 hH ?_;refine hT 1 hH ?_;refine hT 2 hH ?_;refine hT 3 hH ?_
 refine hCall (i:=4) rfl (by kernel_rfl) (by rfl) (fun K hK=>?_)
 go_simp
 refine(hpt _ hB).mono ?_
 rintro e u1 ⟨a1,c1,rfl,-,-,hbc⟩
 have hHz:u1.cell? ⟨w.heap.size,0,none⟩=some (.slice a o.cs.length ca)/\u1.cell? ⟨w.heap.size,1,none⟩=some (.slice b o.ps.length cb):=⟨(hbc.cell (p:=⟨w.heap.size,0,none⟩) (Nat.lt_of_lt_of_le hlt hB.size)).trans hH.1,(hbc.cell (p:=⟨w.heap.size,1,none⟩) (Nat.lt_of_lt_of_le hlt hB.size)).trans hH.2⟩
 replace hB:=hB.trans (hbc.mono hB.size)
 clear hbc
 go_wp2_with fail
 refine hK.out _ _ ?_ (fun hH=>?_)
 . (try dsimp only)
   exact hHz
 clear hK K hHz
 try simp only[Act.put,pZ]
 refine hT 5 hH ?_;refine hT 6 hH ?_;refine hT 7 hH ?_
 refine wpAnyH_done (by kernel_rfl) ?_ _
 clear hH;go_wp2
 go_ret
 exact⟨zpw HE.out,hbW.trans (hB.mono hbW.size)⟩
theorem zjh{f:Pn->Int}{o:Ol}{pts told:List Int}(h:FoP o):spQ f o pts told=((layI pts told (cntO o) pts.length).take o.ps.length).map (fun z:Int=>(z:Rat))++conQ f o.cs (layI pts told (cntO o) pts.length) (tchI pts (cntO o) pts.length) o.cs.length:=by
 by_cases hp:0<o.ps.length
 . have hc0:o.cs=[]:=by
     rcases h.1 with h1|h1
     . exact List.length_eq_zero_iff.1 h1
     . omega
   have hn:cntO o=o.ps.length:=by unfold cntO;rw[hc0];simp
   rw[zeb hp,hc0,List.take_of_length_le (by rw[zak,hn];exact Nat.le_refl _)]
   simp[conQ]
 . rw[zfs hp,show o.ps.length=0 by omega]
   simp
theorem fam2{w:World}{base gx gy n b1 b2:Nat}{lx ly:List Int}(h1:Gw El.int 3 b1 (fun _=>False) w (.slice (some ⟨gx,0,none⟩) n n) lx)(h2:Gw El.int 3 b2 (fun _=>False) w (.slice (some ⟨gy,0,none⟩) n n) ly)(hne:gx≠gy)(hb1:base<=b1)(hb2:base<=b2):Fam El.int 3 base w [.slice (some ⟨gx,0,none⟩) n n,.slice (some ⟨gy,0,none⟩) n n] [lx,ly]:=by
 refine⟨rfl,fun i hi=>?_,fun i j g hi hj hij e e2=>?_⟩
 . have:i=0\/i=1:=by simp at hi;omega
   rcases this with rfl|rfl
   . exact h1.lower hb1
   . exact h2.lower hb2
 . have h3:i=0\/i=1:=by simp at hi;omega
   have h4:j=0\/j=1:=by simp at hj;omega
   rcases h3 with rfl|rfl <;> rcases h4 with rfl|rfl
   . omega
   . simp[Value.ownBlock]at e e2;omega
   . simp[Value.ownBlock]at e e2;omega
   . omega
theorem zjf(S:Nat->Prop)(a:Option Addr)(ca:Nat)(b:Option Addr)(cb:Nat)(o:Ol)(pa:Option Addr)(pc:Nat)(pts:List Int)(xa:Option Addr)(xc:Nat)(dx:List Int)(ya:Option Addr)(yc:Nat)(dy:List Int)(w:World)(hc:Gr PnE.row S w a ca o.cs)(hp:Gr PaE S w b cb o.ps)(hP:Ri w pa pc pts)(hX:Ri w xa xc dx)(hY:Ri w ya yc dy)(hl:o.cs.flatten.length<=100000)(hl1:o.cs.length<=100000)(hl2:o.ps.length<=100000) :
 Calls Tryz.prog 123 #[.agg #[.slice a o.cs.length ca,.slice b o.ps.length cb],.slice pa pts.length pc,.slice xa dx.length xc,.slice ya dy.length yc] w fun e w'=>∃a1 c1 a2 c2,e=.returned (.tuple #[.slice a1 (spL Pn.x o pts dx dx dy).length c1,.slice a2 (spL Pn.y o pts dy dx dy).length c2,.int .i64 (spE o pts dx dy)])/\Rg w.heap.size w' a1 c1 7 (spL Pn.x o pts dx dx dy)/\Rg w.heap.size w' a2 c2 7 (spL Pn.y o pts dy dx dy)/\Below w.heap.size w w':=by
 have b1:=hP.lenB
 have b2:=hX.lenB
 have b3:=hY.lenB
 obtain⟨W,hW,X1,hbW⟩:∃W,W=w.alloc (.cells #[.slice a o.cs.length ca,.slice b o.ps.length cb] 57)/\Bk 57 W w.heap.size [.slice a o.cs.length ca,.slice b o.ps.length cb]/\Below w.heap.size w W:=⟨_,rfl,Bk.new _ _ _,bl1 _⟩
 have hcn:cntO o<=200000:=by unfold cntO;omega
 replace hc:=hc.below hbW;replace hp:=hp.below hbW;replace hP:=hP.below hbW;replace hX:=hX.below hbW;replace hY:=hY.below hbW;obtain⟨p0,p1,_⟩:=X1.two
 have HNO:Hid (spB o pts dx dy=false->∀W',Below w.heap.size w W'->∃a1 c1 a2 c2,(Ending.returned (.tuple #[.slice none 0 0,.slice none 0 0,.int .i64 1]))=.returned (.tuple #[.slice a1 (spL Pn.x o pts dx dx dy).length c1,.slice a2 (spL Pn.y o pts dy dx dy).length c2,.int .i64 (spE o pts dx dy)])/\Rg w.heap.size W' a1 c1 7 (spL Pn.x o pts dx dx dy)/\Rg w.heap.size W' a2 c2 7 (spL Pn.y o pts dy dx dy)/\Below w.heap.size w W'):=fun h W' hb=>by
  rw[zmd h,zmd h,zt4 h]
  exact⟨none,0,none,0,rfl,Rg.nil _ _ _,Rg.nil _ _ _,hb⟩
 go_enter Tryz.func123,Tryz.ntmps123
 go_upto_region 1 with fail
 rw[<-hW];clear hW
 go_wp2_with fail
 refine(zfg S a ca b cb o _ hc hl hl2).mono ?_
 rintro e m1 ⟨rfl,hb1⟩;replace hc:=hc.below hb1;replace hp:=hp.below hb1;replace hP:=hP.below hb1;replace hX:=hX.below hb1;replace hY:=hY.below hb1;replace X1:=X1.below hb1
 replace hbW:=hbW.trans (hb1.mono hbW.size)
 clear hb1 p0 p1;obtain⟨p0,p1,_⟩:=X1.two
 have hf1:=zhg S a ca b cb o m1 hc hp hl
 cases hfo:foB o with
 | false =>
  have hno:=HNO.out (spB_1 hfo)
  rw[hfo]at hf1;clear hfo
  go_wp2_with fail
  refine hf1.mono ?_
  rintro e m2 ⟨rfl,hb1⟩
  have zay:=hno m2 (hbW.trans (hb1.mono hbW.size))
  clear hb1 hf1 hno;go_wp2
  exact bodyPost_ret (v:=.tuple #[.slice none 0 0,.slice none 0 0,.int .i64 1]) (by simp[results,Tryz.results123,go_sem]) rfl zay
 | true =>
 have hFO:=zb5.1 hfo
 rw[hfo]at hf1
 go_wp2_with fail
 refine hf1.mono ?_
 rintro e m2 ⟨rfl,hb1⟩;replace hc:=hc.below hb1;replace hp:=hp.below hb1;replace hP:=hP.below hb1;replace hX:=hX.below hb1;replace hY:=hY.below hb1;replace X1:=X1.below hb1
 replace hbW:=hbW.trans (hb1.mono hbW.size)
 clear hb1 p0 p1;obtain⟨p0,p1,_⟩:=X1.two;clear hf1
 by_cases hx:dx.length=pts.length
 rotate_left
 . have zay:=HNO.out (spB_3 hx) m2 hbW
   have g2:((dx.length:Int) != (pts.length:Int))=true:=by simp;omega
   go_wp2
   exact bodyPost_ret (v:=.tuple #[.slice none 0 0,.slice none 0 0,.int .i64 1]) (by simp[results,Tryz.results123,go_sem]) rfl zay
 by_cases hy:dy.length=pts.length
 rotate_left
 . have zay:=HNO.out (spB_4 hy) m2 hbW
   have g2:((dy.length:Int) != (pts.length:Int))=true:=by simp;omega
   rw[hx];go_wp2
   exact bodyPost_ret (v:=.tuple #[.slice none 0 0,.slice none 0 0,.int .i64 1]) (by simp[results,Tryz.results123,go_sem]) rfl zay
 have hcs:cntO o<=86:=by have h1:=hFO.2.2.1;have h2:=hFO.2.2.2.2.1;unfold cntO;omega
 have HSB:Hid (risB pts (cntO o)=true->dx.all fdB=true->dy.all fdB=true->spB o pts dx dy=true):=fun h1 h2 h3=>by unfold spB;rw[hfo,h1,decide_eq_true hx,decide_eq_true hy,h2,h3];rfl
 have HQ1:Hid (spQ Pn.x o pts dx=((layI pts dx (cntO o) pts.length).take o.ps.length).map (fun z:Int=>(z:Rat))++conQ Pn.x o.cs (layI pts dx (cntO o) pts.length) (tchI pts (cntO o) pts.length) o.cs.length):=zjh hFO
 have HQ2:Hid (spQ Pn.y o pts dy=((layI pts dy (cntO o) pts.length).take o.ps.length).map (fun z:Int=>(z:Rat))++conQ Pn.y o.cs (layI pts dy (cntO o) pts.length) (tchI pts (cntO o) pts.length) o.cs.length):=zjh hFO
 have HCO:Hid (o.ps.length<=cntO o/\(o.cs.length=0\/o.ps.length=0)):=⟨by unfold cntO;omega,hFO.1⟩
 have HCF:Hid (o.cs.length≠0->cntO o=o.cs.flatten.length):=fun h=>by have:=hFO.1;unfold cntO;omega
 obtain⟨n,hnn⟩:∃n,cntO o=n:=⟨_,rfl⟩
 have HN:Hid (cntO o=n):=hnn
 rw[hnn]at hcs HQ1 HQ2 HSB HCO HCF;rw[hx,hy,hnn]
 have HXY:Hid (dx.length=pts.length/\dy.length=pts.length):=⟨hx,hy⟩
 have HFO:Hid (FoP o):=hFO
 have HX1:Hid (Bk 57 m2 w.heap.size [.slice a o.cs.length ca,.slice b o.ps.length cb]):=X1
 have HC:Hid (Gr PnE.row S m2 a ca o.cs):=hc
 have HP:Hid (Ri m2 pa pc pts):=hP
 have HX:Hid (Ri m2 xa xc dx):=hX
 have HY:Hid (Ri m2 ya yc dy):=hY
 have HBW:Hid (Below w.heap.size w m2):=hbW
 clear hfo hnn hx hy hFO X1 hc hp hP hX hY hbW hcn
 have hm2l:=HX1.out.lt
 obtain⟨i0,hi0,hz0,hz1,hz2⟩:=info_parts zby
 obtain⟨j0,hj0,hy0,hy1,hy2⟩:=info_parts zhl
 have hmk:∀U:World,(Instr.makeSlice 29 (.int .i64 (n:Int)) (.int .i64 (n:Int))).run Tryz.prog U=.ok (.slice (some ⟨U.heap.size,0,none⟩) n n) (U.alloc (.cells (madeCells #[.int .i64 0] n) 3)):=fun U=>by
  have:=run_make (P:=Tryz.prog) U 29 3 i0 (.int .i64 0) Tryz.underlying29 hi0 hz0 .i64 .i64 (n:Int) (n:Int) (by omega) (by omega) (by rw[hz2];omega) (by omega)
  rw[hz1]at this
  simp only[Int.toNat_natCast,Nat.mul_one]at this
  exact this
 have hmg:∀U:World,Gw El.int 3 U.heap.size (fun _=>False) (U.alloc (.cells (madeCells #[.int .i64 0] n) 3)) (.slice (some ⟨U.heap.size,0,none⟩) n n) (List.replicate n 0):=fun U=>Gw.mk1 U n 0 (.int .i64 0) rfl rfl (fun S w=>⟨rfl,by decide,by decide⟩) (by omega)
 have hmb:=run_make (P:=Tryz.prog) m2 238 4 j0 (.bool false) Tryz.underlying238 hj0 hy0 .i64 .i64 (n:Int) (n:Int) (by omega) (by omega) (by rw[hy2];omega) (by omega)
 rw[hy1]at hmb
 simp only[Int.toNat_natCast,Nat.mul_one]at hmb
 have hTB:Gw El.bool 4 m2.heap.size (fun _=>False) (m2.alloc (.cells (madeCells #[.bool false] n) 4)) (.slice (some ⟨m2.heap.size,0,none⟩) n n) (tchI pts n 0):=Gw.mk1 m2 n false (.bool false) rfl rfl (fun S w=>rfl) (by omega)
 have hB0:Below m2.heap.size m2 (m2.alloc (.cells (madeCells #[.bool false] n) 4)):=bl1 _
 replace hmb:(Instr.makeSlice 238 (.int .i64 (n:Int)) (.int .i64 (n:Int))).run Tryz.prog m2=.ok (.slice (some ⟨m2.heap.size,0,none⟩) n n) (m2.alloc (.cells (madeCells #[.bool false] n) 4)):=hmb
 generalize m2.alloc (.cells (madeCells #[.bool false] n) 4)=w1 at *
 clear hi0 hz0 hz1 hz2 hj0 hy0 hy1 hy2
 go_upto_region 5 with fail
 clear p0 p1 hmb
 go_cut [13,14]from 15 (fun s13 s14 wx=>∃gx gy,s13=.slice (some ⟨gx,0,none⟩) n n/\s14=.slice (some ⟨gy,0,none⟩) n n/\Fam El.int 3 m2.heap.size wx [s13,s14] [layI pts dx n 0,layI pts dy n 0]/\Gw El.bool 4 m2.heap.size (fun _=>False) wx (.slice (some ⟨m2.heap.size,0,none⟩) n n) (tchI pts n 0)/\Below m2.heap.size m2 wx)
 case first =>
  refine wp_region_held_drew (S:=fun _=>True) (by kernel_rfl) ?_ (fun hH=>?_)
  . (try dsimp only)
    all_goals go_keep
  have hdr:Below w1.heap.size w1 w1.drew:=Below.drew1
  generalize w1.drew=Z at hdr hH ⊢
  have hbZ:Below m2.heap.size m2 Z:=hB0.trans (hdr.mono hB0.size)
  replace hTB:=hTB.below hdr
  have hsZ:=hbZ.size
  clear hdr;refine hT 0 hH ?_;refine hT 2 hH ?_
  refine wpAnyH_ready (rs:=[1,3]) (by kernel_rfl) (by simp) (hCons (i:=1) rfl (by rfl) (fun K hK=>?_) (hCons (i:=3) rfl (by rfl) (fun K hK=>?_) AllReadyH.nil))
  . go_simp
    refine hK.out _ _ ?_ (fun hH=>?_)
    . (try dsimp only)
      all_goals trivial
    clear hK K
    try simp only[Act.put,pZ]
    refine hT 4 hH ?_
    refine hCall (i:=3) rfl (by kernel_rfl) (by rfl) (fun K hK=>?_)
    go_simp
    refine hK.out _ _ ?_ (fun hH=>?_)
    . (try dsimp only)
      all_goals trivial
    clear hK K
    try simp only[Act.put,pZ]
    refine hT 5 hH ?_
    refine wpAnyH_done (by kernel_rfl) ?_ _
    clear hH
    have hG1:=hmg Z
    have hG2:=hmg (Z.alloc (.cells (madeCells #[.int .i64 0] n) 3))
    have hbA:Below Z.heap.size Z (Z.alloc (.cells (madeCells #[.int .i64 0] n) 3)):=bl1 _
    have hbB:Below (Z.alloc (.cells (madeCells #[.int .i64 0] n) 3)).heap.size (Z.alloc (.cells (madeCells #[.int .i64 0] n) 3)) ((Z.alloc (.cells (madeCells #[.int .i64 0] n) 3)).alloc (.cells (madeCells #[.int .i64 0] n) 3)):=bl1 _
    have hsA:(Z.alloc (.cells (madeCells #[.int .i64 0] n) 3)).heap.size=Z.heap.size+1:=by simp
    rw[hsA]at hG2
    have hbC:=hbZ.trans ((hbA.trans (hbB.mono hbA.size)).mono hbZ.size)
    have hTC:=(hTB.below hbA).below hbB
    have hFM:=fam2 (base:=m2.heap.size) (hG1.below hbB) (hG2) (by omega) (by omega) (by omega)
    go_wp2_with fail
    go_meet
    exact⟨Z.heap.size,Z.heap.size+1,rfl,rfl,hFM,hTC,hbC⟩
  . go_simp
    refine hK.out _ _ ?_ (fun hH=>?_)
    . (try dsimp only)
      all_goals trivial
    clear hK K
    try simp only[Act.put,pZ]
    refine hCall (i:=1) rfl (by kernel_rfl) (by rfl) (fun K hK=>?_)
    go_simp
    refine hK.out _ _ ?_ (fun hH=>?_)
    . (try dsimp only)
      all_goals trivial
    clear hK K
    try simp only[Act.put,pZ]
    refine hT 4 hH ?_;refine hT 5 hH ?_
    refine wpAnyH_done (by kernel_rfl) ?_ _
    clear hH
    have hG1:=hmg Z
    have hG2:=hmg (Z.alloc (.cells (madeCells #[.int .i64 0] n) 3))
    have hbA:Below Z.heap.size Z (Z.alloc (.cells (madeCells #[.int .i64 0] n) 3)):=bl1 _
    have hbB:Below (Z.alloc (.cells (madeCells #[.int .i64 0] n) 3)).heap.size (Z.alloc (.cells (madeCells #[.int .i64 0] n) 3)) ((Z.alloc (.cells (madeCells #[.int .i64 0] n) 3)).alloc (.cells (madeCells #[.int .i64 0] n) 3)):=bl1 _
    have hsA:(Z.alloc (.cells (madeCells #[.int .i64 0] n) 3)).heap.size=Z.heap.size+1:=by simp
    rw[hsA]at hG2
    have hbC:=hbZ.trans ((hbA.trans (hbB.mono hbA.size)).mono hbZ.size)
    have hTC:=(hTB.below hbA).below hbB
    have hFM:=fam2 (base:=m2.heap.size) (hG2) (hG1.below hbB) (by omega) (by omega) (by omega)
    go_wp2_with fail
    go_meet
    exact⟨Z.heap.size+1,Z.heap.size,rfl,rfl,hFM,hTC,hbC⟩
 case rest =>
  obtain⟨gx,gy,rfl,rfl,fam,hTB,hB⟩:=hcut;clear hmk hmg hB0;go_wp2
  go_loopw [15] (fun i wr=>∃k:Nat,k<=pts.length/\i=.int .i64 k/\(∀j,j<k->risP pts n j)/\(∀j,j<k->fdB (dx.getD j 0)=true/\fdB (dy.getD j 0)=true)/\Fam El.int 3 m2.heap.size wr [.slice (some ⟨gx,0,none⟩) n n,.slice (some ⟨gy,0,none⟩) n n] [layI pts dx n k,layI pts dy n k]/\Gw El.bool 4 m2.heap.size (fun _=>False) wr (.slice (some ⟨m2.heap.size,0,none⟩) n n) (tchI pts n k)/\Below m2.heap.size m2 wr) (fun i _=>pts.length-(intOf i).toNat)
  case atStart=>exact⟨0,Nat.zero_le _,rfl,(fun j hj=>by omega),(fun j hj=>by omega),fam,hTB,hB⟩
  case round =>
   clear fam hTB hB;obtain⟨k,hk,rfl,zw8,hfd,fam,hTB,hB⟩:=hrel
   by_cases hkn:k<pts.length
   . obtain⟨b0,o0,e0,hb0,d0⟩:=HP.out.at hB k hkn
     subst e0
     obtain⟨bx,ox,ex,hbx,dX⟩:=HX.out.at hB k (by rw[HXY.out.1];exact hkn)
     subst ex
     obtain⟨by',oy,ey,hby,dY⟩:=HY.out.at hB k (by rw[HXY.out.2];exact hkn)
     subst ey
     have hzx:=HX.out.i64 (k:=k) (by rw[HXY.out.1];exact hkn)
     have hzy:=HY.out.i64 (k:=k) (by rw[HXY.out.2];exact hkn)
     have hbF:Below w.heap.size w wr:=HBW.out.trans (hB.mono HBW.out.size)
     have HRK:Hid (¬risP pts n k->∃a1 c1 a2 c2,(Ending.returned (.tuple #[.slice none 0 0,.slice none 0 0,.int .i64 1]))=.returned (.tuple #[.slice a1 (spL Pn.x o pts dx dx dy).length c1,.slice a2 (spL Pn.y o pts dy dx dy).length c2,.int .i64 (spE o pts dx dy)])/\Rg w.heap.size wr a1 c1 7 (spL Pn.x o pts dx dx dy)/\Rg w.heap.size wr a2 c2 7 (spL Pn.y o pts dy dx dy)/\Below w.heap.size w wr):=fun h=>HNO.out (spB_2 (by rw[HN.out];exact ze7 hkn h)) wr hbF
     have HFX:Hid (fdB (dx.getD k 0)=false->spB o pts dx dy=false):=fun h=>spB_5 (zd8 (d:=0) (by rw[HXY.out.1];exact hkn) h)
     have HFY:Hid (fdB (dy.getD k 0)=false->spB o pts dx dy=false):=fun h=>spB_6 (zd8 (d:=0) (by rw[HXY.out.2];exact hkn) h)
     have HRI:Hid (∀j,j<k->risP pts n j):=zw8
     have HFD:Hid (∀j,j<k->fdB (dx.getD j 0)=true/\fdB (dy.getD j 0)=true):=hfd
     have HSX:Hid (layI pts dx n (k+1)=(layI pts dx n k).set (pts.getD k 0).toNat (dx.getD k 0)):=rfl
     have HSY:Hid (layI pts dy n (k+1)=(layI pts dy n k).set (pts.getD k 0).toNat (dy.getD k 0)):=rfl
     have HST:Hid (tchI pts n (k+1)=(tchI pts n k).set (pts.getD k 0).toNat true):=rfl
     have HNF:Hid (fdB (dx.getD k 0)=true->fdB (dy.getD k 0)=true->∀j,j<k+1->fdB (dx.getD j 0)=true/\fdB (dy.getD j 0)=true):=fun h1 h2=>za4 hfd ⟨h1,h2⟩
     have HNR:Hid (risP pts n k->∀j,j<k+1->risP pts n j):=fun h=>za4 zw8 h
     obtain⟨p,hp⟩:∃z,pts.getD k 0=z:=⟨_,rfl⟩
     obtain⟨x,hx⟩:∃z,dx.getD k 0=z:=⟨_,rfl⟩
     obtain⟨y,hy⟩:∃z,dy.getD k 0=z:=⟨_,rfl⟩
     obtain⟨l,hll⟩:∃z,lastI pts k=z:=⟨_,rfl⟩
     have HPR:Hid (risP pts n k↔l<p/\p<(n:Int)):=by show _↔_;unfold risP;rw[hp,hll]
     have hl1:-1<=l:=by
      rw[<-hll]
      unfold lastI
      by_cases h0:k=0
      . rw[if_pos h0];omega
      . rw[if_neg h0]
        have:=zck (k-1) (fun j hj=>zw8 j (by omega))
        omega
     have HLK:Hid (0<k->pts.getD (k-1) 0=l):=fun h0=>by rw[<-hll];unfold lastI;rw[if_neg (by omega)]
     have HL0:Hid (k=0->l=-1):=fun h0=>by rw[<-hll];unfold lastI;rw[if_pos h0]
     rw[hp]at d0 HSX HSY HST;rw[hx]at dX hzx HFX HSX HNF;rw[hy]at dY hzy HFY HSY HNF
     have hzx2:-9223372036854775808<=x/\x<=9223372036854775807:=hzx
     have hzy2:-9223372036854775808<=y/\y<=9223372036854775807:=hzy
     have i1:(0:Int)<=(k:Int):=by omega
     have i2:(k:Int)<(pts.length:Int):=by omega
     have HXV:Hid (dx.getD k 0=x/\dy.getD k 0=y):=⟨hx,hy⟩
     clear hp hx hy hll zw8 hfd
     by_cases c1:p<0
     . have g1:decide (p<0)=true:=decide_eq_true c1
       have zay:=HRK.out (fun h=>by have:=HPR.out.1 h;omega)
       go_wp2
       exact bodyPost_ret (v:=.tuple #[.slice none 0 0,.slice none 0 0,.int .i64 1]) (by simp[results,Tryz.results123,go_sem]) rfl zay
     have g1:decide (p<0)=false:=decide_eq_false c1
     by_cases c2:(n:Int)<=p
     . have g2:decide (p ≥ (n:Int))=true:=decide_eq_true c2
       have zay:=HRK.out (fun h=>by have:=HPR.out.1 h;omega)
       go_wp2
       exact bodyPost_ret (v:=.tuple #[.slice none 0 0,.slice none 0 0,.int .i64 1]) (by simp[results,Tryz.results123,go_sem]) rfl zay
     have g2:decide (p ≥ (n:Int))=false:=decide_eq_false c2
     by_cases c3:0<k
     . have g3:decide ((k:Int) > 0)=true:=decide_eq_true (by omega)
       have dL:wr.cell? ⟨b0,o0+(k-1),none⟩=some (.int .i64 l):=Ri.cell HP.out hB (by omega) (HLK.out c3)
       obtain⟨k1,hk1⟩:∃x,k-1=x:=⟨_,rfl⟩
       have hk1i:(k:Int)-1=(k1:Int):=by omega
       rw[hk1]at dL
       have i3:(0:Int)<=(k1:Int):=by omega
       have i4:(k1:Int)<(pts.length:Int):=by omega
       by_cases c4:p<=l
       . have g4:decide (p<=l)=true:=decide_eq_true c4
         have zay:=HRK.out (fun h=>by have:=HPR.out.1 h;omega)
         clear hk1;go_wp2
         exact bodyPost_ret (v:=.tuple #[.slice none 0 0,.slice none 0 0,.int .i64 1]) (by simp[results,Tryz.results123,go_sem]) rfl zay
       have g4:decide (p<=l)=false:=decide_eq_false c4
       have HRP:Hid (risP pts n k):=HPR.out.2 ⟨by omega,by omega⟩
       clear hk1
       have hf1:=za3 x wr
       have hf2:=za3 y wr
       cases hq1:fdB x with
       | false =>
        have zay:=HNO.out (HFX.out hq1) wr hbF
        rw[hq1]at hf1;clear hq1
        go_wp2_with fail
        refine hf1.mono ?_
        rintro e u0 ⟨rfl,rfl⟩;go_wp2
        exact bodyPost_ret (v:=.tuple #[.slice none 0 0,.slice none 0 0,.int .i64 1]) (by simp[results,Tryz.results123,go_sem]) rfl zay
       | true =>
       cases hq2:fdB y with
       | false =>
        have zay:=HNO.out (HFY.out hq2) wr hbF
        rw[hq1]at hf1;rw[hq2]at hf2;clear hq1 hq2
        go_wp2_with fail
        refine hf1.mono ?_
        rintro e u0 ⟨rfl,rfl⟩
        go_wp2_with fail
        refine hf2.mono ?_
        rintro e u0 ⟨rfl,rfl⟩;go_wp2
        exact bodyPost_ret (v:=.tuple #[.slice none 0 0,.slice none 0 0,.int .i64 1]) (by simp[results,Tryz.results123,go_sem]) rfl zay
       | true =>
       have HNF2:Hid (∀j,j<k+1->fdB (dx.getD j 0)=true/\fdB (dy.getD j 0)=true):=HNF.out hq1 hq2
       have HNR2:Hid (∀j,j<k+1->risP pts n j):=HNR.out HRP.out
       rw[hq1]at hf1;rw[hq2]at hf2;clear hq1 hq2
       go_wp2_with fail
       refine hf1.mono ?_
       rintro e u0 ⟨rfl,rfl⟩
       go_wp2_with fail
       refine hf2.mono ?_
       rintro e u0 ⟨rfl,rfl⟩;clear hf1 hf2
       obtain⟨q,rfl⟩:∃q:Nat,p=(q:Int):=⟨p.toNat,by omega⟩
       rw[Int.toNat_natCast]at HSX HSY HST
       have hqn:q<n:=by omega
       have j1:(0:Int)<=(q:Int):=by omega
       have j2:(q:Int)<(n:Int):=by omega
       have zx8:tchI pts n k≠[]:=fun e=>by have:=zbf pts n k;rw[e]at this;simp at this;omega
       have hrX:Gw El.int 3 m2.heap.size (fun _=>False) wr (.slice (some ⟨gx,0,none⟩) n n) (layI pts dx n k):=fam.row 0 (by simp)
       have hrY:Gw El.int 3 m2.heap.size (fun _=>False) wr (.slice (some ⟨gy,0,none⟩) n n) (layI pts dy n k):=fam.row 1 (by simp)
       have nx:gx≠m2.heap.size:=fun e=>Gw.ne hrX hTB (by decide) (g:=gx) rfl (by rw[e];rfl)
       have ny:gy≠m2.heap.size:=fun e=>Gw.ne hrY hTB (by decide) (g:=gy) rfl (by rw[e];rfl)
       obtain⟨g,cap,e5,-,-,-,hfz,hrd,zer⟩:=hTB.own zx8
       injection e5 with e5 e6 e7;injection e5 with e5;injection e5 with e5;subst e5
       have hfp:=hfz q
       have hsw:=zer q 0 (.bool true) true (by rw[zbf];omega) Nat.one_pos (fun S' vs hv=>by rw[show vs=_ from hv];rfl)
       rw[show q*El.bool.sz+0=q from Nat.mul_one q,<-HST.out]at hsw
       obtain⟨vs,hrx,hcx⟩:=hrd q (by rw[zbf];omega)
       have hc0:=hcx 0 Nat.one_pos
       rw[show vs=_ from hrx,show q*El.bool.sz+0=q from Nat.mul_one q]at hc0
       have hB1:Below m2.heap.size m2 (wr.setCell ⟨m2.heap.size,q,none⟩ (.bool true)):=hB.setCell (p:=⟨m2.heap.size,q,none⟩) (Nat.le_refl _) _
       have hf1:Fam El.int 3 m2.heap.size (wr.setCell ⟨m2.heap.size,q,none⟩ (.bool true)) [.slice (some ⟨gx,0,none⟩) n n,.slice (some ⟨gy,0,none⟩) n n] [layI pts dx n k,layI pts dy n k]:=⟨fam.1,fun i hi=>by
        have:i=0\/i=1:=by simp at hi;omega
        rcases this with rfl|rfl
        . exact hrX.aside (fun e=>nx (by simp[Value.ownBlock]at e;exact e)) q (.bool true)
        . exact hrY.aside (fun e=>ny (by simp[Value.ownBlock]at e;exact e)) q (.bool true),fam.2.2⟩
       clear zer hfz hrd hcx hrx zx8 e6 e7 fam hTB hrX hrY hB
       go_upto_region 13 with fail
       generalize wr.setCell ⟨m2.heap.size,q,none⟩ (.bool true)=W1 at hsw hB1 hf1 ⊢
       clear hfp hc0 d0
       have hrX:Gw El.int 3 m2.heap.size (fun _=>False) W1 (.slice (some ⟨gx,0,none⟩) n n) (layI pts dx n k):=hf1.row 0 (by simp)
       have zxb:layI pts dx n k≠[]:=fun e=>by have:=zak pts dx n k;rw[e]at this;simp at this;omega
       obtain⟨g,cap,e5,hmx,-,-,hfz,hrd,zer⟩:=hrX.own zxb
       injection e5 with e5 e6 e7;injection e5 with e5;injection e5 with e5;subst e5
       have hfp:=hfz q
       have zvt:=zer q 0 (.int .i64 x) x (by rw[zak];omega) Nat.one_pos (fun S' vs hv=>by rw[hv.1];exact⟨rfl,hzx⟩)
       rw[show q*El.int.sz+0=q from Nat.mul_one q,<-HSX.out]at zvt
       obtain⟨vs,hrx,hcx⟩:=hrd q (by rw[zak];omega)
       have hc0:=hcx 0 Nat.one_pos
       rw[hrx.1,show q*El.int.sz+0=q from Nat.mul_one q]at hc0
       have dX1:W1.cell? ⟨bx,ox+k,none⟩=some (.int .i64 x):=Ri.cell HX.out hB1 (by rw[HXY.out.1];exact hkn) HXV.out.1
       have hf2:Fam El.int 3 m2.heap.size (W1.setCell ⟨gx,q,none⟩ (.int .i64 x)) [.slice (some ⟨gx,0,none⟩) n n,.slice (some ⟨gy,0,none⟩) n n] [layI pts dx n (k+1),layI pts dy n k]:=hf1.put 0 (by simp) (g:=gx) rfl zvt
       have zvu:=hsw.aside (g:=gx) (fun e=>nx (by simp[Value.ownBlock]at e;exact e.symm)) q (.int .i64 x)
       have hB2:Below m2.heap.size m2 (W1.setCell ⟨gx,q,none⟩ (.int .i64 x)):=hB1.setCell (p:=⟨gx,q,none⟩) hmx _
       clear zer hfz hrd hcx hrx zxb e6 e7 hf1 hsw zvt hB1 hrX dX
       go_upto_region 14 with fail
       generalize W1.setCell ⟨gx,q,none⟩ (.int .i64 x)=W2 at zvu hB2 hf2 ⊢
       clear hfp hc0 dX1
       have hrY:Gw El.int 3 m2.heap.size (fun _=>False) W2 (.slice (some ⟨gy,0,none⟩) n n) (layI pts dy n k):=hf2.row 1 (by simp)
       have zx7:layI pts dy n k≠[]:=fun e=>by have:=zak pts dy n k;rw[e]at this;simp at this;omega
       obtain⟨g,cap,e5,hmy,-,-,hfz,hrd,zer⟩:=hrY.own zx7
       injection e5 with e5 e6 e7;injection e5 with e5;injection e5 with e5;subst e5
       have hfp:=hfz q
       have zvs:=zer q 0 (.int .i64 y) y (by rw[zak];omega) Nat.one_pos (fun S' vs hv=>by rw[hv.1];exact⟨rfl,hzy⟩)
       rw[show q*El.int.sz+0=q from Nat.mul_one q,<-HSY.out]at zvs
       obtain⟨vs,hrx,hcx⟩:=hrd q (by rw[zak];omega)
       have hc0:=hcx 0 Nat.one_pos
       rw[hrx.1,show q*El.int.sz+0=q from Nat.mul_one q]at hc0
       have dY1:W2.cell? ⟨by',oy+k,none⟩=some (.int .i64 y):=Ri.cell HY.out hB2 (by rw[HXY.out.2];exact hkn) HXV.out.2
       have HF3:Hid (Fam El.int 3 m2.heap.size (W2.setCell ⟨gy,q,none⟩ (.int .i64 y)) [.slice (some ⟨gx,0,none⟩) n n,.slice (some ⟨gy,0,none⟩) n n] [layI pts dx n (k+1),layI pts dy n (k+1)]):=hf2.put 1 (by simp) (g:=gy) rfl zvs
       have HS3:Hid (Gw El.bool 4 m2.heap.size (fun _=>False) (W2.setCell ⟨gy,q,none⟩ (.int .i64 y)) (.slice (some ⟨m2.heap.size,0,none⟩) n n) (tchI pts n (k+1))):=zvu.aside (g:=gy) (fun e=>ny (by simp[Value.ownBlock]at e;exact e.symm)) q (.int .i64 y)
       have HB3:Hid (Below m2.heap.size m2 (W2.setCell ⟨gy,q,none⟩ (.int .i64 y))):=hB2.setCell (p:=⟨gy,q,none⟩) hmy _
       clear zer hfz hrd hcx hrx zx7 e6 e7 hf2 zvu zvs hB2 hrY dY;go_wp2
       go_roundw
       case rel=>exact⟨k+1,by omega,by go_num,HNR2.out,HNF2.out,HF3.out,HS3.out,HB3.out⟩
       case measure=>simp[intOf];omega
     . have g3:decide ((k:Int) > 0)=false:=decide_eq_false (by omega)
       have hl0:=HL0.out (by omega)
       have HRP:Hid (risP pts n k):=HPR.out.2 ⟨by omega,by omega⟩
       clear hl0
       have hf1:=za3 x wr
       have hf2:=za3 y wr
       cases hq1:fdB x with
       | false =>
        have zay:=HNO.out (HFX.out hq1) wr hbF
        rw[hq1]at hf1;clear hq1
        go_wp2_with fail
        refine hf1.mono ?_
        rintro e u0 ⟨rfl,rfl⟩;go_wp2
        exact bodyPost_ret (v:=.tuple #[.slice none 0 0,.slice none 0 0,.int .i64 1]) (by simp[results,Tryz.results123,go_sem]) rfl zay
       | true =>
       cases hq2:fdB y with
       | false =>
        have zay:=HNO.out (HFY.out hq2) wr hbF
        rw[hq1]at hf1;rw[hq2]at hf2;clear hq1 hq2
        go_wp2_with fail
        refine hf1.mono ?_
        rintro e u0 ⟨rfl,rfl⟩
        go_wp2_with fail
        refine hf2.mono ?_
        rintro e u0 ⟨rfl,rfl⟩;go_wp2
        exact bodyPost_ret (v:=.tuple #[.slice none 0 0,.slice none 0 0,.int .i64 1]) (by simp[results,Tryz.results123,go_sem]) rfl zay
       | true =>
       have HNF2:Hid (∀j,j<k+1->fdB (dx.getD j 0)=true/\fdB (dy.getD j 0)=true):=HNF.out hq1 hq2
       have HNR2:Hid (∀j,j<k+1->risP pts n j):=HNR.out HRP.out
       rw[hq1]at hf1;rw[hq2]at hf2;clear hq1 hq2
       go_wp2_with fail
       refine hf1.mono ?_
       rintro e u0 ⟨rfl,rfl⟩
       go_wp2_with fail
       refine hf2.mono ?_
       rintro e u0 ⟨rfl,rfl⟩;clear hf1 hf2
       obtain⟨q,rfl⟩:∃q:Nat,p=(q:Int):=⟨p.toNat,by omega⟩
       rw[Int.toNat_natCast]at HSX HSY HST
       have hqn:q<n:=by omega
       have j1:(0:Int)<=(q:Int):=by omega
       have j2:(q:Int)<(n:Int):=by omega
       have zx8:tchI pts n k≠[]:=fun e=>by have:=zbf pts n k;rw[e]at this;simp at this;omega
       have hrX:Gw El.int 3 m2.heap.size (fun _=>False) wr (.slice (some ⟨gx,0,none⟩) n n) (layI pts dx n k):=fam.row 0 (by simp)
       have hrY:Gw El.int 3 m2.heap.size (fun _=>False) wr (.slice (some ⟨gy,0,none⟩) n n) (layI pts dy n k):=fam.row 1 (by simp)
       have nx:gx≠m2.heap.size:=fun e=>Gw.ne hrX hTB (by decide) (g:=gx) rfl (by rw[e];rfl)
       have ny:gy≠m2.heap.size:=fun e=>Gw.ne hrY hTB (by decide) (g:=gy) rfl (by rw[e];rfl)
       obtain⟨g,cap,e5,-,-,-,hfz,hrd,zer⟩:=hTB.own zx8
       injection e5 with e5 e6 e7;injection e5 with e5;injection e5 with e5;subst e5
       have hfp:=hfz q
       have hsw:=zer q 0 (.bool true) true (by rw[zbf];omega) Nat.one_pos (fun S' vs hv=>by rw[show vs=_ from hv];rfl)
       rw[show q*El.bool.sz+0=q from Nat.mul_one q,<-HST.out]at hsw
       obtain⟨vs,hrx,hcx⟩:=hrd q (by rw[zbf];omega)
       have hc0:=hcx 0 Nat.one_pos
       rw[show vs=_ from hrx,show q*El.bool.sz+0=q from Nat.mul_one q]at hc0
       have hB1:Below m2.heap.size m2 (wr.setCell ⟨m2.heap.size,q,none⟩ (.bool true)):=hB.setCell (p:=⟨m2.heap.size,q,none⟩) (Nat.le_refl _) _
       have hf1:Fam El.int 3 m2.heap.size (wr.setCell ⟨m2.heap.size,q,none⟩ (.bool true)) [.slice (some ⟨gx,0,none⟩) n n,.slice (some ⟨gy,0,none⟩) n n] [layI pts dx n k,layI pts dy n k]:=⟨fam.1,fun i hi=>by
        have:i=0\/i=1:=by simp at hi;omega
        rcases this with rfl|rfl
        . exact hrX.aside (fun e=>nx (by simp[Value.ownBlock]at e;exact e)) q (.bool true)
        . exact hrY.aside (fun e=>ny (by simp[Value.ownBlock]at e;exact e)) q (.bool true),fam.2.2⟩
       clear zer hfz hrd hcx hrx zx8 e6 e7 fam hTB hrX hrY hB
       go_upto_region 13 with fail
       generalize wr.setCell ⟨m2.heap.size,q,none⟩ (.bool true)=W1 at hsw hB1 hf1 ⊢
       clear hfp hc0 d0
       have hrX:Gw El.int 3 m2.heap.size (fun _=>False) W1 (.slice (some ⟨gx,0,none⟩) n n) (layI pts dx n k):=hf1.row 0 (by simp)
       have zxb:layI pts dx n k≠[]:=fun e=>by have:=zak pts dx n k;rw[e]at this;simp at this;omega
       obtain⟨g,cap,e5,hmx,-,-,hfz,hrd,zer⟩:=hrX.own zxb
       injection e5 with e5 e6 e7;injection e5 with e5;injection e5 with e5;subst e5
       have hfp:=hfz q
       have zvt:=zer q 0 (.int .i64 x) x (by rw[zak];omega) Nat.one_pos (fun S' vs hv=>by rw[hv.1];exact⟨rfl,hzx⟩)
       rw[show q*El.int.sz+0=q from Nat.mul_one q,<-HSX.out]at zvt
       obtain⟨vs,hrx,hcx⟩:=hrd q (by rw[zak];omega)
       have hc0:=hcx 0 Nat.one_pos
       rw[hrx.1,show q*El.int.sz+0=q from Nat.mul_one q]at hc0
       have dX1:W1.cell? ⟨bx,ox+k,none⟩=some (.int .i64 x):=Ri.cell HX.out hB1 (by rw[HXY.out.1];exact hkn) HXV.out.1
       have hf2:Fam El.int 3 m2.heap.size (W1.setCell ⟨gx,q,none⟩ (.int .i64 x)) [.slice (some ⟨gx,0,none⟩) n n,.slice (some ⟨gy,0,none⟩) n n] [layI pts dx n (k+1),layI pts dy n k]:=hf1.put 0 (by simp) (g:=gx) rfl zvt
       have zvu:=hsw.aside (g:=gx) (fun e=>nx (by simp[Value.ownBlock]at e;exact e.symm)) q (.int .i64 x)
       have hB2:Below m2.heap.size m2 (W1.setCell ⟨gx,q,none⟩ (.int .i64 x)):=hB1.setCell (p:=⟨gx,q,none⟩) hmx _
       clear zer hfz hrd hcx hrx zxb e6 e7 hf1 hsw zvt hB1 hrX dX
       go_upto_region 14 with fail
       generalize W1.setCell ⟨gx,q,none⟩ (.int .i64 x)=W2 at zvu hB2 hf2 ⊢
       clear hfp hc0 dX1
       have hrY:Gw El.int 3 m2.heap.size (fun _=>False) W2 (.slice (some ⟨gy,0,none⟩) n n) (layI pts dy n k):=hf2.row 1 (by simp)
       have zx7:layI pts dy n k≠[]:=fun e=>by have:=zak pts dy n k;rw[e]at this;simp at this;omega
       obtain⟨g,cap,e5,hmy,-,-,hfz,hrd,zer⟩:=hrY.own zx7
       injection e5 with e5 e6 e7;injection e5 with e5;injection e5 with e5;subst e5
       have hfp:=hfz q
       have zvs:=zer q 0 (.int .i64 y) y (by rw[zak];omega) Nat.one_pos (fun S' vs hv=>by rw[hv.1];exact⟨rfl,hzy⟩)
       rw[show q*El.int.sz+0=q from Nat.mul_one q,<-HSY.out]at zvs
       obtain⟨vs,hrx,hcx⟩:=hrd q (by rw[zak];omega)
       have hc0:=hcx 0 Nat.one_pos
       rw[hrx.1,show q*El.int.sz+0=q from Nat.mul_one q]at hc0
       have dY1:W2.cell? ⟨by',oy+k,none⟩=some (.int .i64 y):=Ri.cell HY.out hB2 (by rw[HXY.out.2];exact hkn) HXV.out.2
       have HF3:Hid (Fam El.int 3 m2.heap.size (W2.setCell ⟨gy,q,none⟩ (.int .i64 y)) [.slice (some ⟨gx,0,none⟩) n n,.slice (some ⟨gy,0,none⟩) n n] [layI pts dx n (k+1),layI pts dy n (k+1)]):=hf2.put 1 (by simp) (g:=gy) rfl zvs
       have HS3:Hid (Gw El.bool 4 m2.heap.size (fun _=>False) (W2.setCell ⟨gy,q,none⟩ (.int .i64 y)) (.slice (some ⟨m2.heap.size,0,none⟩) n n) (tchI pts n (k+1))):=zvu.aside (g:=gy) (fun e=>ny (by simp[Value.ownBlock]at e;exact e.symm)) q (.int .i64 y)
       have HB3:Hid (Below m2.heap.size m2 (W2.setCell ⟨gy,q,none⟩ (.int .i64 y))):=hB2.setCell (p:=⟨gy,q,none⟩) hmy _
       clear zer hfz hrd hcx hrx zx7 e6 e7 hf2 zvu zvs hB2 hrY dY;go_wp2
       go_roundw
       case rel=>exact⟨k+1,by omega,by go_num,HNR2.out,HNF2.out,HF3.out,HS3.out,HB3.out⟩
       case measure=>simp[intOf];omega
   . obtain rfl:k=pts.length:=by omega
     have g1:¬(pts.length:Int)<(pts.length:Int):=by omega
     have hsp:spB o pts dx dy=true:=HSB.out (zfw zw8) (zc7 (d:=0) (fun j hj=>(hfd j (by rw[HXY.out.1]at hj;exact hj)).1)) (zc7 (d:=0) (fun j hj=>(hfd j (by rw[HXY.out.2]at hj;exact hj)).2))
     have HE1:Hid (spL Pn.x o pts dx dx dy=spQ Pn.x o pts dx):=ze4 hsp
     have HE2:Hid (spL Pn.y o pts dy dx dy=spQ Pn.y o pts dy):=ze4 hsp
     have HE3:Hid (spE o pts dx dy=0):=zkt hsp
     have hrx:Gi m2.heap.size wr (.slice (some ⟨gx,0,none⟩) n n) (layI pts dx n pts.length):=fam.row 0 (by simp)
     have hry:Gi m2.heap.size wr (.slice (some ⟨gy,0,none⟩) n n) (layI pts dy n pts.length):=fam.row 1 (by simp)
     obtain⟨ax,cx,ex,hrx,-⟩:=hrx.slice;obtain⟨ay,cy,ey,hry,-⟩:=hry.slice;obtain⟨at',ct,et,hrt,-⟩:=hTB.slice;rw[zak]at ex ey;rw[zbf]at et;injection ex with ex1 ex2 ex3;injection ey with ey1 ey2 ey3;injection et with et1 et2 et3;subst ex1 ex3 ey1 ey3 et1 et3
     have HLX:Hid ((layI pts dx n pts.length).length=n/\(layI pts dy n pts.length).length=n/\(tchI pts n pts.length).length=n):=⟨zak _ _ _ _,zak _ _ _ _,zbf _ _ _⟩
     have HRX:Hid (Ri wr (some ⟨gx,0,none⟩) n (layI pts dx n pts.length)):=hrx
     have HRY:Hid (Ri wr (some ⟨gy,0,none⟩) n (layI pts dy n pts.length)):=hry
     have HRT:Hid (Rl wr (some ⟨m2.heap.size,0,none⟩) n (tchI pts n pts.length)):=Rl.of hrt
     have HXW:Hid (Bk 57 wr w.heap.size [.slice a o.cs.length ca,.slice b o.ps.length cb]):=HX1.out.below hB
     have HCW:Hid (Gr PnE.row S wr a ca o.cs):=HC.out.below hB
     have HBV:Hid (Below w.heap.size w wr):=HBW.out.trans (hB.mono HBW.out.size)
     clear zw8 hfd hsp fam hTB hB hrx hry hrt HNO HSB HX1 HC HP HX HY HBW
     generalize layI pts dx n pts.length=LX at *
     generalize layI pts dy n pts.length=LY at *
     generalize tchI pts n pts.length=TC at *
     rename World=>m5
     obtain⟨cs,ps⟩:=o
     dsimp only at *
     go_wp2
     go_loopw [17,18,19] (fun vx vy i wr=>∃k:Nat,k<=ps.length/\i=.int .i64 k/\R2 130 m5.heap.size wr vx vy ((LX.take k).map (fun z:Int=>(z:Rat))) ((LY.take k).map (fun z:Int=>(z:Rat)))/\Below m5.heap.size m5 wr) (fun _ _ i _=>ps.length-(intOf i).toNat)
     case atStart=>exact⟨0,Nat.zero_le _,rfl,R2.nil _ _ _,Below.refl _ _⟩
     case round =>
      obtain⟨k,hk,rfl,r2,hB⟩:=hrel
      obtain⟨p0,p1,_⟩:=(HXW.out.below hB).two
      have hps:=HCO.out.1
      by_cases hkn:k<ps.length
      . have e1:(LX.take (k+1)).map (fun z:Int=>(z:Rat))=(LX.take k).map (fun z:Int=>(z:Rat))++[((LX.getD k 0:Int):Rat)]:=by
          have hkl:k<LX.length:=by rw[HLX.out.1];omega
          rw[List.take_add_one,List.getElem?_eq_getElem hkl,List.map_append]
          simp[List.getD,hkl]
        have e2:(LY.take (k+1)).map (fun z:Int=>(z:Rat))=(LY.take k).map (fun z:Int=>(z:Rat))++[((LY.getD k 0:Int):Rat)]:=by
         have hkl:k<LY.length:=by rw[HLX.out.2.1];omega
         rw[List.take_add_one,List.getElem?_eq_getElem hkl,List.map_append]
         simp[List.getD,hkl]
        have hlx:((LX.take k).map (fun z:Int=>(z:Rat))).length<=1000:=by rw[List.length_map,List.length_take,HLX.out.1];omega
        have hly:((LY.take k).map (fun z:Int=>(z:Rat))).length<=1000:=by rw[List.length_map,List.length_take,HLX.out.2.1];omega
        have hkx:k<LX.length:=by rw[HLX.out.1];omega
        have hky:k<LY.length:=by rw[HLX.out.2.1];omega
        have hzx:I64 (LX.getD k 0):=HRX.out.i64 hkx
        have hzy:I64 (LY.getD k 0):=HRY.out.i64 hky
        obtain⟨x,hx⟩:∃z,LX.getD k 0=z:=⟨_,rfl⟩
        obtain⟨y,hy⟩:∃z,LY.getD k 0=z:=⟨_,rfl⟩
        have HKX:Hid (k<LX.length/\LX.getD k 0=x/\k<LY.length/\LY.getD k 0=y):=⟨hkx,hx,hky,hy⟩
        rw[hx]at e1 hzx;rw[hy]at e2 hzy
        have HE4:Hid (_):=e1
        have HE5:Hid (_):=e2
        have hxb:-9223372036854775808<=x/\x<=9223372036854775807:=hzx
        have hyb:-9223372036854775808<=y/\y<=9223372036854775807:=hzy
        have i1:(0:Int)<=(k:Int):=by omega
        have i2:(k:Int)<(ps.length:Int):=by omega
        have i3:(k:Int)<(n:Int):=by omega
        have d0:wr.cell? ⟨gx,0+k,none⟩=some (.int .i64 x):=Ri.cell HRX.out hB HKX.out.1 HKX.out.2.1
        rw[Nat.zero_add]at d0;clear e1 e2 hkx hky hx hy hzx hzy
        generalize (LX.take k).map (fun z:Int=>(z:Rat))=QX at *
        generalize (LY.take k).map (fun z:Int=>(z:Rat))=QY at *
        go_wp2_with fail
        refine(zam x _ (by omega) (by omega)).mono ?_
        rintro e U1 ⟨w1,rfl,hF1,hb1⟩;obtain⟨z1,x11,x12,x13,x14,x15,x16,rfl⟩:=hF1.cells3'
        obtain⟨V1,hV1,B1,hc1⟩:∃V,V=U1.alloc (.cells #[.bool z1,.slice x11 x12 x13,.slice x14 x15 x16] 130)/\Box 130 V U1.heap.size (.bool z1) (.slice x11 x12 x13) (.slice x14 x15 x16)/\Below U1.heap.size U1 V:=⟨_,rfl,Box.new _ _ _ _ _,bl1 _⟩
        obtain⟨r10,r11,r12,_⟩:=B1.cells
        have zj2:=Rz.one B1.lt r10 r11 r12 ((hF1.below hc1).le (show 2<=7 by decide))
        replace r2:=(r2.below hb1).below hc1
        replace hB:=(hB.trans (hb1.mono hB.size)).trans (hc1.mono (Nat.le_trans hB.size hb1.size))
        have zj4:QX.length+[(x:Rat)].length<=1000000:=by simp;omega
        have zgn:=hB.size
        clear hF1 hb1 hc1 B1 r10 r11 r12
        go_wp2_with (at_builtin;rw[<-hV1];refine zag 134 130 Tryz.underlying134 zbq rfl _ _ rfl m5.heap.size u17 7 QX _ rfl r2.1 _ 1 1 rfl rfl zj2 (fun e=>by cases e) (fun ad e=>by cases e;exact⟨_,_,rfl⟩) zj4 zgn ?_)
        intro v1 y1 hT1 hg1 ho1
        rw[<-hV1]at hg1
        rw[show U1.heap.size+1=V1.heap.size by rw[hV1];simp]at ho1
        replace hB:Below m5.heap.size m5 y1:=hB.grown hg1 zgn (fun g hg=>(r2.1.lo hg).1)
        replace r2:=r2.growX hT1 hg1 ho1
        clear hV1 zj2 hT1 hg1 ho1 zj4 zgn
        have d1:y1.cell? ⟨gy,0+k,none⟩=some (.int .i64 y):=Ri.cell HRY.out hB HKX.out.2.2.1 HKX.out.2.2.2
        rw[Nat.zero_add]at d1
        go_wp2_with fail
        refine(zam y _ (by omega) (by omega)).mono ?_
        rintro e U2 ⟨w2,rfl,hF2,hb2⟩;obtain⟨z2,x21,x22,x23,x24,x25,x26,rfl⟩:=hF2.cells3'
        obtain⟨V2,hV2,B2,hc2⟩:∃V,V=U2.alloc (.cells #[.bool z2,.slice x21 x22 x23,.slice x24 x25 x26] 130)/\Box 130 V U2.heap.size (.bool z2) (.slice x21 x22 x23) (.slice x24 x25 x26)/\Below U2.heap.size U2 V:=⟨_,rfl,Box.new _ _ _ _ _,bl1 _⟩
        obtain⟨r20,r21,r22,_⟩:=B2.cells
        have zj1:=Rz.one B2.lt r20 r21 r22 ((hF2.below hc2).le (show 2<=7 by decide))
        replace r2:=(r2.below hb2).below hc2
        replace hB:=(hB.trans (hb2.mono hB.size)).trans (hc2.mono (Nat.le_trans hB.size hb2.size))
        have zhn:QY.length+[(y:Rat)].length<=1000000:=by simp;omega
        have zgm:=hB.size
        clear hF2 hb2 hc2 B2 r20 r21 r22
        go_wp2_with (at_builtin;rw[<-hV2];refine zag 134 130 Tryz.underlying134 zbq rfl _ _ rfl m5.heap.size u18 7 QY _ rfl r2.2.1 _ 1 1 rfl rfl zj1 (fun e=>by cases e) (fun ad e=>by cases e;exact⟨_,_,rfl⟩) zhn zgm ?_)
        intro v2 y2 hT2 hg2 ho2
        rw[<-hV2]at hg2
        rw[show U2.heap.size+1=V2.heap.size by rw[hV2];simp]at ho2
        replace hB:Below m5.heap.size m5 y2:=hB.grown hg2 zgm (fun g hg=>(r2.2.1.lo hg).1)
        replace r2:=r2.growY hT2 hg2 ho2
        clear hV2 zj1 hT2 hg2 ho2 zhn zgm
        have HR2:Hid (R2 130 m5.heap.size y2 v1 v2 ((LX.take (k+1)).map (fun z:Int=>(z:Rat))) ((LY.take (k+1)).map (fun z:Int=>(z:Rat)))):=by
         rw[HE4.out,HE5.out]
         exact r2
        have HBB:Hid (Below m5.heap.size m5 y2):=hB
        clear r2 hB d0 d1 p0 p1;go_wp2
        go_roundw
        case rel=>exact⟨k+1,by omega,by go_num,HR2.out,HBB.out⟩
        case measure=>simp[intOf];omega
      . obtain rfl:k=ps.length:=by omega
        have g3:¬(ps.length:Int)<(ps.length:Int):=by omega
        have HR2:Hid (R2 130 m5.heap.size wr u17 u18 ((LX.take ps.length).map (fun z:Int=>(z:Rat))) ((LY.take ps.length).map (fun z:Int=>(z:Rat)))):=r2
        have HBB:Hid (Below m5.heap.size m5 wr):=hB
        have HQL:Hid (((LX.take ps.length).map (fun z:Int=>(z:Rat))).length<=1000/\((LY.take ps.length).map (fun z:Int=>(z:Rat))).length<=1000):=⟨by rw[List.length_map,List.length_take,HLX.out.1];omega,by rw[List.length_map,List.length_take,HLX.out.2.1];omega⟩
        generalize (LX.take ps.length).map (fun z:Int=>(z:Rat))=QX at *
        generalize (LY.take ps.length).map (fun z:Int=>(z:Rat))=QY at *
        clear r2 hB;go_wp2;clear p0 p1
        go_loopw [17,18,20,21] (fun vx vy at' i wr=>∃k:Nat,k<=cs.length/\i=.int .i64 k/\at'=.int .i64 (ofC cs k:Int)/\R2 130 m5.heap.size wr vx vy (QX++conQ Pn.x cs LX TC k) (QY++conQ Pn.y cs LY TC k)/\Below m5.heap.size m5 wr) (fun _ _ _ i _=>cs.length-(intOf i).toNat)
        case atStart=>exact⟨0,Nat.zero_le _,rfl,rfl,by rw[show conQ Pn.x cs LX TC 0=[]from rfl,show conQ Pn.y cs LY TC 0=[]from rfl,List.append_nil,List.append_nil];exact HR2.out,HBB.out⟩
        case round =>
         clear HR2 HBB;obtain⟨k,hk,rfl,rfl,r2,hB⟩:=hrel
         obtain⟨p0,p1,_⟩:=(HXW.out.below hB).two
         by_cases hkn:k<cs.length
         . obtain⟨b0,off,a1,c1,ea,hb,d0,hrow,hlb,-⟩:=HCW.out.rw hB k hkn
           subst ea
           have hcn0:n=cs.flatten.length:=HCF.out (by omega)
           have ztg:=zhi cs (k+1)
           have hst:=zcr hkn
           have zg4:0<(cs.getD k []).length:=HFO.out.2.2.2.1 _ (by rw[List.getD_eq_getElem?_getD,List.getElem?_eq_getElem hkn];exact List.getElem_mem hkn)
           have hqx:=zd7 Pn.x cs LX TC k (by omega)
           have hqy:=zd7 Pn.y cs LY TC k (by omega)
           have hsx:=zc1 Pn.x cs LX TC k
           have hsy:=zc1 Pn.y cs LY TC k
           have hql:=HQL.out
           have HSX:Hid (conQ Pn.x cs LX TC (k+1)=conQ Pn.x cs LX TC k++segF Pn.x cs LX TC k):=zdj _ _ _ _ _
           have HSY:Hid (conQ Pn.y cs LY TC (k+1)=conQ Pn.y cs LY TC k++segF Pn.y cs LY TC k):=zdj _ _ _ _ _
           have HGX:Hid (segF Pn.x cs LX TC k=fillQ ((cs.getD k []).map Pn.x) ((TC.drop (ofC cs k)).take (ofC cs (k+1)-ofC cs k)) ((LX.drop (ofC cs k)).take (ofC cs (k+1)-ofC cs k))):=by
            show _=_
            rw[show ofC cs (k+1)-ofC cs k=(cs.getD k []).length by omega]
            rfl
           have HGY:Hid (segF Pn.y cs LY TC k=fillQ ((cs.getD k []).map Pn.y) ((TC.drop (ofC cs k)).take (ofC cs (k+1)-ofC cs k)) ((LY.drop (ofC cs k)).take (ofC cs (k+1)-ofC cs k))):=by
            show _=_
            rw[show ofC cs (k+1)-ofC cs k=(cs.getD k []).length by omega]
            rfl
           rw[<-hcn0]at ztg
           obtain⟨c,hc⟩:∃c,cs.getD k []=c:=⟨_,rfl⟩
           rw[hc]at d0 hrow hst zg4 hsx hsy HGX HGY
           obtain⟨x0,hx0⟩:∃x,ofC cs k=x:=⟨_,rfl⟩
           obtain⟨y0,hy0⟩:∃x,ofC cs (k+1)=x:=⟨_,rfl⟩
           have HY0:Hid (ofC cs (k+1)=y0):=hy0
           rw[hx0,hy0]at HGX HGY hst;rw[hx0]at hqx hqy ⊢;rw[hy0]at ztg
           obtain⟨m,hm⟩:∃m,c.length=m:=⟨_,rfl⟩
           have HM:Hid (c.length=m/\m=y0-x0):=⟨hm,by omega⟩
           rw[hm]at d0 hst zg4 hsx hsy
           have HC1:Hid (Gr PnE S wr a1 c1 c):=hrow
           have i1:(0:Int)<=(k:Int):=by omega
           have i2:(k:Int)<(cs.length:Int):=by omega
           have hend:(x0:Int)+(m:Int)=(y0:Int):=by omega
           have hxy:x0<y0:=by omega
           have hm90:m<=86:=by omega
           have hyn:y0<=n:=ztg
           have hlx:(QX++conQ Pn.x cs LX TC k).length+(segF Pn.x cs LX TC k).length<=1000000:=by rw[List.length_append];omega
           have hly:(QY++conQ Pn.y cs LY TC k).length+(segF Pn.y cs LY TC k).length<=1000000:=by rw[List.length_append];omega
           have HR2:Hid (R2 130 m5.heap.size wr u17 u18 (QX++conQ Pn.x cs LX TC k) (QY++conQ Pn.y cs LY TC k)):=r2
           have HB5:Hid (Below m5.heap.size m5 wr):=hB
           have HXA:Hid (QX++conQ Pn.x cs LX TC (k+1)=(QX++conQ Pn.x cs LX TC k)++segF Pn.x cs LX TC k):=by show _=_;rw[HSX.out,List.append_assoc]
           have HYA:Hid (QY++conQ Pn.y cs LY TC (k+1)=(QY++conQ Pn.y cs LY TC k)++segF Pn.y cs LY TC k):=by show _=_;rw[HSY.out,List.append_assoc]
           generalize QX++conQ Pn.x cs LX TC k=KX at *
           generalize QY++conQ Pn.y cs LY TC k=KY at *
           generalize segF Pn.x cs LX TC k=GX at *
           generalize segF Pn.y cs LY TC k=GY at *
           clear hst zg4 hqx hqy hsx hsy hql hc hx0 hy0 hm hrow r2 hB hcn0 ztg HSX HSY
           rename World=>m7
           go_wp2;clear p0 p1 d0
           go_loopw [24,25,26] (fun vx vy i w9=>∃j:Nat,j<=m/\i=.int .i64 j/\Fam El.int 3 m7.heap.size w9 [vx,vy] [(c.take j).map Pn.x,(c.take j).map Pn.y]/\Below m7.heap.size m7 w9) (fun _ _ i _=>m-(intOf i).toNat)
           case atStart=>exact⟨0,Nat.zero_le _,rfl,Fam.two _ _ _ _,Below.refl _ _⟩
           case round =>
            obtain⟨j,hj,rfl,fam,hB⟩:=hrel
            by_cases hjm:j<m
            . obtain⟨b5,off5,x,y,on,ea,hb5,hpn,hz1,hz2,d0,d1,d2⟩:=HC1.out.pnt hB j (by rw[HM.out.1];exact hjm)
              subst ea
              have HX2:Hid ((c.take (j+1)).map Pn.x=(c.take j).map Pn.x++[x]):=by show _=_;rw[zep (by rw[HM.out.1];exact hjm),hpn]
              have HY2:Hid ((c.take (j+1)).map Pn.y=(c.take j).map Pn.y++[y]):=by show _=_;rw[zep (by rw[HM.out.1];exact hjm),hpn]
              have zj4:((c.take j).map Pn.x).length+1<=1000000:=by rw[List.length_map,List.length_take];omega
              have zhn:((c.take j).map Pn.y).length+1<=1000000:=by rw[List.length_map,List.length_take];omega
              have HD:Hid (j<c.length/\c.getD j Pn.none=⟨x,y,on⟩):=⟨by rw[HM.out.1];exact hjm,hpn⟩
              have i3:(0:Int)<=(j:Int):=by omega
              have i4:(j:Int)<(m:Int):=by omega
              generalize (c.take j).map Pn.x=PX at *
              generalize (c.take j).map Pn.y=PY at *
              clear hpn
              obtain⟨V1,hV1,c1,zg7,zue⟩:∃V,V=wr.alloc (.cells #[.int .i64 x] 3)/\V.cell? ⟨wr.heap.size,0,none⟩=some (.int .i64 x)/\Below wr.heap.size wr V/\wr.heap.size<V.heap.size:=⟨_,rfl,cell_of_row _ _ 0 _ _ (0,0) (heap_alloc_new _ _),bl1 _,by simp⟩
              have famv1:=fam.below zg7
              have hown1:Gw El.int 3 m7.heap.size (fun _=>False) V1 u24 PX:=famv1.row 0 (by simp)
              have zgn:m7.heap.size<=V1.heap.size:=Nat.le_trans hB.size zg7.size
              have zui:Below m7.heap.size m7 V1:=hB.trans (zg7.mono hB.size)
              go_wp2_with (at_builtin;rw[<-hV1];refine zao rfl _ _ rfl m7.heap.size u24 PX rfl hown1 wr.heap.size x rfl zue c1 hz1 zj4 zgn ?_)
              intro v1 y1 hT1 hg1 ho1
              rw[<-hV1]at hg1
              rw[show wr.heap.size+1=V1.heap.size by rw[hV1];simp]at ho1
              replace hB:Below m7.heap.size m7 y1:=zui.grown hg1 zgn (fun g hg=>(hown1.lo hg).1)
              replace fam:Fam El.int 3 m7.heap.size y1 [v1,u25] [(PX++[x]),PY]:=famv1.grow 0 (by simp) hT1 hg1 ho1
              clear hV1 c1 zue famv1 zgn zui hT1 zj4
              have e1:=HC1.out.pnt hB j HD.out.1
              rw[HD.out.2]at e1;obtain⟨b6,off6,x',y',on',ea,hb6,hpn,-,-,f0,f1,f2⟩:=e1
              cases ea
              cases hpn
              obtain⟨V2,hV2,c2,zqt,zud⟩:∃V,V=y1.alloc (.cells #[.int .i64 y] 3)/\V.cell? ⟨y1.heap.size,0,none⟩=some (.int .i64 y)/\Below y1.heap.size y1 V/\y1.heap.size<V.heap.size:=⟨_,rfl,cell_of_row _ _ 0 _ _ (0,0) (heap_alloc_new _ _),bl1 _,by simp⟩
              have famv2:=fam.below zqt
              have hown2:Gw El.int 3 m7.heap.size (fun _=>False) V2 u25 PY:=famv2.row 1 (by simp)
              have zgm:m7.heap.size<=V2.heap.size:=Nat.le_trans hB.size zqt.size
              have zsa:Below m7.heap.size m7 V2:=hB.trans (zqt.mono hB.size)
              go_wp2_with (at_builtin;rw[<-hV2];refine zao rfl _ _ rfl m7.heap.size u25 PY rfl hown2 y1.heap.size y rfl zud c2 hz2 zhn zgm ?_)
              intro v2 y2 hT2 hg2 ho2
              rw[<-hV2]at hg2
              rw[show y1.heap.size+1=V2.heap.size by rw[hV2];simp]at ho2
              replace hB:Below m7.heap.size m7 y2:=zsa.grown hg2 zgm (fun g hg=>(hown2.lo hg).1)
              replace fam:Fam El.int 3 m7.heap.size y2 [v1,v2] [(PX++[x]),(PY++[y])]:=famv2.grow 1 (by simp) hT2 hg2 ho2
              clear hV2 c2 zud famv2 zgm zsa hT2 zhn
              have FAM:Hid (Fam El.int 3 m7.heap.size y2 [v1,v2] [(c.take (j+1)).map Pn.x,(c.take (j+1)).map Pn.y]):=by
               rw[HX2.out,HY2.out]
               exact fam
              have HBB:Hid (Below m7.heap.size m7 y2):=hB
              clear fam hB d0 d1 d2 f0 f1 f2;go_wp2
              go_roundw
              case rel=>exact⟨j+1,by omega,by go_num,FAM.out,HBB.out⟩
              case measure=>simp[intOf];omega
            . obtain rfl:j=m:=by omega
              have g5:¬(j:Int)<(j:Int):=by omega
              have hra:Gi m7.heap.size wr u24 ((c.take j).map Pn.x):=fam.row 0 (by simp)
              have hrb:Gi m7.heap.size wr u25 ((c.take j).map Pn.y):=fam.row 1 (by simp)
              rw[show c.take j=c by rw[<-HM.out.1,List.take_length]]at hra hrb
              obtain⟨sa,sc,rfl,hra,-⟩:=hra.slice;obtain⟨ta,tc,rfl,hrb,-⟩:=hrb.slice
              have HB7:Hid (Below m5.heap.size m5 wr):=HB5.out.trans (hB.mono HB5.out.size)
              have hxt:x0<=TC.length:=by rw[HLX.out.2.2];omega
              have hfX:=fun U (h1:Ri U sa sc (c.map Pn.x)) (h2:Below m5.heap.size m5 U)=>zji sa sc (c.map Pn.x) (some ⟨m2.heap.size,x0,none⟩) (n-x0) ((TC.drop x0).take (y0-x0)) (some ⟨gx,x0,none⟩) (n-x0) ((LX.drop x0).take (y0-x0)) U h1 (zt6 (HRT.out.below h2) x0 (y0-x0) hxt) (zt8 (HRX.out.below h2) x0 (y0-x0) (by rw[HLX.out.1];omega))
              have hfY:=fun U (h1:Ri U ta tc (c.map Pn.y)) (h2:Below m5.heap.size m5 U)=>zji ta tc (c.map Pn.y) (some ⟨m2.heap.size,x0,none⟩) (n-x0) ((TC.drop x0).take (y0-x0)) (some ⟨gy,x0,none⟩) (n-x0) ((LY.drop x0).take (y0-x0)) U h1 (zt6 (HRT.out.below h2) x0 (y0-x0) hxt) (zt8 (HRY.out.below h2) x0 (y0-x0) (by rw[HLX.out.2.1];omega))
              rw[<-HGX.out,List.length_map,HM.out.1,show((TC.drop x0).take (y0-x0)).length=y0-x0 by rw[List.length_take,List.length_drop,HLX.out.2.2];omega,show((LX.drop x0).take (y0-x0)).length=y0-x0 by rw[List.length_take,List.length_drop,HLX.out.1];omega]at hfX
              rw[<-HGY.out,List.length_map,HM.out.1,show((TC.drop x0).take (y0-x0)).length=y0-x0 by rw[List.length_take,List.length_drop,HLX.out.2.2];omega,show((LY.drop x0).take (y0-x0)).length=y0-x0 by rw[List.length_take,List.length_drop,HLX.out.2.1];omega]at hfY
              rw[List.length_map,List.length_map,HM.out.1]
              have r2:=HR2.out.below hB
              have j1:(0:Int)<=(x0:Int):=by omega
              have j2:(x0:Int)<=(y0:Int):=by omega
              have j3:(y0:Int)<=(n:Int):=by omega
              have j6:¬n=x0:=by omega
              have hBq:=HB7.out
              clear fam hB HC1 hend
              rename World=>m8
              go_wp2_with fail
              refine wp_region_held_drew (S:=fun _=>True) (by kernel_rfl) ?_ (fun hH=>?_)
              . (try dsimp only)
                all_goals go_keep
              have hdr:Below m8.heap.size m8 m8.drew:=Below.drew1
              generalize m8.drew=Z3 at hdr hH ⊢
              replace r2:=r2.below hdr;replace hrb:=hrb.below hdr;replace hra:=hra.below hdr
              replace hBq:=hBq.trans (hdr.mono hBq.size)
              clear hdr;refine hT 0 hH ?_;refine hT 1 hH ?_;refine hT 2 hH ?_;refine hT 3 hH ?_;refine hT 4 hH ?_
              refine hTake (i:=5) (v:=.slice (some ⟨m2.heap.size,x0,none⟩) (y0-x0) (n-x0)) rfl (by kernel_rfl) (by kernel_rfl) (by kernel_rfl) (fun _ _ _ h=>h) (Or.inl ⟨by rfl,?ya3⟩) hH ?ra3
              case ya3 =>
               intro w9 hSw
               (try dsimp only at hSw)
               go_simp
              try simp only[Act.put,pZ]
              refine hT 6 hH ?_;refine hT 7 hH ?_;refine hT 8 hH ?_
              refine hTake (i:=9) (v:=.slice (some ⟨gx,x0,none⟩) (y0-x0) (n-x0)) rfl (by kernel_rfl) (by kernel_rfl) (by kernel_rfl) (fun _ _ _ h=>h) (Or.inl ⟨by rfl,?yb3⟩) hH ?rb3
              case yb3 =>
               intro w9 hSw
               (try dsimp only at hSw)
               go_simp
              try simp only[Act.put,pZ]
              refine hCall (i:=10) rfl (by kernel_rfl) (by rfl) (fun K hK=>?_)
              go_simp
              refine(hfX Z3 hra hBq).mono ?_
              rintro e Y3 ⟨fa3,fc3,rfl,hRf3,hb3⟩;replace r2:=r2.below hb3;replace hrb:=hrb.below hb3
              replace hBq:=hBq.trans (hb3.mono hBq.size)
              clear hb3 hfX hra
              go_wp2_with fail
              refine hK.out _ _ ?_ (fun hH=>?_)
              . (try dsimp only)
                all_goals trivial
              clear hK K
              try simp only[Act.put,pZ]
              refine hCall (i:=11) rfl (by kernel_rfl) (by rfl) (fun K hK=>?_)
              refine za6 134 130 Tryz.underlying134 zbq _ _ rfl m5.heap.size u17 7 KX GX rfl r2.1 fa3 fc3 GX.length rfl rfl hRf3.1 hRf3.2.1 hRf3.2.2 hlx hBq.size ?_
              intro v3 y3 hT3 hg3 ho3
              replace hBq:Below m5.heap.size m5 y3:=hBq.grown hg3 hBq.size (fun g hg=>(r2.1.lo hg).1)
              replace hrb:=hrb.grown hg3 r2.1.noI
              replace r2:=r2.growX hT3 hg3 ho3
              refine hK.out _ _ ?_ (fun hH=>?_)
              . (try dsimp only)
                all_goals trivial
              clear hK K hT3 hg3 ho3 hRf3
              try simp only[Act.put,pZ]
              refine hT 12 hH ?_
              refine wpAnyH_done (by kernel_rfl) ?_ _
              clear hH
              go_wp2_with fail
              refine wp_region_held_drew (S:=fun _=>True) (by kernel_rfl) ?_ (fun hH=>?_)
              . (try dsimp only)
                all_goals go_keep
              have hdr:Below y3.heap.size y3 y3.drew:=Below.drew1
              generalize y3.drew=Z4 at hdr hH ⊢
              replace r2:=r2.below hdr;replace hrb:=hrb.below hdr
              replace hBq:=hBq.trans (hdr.mono hBq.size)
              clear hdr;refine hT 0 hH ?_;refine hT 1 hH ?_;refine hT 2 hH ?_;refine hT 3 hH ?_;refine hT 4 hH ?_
              refine hTake (i:=5) (v:=.slice (some ⟨m2.heap.size,x0,none⟩) (y0-x0) (n-x0)) rfl (by kernel_rfl) (by kernel_rfl) (by kernel_rfl) (fun _ _ _ h=>h) (Or.inl ⟨by rfl,?ya4⟩) hH ?ra4
              case ya4 =>
               intro w9 hSw
               (try dsimp only at hSw)
               go_simp
              try simp only[Act.put,pZ]
              refine hT 6 hH ?_;refine hT 7 hH ?_;refine hT 8 hH ?_
              refine hTake (i:=9) (v:=.slice (some ⟨gy,x0,none⟩) (y0-x0) (n-x0)) rfl (by kernel_rfl) (by kernel_rfl) (by kernel_rfl) (fun _ _ _ h=>h) (Or.inl ⟨by rfl,?yb4⟩) hH ?rb4
              case yb4 =>
               intro w9 hSw
               (try dsimp only at hSw)
               go_simp
              try simp only[Act.put,pZ]
              refine hCall (i:=10) rfl (by kernel_rfl) (by rfl) (fun K hK=>?_)
              go_simp
              refine(hfY Z4 hrb hBq).mono ?_
              rintro e Y4 ⟨fa4,fc4,rfl,hRf4,hb4⟩;replace r2:=r2.below hb4;replace hrb:=hrb.below hb4
              replace hBq:=hBq.trans (hb4.mono hBq.size)
              clear hb4 hfY
              go_wp2_with fail
              refine hK.out _ _ ?_ (fun hH=>?_)
              . (try dsimp only)
                all_goals trivial
              clear hK K
              try simp only[Act.put,pZ]
              refine hCall (i:=11) rfl (by kernel_rfl) (by rfl) (fun K hK=>?_)
              refine za6 134 130 Tryz.underlying134 zbq _ _ rfl m5.heap.size u18 7 KY GY rfl r2.2.1 fa4 fc4 GY.length rfl rfl hRf4.1 hRf4.2.1 hRf4.2.2 hly hBq.size ?_
              intro v4 y4 hT4 hg4 ho4
              replace hBq:Below m5.heap.size m5 y4:=hBq.grown hg4 hBq.size (fun g hg=>(r2.2.1.lo hg).1)
              replace r2:=r2.growY hT4 hg4 ho4
              refine hK.out _ _ ?_ (fun hH=>?_)
              . (try dsimp only)
                all_goals trivial
              clear hK K hT4 hg4 ho4 hRf4
              try simp only[Act.put,pZ]
              refine hT 12 hH ?_
              refine wpAnyH_done (by kernel_rfl) ?_ _
              clear hH
              have HFN:Hid (R2 130 m5.heap.size y4 v3 v4 (QX++conQ Pn.x cs LX TC (k+1)) (QY++conQ Pn.y cs LY TC (k+1))):=by
               rw[HXA.out,HYA.out]
               exact r2
              have HBN:Hid (Below m5.heap.size m5 y4):=hBq
              clear r2 hBq;go_wp2
              go_roundw
              case rel=>exact⟨k+1,by omega,by go_num,by rw[HY0.out],HFN.out,HBN.out⟩
              case measure=>simp[intOf];omega
         . obtain rfl:k=cs.length:=by omega
           have g4:¬(cs.length:Int)<(cs.length:Int):=by omega
           rw[<-HQ1.out,<-HQ2.out,<-HE1.out,<-HE2.out]at r2;obtain⟨s1,t1,rfl,hZ1⟩:=r2.1.rg;obtain⟨s2,t2,rfl,hZ2⟩:=r2.2.1.rg
           have hBG:=HBV.out.trans (hB.mono HBV.out.size)
           clear r2;go_wp2
           exact bodyPost_ret (v:=.tuple #[.slice s1 (spL Pn.x ⟨cs,ps⟩ pts dx dx dy).length t1,.slice s2 (spL Pn.y ⟨cs,ps⟩ pts dy dx dy).length t2,.int .i64 0]) (by simp[results,Tryz.results123,go_sem]) rfl ⟨s1,t1,s2,t2,by rw[HE3.out],hZ1.lower HBV.out.size,hZ2.lower HBV.out.size,hBG⟩
