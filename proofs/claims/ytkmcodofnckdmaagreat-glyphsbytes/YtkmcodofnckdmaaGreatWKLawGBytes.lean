import Derived.Test.YtkmcodofnckdmaaGreatZK48
set_option maxHeartbeats 8000000
set_option maxRecDepth 100000
set_option linter.unusedSimpArgs false
set_option linter.unusedVariables false
namespace Go.Proofs.YtkmcodofnckdmaaGreat
open Tryz Go.RowKit Go.Maps
theorem zzy{l:List Gl}{s:Sr}{ax:Int}(h:foG l s ax=true)(h30:∀x∈l,x.ts.length<=30)(h40:l.length<=40):(gsB l).length<=990000:=by
 obtain⟨_,_,h3⟩:=zbt.1 h
 have h4:=zsv (ax:=ax) (l:=l) (fun x hx=>by
  obtain⟨k,hk,e⟩:=List.getElem_of_mem hx;have h5:=(zd5.1 (h3 k hk)).2.2.1;rw[qH,qG hk,Option.getD_some,e]at h5
  exact⟨h5,h30 x hx⟩)
 unfold gsB;rw[qA];have:(be2 ((l.length:Nat):Int)).length=2:=rfl;omega
theorem zh1(S:Nat->Prop)(a:Option Addr)(ca:Nat)(l:List Gl)(ga:Option Addr)(gc:Nat)(ma:Option Addr)(mc:Nat)(s:Sr)(ax:Int)(pa:Option Addr)(pc:Nat)(xs:List Nat)(w:World)(hl:Gr GlE S w a ca l)(hg:Tzz w ga gc s.rg)(hm:Rii w ma mc s.rw)(hi:I64 ax)(hxs:Rb w pa pc xs) :
 Calls Tryz.prog 4 #[.agg #[.slice a l.length ca,.slice ga s.rg.length gc,.slice ma s.rw.length mc,.int .i64 ax],.slice pa xs.length pc] w fun e w'=>e=.returned (.bool true)/\Below w.heap.size w w':=by
 have kl:=hl.lenB;have kg:=hg.lenB;have km:=hm.lenB;have kx:=hxs.le;have kx2:=hxs.cap;unfold maxLen at kx2;obtain⟨W,hW,X1,hbW⟩:∃W,W=w.alloc (.cells #[.slice a l.length ca,.slice ga s.rg.length gc,.slice ma s.rw.length mc,.int .i64 ax] 28)/\Bk 28 W w.heap.size [.slice a l.length ca,.slice ga s.rg.length gc,.slice ma s.rw.length mc,.int .i64 ax]/\Below w.heap.size w W:=⟨_,rfl,Bk.new _ _ _,bl1 _⟩;replace hl:=hl.below hbW;replace hg:=hg.below hbW;replace hm:=hm.below hbW;replace hxs:=hxs.below hbW;go_enter func4,ntmps4;go_upto_region 1 with fail
 rw[<-hW];clear hW;obtain⟨p0,p1,p2,p3,-⟩:=X1.four;go_wp2_with fail
 refine(zep _).mono ?_;rintro e y1 ⟨rfl,hb1⟩;replace hl:=hl.below hb1;replace hg:=hg.below hb1;replace hm:=hm.below hb1;replace hxs:=hxs.below hb1;replace X1:=X1.below hb1;replace hbW:=hbW.trans (hb1.mono hbW.size);clear p0 p1 p2 p3 hb1;obtain⟨p0,p1,p2,p3,-⟩:=X1.four;go_wp2_with fail
 refine(zs8 S a ca l ga gc ma mc s ax none 0 0 _ hl hg hm (by decide)).mono ?_;rintro e y2 ⟨⟨q,rfl,HQ⟩,hb1⟩;replace HQ:Hid (q=true->FewG l/\s.rg.length<=20/\(∀l∈s.rg,l.length<=8)/\0<=20):=HQ;replace hl:=hl.below hb1;replace hg:=hg.below hb1;replace hm:=hm.below hb1;replace hxs:=hxs.below hb1;replace X1:=X1.below hb1;replace hbW:=hbW.trans (hb1.mono hbW.size);clear p0 p1 p2 p3 hb1;obtain⟨p0,p1,p2,p3,-⟩:=X1.four;cases q with
 | false =>
  go_wp2_with fail
  refine(zep _).mono ?_;rintro e uz ⟨rfl,hbz⟩;have za1:=hbW.trans (hbz.mono hbW.size);clear hbz;go_wp2;go_ret;exact⟨rfl,za1⟩
 | true =>
 have HQ2:Hid (FewG l):=(HQ.out rfl).1;clear HQ;by_cases hx6:6000<xs.length
 . have g1:decide ((6000:Int)<(xs.length:Int))=true:=qC (by omega)
   go_wp2_with fail
   refine(zep _).mono ?_;rintro e uz ⟨rfl,hbz⟩;have za1:=hbW.trans (hbz.mono hbW.size);clear hbz;go_wp2;go_ret;exact⟨rfl,za1⟩
 have g1:decide ((6000:Int)<(xs.length:Int))=false:=qB (by omega);have HPP:Hid (∀x∈l,x.o.ps.length<=100000):=fun x hx=>qF (HQ2.out.ps x hx) (by decide);have hwr:=zpl S a ca l ga gc ma mc s ax _ hl HQ2.out.ps hg hm hi (fun hf=>z22 hf HQ2.out.ts HQ2.out.1);go_wp2_with fail
 refine hwr.mono ?_;rintro e y3 ⟨a1,c1,rfl,hr1,hb1⟩;have zt4:=hr1.rd;clear hwr hr1 g1;replace hl:=hl.below hb1;replace hg:=hg.below hb1;replace hm:=hm.below hb1;replace hxs:=hxs.below hb1;replace X1:=X1.below hb1;replace hbW:=hbW.trans (hb1.mono hbW.size);clear p0 p1 p2 p3 hb1;obtain⟨p0,p1,p2,p3,-⟩:=X1.four;have hwr:=zg8 S a ca l ga gc ma mc s ax _ hl HQ2.out.pt HPP.out hg hm hi (fun hf=>zzy hf HQ2.out.ts HQ2.out.1);go_wp2_with fail
 refine hwr.mono ?_;rintro e y4 ⟨a2,c2,rfl,zzg,hb1⟩;clear hwr;replace hl:=hl.below hb1;replace hg:=hg.below hb1;replace hm:=hm.below hb1;replace hxs:=hxs.below hb1;replace X1:=X1.below hb1;replace zt4:=zt4.below hb1;replace hbW:=hbW.trans (hb1.mono hbW.size);clear p0 p1 p2 p3 hb1;obtain⟨p0,p1,p2,p3,-⟩:=X1.four;have hrx:=zss pa pc xs ga gc ma mc s ax _ hxs hg hm hi (by omega) (fun k tl q _ _=>zxb (ax:=ax) 100000 (by omega));go_wp2_with fail
 refine hrx.mono ?_;rintro e y5 ⟨a5,c5,rfl,hg5,-,hb1⟩;clear hrx;replace hl:=hl.below hb1;replace hg:=hg.below hb1;replace hm:=hm.below hb1;replace hxs:=hxs.below hb1;replace X1:=X1.below hb1;replace zt4:=zt4.below hb1;replace zzg:=zzg.below hb1;replace hbW:=hbW.trans (hb1.mono hbW.size);clear p0 p1 p2 p3 hb1;obtain⟨p0,p1,p2,p3,-⟩:=X1.four;have hrx:=zo2 pa pc xs ga gc ma mc s ax _ hxs hg hm hi (by omega);go_wp2_with fail
 refine hrx.mono ?_;rintro e y6 ⟨a6,c6,rfl,hg6,hb1⟩;clear hrx;replace hl:=hl.below hb1;replace hg:=hg.below hb1;replace hm:=hm.below hb1;replace hxs:=hxs.below hb1;replace X1:=X1.below hb1;replace zt4:=zt4.below hb1;replace zzg:=zzg.below hb1;replace hg5:=hg5.below hb1;replace hbW:=hbW.trans (hb1.mono hbW.size);clear p0 p1 p2 p3 hb1;obtain⟨p0,p1,p2,p3,-⟩:=X1.four;have hc1:=fun U (hU:Below y6.heap.size y6 U)=>zcr a1 a2 c1 c2 (wrGB l s ax) (wrGB l s ax) U (zt4.below hU) (zzg.below hU);simp only[decide_true]at hc1;have hc2:=fun U (hU:Below y6.heap.size y6 U)=>zo1 _ _ a5 c5 a6 c6 (rdGL xs s ax) U (hg5.below hU) (hg6.below hU);have hc3:=fun U (hU:Below y6.heap.size y6 U)=>zh2 S a ca l ga gc ma mc s ax U (hl.below hU) HQ2.out.ps (hg.below hU) (hm.below hU) hi;have hc4:=fun U (hU:Below y6.heap.size y6 U)=>zir S a ca l ga gc ma mc s ax U (hl.below hU) HQ2.out.pt HPP.out (hg.below hU) (hm.below hU) hi;have k1:=zt4.le;have k2:=zt4.cap;have k3:=zzg.cap;have k5:=hg5.lenB;unfold maxLen at k2 k3;clear hl hg hm hxs zt4 zzg hg5 hg6;generalize (wrGB l s ax).length=n1 at *;generalize (rdGL xs s ax).length=n5 at *;generalize wrGE l s ax=e1 at *;generalize rdGE xs s ax=e5 at *;generalize foG l s ax=fg at *;have q1:(e1==e1)=true:=by simp
 have q5:(e5==e5)=true:=by simp
 have q6:(fg==fg)=true:=by simp
 go_upto_region 7 with fail
 refine wp_region_held_drew (S:=fun w9=>w9.cell? ⟨w.heap.size,0,none⟩=some (.slice a l.length ca)/\w9.cell? ⟨w.heap.size,1,none⟩=some (.slice ga s.rg.length gc)/\w9.cell? ⟨w.heap.size,2,none⟩=some (.slice ma s.rw.length mc)/\w9.cell? ⟨w.heap.size,3,none⟩=some (.int .i64 ax)) (by kernel_rfl) ?_ (fun hH=>?_)
 . (try dsimp only)
   go_keep
 have hdr:Below y6.heap.size y6 y6.drew:=Below.drew1;generalize y6.drew=Z at hdr hH ⊢;have HX1:Hid (Bk 28 y6 w.heap.size [.slice a l.length ca,.slice ga s.rg.length gc,.slice ma s.rw.length mc,.int .i64 ax]):=X1;clear p0 p1 p2 p3 X1;refine hT 0 hH ?_;refine hT 1 hH ?_;refine hT 2 hH ?_;refine hT 3 hH ?_;refine hT 4 hH ?_;refine hT 5 hH ?_;refine hCall (i:=6) rfl (by kernel_rfl) (by rfl) (fun K hK=>?_);go_simp;refine(hc1 _ hdr).mono ?_;rintro e u1 ⟨rfl,hu1⟩;replace hdr:=hdr.trans (hu1.mono hdr.size);clear hu1 hc1;go_wp2_with fail
 refine hK.out _ _ ?_ (fun hH=>?_)
 . (try dsimp only)
   obtain⟨p0,p1,p2,p3,-⟩:=(HX1.out.below hdr).four;exact⟨p0,p1,p2,p3⟩
 clear hK K;try simp only[Act.put,pZ]
 refine hT 7 hH ?_;refine hT 8 hH ?_;refine hT 9 hH ?_;refine hT 10 hH ?_;refine hT 11 hH ?_;refine hT 12 hH ?_;refine hT 13 hH ?_;refine hT 14 hH ?_;refine hT 15 hH ?_;refine hCall (i:=16) rfl (by kernel_rfl) (by rfl) (fun K hK=>?_);go_simp;refine(hc2 _ hdr).mono ?_;rintro e u2 ⟨rfl,hu2⟩;replace hdr:=hdr.trans (hu2.mono hdr.size);clear hu2 hc2;go_wp2_with fail
 refine hK.out _ _ ?_ (fun hH=>?_)
 . (try dsimp only)
   obtain⟨p0,p1,p2,p3,-⟩:=(HX1.out.below hdr).four;exact⟨p0,p1,p2,p3⟩
 clear hK K;try simp only[Act.put,pZ]
 refine hT 17 hH ?_;refine hT 18 hH ?_;refine hT 19 hH ?_;refine hT 20 hH ?_;refine hT 21 hH ?_;refine hT 22 hH ?_;refine hT 23 hH ?_;refine hT 24 hH ?_;refine hT 26 hH ?_;refine hT 27 hH ?_;refine hT 28 hH ?_;refine hT 29 hH ?_;refine hT 30 hH ?_;refine hT 31 hH ?_;refine hCall (i:=25) rfl (by kernel_rfl) (by rfl) (fun K hK=>?_);go_simp;refine(hc3 _ hdr).mono ?_;rintro e u3 ⟨rfl,hu3⟩;replace hdr:=hdr.trans (hu3.mono hdr.size);clear hu3 hc3;go_wp2_with fail
 refine hK.out _ _ ?_ (fun hH=>?_)
 . (try dsimp only)
   obtain⟨p0,p1,p2,p3,-⟩:=(HX1.out.below hdr).four;exact⟨p0,p1,p2,p3⟩
 clear hK K;try simp only[Act.put,pZ]
 refine hCall (i:=32) rfl (by kernel_rfl) (by rfl) (fun K hK=>?_);go_simp;refine(hc4 _ hdr).mono ?_;rintro e u4 ⟨rfl,hu4⟩;replace hdr:=hdr.trans (hu4.mono hdr.size);clear hu4 hc4;go_wp2_with fail
 refine hK.out _ _ ?_ (fun hH=>?_)
 . (try dsimp only)
   obtain⟨p0,p1,p2,p3,-⟩:=(HX1.out.below hdr).four;exact⟨p0,p1,p2,p3⟩
 clear hK K;try simp only[Act.put,pZ]
 refine hT 33 hH ?_;refine hT 34 hH ?_;refine hT 35 hH ?_;refine wpAnyH_done (by kernel_rfl) ?_ _;have za1:=hbW.trans (hdr.mono hbW.size);clear hH hdr hbW;go_wp2;go_ret;exact⟨rfl,za1⟩
