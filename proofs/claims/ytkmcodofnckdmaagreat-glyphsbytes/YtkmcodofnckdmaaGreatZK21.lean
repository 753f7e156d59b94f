import Derived.Test.YtkmcodofnckdmaaGreatZK20
set_option maxHeartbeats 4000000
set_option maxRecDepth 100000
set_option linter.unusedSimpArgs false
set_option linter.unusedVariables false
namespace Go.Proofs.YtkmcodofnckdmaaGreat
open Tryz Go.RowKit Go.Maps
theorem zgn:(Tryz.prog.info? 65).map (fun i=>(i.zero,i.size,i.bytes))=some (some (.agg #[.int .i64 0,.int .i64 0,.bool false]),3,24):=by kernel_rfl
theorem ze5:(Tryz.prog.info? 63).map (fun i=>(i.zero,i.size,i.bytes))=some (some (.slice none 0 0),1,24):=by kernel_rfl
theorem zvi:(Tryz.prog.info? 54).map (fun i=>(i.zero,i.size,i.bytes))=some (some (.agg #[.int .i64 0,.int .i64 0,.int .i64 0]),3,24):=by kernel_rfl
theorem zhl{α:Type}{E:El α}{n m:Nat}{w:World}{vs:LV}{l:α}(h:E.rep (fun k=>n<=k) w vs l)(hm:m<=n):E.rep (fun k=>m<=k) w vs l:=E.stay h (qE _) (fun k hk _=>⟨qF hm hk,rfl⟩)
theorem Gr.int0{S:Nat->Prop}{w:World}{a:OA}{cap:Nat}{z:Int}(h:Gr El.int S w a cap [z]):∃b off,a=some ⟨b,off,none⟩/\b<w.heap.size/\w.cell? ⟨b,off,none⟩=some (.int .i64 z):=by
 obtain⟨b,off,vs,e,hb,hr,hc⟩:=h.2.2.2 0 (by simp);obtain⟨rfl,_⟩:=El.int_rep.1 hr;have c0:=hc 0 (by decide);simp at c0;exact⟨b,off,e,hb,c0⟩
theorem renA(S:Nat->Prop)(a:OA)(ca:Nat)(b:OA)(cb:Nat)(on:Bool)(vx vy:Value)(x y:Nat)(w:World)(hc:Gr PnE.row S w a ca [[⟨(x:Int),(y:Int),on⟩]])(hvx:El.int.row.rep (fun _=>True) w [vx] [(x:Int)])(hvy:El.int.row.rep (fun _=>True) w [vy] [(y:Int)])(hx:x<2147483648)(hy:y<2147483648) :
 Calls Tryz.prog 120 #[.agg #[.slice a 1 ca,.slice b 0 cb],vx,vy] w fun e w'=>∃a1 c1,e=.returned (.agg #[.slice a1 1 c1,.slice none 0 0])/\PnE.row.row.rep (fun k=>w.heap.size<=k) w' [.slice a1 1 c1] [[⟨(x:Int),(y:Int),on⟩]]/\Below w.heap.size w w':=by
 obtain⟨W,hW,X0,X1,X2,hbW⟩:∃W,W=((w.alloc (.cells #[.slice a 1 ca,.slice b 0 cb] 57)).alloc (.cells #[.slice none 0 0,.slice none 0 0] 57)).alloc (.cells #[.slice none 0 0,.slice none 0 0] 57)/\Bk 57 W w.heap.size [.slice a 1 ca,.slice b 0 cb]/\Bk 57 W (w.heap.size+1) [.slice none 0 0,.slice none 0 0]/\Bk 57 W (w.heap.size+1+1) [.slice none 0 0,.slice none 0 0]/\Below w.heap.size w W :=
  ⟨_,rfl,(Bk.new 57 w [.slice a 1 ca,.slice b 0 cb]).below (bl2 (.cells #[.slice none 0 0,.slice none 0 0] 57) (.cells #[.slice none 0 0,.slice none 0 0] 57)),(Bk.new1 57 w (.cells #[.slice a 1 ca,.slice b 0 cb] 57) [.slice none 0 0,.slice none 0 0]).below (bl1 (.cells #[.slice none 0 0,.slice none 0 0] 57)),by
   have h:=Bk.new1 57 (w.alloc (.cells #[.slice a 1 ca,.slice b 0 cb] 57)) (.cells #[.slice none 0 0,.slice none 0 0] 57) [.slice none 0 0,.slice none 0 0]
   simpa using h,(bl2 _ _).alloc (by simp;omega) _⟩
 have hn:=X2.lt;obtain⟨xa,xc,rfl,hgx⟩:=zbz hvx;obtain⟨ya,yc,rfl,hgy⟩:=zbz hvy;obtain⟨bx,ox,rfl,z2m,dx⟩:=hgx.int0;obtain⟨bY,oy,rfl,z2l,dy⟩:=hgy.int0;replace dx:=(hbW.cell (p:=⟨bx,ox,none⟩) z2m).trans dx;replace dy:=(hbW.cell (p:=⟨bY,oy,none⟩) z2l).trans dy;have hbx:=qN z2m hbW.size;have hby:=qN z2l hbW.size;obtain⟨p0,p1,-⟩:=X0.two;obtain⟨b1,o1,a2,c2,rfl,hb1,d0,hr1⟩:=(hc.below hbW).row0;obtain⟨b2,o2,rfl,hb2,-,k1,k2,k3⟩:=(zax hr1).1.pn (Below.refl _ _) 0 (by simp);replace k1:W.cell? ⟨b2,o2,none⟩=some (.int .i64 (x:Int)):=by simpa using k1
 replace k2:W.cell? ⟨b2,o2+1,none⟩=some (.int .i64 (y:Int)):=by simpa using k2
 replace k3:W.cell? ⟨b2,o2+2,none⟩=some (.bool on):=by simpa using k3
 replace d0:W.cell? ⟨b1,o1,none⟩=some (.slice (some ⟨b2,o2,none⟩) 1 c2):=d0;obtain⟨w1,hmk,hown,hbm,hml⟩:=make1 63 65 underlying63 zgn (by decide) W;have hgs:Gw PnE 65 W.heap.size (fun k=>W.heap.size<=k) w1 (.slice (some ⟨W.heap.size,0,none⟩) 0 1) []:=Gw.made hown;clear hown hr1 hc hvx hvy hgx hgy;replace k1:=(hbm.cell (p:=⟨b2,o2,none⟩) hb2).trans k1;replace k2:=(hbm.cell (p:=⟨b2,o2+1,none⟩) hb2).trans k2;replace k3:=(hbm.cell (p:=⟨b2,o2+2,none⟩) hb2).trans k3;obtain⟨V,hV,X9,hb9⟩:∃V,V=w1.alloc (.cells #[.int .i64 (x:Int),.int .i64 (y:Int),.bool on] 65)/\Bk 65 V w1.heap.size [.int .i64 (x:Int),.int .i64 (y:Int),.bool on]/\Below w1.heap.size w1 V:=⟨_,rfl,Bk.new _ _ _,bl1 _⟩;have hWV:Below W.heap.size W V:=hbm.trans (hb9.mono hbm.size);go_enter func120,ntmps120;go_upto_region 3 with fail
 rw[<-hW];clear hW;go_wp2;refine wp_loop_rounds 2 ?_;rw[rounds_succ];go_wp2;clear hmk;refine wp_loop_rounds 2 ?_;rw[rounds_succ];go_upto_region 10 with fail
 rw[<-hV];clear hV k1 k2 k3 d0 p0 p1;replace dx:=(hWV.cell (p:=⟨bx,ox,none⟩) hbx).trans dx;replace dy:=(hWV.cell (p:=⟨bY,oy,none⟩) hby).trans dy;obtain⟨q0,q1,q2,-⟩:=X9.three;refine wp_region_held_drew (S:=fun w9=>w9.cell? ⟨bx,ox,none⟩=some (.int .i64 (x:Int))/\w9.cell? ⟨bY,oy,none⟩=some (.int .i64 (y:Int))/\w9.cell? ⟨w1.heap.size,2,none⟩=some (.bool on)) (by kernel_rfl) ?_ (fun hH=>?_)
 . (try dsimp only)
   go_keep
 have hdr:Below V.heap.size V V.drew:=Below.drew1;generalize V.drew=Z at hdr hH ⊢;refine hT 0 hH ?_;refine hT 1 hH ?_;refine hT 2 hH ?_;refine hT 3 hH ?_;refine hT 4 hH ?_;refine hT 5 hH ?_;refine hT 6 hH ?_;refine hT 7 hH ?_;refine hT 8 hH ?_;refine hT 9 hH ?_;refine hT 10 hH ?_;refine hT 11 hH ?_;have hZ:Below W.heap.size W Z:=hWV.trans (hdr.mono hWV.size);have hGZ:=((hgs.below hb9).below hdr);have hlv:=X9.lt;have hs1:=hbm.size;have hsz:=hdr.size;refine hCall (i:=12) rfl (by kernel_rfl) (by rfl) (fun K hK=>?_);go_simp;obtain⟨V9,hV9,Y9,hbv⟩:∃V,V=Z.alloc (.cells #[.int .i64 (x:Int),.int .i64 (y:Int),.bool on] 65)/\Bk 65 V Z.heap.size [.int .i64 (x:Int),.int .i64 (y:Int),.bool on]/\Below Z.heap.size Z V:=⟨_,rfl,Bk.new _ _ _,bl1 _⟩;rw[<-hV9];have hB9:=hZ.trans (hbv.mono hZ.size);refine hK.out _ _ ?_ (fun hH=>?_)
 . (try dsimp only)
   exact⟨(hbv.cell (p:=⟨bx,ox,none⟩) (by show bx<_;omega)).trans hH.1,(hbv.cell (p:=⟨bY,oy,none⟩) (by show bY<_;omega)).trans hH.2.1,(hbv.cell (p:=⟨w1.heap.size,2,none⟩) (by show w1.heap.size<_;omega)).trans hH.2.2⟩
 clear hK K;try simp only[Act.put,pZ]
 have zar:=Gr.one (E:=PnE) (S:=fun k=>W.heap.size<=k/\(Value.slice (some ⟨W.heap.size,0,none⟩) 0 1).ownBlock≠some k) (x:=⟨(x:Int),(y:Int),on⟩) (vs:=pnC ⟨(x:Int),(y:Int),on⟩) (za0.2 ⟨rfl,⟨by dsimp only;omega,by dsimp only;omega⟩,⟨by dsimp only;omega,by dsimp only;omega⟩⟩) Y9.lt (fun j hj=>Y9.cell j hj);refine hCall (i:=13) rfl (by kernel_rfl) (by rfl) (fun K hK=>?_);refine zai 63 65 underlying63 zgn rfl (by decide) (by decide) _ _ rfl W.heap.size (fun k=>W.heap.size<=k) _ [] rfl (hGZ.below hbv) ⟨Z.heap.size,0,none⟩ 1 1 [⟨(x:Int),(y:Int),on⟩] rfl rfl zar (by simp) hB9.size ?_;intro v9 w9 hT9 hgrow _;have zh0:Below W.heap.size W w9:=hB9.grown hgrow hB9.size (fun q hq=>by have e:some W.heap.size=some q:=hq;injection e with e;omega);have hg9:∀k,k<V9.heap.size->k≠W.heap.size->w9.heap[k]?=V9.heap[k]?:=fun k h1 h2=>hgrow.block k h1 (fun e=>by have e:some k=some W.heap.size:=e;injection e with e;omega);refine hK.out _ _ ?_ (fun hH=>?_)
 . (try dsimp only)
   have hc:=fun(q:Nat) (j:Nat) (h1:q<V9.heap.size) (h2:q≠W.heap.size)=>World.cell?_of_block (w:=V9) (a:=⟨q,j,none⟩) (hg9 q h1 h2);have hsv:=hbv.size;exact⟨(hc bx ox (by omega) (by omega)).trans hH.1,(hc bY oy (by omega) (by omega)).trans hH.2.1,(hc w1.heap.size 2 (by omega) (by omega)).trans hH.2.2⟩
 clear hK K;try simp only[Act.put,pZ]
 refine hT 14 hH ?_;refine wpAnyH_done (by kernel_rfl) ?_ _;obtain⟨va,vc,rfl,-,-⟩:=hT9.slice;have hrp:PnE.row.rep (fun k=>W.heap.size<=k) w9 [.slice va 1 vc] [⟨(x:Int),(y:Int),on⟩]:=hT9.rep (by simp);replace X0:=X0.below zh0;replace X1:=X1.below zh0;replace X2:=X2.below zh0;clear hH hgrow zar hGZ hgs hT9 hg9 hV9 Y9 hbv hB9 hZ hdr q0 q1 q2 X9 hb9 hWV dx dy hbm;go_wp2;rw[rounds_succ];obtain⟨V8,hV8,Y8,hb8⟩:∃V,V=w9.alloc (.cells #[.slice va 1 vc] 63)/\Bk 63 V w9.heap.size [.slice va 1 vc]/\Below w9.heap.size w9 V:=⟨_,rfl,Bk.new _ _ _,bl1 _⟩;have zar:=Gr.one (E:=PnE.row) (S:=fun k=>W.heap.size<=k/\(Value.slice none 0 0).ownBlock≠some k) (PnE.row.stay (zal hrp hb8) (qE _) (fun k hk _=>⟨⟨hk,fun e=>by cases e⟩,rfl⟩)) Y8.lt (fun j hj=>Y8.cell j hj);have hB8:=zh0.trans (hb8.mono zh0.size);obtain⟨s0,s1,f0,f1⟩:=X2.two;go_wp2_with (at_builtin;rw[<-hV8];refine zab (E:=PnE.row) 37 63 underlying37 ze5 rfl (by decide) (by decide) rfl _ _ rfl W.heap.size (fun k=>W.heap.size<=k) _ [] rfl (Gw.nil _ _ _ _ _) (some ⟨w9.heap.size,0,none⟩) 1 1 [[⟨(x:Int),(y:Int),on⟩]] rfl rfl zar (by simp) hB8.size ?_)
 intro v7 w7 hT7 hgrow _;rw[<-hV8]at hgrow;have hB7:Below W.heap.size W w7:=hB8.grown hgrow hB8.size (fun q hq=>by cases hq);have h97:Below w9.heap.size w9 w7:=hb8.grown hgrow hb8.size (fun q hq=>by cases hq);replace X0:=X0.below h97;replace X1:=X1.below h97;replace X2:=X2.below h97;obtain⟨va7,vc7,rfl,-,-⟩:=hT7.slice;have hrp7:PnE.row.row.rep (fun k=>W.heap.size<=k) w7 [.slice va7 1 vc7] [[⟨(x:Int),(y:Int),on⟩]]:=hT7.rep (by simp);clear zar hgrow hT7 hV8 Y8 hb8 hB8 s0 s1 f0 f1 hrp h97;obtain⟨s0,s1,f0,f1⟩:=X2.two;obtain⟨p0,p1,-⟩:=X0.two;obtain⟨m0,m1,n0,n1⟩:=X1.two;have z16:w.heap.size≠w.heap.size+1+1:=by omega
 have HX2:Hid (Bk 57 (w7.setCell ⟨w.heap.size+1+1,0,none⟩ (.slice va7 1 vc7)) (w.heap.size+1+1) [.slice va7 1 vc7,.slice none 0 0]):=X2.set 0 _;have HX0:Hid (Bk 57 (w7.setCell ⟨w.heap.size+1+1,0,none⟩ (.slice va7 1 vc7)) w.heap.size [.slice (some ⟨b1,o1,none⟩) 1 ca,.slice b 0 cb]):=X0.other 0 _ (by omega);have HX1:Hid (Bk 57 (w7.setCell ⟨w.heap.size+1+1,0,none⟩ (.slice va7 1 vc7)) (w.heap.size+1) [.slice none 0 0,.slice none 0 0]):=X1.other 0 _ (by omega);have HRP:Hid (PnE.row.row.rep (fun k=>W.heap.size<=k) (w7.setCell ⟨w.heap.size+1+1,0,none⟩ (.slice va7 1 vc7)) [.slice va7 1 vc7] [[⟨(x:Int),(y:Int),on⟩]]):=zaf hrp7 (K3.set _ hn 0 _);have HB:Hid (Below w.heap.size w (w7.setCell ⟨w.heap.size+1+1,0,none⟩ (.slice va7 1 vc7))):=(hbW.trans (hB7.mono hbW.size)).setCell (p:=⟨w.heap.size+1+1,0,none⟩) (by show w.heap.size<=w.heap.size+1+1;omega) _;clear hrp7 hB7;go_upto_region 14 with fail
 generalize w7.setCell ⟨w.heap.size+1+1,0,none⟩ (.slice va7 1 vc7)=w6 at *;clear s0 s1 f0 f1 p0 p1 m0 m1 n0 n1 X0 X1 X2;obtain⟨p0,p1,-⟩:=HX0.out.two;go_wp2;rw[rounds_succ];go_wp2;refine wp_loop_rounds 1 ?_;rw[rounds_succ];obtain⟨s0,s1,-⟩:=HX2.out.two;obtain⟨m0,m1,n0,n1⟩:=HX1.out.two;have HZ:Hid (Bk 57 ((w6.setCell ⟨w.heap.size+1,0,none⟩ (.slice va7 1 vc7)).setCell ⟨w.heap.size+1,1,none⟩ (.slice none 0 0)) (w.heap.size+1) [.slice va7 1 vc7,.slice none 0 0]):=(HX1.out.set 0 _).set 1 _;have HRZ:Hid (PnE.row.row.rep (fun k=>w.heap.size<=k) ((w6.setCell ⟨w.heap.size+1,0,none⟩ (.slice va7 1 vc7)).setCell ⟨w.heap.size+1,1,none⟩ (.slice none 0 0)) [.slice va7 1 vc7] [[⟨(x:Int),(y:Int),on⟩]]):=zhl (m:=w.heap.size) (zaf HRP.out ((K3.set (n:=W.heap.size) _ (by omega) 0 _).trans (K3.set _ (by omega) 1 _))) (by omega);have HBZ:Hid (Below w.heap.size w ((w6.setCell ⟨w.heap.size+1,0,none⟩ (.slice va7 1 vc7)).setCell ⟨w.heap.size+1,1,none⟩ (.slice none 0 0))):=(HB.out.setCell (p:=⟨w.heap.size+1,0,none⟩) (by show w.heap.size<=w.heap.size+1;omega) _).setCell (p:=⟨w.heap.size+1,1,none⟩) (by show w.heap.size<=w.heap.size+1;omega) _;go_wp2;refine bodyPost_ret (v:=.agg #[.slice va7 1 vc7,.slice none 0 0]) (by obtain⟨r0,r1,-⟩:=HZ.out.two;simp[results,results120,go_sem,r0,r1]) rfl ⟨va7,vc7,rfl,HRZ.out,HBZ.out⟩
theorem renB(S:Nat->Prop)(a:OA)(ca:Nat)(b:OA)(cb:Nat)(g:Int)(vx vy:Value)(x y:Nat)(w:World)(hp:Gr PaE S w b cb [⟨g,(x:Int),(y:Int)⟩])(hvx:El.int.row.rep (fun _=>True) w [vx] [(x:Int)])(hvy:El.int.row.rep (fun _=>True) w [vy] [(y:Int)])(hx:x<2147483648)(hy:y<2147483648) :
 Calls Tryz.prog 120 #[.agg #[.slice a 0 ca,.slice b 1 cb],vx,vy] w fun e w'=>∃a2 c2,e=.returned (.agg #[.slice none 0 0,.slice a2 1 c2])/\PaE.row.rep (fun k=>w.heap.size<=k) w' [.slice a2 1 c2] [⟨g,(x:Int),(y:Int)⟩]/\Below w.heap.size w w':=by
 obtain⟨W,hW,X0,X1,X2,hbW⟩:∃W,W=((w.alloc (.cells #[.slice a 0 ca,.slice b 1 cb] 57)).alloc (.cells #[.slice none 0 0,.slice none 0 0] 57)).alloc (.cells #[.slice none 0 0,.slice none 0 0] 57)/\Bk 57 W w.heap.size [.slice a 0 ca,.slice b 1 cb]/\Bk 57 W (w.heap.size+1) [.slice none 0 0,.slice none 0 0]/\Bk 57 W (w.heap.size+1+1) [.slice none 0 0,.slice none 0 0]/\Below w.heap.size w W :=
  ⟨_,rfl,(Bk.new 57 w [.slice a 0 ca,.slice b 1 cb]).below (bl2 (.cells #[.slice none 0 0,.slice none 0 0] 57) (.cells #[.slice none 0 0,.slice none 0 0] 57)),(Bk.new1 57 w (.cells #[.slice a 0 ca,.slice b 1 cb] 57) [.slice none 0 0,.slice none 0 0]).below (bl1 (.cells #[.slice none 0 0,.slice none 0 0] 57)),by
   have h:=Bk.new1 57 (w.alloc (.cells #[.slice a 0 ca,.slice b 1 cb] 57)) (.cells #[.slice none 0 0,.slice none 0 0] 57) [.slice none 0 0,.slice none 0 0]
   simpa using h,(bl2 _ _).alloc (by simp;omega) _⟩
 have hn:=X2.lt;obtain⟨xa,xc,rfl,hgx⟩:=zbz hvx;obtain⟨ya,yc,rfl,hgy⟩:=zbz hvy;obtain⟨bx,ox,rfl,z2m,dx⟩:=hgx.int0;obtain⟨bY,oy,rfl,z2l,dy⟩:=hgy.int0;replace dx:=(hbW.cell (p:=⟨bx,ox,none⟩) z2m).trans dx;replace dy:=(hbW.cell (p:=⟨bY,oy,none⟩) z2l).trans dy;have hbx:=qN z2m hbW.size;have hby:=qN z2l hbW.size;obtain⟨p0,p1,-⟩:=X0.two;obtain⟨b2,o2,rfl,hb2,-,k1,k2,k3⟩:=(hp.below hbW).pa (Below.refl _ _) 0 (by simp);replace k1:W.cell? ⟨b2,o2,none⟩=some (.int .i64 g):=by simpa using k1
 replace k2:W.cell? ⟨b2,o2+1,none⟩=some (.int .i64 (x:Int)):=by simpa using k2
 replace k3:W.cell? ⟨b2,o2+2,none⟩=some (.int .i64 (y:Int)):=by simpa using k3
 have hiw:=(zce.1 (show PaE.rep (fun _=>True) W (paC ⟨g,(x:Int),(y:Int)⟩) ⟨g,(x:Int),(y:Int)⟩from by
  obtain⟨b',o',vs,e',h1',hr',-⟩:=(hp.below hbW).at (Below.refl _ _) 0 (by simp);obtain⟨rfl,-⟩:=zce.1 hr'
  exact zff hr')).2
 clear hp hvx hvy hgx hgy;obtain⟨V,hV,X9,hb9⟩:∃V,V=W.alloc (.cells #[.int .i64 g,.int .i64 (x:Int),.int .i64 (y:Int)] 54)/\Bk 54 V W.heap.size [.int .i64 g,.int .i64 (x:Int),.int .i64 (y:Int)]/\Below W.heap.size W V:=⟨_,rfl,Bk.new _ _ _,bl1 _⟩;have hWV:Below W.heap.size W V:=hb9;go_enter func120,ntmps120;go_upto_region 3 with fail
 rw[<-hW];clear hW;go_wp2;refine wp_loop_rounds 1 ?_;rw[rounds_succ];go_wp2;refine wp_loop_rounds 2 ?_;rw[rounds_succ];go_upto_region 18 with fail
 rw[<-hV];clear hV k1 k2 k3 p0 p1;replace dx:=(hWV.cell (p:=⟨bx,ox,none⟩) hbx).trans dx;replace dy:=(hWV.cell (p:=⟨bY,oy,none⟩) hby).trans dy;obtain⟨q0,q1,q2,-⟩:=X9.three;replace X0:=X0.below hb9;replace X1:=X1.below hb9;replace X2:=X2.below hb9;refine wp_region_held_drew (S:=fun w9=>w9.cell? ⟨bx,ox,none⟩=some (.int .i64 (x:Int))/\w9.cell? ⟨bY,oy,none⟩=some (.int .i64 (y:Int))/\w9.cell? ⟨W.heap.size,0,none⟩=some (.int .i64 g)) (by kernel_rfl) ?_ (fun hH=>?_)
 . (try dsimp only)
   go_keep
 have hdr:Below V.heap.size V V.drew:=Below.drew1;generalize V.drew=Z at hdr hH ⊢;refine hT 0 hH ?_;refine hT 2 hH ?_;refine hT 3 hH ?_;refine hT 4 hH ?_;refine hT 5 hH ?_;refine hT 6 hH ?_;refine hT 7 hH ?_;refine hT 8 hH ?_;refine hT 9 hH ?_;refine hT 10 hH ?_;refine hT 11 hH ?_;refine hT 12 hH ?_;have hZ:Below W.heap.size W Z:=hWV.trans (hdr.mono hWV.size);have hlv:=X9.lt;have hsz:=hdr.size;have zfi:∀ {U U':World},Below W.heap.size W U->Below U.heap.size U U'->(U.cell? ⟨bx,ox,none⟩=some (.int .i64 (x:Int))/\U.cell? ⟨bY,oy,none⟩=some (.int .i64 (y:Int))/\U.cell? ⟨W.heap.size,0,none⟩=some (.int .i64 g))->W.heap.size<U.heap.size->(U'.cell? ⟨bx,ox,none⟩=some (.int .i64 (x:Int))/\U'.cell? ⟨bY,oy,none⟩=some (.int .i64 (y:Int))/\U'.cell? ⟨W.heap.size,0,none⟩=some (.int .i64 g)):=fun h1 h2 h3 h4=>⟨(h2.cell (p:=⟨bx,ox,none⟩) (by show bx<_;have:=h1.size;omega)).trans h3.1,(h2.cell (p:=⟨bY,oy,none⟩) (by show bY<_;have:=h1.size;omega)).trans h3.2.1,(h2.cell (p:=⟨W.heap.size,0,none⟩) h4).trans h3.2.2⟩;refine wpAnyH_ready (rs:=[1,13]) (by kernel_rfl) (by simp) (hCons (i:=1) rfl (by rfl) (fun K hK=>?_) (hCons (i:=13) rfl (by rfl) (fun K hK=>?_) AllReadyH.nil));obtain⟨s0,s1,f0,f1⟩:=(X2.below hdr).two;go_simp;refine hK.out _ _ hH (fun hH=>?_);clear hK K s0 s1 f0 f1;try simp only[Act.put,pZ]
 refine hCall (i:=13) rfl (by kernel_rfl) (by rfl) (fun K hK=>?_);go_simp;obtain⟨V9,hV9,Y9,hbv⟩:∃V,V=Z.alloc (.cells #[.int .i64 g,.int .i64 (x:Int),.int .i64 (y:Int)] 54)/\Bk 54 V Z.heap.size [.int .i64 g,.int .i64 (x:Int),.int .i64 (y:Int)]/\Below Z.heap.size Z V:=⟨_,rfl,Bk.new _ _ _,bl1 _⟩;rw[<-hV9];clear hV9;refine hK.out _ _ (zfi hZ hbv hH (by omega)) (fun hH=>?_);clear hK K;try simp only[Act.put,pZ]
 rotate_left;go_simp;obtain⟨V9,hV9,Y9,hbv⟩:∃V,V=Z.alloc (.cells #[.int .i64 g,.int .i64 (x:Int),.int .i64 (y:Int)] 54)/\Bk 54 V Z.heap.size [.int .i64 g,.int .i64 (x:Int),.int .i64 (y:Int)]/\Below Z.heap.size Z V:=⟨_,rfl,Bk.new _ _ _,bl1 _⟩;rw[<-hV9];clear hV9;refine hK.out _ _ (zfi hZ hbv hH (by omega)) (fun hH=>?_);clear hK K;try simp only[Act.put,pZ]
 refine hCall (i:=1) rfl (by kernel_rfl) (by rfl) (fun K hK=>?_);obtain⟨s0,s1,f0,f1⟩:=(X2.below (hdr.trans (hbv.mono hdr.size))).two;go_simp;refine hK.out _ _ hH (fun hH=>?_);clear hK K s0 s1 f0 f1;try simp only[Act.put,pZ]
 all_goals
  have hB9:=hZ.trans (hbv.mono hZ.size);have zar:=Gr.one (E:=PaE) (S:=fun k=>W.heap.size<=k/\(Value.slice none 0 0).ownBlock≠some k) (x:=⟨g,(x:Int),(y:Int)⟩) (vs:=paC ⟨g,(x:Int),(y:Int)⟩) (zce.2 ⟨rfl,hiw⟩) Y9.lt (fun j hj=>Y9.cell j hj);refine hCall (i:=14) rfl (by kernel_rfl) (by rfl) (fun K hK=>?_);refine zai (E:=PaE) 55 54 underlying55 zvi rfl (by decide) (by decide) _ _ rfl W.heap.size (fun k=>W.heap.size<=k) _ [] rfl (Gw.nil _ _ _ _ _) ⟨Z.heap.size,0,none⟩ 1 1 [⟨g,(x:Int),(y:Int)⟩] rfl rfl zar (by simp) hB9.size ?_;intro v9 w9 hT9 hgrow _;have hv9:Below V9.heap.size V9 w9:=(Below.refl _ _).grown hgrow (qE _) (fun q hq=>by cases hq);have zh0:=hB9.trans (hv9.mono hB9.size);have hZ9:=hbv.trans (hv9.mono hbv.size);refine hK.out _ _ (zfi hB9 hv9 hH (by have:=hbv.size;omega)) (fun hH=>?_);clear hK K;try simp only[Act.put,pZ]
  refine hT 15 hH ?_;obtain⟨va,vc,rfl,-,-⟩:=hT9.slice;have hV9':=hdr.trans (hZ9.mono hdr.size);have hrp:PaE.row.rep (fun k=>W.heap.size<=k) w9 [.slice va 1 vc] [⟨g,(x:Int),(y:Int)⟩]:=hT9.rep (by simp);replace X0:=X0.below hV9';replace X1:=X1.below hV9';replace X2:=X2.below hV9';obtain⟨s0,s1,f0,f1⟩:=X2.two;have HX2:Hid (Bk 57 (w9.setCell ⟨w.heap.size+1+1,1,none⟩ (.slice va 1 vc)) (w.heap.size+1+1) [.slice none 0 0,.slice va 1 vc]):=X2.set 1 _;have HX1:Hid (Bk 57 (w9.setCell ⟨w.heap.size+1+1,1,none⟩ (.slice va 1 vc)) (w.heap.size+1) [.slice none 0 0,.slice none 0 0]):=X1.other 1 _ (by omega);have HRP:Hid (PaE.row.rep (fun k=>W.heap.size<=k) (w9.setCell ⟨w.heap.size+1+1,1,none⟩ (.slice va 1 vc)) [.slice va 1 vc] [⟨g,(x:Int),(y:Int)⟩]):=zaf hrp (K3.set _ hn 1 _);have HB:Hid (Below w.heap.size w (w9.setCell ⟨w.heap.size+1+1,1,none⟩ (.slice va 1 vc))):=(hbW.trans (zh0.mono hbW.size)).setCell (p:=⟨w.heap.size+1+1,1,none⟩) (by show w.heap.size<=w.heap.size+1+1;omega) _;have hS2:(w9.setCell ⟨w.heap.size+1+1,1,none⟩ (.slice va 1 vc)).cell? ⟨bx,ox,none⟩=some (.int .i64 (x:Int))/\(w9.setCell ⟨w.heap.size+1+1,1,none⟩ (.slice va 1 vc)).cell? ⟨bY,oy,none⟩=some (.int .i64 (y:Int))/\(w9.setCell ⟨w.heap.size+1+1,1,none⟩ (.slice va 1 vc)).cell? ⟨W.heap.size,0,none⟩=some (.int .i64 g):=⟨(World.cell?_of_block (w:=w9) (a:=⟨bx,ox,none⟩) (Below.heap_setCell _ _ _ _ (fun e=>by have e:bx=w.heap.size+1+1:=e;omega))).trans hH.1,(World.cell?_of_block (w:=w9) (a:=⟨bY,oy,none⟩) (Below.heap_setCell _ _ _ _ (fun e=>by have e:bY=w.heap.size+1+1:=e;omega))).trans hH.2.1,(World.cell?_of_block (w:=w9) (a:=⟨W.heap.size,0,none⟩) (Below.heap_setCell _ _ _ _ (fun e=>by have e:W.heap.size=w.heap.size+1+1:=e;omega))).trans hH.2.2⟩;refine hCall (i:=16) rfl (by kernel_rfl) (by rfl) (fun K hK=>?_);go_simp;generalize w9.setCell ⟨w.heap.size+1+1,1,none⟩ (.slice va 1 vc)=w6 at *;refine hK.out _ _ hS2 (fun hH=>?_);clear hK K;try simp only[Act.put,pZ]
  refine wpAnyH_done (by kernel_rfl) ?_ _;clear hH hS2 hgrow zar hT9 Y9 hbv hB9 hZ hdr q0 q1 q2 X9 hb9 hWV dx dy X0 X1 X2 s0 s1 f0 f1 zfi hv9 zh0 hZ9 hV9' hrp;go_wp2;rw[rounds_succ];obtain⟨s0,s1,-⟩:=HX2.out.two;obtain⟨m0,m1,n0,n1⟩:=HX1.out.two;have HZ:Hid (Bk 57 ((w6.setCell ⟨w.heap.size+1,0,none⟩ (.slice none 0 0)).setCell ⟨w.heap.size+1,1,none⟩ (.slice va 1 vc)) (w.heap.size+1) [.slice none 0 0,.slice va 1 vc]):=(HX1.out.set 0 _).set 1 _;have HRZ:Hid (PaE.row.rep (fun k=>w.heap.size<=k) ((w6.setCell ⟨w.heap.size+1,0,none⟩ (.slice none 0 0)).setCell ⟨w.heap.size+1,1,none⟩ (.slice va 1 vc)) [.slice va 1 vc] [⟨g,(x:Int),(y:Int)⟩]):=zhl (m:=w.heap.size) (zaf HRP.out ((K3.set (n:=W.heap.size) _ (by omega) 0 _).trans (K3.set _ (by omega) 1 _))) (by omega);have HBZ:Hid (Below w.heap.size w ((w6.setCell ⟨w.heap.size+1,0,none⟩ (.slice none 0 0)).setCell ⟨w.heap.size+1,1,none⟩ (.slice va 1 vc))):=(HB.out.setCell (p:=⟨w.heap.size+1,0,none⟩) (by show w.heap.size<=w.heap.size+1;omega) _).setCell (p:=⟨w.heap.size+1,1,none⟩) (by show w.heap.size<=w.heap.size+1;omega) _;go_wp2;refine bodyPost_ret (v:=.agg #[.slice none 0 0,.slice va 1 vc]) (by obtain⟨r0,r1,-⟩:=HZ.out.two;simp[results,results120,go_sem,r0,r1]) rfl ⟨va,vc,rfl,HRZ.out,HBZ.out⟩
theorem atA(S:Nat->Prop)(a:OA)(ca:Nat)(b:OA)(cb:Nat)(on:Bool)(x y:Nat)(w:World)(hc:Gr PnE.row S w a ca (⟨[[⟨(x:Int),(y:Int),on⟩]],[]⟩:Ol).cs)(hp:Gr PaE S w b cb (⟨[[⟨(x:Int),(y:Int),on⟩]],[]⟩:Ol).ps)(hfo:foT ⟨[[⟨(x:Int),(y:Int),on⟩]],[]⟩ [] 0=true)(hx:x<=32767)(hy:y<=32767) :
 Calls Tryz.prog 71 #[.agg #[.slice a 1 ca,.slice b 0 cb],.slice none 0 0,.slice none 0 0] w fun e w'=>∃a1 c1,e=.returned (.tuple #[.agg #[.slice a1 1 c1,.slice none 0 0],.int .i64 0])/\PnE.row.row.rep (fun k=>w.heap.size<=k) w' [.slice a1 1 c1] [[⟨(x:Int),(y:Int),on⟩]]/\Below w.heap.size w w':=by
 obtain⟨W,hW,X0,X1,hbW⟩:∃W,W=(w.alloc (.cells #[.slice a 1 ca,.slice b 0 cb] 57)).alloc (.cells #[.slice none 0 0,.slice none 0 0] 57)/\Bk 57 W w.heap.size [.slice a 1 ca,.slice b 0 cb]/\Bk 57 W (w.heap.size+1) [.slice none 0 0,.slice none 0 0]/\Below w.heap.size w W :=
  ⟨_,rfl,(Bk.new 57 w [.slice a 1 ca,.slice b 0 cb]).below (bl1 (.cells #[.slice none 0 0,.slice none 0 0] 57)),Bk.new1 57 w (.cells #[.slice a 1 ca,.slice b 0 cb] 57) [.slice none 0 0,.slice none 0 0],bl2 _ _⟩
 replace hc:=hc.below hbW;replace hp:=hp.below hbW;have hex:Calls Tryz.prog 118 #[.agg #[.slice a 1 ca,.slice b 0 cb],.slice none 0 0,.slice none 0 0] W fun e w'=>∃vx vy,e=.returned (.tuple #[vx,vy,.int .i64 0])/\W1E.row.rep (fun _=>True) w' [vx] [x]/\W1E.row.rep (fun _=>True) w' [vy] [y]/\Below W.heap.size W w':=zxh S a ca b cb ⟨[[⟨(x:Int),(y:Int),on⟩]],[]⟩ x y W hc hp hfo (fun U hU=>z3q S a ca b cb on x y U (hc.below hU) (by omega) (by omega));have hre:=fun U vx vy (hU:Below W.heap.size W U) h1 h2=>renA S a ca b cb on vx vy x y U (hc.below hU) h1 h2 (by omega) (by omega);obtain⟨p0,p1,-⟩:=X0.two;clear hc hp hfo;go_enter func71,ntmps71;go_upto_region 1 with fail
 rw[<-hW];clear hW;go_wp2_with fail
 refine hex.mono ?_;rintro e u1 ⟨vx,vy,rfl,hvx,hvy,hb1⟩;obtain⟨xa,xc,e1,-⟩:=zbz hvx;obtain⟨ya,yc,e2,-⟩:=zbz hvy;subst e1 e2;have h1:=zgd _ x u1 hvx hx;clear hex p0 p1;go_wp2_with fail
 refine h1.mono ?_;rintro e u2 ⟨nx,rfl,hnx,hb2⟩;have h2:=zgd _ y u2 (zal hvy hb2) hy;replace hb1:=hb1.trans (hb2.mono hb1.size);obtain⟨na,nc,e3,-⟩:=zbz hnx;subst e3;clear h1 hb2 hvx hvy;go_wp2_with fail
 refine h2.mono ?_;rintro e u3 ⟨ny,rfl,hny,hb3⟩;replace hb1:=hb1.trans (hb3.mono hb1.size);obtain⟨nb,nd,e4,-⟩:=zbz hny;subst e4;have h3:=hre u3 _ _ hb1 (zal hnx hb3) hny;obtain⟨p0,p1,-⟩:=(X0.below hb1).two;clear h2 hb3 hnx hny hre;go_wp2_with fail
 refine h3.mono ?_;rintro e u4 ⟨a1,c1,rfl,hrp,hb4⟩;have hs4:=hb1.size;replace hb1:=hb1.trans (hb4.mono hb1.size);have hlt:=X1.lt;have X1':=X1.below hb1;obtain⟨m0,m1,n0,n1⟩:=X1'.two;have HZ:Hid (Bk 57 ((u4.setCell ⟨w.heap.size+1,0,none⟩ (.slice a1 1 c1)).setCell ⟨w.heap.size+1,1,none⟩ (.slice none 0 0)) (w.heap.size+1) [.slice a1 1 c1,.slice none 0 0]):=(X1'.set 0 _).set 1 _;have HBZ:Hid (Below w.heap.size w ((u4.setCell ⟨w.heap.size+1,0,none⟩ (.slice a1 1 c1)).setCell ⟨w.heap.size+1,1,none⟩ (.slice none 0 0))):=((hbW.trans (hb1.mono hbW.size)).setCell (p:=⟨w.heap.size+1,0,none⟩) (by show w.heap.size<=w.heap.size+1;omega) _).setCell (p:=⟨w.heap.size+1,1,none⟩) (by show w.heap.size<=w.heap.size+1;omega) _;have HRK:Hid (PnE.row.row.rep (fun k=>w.heap.size<=k) ((u4.setCell ⟨w.heap.size+1,0,none⟩ (.slice a1 1 c1)).setCell ⟨w.heap.size+1,1,none⟩ (.slice none 0 0)) [.slice a1 1 c1] [[⟨(x:Int),(y:Int),on⟩]]):=zhl (m:=w.heap.size) (zaf hrp ((K3.set (n:=u3.heap.size) _ (by omega) 0 _).trans (K3.set _ (by omega) 1 _))) (by omega);clear h3 p0 p1;go_wp2;refine bodyPost_ret (v:=.tuple #[.agg #[.slice a1 1 c1,.slice none 0 0],.int .i64 0]) (by obtain⟨r0,r1,-⟩:=HZ.out.two;simp[results,results71,go_sem,r0,r1]) rfl ⟨a1,c1,rfl,HRK.out,HBZ.out⟩
theorem atB(S:Nat->Prop)(a:OA)(ca:Nat)(b:OA)(cb:Nat)(g:Int)(x y:Nat)(w:World)(hc:Gr PnE.row S w a ca (⟨[],[⟨g,(x:Int),(y:Int)⟩]⟩:Ol).cs)(hp:Gr PaE S w b cb (⟨[],[⟨g,(x:Int),(y:Int)⟩]⟩:Ol).ps)(hfo:foT ⟨[],[⟨g,(x:Int),(y:Int)⟩]⟩ [] 0=true)(hx:x<=32767)(hy:y<=32767) :
 Calls Tryz.prog 71 #[.agg #[.slice a 0 ca,.slice b 1 cb],.slice none 0 0,.slice none 0 0] w fun e w'=>∃a1 c1,e=.returned (.tuple #[.agg #[.slice none 0 0,.slice a1 1 c1],.int .i64 0])/\PaE.row.rep (fun k=>w.heap.size<=k) w' [.slice a1 1 c1] [⟨g,(x:Int),(y:Int)⟩]/\Below w.heap.size w w':=by
 obtain⟨W,hW,X0,X1,hbW⟩:∃W,W=(w.alloc (.cells #[.slice a 0 ca,.slice b 1 cb] 57)).alloc (.cells #[.slice none 0 0,.slice none 0 0] 57)/\Bk 57 W w.heap.size [.slice a 0 ca,.slice b 1 cb]/\Bk 57 W (w.heap.size+1) [.slice none 0 0,.slice none 0 0]/\Below w.heap.size w W :=
  ⟨_,rfl,(Bk.new 57 w [.slice a 0 ca,.slice b 1 cb]).below (bl1 (.cells #[.slice none 0 0,.slice none 0 0] 57)),Bk.new1 57 w (.cells #[.slice a 0 ca,.slice b 1 cb] 57) [.slice none 0 0,.slice none 0 0],bl2 _ _⟩
 replace hc:=hc.below hbW;replace hp:=hp.below hbW;have hex:Calls Tryz.prog 118 #[.agg #[.slice a 0 ca,.slice b 1 cb],.slice none 0 0,.slice none 0 0] W fun e w'=>∃vx vy,e=.returned (.tuple #[vx,vy,.int .i64 0])/\W1E.row.rep (fun _=>True) w' [vx] [x]/\W1E.row.rep (fun _=>True) w' [vy] [y]/\Below W.heap.size W w':=zxh S a ca b cb ⟨[],[⟨g,(x:Int),(y:Int)⟩]⟩ x y W hc hp hfo (fun U hU=>z3p S a ca b cb g x y U (hc.below hU) (hp.below hU) (by omega) (by omega));have hre:=fun U vx vy (hU:Below W.heap.size W U) h1 h2=>renB S a ca b cb g vx vy x y U (hp.below hU) h1 h2 (by omega) (by omega);obtain⟨p0,p1,-⟩:=X0.two;clear hc hp hfo;go_enter func71,ntmps71;go_upto_region 1 with fail
 rw[<-hW];clear hW;go_wp2_with fail
 refine hex.mono ?_;rintro e u1 ⟨vx,vy,rfl,hvx,hvy,hb1⟩;obtain⟨xa,xc,e1,-⟩:=zbz hvx;obtain⟨ya,yc,e2,-⟩:=zbz hvy;subst e1 e2;have h1:=zgd _ x u1 hvx hx;clear hex p0 p1;go_wp2_with fail
 refine h1.mono ?_;rintro e u2 ⟨nx,rfl,hnx,hb2⟩;have h2:=zgd _ y u2 (zal hvy hb2) hy;replace hb1:=hb1.trans (hb2.mono hb1.size);obtain⟨na,nc,e3,-⟩:=zbz hnx;subst e3;clear h1 hb2 hvx hvy;go_wp2_with fail
 refine h2.mono ?_;rintro e u3 ⟨ny,rfl,hny,hb3⟩;replace hb1:=hb1.trans (hb3.mono hb1.size);obtain⟨nb,nd,e4,-⟩:=zbz hny;subst e4;have h3:=hre u3 _ _ hb1 (zal hnx hb3) hny;obtain⟨p0,p1,-⟩:=(X0.below hb1).two;clear h2 hb3 hnx hny hre;go_wp2_with fail
 refine h3.mono ?_;rintro e u4 ⟨a1,c1,rfl,hrp,hb4⟩;have hs4:=hb1.size;replace hb1:=hb1.trans (hb4.mono hb1.size);have hlt:=X1.lt;have X1':=X1.below hb1;obtain⟨m0,m1,n0,n1⟩:=X1'.two;have HZ:Hid (Bk 57 ((u4.setCell ⟨w.heap.size+1,0,none⟩ (.slice none 0 0)).setCell ⟨w.heap.size+1,1,none⟩ (.slice a1 1 c1)) (w.heap.size+1) [.slice none 0 0,.slice a1 1 c1]):=(X1'.set 0 _).set 1 _;have HBZ:Hid (Below w.heap.size w ((u4.setCell ⟨w.heap.size+1,0,none⟩ (.slice none 0 0)).setCell ⟨w.heap.size+1,1,none⟩ (.slice a1 1 c1))):=((hbW.trans (hb1.mono hbW.size)).setCell (p:=⟨w.heap.size+1,0,none⟩) (by show w.heap.size<=w.heap.size+1;omega) _).setCell (p:=⟨w.heap.size+1,1,none⟩) (by show w.heap.size<=w.heap.size+1;omega) _;have HRK:Hid (PaE.row.rep (fun k=>w.heap.size<=k) ((u4.setCell ⟨w.heap.size+1,0,none⟩ (.slice none 0 0)).setCell ⟨w.heap.size+1,1,none⟩ (.slice a1 1 c1)) [.slice a1 1 c1] [⟨g,(x:Int),(y:Int)⟩]):=zhl (m:=w.heap.size) (zaf hrp ((K3.set (n:=u3.heap.size) _ (by omega) 0 _).trans (K3.set _ (by omega) 1 _))) (by omega);clear h3 p0 p1;go_wp2;refine bodyPost_ret (v:=.tuple #[.agg #[.slice none 0 0,.slice a1 1 c1],.int .i64 0]) (by obtain⟨r0,r1,-⟩:=HZ.out.two;simp[results,results71,go_sem,r0,r1]) rfl ⟨a1,c1,rfl,HRK.out,HBZ.out⟩
theorem Gw.widenU{α:Type}{E:El α}{t:TypeId}{base:Nat}{S S':Nat->Prop}{w:World}{v:Value}{l:List α}(h:Gw E t base S w v l)(hS:∀k,S k->k<w.heap.size->S' k):Gw E t base S' w v l :=
 h.stay (qE _) (fun k h1 _ h2=>⟨hS k h1 h2,rfl⟩) (fun _ _=>rfl)
theorem Bk.set2U{t:TypeId}{w:World}{g:Nat}{x y:Value}(h:Bk t w g [x,y])(x' y':Value):Bk t ((w.setCell ⟨g,0,none⟩ x').setCell ⟨g,1,none⟩ y') g [x',y']:=(h.set 0 x').set 1 y'
theorem zbq{w:World}{g b:Nat}(x' y':Value)(hb:b≠g):((w.setCell ⟨g,0,none⟩ x').setCell ⟨g,1,none⟩ y').heap[b]?=w.heap[b]?:=by
 rw[Below.heap_setCell _ _ _ _ (fun e=>hb e),Below.heap_setCell _ _ _ _ (fun e=>hb e)]
theorem zd0{w:World}{g:Nat}(x' y':Value):((w.setCell ⟨g,0,none⟩ x').setCell ⟨g,1,none⟩ y').heap.size=w.heap.size:=by simp[World.setCell]
def rawE(v:Value):Option (DataW Value×List MemPlace):=some (.held v,[])
theorem keyN:Keyed Tryz.prog 3:=int_keyed underlying3
theorem wfI{z:Int}(h:I64 z):(Lit.int .i64 z).wf=true:=WalkArith.wf_i64 h
theorem znx{z:Int}(h:I64 z):keyOf Tryz.prog 3 (.int .i64 z)=some (.int .i64 z):=keyOf_int_mk underlying3 (wfI h)
theorem ztw{D:DataW Value}{k:Lit}(h:Maps.has D k=false)(z:DataW Value):D.atKey k z=z:=by
 cases D <;> try rfl
 rename_i es;have h2:es.any (fun p=>p.1.sameKey k)=false:=h
 have h3:es.find? (fun p=>p.1.sameKey k)=none:=List.find?_eq_none.2 (fun p hp=>by
  have:=List.any_eq_false.1 h2 p hp
  simpa using this)
 unfold DataW.atKey;simp only[h3]
def Mp(w:World)(b n:Nat)(F:Int->Option Value):Prop:=∃D:DataW Value,w.ownsMap Tryz.prog 3 rawE b n D/\∀z,Maps.has D (.int .i64 z)=(F z).isSome/\∀v,F z=some v->∀zd,D.atKey (.int .i64 z) zd=.held v
theorem Mp.made(w:World):Mp (w.alloc (.map #[] 0)) w.heap.size 0 (fun _=>none):=⟨_,World.ownsMap_made w Tryz.prog 3 rawE,fun z=>⟨by simp[Maps.has],fun v e=>by cases e⟩⟩
theorem Mp.lt{w:World}{b n:Nat}{F:Int->Option Value}(h:Mp w b n F):b<w.heap.size:=by
 obtain⟨D,h1,_⟩:=h;exact h1.lt
theorem Mp.stay{w w':World}{b n:Nat}{F:Int->Option Value}(h:Mp w b n F)(hb:w'.heap[b]?=w.heap[b]?):Mp w' b n F:=by
 obtain⟨D,⟨es,clock,k1,k2⟩,h2⟩:=h;exact⟨D,⟨es,clock,hb.trans k1,k2⟩,h2⟩
theorem Mp.below{w w':World}{b n:Nat}{F:Int->Option Value}(h:Mp w b n F)(hb:Below w.heap.size w w'):Mp w' b n F:=h.stay (hb.block b h.lt)
theorem Mp.mono{w:World}{b n m:Nat}{F:Int->Option Value}(h:Mp w b n F)(hn:n<=m):Mp w b m F:=by
 obtain⟨D,h1,h2⟩:=h;exact⟨D,h1.mono hn,h2⟩
theorem zf5{w:World}{ops:Array Oper}{rest:List Oper}{o:Oper}{a:Act}{Q:Exit->Act->World->Prop}(t e:TypeId)(ht:Tryz.prog.underlying t=some (.map 3 e)){z0:Value}(hz:(zeroValue e).run Tryz.prog w=.ok z0 w)
    (hg:o.guard=none) (m x:Operand) (hop:o.op=Op.lookup t m x true) (b n:Nat) (F:Int->Option Value) (z:Int) (hi:I64 z) (h:Mp w b n F) (hm:a.eval m=.map (some b)) (hx:a.eval x=.int .i64 z) (v:Value) (hF:F z=some v)
    (hK:wpList Tryz.prog ops Q rest (a.put o.dst (.tuple #[v,.bool true])) w):wpList Tryz.prog ops Q (o::rest) a w:=by
 obtain⟨D,h1,h2⟩:=h;refine wpList_lookup_own_ok w hg m x t hop 3 e keyN ht rawE hz (.held z0) [] rfl b n D hm h1 _ _ hx (znx hi) (fun u ps hu=>?_);obtain⟨k1,k2⟩:=h2 z;rw[k2 v hF]at hu;have:u=v:=by unfold rawE at hu;simp at hu;exact hu.1
 rw[this,k1,hF];exact hK
theorem zdc{w:World}{ops:Array Oper}{rest:List Oper}{o:Oper}{a:Act}{Q:Exit->Act->World->Prop}(t e:TypeId)(ht:Tryz.prog.underlying t=some (.map 3 e)){z0:Value}(hz:(zeroValue e).run Tryz.prog w=.ok z0 w)
    (hg:o.guard=none) (m x:Operand) (hop:o.op=Op.lookup t m x true) (b n:Nat) (F:Int->Option Value) (z:Int) (hi:I64 z) (h:Mp w b n F) (hm:a.eval m=.map (some b)) (hx:a.eval x=.int .i64 z) (hF:F z=none)
    (hK:wpList Tryz.prog ops Q rest (a.put o.dst (.tuple #[z0,.bool false])) w):wpList Tryz.prog ops Q (o::rest) a w:=by
 obtain⟨D,h1,h2⟩:=h;obtain⟨k1,k2⟩:=h2 z;have hno:Maps.has D (.int .i64 z)=false:=by rw[k1,hF];rfl
 have hat:D.atKey (.int .i64 z) (.held z0)=.held z0:=ztw hno _;refine wpList_lookup_own_ok w hg m x t hop 3 e keyN ht rawE hz (.held z0) [] rfl b n D hm h1 _ _ hx (znx hi) (fun u ps hu=>?_);rw[hat]at hu;have:u=z0:=by unfold rawE at hu;simp at hu;exact hu.1
 rw[this,hno];exact hK
def Fup(F:Int->Option Value)(z:Int)(v:Value):Int->Option Value:=fun y=>if y=z then some v else F y
theorem zes{w:World}{ops:Array Oper}{rest:List Oper}{o:Oper}{a:Act}{Q:Exit->Act->World->Prop}(t e:TypeId)(ht:Tryz.prog.underlying t=some (.map 3 e))
    (hg:o.guard=none) (m x y:Operand) (hop:o.op=Op.mapUpdate t m x y) (b n:Nat) (F:Int->Option Value) (z:Int) (v:Value) (hi:I64 z) (h:Mp w b n F) (hn:n<=1000000000000) (hm:a.eval m=.map (some b)) (hx:a.eval x=.int .i64 z) (hy:a.eval y=v)
    (hK:∀w',Mp w' b (n+1) (Fup F z v)->w.grownBy w' (some b)->wpList Tryz.prog ops Q rest (a.put o.dst undef) w'):wpList Tryz.prog ops Q (o::rest) a w:=by
 obtain⟨D,h1,h2⟩:=h;have hmap:=h1.isMap;refine wpList_mapUpdate_own w hg m x y t hop 3 e keyN ht rawE b n D hm h1 (by unfold maxLen;omega) _ _ _ hx hy (znx hi) (.held v) [] rfl (fun w' k1 k2=>hK w' ⟨_,k1,fun u=>?_⟩ k2);unfold Fup;by_cases hu:u=z
 . subst hu
   rw[if_pos rfl];refine⟨has_put_same hmap (show WideAt.IsKeyLit (.int .i64 u)from trivial) _,fun v' e' zd=>?_⟩;rw[<-Option.some.inj e'];exact atKey_put_same hmap (show WideAt.IsKeyLit (.int .i64 u)from trivial) _ _
 . rw[if_neg hu]
   have hne:(Lit.int .i64 u)≠.int .i64 z:=fun e'=>hu (by injection e');refine⟨(has_put_other hne _).trans (h2 u).1,fun v' e' zd=>?_⟩;rw[atKey_put_other hne];exact(h2 u).2 v' e' zd
theorem zqj{w:World}{o:Oper}{a:Act}{K:Act->World->Prop}{Q:Exit->Act->World->Prop}(t e:TypeId)(ht:Tryz.prog.underlying t=some (.map 3 e))
    (m x y:Operand) (hop:o.op=Op.mapUpdate t m x y) (b n:Nat) (F:Int->Option Value) (z:Int) (v:Value) (hi:I64 z) (h:Mp w b n F) (hn:n<=1000000000000) (hm:a.eval m=.map (some b)) (hx:a.eval x=.int .i64 z) (hy:a.eval y=v)
    (hK:∀w',Mp w' b (n+1) (Fup F z v)->w.grownBy w' (some b)->K (a.put o.dst undef) w'):o.wp Tryz.prog a w K Q:=by
 obtain⟨D,h1,h2⟩:=h;have hmap:=h1.isMap;obtain⟨w',hrun,k1,k2⟩:=h1.update keyN ht (by unfold maxLen;omega) (znx hi) (show rawE v=some (.held v,[])from rfl);unfold Oper.wp;simp[execOp,hop,hm,hx,hy,hrun,Result.andThen];refine hK w' ⟨_,k1,fun u=>?_⟩ k2;unfold Fup;by_cases hu:u=z
 . subst hu
   rw[if_pos rfl];refine⟨has_put_same hmap (show WideAt.IsKeyLit (.int .i64 u)from trivial) _,fun v' e' zd=>?_⟩;rw[<-Option.some.inj e'];exact atKey_put_same hmap (show WideAt.IsKeyLit (.int .i64 u)from trivial) _ _
 . rw[if_neg hu]
   have hne:(Lit.int .i64 u)≠.int .i64 z:=fun e'=>hu (by injection e');refine⟨(has_put_other hne _).trans (h2 u).1,fun v' e' zd=>?_⟩;rw[atKey_put_other hne];exact(h2 u).2 v' e' zd
theorem movA(S:Nat->Prop)(a:OA)(ca:Nat)(w:World)(h:Gr PnE.row S w a ca [[⟨1,0,false⟩]]) :
 Calls Tryz.prog 72 #[.slice a 1 ca,.agg #[.int .i64 0,.int .i64 5,.int .i64 0]] w fun e w'=>∃a1 c1,e=.returned (.slice a1 1 c1)/\PnE.row.row.rep (fun k=>w.heap.size<=k) w' [.slice a1 1 c1] [[⟨6,0,false⟩]]/\Below w.heap.size w w':=by
 obtain⟨W,hW,X0,hbW⟩:∃W,W=w.alloc (.cells #[.int .i64 0,.int .i64 5,.int .i64 0] 54)/\Bk 54 W w.heap.size [.int .i64 0,.int .i64 5,.int .i64 0]/\Below w.heap.size w W:=⟨_,rfl,Bk.new _ _ _,bl1 _⟩;have hn:=X0.lt;obtain⟨b1,o1,a2,c2,rfl,hb1,d0,hr1⟩:=(h.below hbW).row0;obtain⟨b2,o2,rfl,hb2,-,k1,k2,k3⟩:=(zax hr1).1.pn (Below.refl _ _) 0 (by simp);replace k1:W.cell? ⟨b2,o2,none⟩=some (.int .i64 1):=by simpa using k1
 replace k2:W.cell? ⟨b2,o2+1,none⟩=some (.int .i64 0):=by simpa using k2
 replace k3:W.cell? ⟨b2,o2+2,none⟩=some (.bool false):=by simpa using k3
 replace d0:W.cell? ⟨b1,o1,none⟩=some (.slice (some ⟨b2,o2,none⟩) 1 c2):=d0;obtain⟨w1,hmk,hown,hbm,hl1⟩:=make1 37 63 underlying37 ze5 (by decide) W;have hgo:Gw PnE.row 63 W.heap.size (fun _=>False) w1 (.slice (some ⟨W.heap.size,0,none⟩) 0 1) []:=Gw.made hown;obtain⟨w2,hmk2,hown2,z2n,hl2⟩:=make1 63 65 underlying63 zgn (by decide) w1;have hgs:Gw PnE 65 w1.heap.size (fun k=>w1.heap.size<=k) w2 (.slice (some ⟨w1.heap.size,0,none⟩) 0 1) []:=Gw.made hown2;obtain⟨V,hV,XP,hbV⟩:∃V,V=w2.alloc (.cells #[.int .i64 1,.int .i64 0,.bool false] 65)/\Bk 65 V w2.heap.size [.int .i64 1,.int .i64 0,.bool false]/\Below w2.heap.size w2 V:=⟨_,rfl,Bk.new _ _ _,bl1 _⟩;obtain⟨V1,hV1,Y1,hbV1⟩:∃U,U=V.alloc (.cells #[.int .i64 6,.int .i64 0,.bool false] 65)/\Bk 65 U V.heap.size [.int .i64 6,.int .i64 0,.bool false]/\Below V.heap.size V U:=⟨_,rfl,Bk.new _ _ _,bl1 _⟩;have hW2:Below W.heap.size W w2:=hbm.trans (z2n.mono hbm.size);have h1V:Below w1.heap.size w1 V1:=(z2n.trans (hbV.mono z2n.size)).trans (hbV1.mono (qF z2n.size hbV.size));have hWV:Below W.heap.size W V:=hW2.trans (hbV.mono hW2.size);have zar:Gr PnE (fun k=>w1.heap.size<=k/\(Value.slice (some ⟨w1.heap.size,0,none⟩) 0 1).ownBlock≠some k) V1 (some ⟨V.heap.size,0,none⟩) 1 [⟨6,0,false⟩]:=Gr.one (E:=PnE) (vs:=pnC ⟨6,0,false⟩) (za0.2 ⟨rfl,⟨by decide,by decide⟩,⟨by decide,by decide⟩⟩) Y1.lt (fun j hj=>Y1.cell j hj);have d1:=(hbm.cell (p:=⟨b1,o1,none⟩) hb1).trans d0;have e1:=(hW2.cell (p:=⟨b2,o2,none⟩) hb2).trans k1;have e2:=(hW2.cell (p:=⟨b2,o2+1,none⟩) hb2).trans k2;have e3:=(hW2.cell (p:=⟨b2,o2+2,none⟩) hb2).trans k3;obtain⟨p0,p1,p2,-⟩:=(X0.below hWV).three;obtain⟨q0,q1,q2,-⟩:=XP.three;have hgV:=(hgs.below hbV).below hbV1;have hgO:=hgo.below h1V;have hB1:Below W.heap.size W V1:=hbm.trans (h1V.mono hbm.size);clear hown hown2 hr1 h k1 k2 k3 X0 XP hgs hgo Y1 z2n;go_enter func72,ntmps72;go_upto_region 1 with fail
 rw[<-hW];clear hW;go_wp2;clear hmk;refine wp_loop_rounds 2 ?_;rw[rounds_succ];go_wp2;clear hmk2 d0 d1;refine wp_loop_rounds 2 ?_;rw[rounds_succ];go_upto_region 9 with fail
 rw[<-hV];clear hV e1 e2 e3;go_wp2_with (at_builtin;rw[<-hV1];refine zab (E:=PnE) 63 65 underlying63 zgn rfl (by decide) (by decide) rfl _ _ rfl w1.heap.size (fun k=>w1.heap.size<=k) _ [] rfl hgV (some ⟨V.heap.size,0,none⟩) 1 1 [⟨6,0,false⟩] rfl rfl zar (by decide) h1V.size ?_)
 intro v9 w9 hT9 hgrow _;rw[<-hV1]at hgrow;have h19:Below w1.heap.size w1 w9:=h1V.grown hgrow h1V.size (fun k hk=>(hgV.lo hk).1);obtain⟨va,vc,rfl,-,-⟩:=hT9.slice;have hrp:PnE.row.rep (fun k=>w1.heap.size<=k) w9 [.slice va 1 vc] [⟨6,0,false⟩]:=hT9.rep (by simp);have hg9:Gw PnE.row 63 W.heap.size (fun k=>W.heap.size<=k) w9 (.slice (some ⟨W.heap.size,0,none⟩) 0 1) []:=(hgO.beside hgV (by decide) (fun k h=>h.elim) hgrow).widenU (fun k h _=>h.elim);clear hgrow hT9 zar hV1 hgV hgO p0 p1 p2 q0 q1 q2 h1V;go_wp2;rw[rounds_succ];obtain⟨V8,hV8,Y8,hb8⟩:∃V,V=w9.alloc (.cells #[.slice va 1 vc] 63)/\Bk 63 V w9.heap.size [.slice va 1 vc]/\Below w9.heap.size w9 V:=⟨_,rfl,Bk.new _ _ _,bl1 _⟩;have zar:=Gr.one (E:=PnE.row) (S:=fun k=>W.heap.size<=k/\(Value.slice (some ⟨W.heap.size,0,none⟩) 0 1).ownBlock≠some k) (PnE.row.stay (zal hrp hb8) (qE _) (fun k hk _=>⟨⟨by omega,fun e=>by have e:some W.heap.size=some k:=e;injection e with e;omega⟩,rfl⟩)) Y8.lt (fun j hj=>Y8.cell j hj);have hB9:Below W.heap.size W w9:=hbm.trans (h19.mono hbm.size);have hB8:Below W.heap.size W V8:=hB9.trans (hb8.mono hB9.size);have hg8:=hg9.below hb8;clear hg9 hrp Y8 hbm h19;go_wp2_with (at_builtin;rw[<-hV8];refine zab (E:=PnE.row) 37 63 underlying37 ze5 rfl (by decide) (by decide) rfl _ _ rfl W.heap.size (fun k=>W.heap.size<=k) _ [] rfl hg8 (some ⟨w9.heap.size,0,none⟩) 1 1 [[⟨6,0,false⟩]] rfl rfl zar (by decide) hB8.size ?_)
 intro v7 w7 hT7 hgrow _;rw[<-hV8]at hgrow;have hB7:Below W.heap.size W w7:=hB8.grown hgrow hB8.size (fun k hk=>(hg8.lo hk).1);obtain⟨va7,vc7,rfl,-,-⟩:=hT7.slice;have HRP:Hid (PnE.row.row.rep (fun k=>w.heap.size<=k) w7 [.slice va7 1 vc7] [[⟨6,0,false⟩]]):=zhl (m:=w.heap.size) (hT7.rep (by simp)) hbW.size;clear hgrow hT7 zar hV8 hg8 hB8;go_wp2;rw[rounds_succ];go_wp2;go_ret;exact⟨va7,vc7,rfl,HRP.out,hbW.trans (hB7.mono hbW.size)⟩
structure Gl where
 o:Ol
 ts:List Tu
 ab:Int
 ar:Int
 mr:Bool
def Gl.none:Gl:=⟨Ol.none,[],0,0,false⟩
def gAt(l:List Gl)(g:Int):Option Gl:=if 0<=g then l[g.toNat]? else none
theorem zsw{l:List Gl}{g:Int}(h:g<0):gAt l g=none:=if_neg (by omega)
theorem zsx{l:List Gl}{g:Int}(h:(l.length:Int)<=g):gAt l g=none:=by
 unfold gAt;rw[if_pos (by omega),List.getElem?_eq_none (by omega)]
theorem zjx{l:List Gl}{k:Nat}(h:k<l.length):gAt l (k:Int)=some (l.getD k Gl.none):=by
 unfold gAt;rw[if_pos (by omega),Int.toNat_natCast,qG h];simp[List.getD,h]
theorem zvt{l:List Gl}{g:Int}{x:Gl}(h:gAt l g=some x):0<=g/\g<(l.length:Int)/\x=l.getD g.toNat Gl.none:=by
 unfold gAt at h;split at h
 . rename_i h0
   obtain⟨h1,h2⟩:=List.getElem?_eq_some_iff.1 h;refine⟨h0,by omega,?_⟩;rw[qH,h,Option.getD_some]
 . cases h
theorem gAt_none{l:List Gl}{g:Int}(h:gAt l g=none):g<0\/(l.length:Int)<=g:=by
 unfold gAt at h;split at h
 . have:=List.getElem?_eq_none_iff.1 h
   omega
 . omega
def dqs(f:Int->Option Nat):List Pa->Option Nat
 | []=>some 0
 | p::ps=>(f p.g).bind fun d=>(dqs f ps).bind fun e=>some (max (d+1) e)
def dq(l:List Gl):Nat->Int->Option Nat
 | 0,g=>(gAt l g).bind fun x=>dqs (fun _=>none) x.o.ps
 | n+1,g=>(gAt l g).bind fun x=>dqs (dq l n) x.o.ps
theorem zc9{f:Int->Option Nat}{p:Pa}{ps:List Pa}{d:Nat}:dqs f (p::ps)=some d ↔ ∃a b,f p.g=some a/\dqs f ps=some b/\d=max (a+1) b:=by
 rw[dqs];constructor
 . intro h
   cases h1:f p.g with
   | none=>rw[h1]at h;cases h
   | some a =>
    cases h2:dqs f ps with
    | none=>rw[h1,h2]at h;cases h
    | some b =>
     rw[h1,h2]at h;injection h with h
     exact⟨a,b,rfl,rfl,h.symm⟩
 . rintro ⟨a,b,h1,h2,rfl⟩
   rw[h1,h2];rfl
theorem zoc{f f':Int->Option Nat}:∀ {ps:List Pa} {d:Nat},(∀p∈ps,∀e,f p.g=some e->f' p.g=some e)->dqs f ps=some d->dqs f' ps=some d:=by
 intro ps
 induction ps with
 | nil=>intro d _ h;exact h
 | cons p ps ih =>
  intro d hm h;obtain⟨a,b,h1,h2,rfl⟩:=zc9.1 h;exact zc9.2 ⟨a,b,hm p (by simp) a h1,ih (fun q hq=>hm q (by simp[hq])) h2,rfl⟩
theorem ztd{f:Int->Option Nat}:∀ {ps:List Pa} {d:Nat},dqs f ps=some d->∀p∈ps,∃e,f p.g=some e/\e<d:=by
 intro ps
 induction ps with
 | nil=>intro d _ p hp;cases hp
 | cons q ps ih =>
  intro d h p hp;obtain⟨a,b,h1,h2,rfl⟩:=zc9.1 h;rcases List.mem_cons.1 hp with rfl|hp
  . exact⟨a,h1,by omega⟩
  . obtain⟨e,h3,h4⟩:=ih h2 p hp
    exact⟨e,h3,by omega⟩
theorem zte{f:Int->Option Nat}{n:Nat}:∀ {ps:List Pa} {d:Nat},(∀p∈ps,∀e,f p.g=some e->e<=n)->dqs f ps=some d->d<=n+1:=by
 intro ps
 induction ps with
 | nil=>intro d _ h;injection h with h;omega
 | cons p ps ih =>
  intro d hm h;obtain⟨a,b,h1,h2,rfl⟩:=zc9.1 h;have:=hm p (by simp) a h1;have:=ih (fun q hq=>hm q (by simp[hq])) h2;omega
theorem dqs_zero{f:Int->Option Nat}{ps:List Pa}:dqs f ps=some 0↔ps=[]:=by
 constructor
 . intro h
   cases ps with
   | nil=>rfl
   | cons p ps =>
    obtain⟨a,b,_,_,h3⟩:=zc9.1 h;omega
 . rintro rfl;rfl
theorem zob{ps:List Pa}{d:Nat}(h:dqs (fun _=>none) ps=some d):ps=[]/\d=0:=by
 cases ps with
 | nil=>injection h with h;exact⟨rfl,h.symm⟩
 | cons p ps =>
  obtain⟨a,b,h1,_⟩:=zc9.1 h;cases h1
theorem zvy(f:Int->Option Nat)(p:Pa):∀ps:List Pa,dqs f (ps++[p])=(dqs f ps).bind fun e=>(f p.g).bind fun d=>some (max e (d+1)):=by
 intro ps
 induction ps with
 | nil =>
  rw[List.nil_append,dqs,dqs];cases f p.g with
  | none=>rfl
  | some d=>simp[dqs]
 | cons q ps ih =>
  rw[List.cons_append,dqs,ih,dqs];cases f q.g with
  | none=>rfl
  | some a =>
   cases dqs f ps with
   | none=>rfl
   | some b =>
    cases f p.g with
    | none=>rfl
    | some c =>
     simp only[Option.bind_some];congr 1;omega
def dqf(l:List Gl):Nat->Int->Option Nat
 | 0=>fun _=>none
 | n+1=>dq l n
theorem dq_eq(l:List Gl)(n:Nat)(g:Int):dq l n g=(gAt l g).bind fun x=>dqs (dqf l n) x.o.ps:=by cases n <;> rfl
theorem zbu{l:List Gl}{n:Nat}{g:Int}{d:Nat}:dq l n g=some d ↔ ∃x,gAt l g=some x/\dqs (dqf l n) x.o.ps=some d:=by
 rw[dq_eq];constructor
 . intro h
   cases hx:gAt l g with
   | none=>rw[hx]at h;cases h
   | some x=>rw[hx]at h;exact⟨x,rfl,h⟩
 . rintro ⟨x,h1,h2⟩
   rw[h1];exact h2
theorem z0f{l:List Gl}:∀ {n:Nat} {g:Int} {d:Nat},dq l n g=some d->dq l (n+1) g=some d:=by
 intro n
 induction n with
 | zero =>
  intro g d h;obtain⟨x,h1,h2⟩:=zbu.1 h;obtain⟨h3,rfl⟩:=zob h2;exact zbu.2 ⟨x,h1,by rw[h3];rfl⟩
 | succ n ih =>
  intro g d h;obtain⟨x,h1,h2⟩:=zbu.1 h;exact zbu.2 ⟨x,h1,zoc (fun p _ e h=>ih h) h2⟩
theorem zeo{l:List Gl}{n m:Nat}{g:Int}{d:Nat}(h:dq l n g=some d)(hm:n<=m):dq l m g=some d:=by
 induction m with
 | zero=>rw[show n=0 by omega]at h;exact h
 | succ m ih =>
  by_cases e:n=m+1
  . rw[<-e];exact h
  . exact z0f (ih (by omega))
theorem dq_le{l:List Gl}:∀ {n:Nat} {g:Int} {d:Nat},dq l n g=some d->d<=n:=by
 intro n
 induction n with
 | zero =>
  intro g d h;obtain⟨x,h1,h2⟩:=zbu.1 h;rw[(zob h2).2];exact qE _
 | succ n ih =>
  intro g d h;obtain⟨x,h1,h2⟩:=zbu.1 h;exact zte (fun p _ e h=>ih h) h2
theorem ztf{l:List Gl}:∀ {d n:Nat} {g:Int},dq l n g=some d->dq l d g=some d:=by
 intro d
 induction d using Nat.strongRecOn with
 | ind d ih =>
  intro n g h;obtain⟨x,h1,h2⟩:=zbu.1 h;refine zbu.2 ⟨x,h1,zoc (fun p hp e he=>?_) h2⟩;obtain⟨e2,h3,h4⟩:=ztd h2 p hp;have hee:e=e2:=by rw[h3]at he;injection he with he;exact he.symm
  subst hee;obtain⟨n',rfl⟩:∃m,n=m+1:=by
   cases n with
   | zero=>cases h3
   | succ m=>exact⟨m,rfl⟩
  obtain⟨d',rfl⟩:∃m,d=m+1:=⟨d-1,by omega⟩;exact zeo (ih e h4 h3) (by omega)
theorem z0e{l:List Gl}{n m:Nat}{g:Int}{d e:Nat}(h:dq l n g=some d)(k:dq l m g=some e):d=e:=by
 have h1:=zeo h (Nat.le_max_left n m);have h2:=zeo k (Nat.le_max_right n m);rw[h1]at h2;injection h2
theorem dq_at{l:List Gl}{n m:Nat}{g:Int}{d:Nat}(h:dq l n g=some d):dq l m g=if d<=m then some d else none:=by
 split
 . rename_i h1;exact zeo (ztf h) h1
 . rename_i h1
   cases hm:dq l m g with
   | none=>rfl
   | some e =>
    have h2:=z0e h hm;have h3:=dq_le hm;omega
theorem zh3{l:List Gl}{n:Nat}{g:Int}{d:Nat}{x:Gl}(h:dq l n g=some d)(hx:gAt l g=some x):∀p∈x.o.ps,∃e,dq l e p.g=some e/\e<d:=by
 obtain⟨y,h1,h2⟩:=zbu.1 h;rw[hx]at h1;injection h1 with h1;subst h1
 intro p hp;obtain⟨e,h3,h4⟩:=ztd h2 p hp;cases n with
 | zero=>cases h3
 | succ n=>exact⟨e,ztf h3,h4⟩
def dI:Option Nat->Int
 | some d=>(d:Int)
 | none=>-1
theorem z3h{o:Option Nat}:dI o<0↔o=none:=by
 cases o with
 | none=>exact⟨fun _=>rfl,fun _=>by decide⟩
 | some d=>exact⟨fun h=>by have h1:(d:Int)<0:=h;omega,fun h=>by cases h⟩
theorem z3i{a b:Option Nat}(h:dI a=dI b):a=b:=by
 cases a with
 | none=>cases b with
  | none=>rfl
  | some d=>have h1:(-1:Int)=(d:Int):=h;omega
 | some c=>cases b with
  | none=>have h1:(c:Int)=-1:=h;omega
  | some d=>have h1:(c:Int)=(d:Int):=h;rw[show c=d by omega]
def dpG(l:List Gl)(g:Int):Int:=dI (dq l 6 g)
def ptn(x:Gl):Nat:=x.o.cs.flatten.length
def sqs(f:Int->Nat):List Pa->Nat
 | []=>0
 | p::ps=>f p.g+sqs f ps
theorem zuk(f:Int->Nat)(p:Pa):∀ps:List Pa,sqs f (ps++[p])=sqs f ps+f p.g:=by
 intro ps
 induction ps with
 | nil=>simp[sqs]
 | cons q ps ih=>rw[List.cons_append,sqs,ih,sqs];omega
theorem zkm{f f':Int->Nat}:∀ {ps:List Pa},(∀p∈ps,f p.g=f' p.g)->sqs f ps=sqs f' ps:=by
 intro ps
 induction ps with
 | nil=>intro _;rfl
 | cons q ps ih=>intro h;rw[sqs,sqs,h q (by simp),ih (fun p hp=>h p (by simp[hp]))]
theorem zyc{f:Int->Nat}:∀ {ps:List Pa} {p:Pa},p∈ps->f p.g<=sqs f ps:=by
 intro ps
 induction ps with
 | nil=>intro p hp;cases hp
 | cons q ps ih =>
  intro p hp;rw[sqs];rcases List.mem_cons.1 hp with rfl|hp
  . omega
  . have:=ih hp;omega
def sq(l:List Gl):Nat->Int->Nat
 | 0,g=>match gAt l g with | none=>0 | some x=>ptn x+sqs (fun _=>0) x.o.ps
 | n+1,g=>match gAt l g with | none=>0 | some x=>ptn x+sqs (sq l n) x.o.ps
def sqf(l:List Gl):Nat->Int->Nat
 | 0=>fun _=>0
 | n+1=>sq l n
theorem sq_at{l:List Gl}{n:Nat}{g:Int}{x:Gl}(h:gAt l g=some x):sq l n g=ptn x+sqs (sqf l n) x.o.ps:=by
 cases n with
 | zero=>rw[sq,h];rfl
 | succ n=>rw[sq,h];rfl
theorem zlt{l:List Gl}:∀ {d m:Nat} {g:Int},dq l d g=some d->d<=m->sq l m g=sq l d g:=by
 intro d
 induction d using Nat.strongRecOn with
 | ind d ih =>
  intro m g h hm;obtain⟨x,h1,h2⟩:=zbu.1 h;rw[sq_at h1,sq_at h1];congr 1;refine zkm (fun p hp=>?_);obtain⟨e,h3,h4⟩:=zh3 h h1 p hp;obtain⟨d',rfl⟩:∃k,d=k+1:=⟨d-1,by omega⟩;obtain⟨m',rfl⟩:∃k,m=k+1:=⟨m-1,by omega⟩;show sq l m' p.g=sq l d' p.g;have k1:sq l m' p.g=sq l e p.g:=ih e h4 h3 (by omega);have k2:sq l d' p.g=sq l e p.g:=ih e h4 h3 (by omega);rw[k1,k2]
def szG(l:List Gl)(g:Int):Nat:=match dq l 6 g with | none=>0 | some d=>min (sq l d g) 2001
theorem zud{l:List Gl}{g:Int}(h:dq l 6 g=none):szG l g=0:=by unfold szG;rw[h]
theorem zuc{l:List Gl}{g:Int}{d:Nat}(h:dq l 6 g=some d):szG l g=min (sq l 6 g) 2001:=by
 unfold szG;rw[h];show min (sq l d g) 2001=_;rw[zlt (ztf h) (dq_le h)]
def cap(n:Nat):Nat:=min n 2001
theorem cap_add(n s:Nat):cap (n+cap s)=cap (n+s):=by unfold cap;omega
theorem cap_cap(n s:Nat):cap (cap n+s)=cap (n+s):=by unfold cap;omega
theorem sq_part{l:List Gl}{n:Nat}{g:Int}{x:Gl}(hx:gAt l g=some x){p:Pa}(hp:p∈x.o.ps):sq l n p.g<=sq l (n+1) g:=by
 rw[sq_at (n:=n+1) hx];have:=zyc (f:=sq l n) hp;show sq l n p.g<=ptn x+sqs (sq l n) x.o.ps;omega
def GlE:El Gl:=(PnE.row.row.cat (PaE.row.cat (TuE.row.cat (El.int.cat (El.int.cat El.bool))))).via (fun x=>(x.o.cs,x.o.ps,x.ts,x.ab,x.ar,x.mr)) Gl.none
def GlC(S:Nat->Prop)(w:World)(ca:OA)(cc:Nat)(pa:OA)(pc:Nat)(ta:OA)(tc:Nat)(x:Gl):Prop :=
 PnE.row.row.rep S w [.slice ca x.o.cs.length cc] x.o.cs/\PaE.row.rep S w [.slice pa x.o.ps.length pc] x.o.ps/\TuE.row.rep S w [.slice ta x.ts.length tc] x.ts/\I64 x.ab/\I64 x.ar
theorem zie{S:Nat->Prop}{w:World}{vs:LV}{x:Gl}:GlE.rep S w vs x ↔ ∃ca cc pa pc ta tc,vs=[.slice ca x.o.cs.length cc,.slice pa x.o.ps.length pc,.slice ta x.ts.length tc,.int .i64 x.ab,.int .i64 x.ar,.bool x.mr]/\GlC S w ca cc pa pc ta tc x:=by
 constructor
 . rintro ⟨us,ts,rfl,h1,us2,ts2,rfl,h2,us3,ts3,rfl,h3,us4,ts4,rfl,⟨rfl,h4⟩,us5,ts5,rfl,⟨rfl,h5⟩,h6⟩
   have h6:ts5=[.bool x.mr]:=h6;subst h6;have r1:=h1;obtain⟨ca,cc,e1,_⟩:=h1;have r2:=h2;obtain⟨pa,pc,e2,_⟩:=h2;have r3:=h3;obtain⟨ta,tc,e3,_⟩:=h3;subst e1 e2 e3;exact⟨ca,cc,pa,pc,ta,tc,rfl,r1,r2,r3,h4,h5⟩
 . rintro ⟨ca,cc,pa,pc,ta,tc,rfl,h1,h2,h3,h4,h5⟩
   exact⟨_,_,rfl,h1,_,_,rfl,h2,_,_,rfl,h3,[.int .i64 x.ab],_,rfl,⟨rfl,h4⟩,[.int .i64 x.ar],[.bool x.mr],rfl,⟨rfl,h5⟩,rfl⟩
theorem GlC.cs{S:Nat->Prop}{w:World}{ca:OA}{cc:Nat}{pa:OA}{pc:Nat}{ta:OA}{tc:Nat}{x:Gl}(h:GlC S w ca cc pa pc ta tc x):Gr PnE.row S w ca cc x.o.cs:=(zax h.1).1
theorem GlC.ps{S:Nat->Prop}{w:World}{ca:OA}{cc:Nat}{pa:OA}{pc:Nat}{ta:OA}{tc:Nat}{x:Gl}(h:GlC S w ca cc pa pc ta tc x):Gr PaE S w pa pc x.o.ps:=(zax h.2.1).1
theorem GlC.ts{S:Nat->Prop}{w:World}{ca:OA}{cc:Nat}{pa:OA}{pc:Nat}{ta:OA}{tc:Nat}{x:Gl}(h:GlC S w ca cc pa pc ta tc x):Gr TuE S w ta tc x.ts:=(zax h.2.2.1).1
theorem GlC.below{S:Nat->Prop}{w w':World}{ca:OA}{cc:Nat}{pa:OA}{pc:Nat}{ta:OA}{tc:Nat}{x:Gl}(h:GlC S w ca cc pa pc ta tc x)(hb:Below w.heap.size w w'):GlC S w' ca cc pa pc ta tc x :=
 ⟨PnE.row.row.stay h.1 hb.size (fun k hk hl=>⟨hk,hb.block k hl⟩),PaE.row.stay h.2.1 hb.size (fun k hk hl=>⟨hk,hb.block k hl⟩),TuE.row.stay h.2.2.1 hb.size (fun k hk hl=>⟨hk,hb.block k hl⟩),h.2.2.2⟩
theorem Gr.gl{S:Nat->Prop}{w wr:World}{a:OA}{cap:Nat}{l:List Gl}(h:Gr GlE S w a cap l)(hb:Below w.heap.size w wr)(k:Nat)(hk:k<l.length) :
 ∃b off ca cc pa pc ta tc,a=some ⟨b,off,none⟩/\b<w.heap.size/\GlC S wr ca cc pa pc ta tc (l.getD k Gl.none) /\
     wr.cell? ⟨b,off+k*6,none⟩=some (.slice ca (l.getD k Gl.none).o.cs.length cc)/\wr.cell? ⟨b,off+k*6+1,none⟩=some (.slice pa (l.getD k Gl.none).o.ps.length pc)/\wr.cell? ⟨b,off+k*6+2,none⟩=some (.slice ta (l.getD k Gl.none).ts.length tc)/\wr.cell? ⟨b,off+k*6+3,none⟩=some (.int .i64 (l.getD k Gl.none).ab)/\wr.cell? ⟨b,off+k*6+4,none⟩=some (.int .i64 (l.getD k Gl.none).ar)/\wr.cell? ⟨b,off+k*6+5,none⟩=some (.bool (l.getD k Gl.none).mr):=by
 obtain⟨b,off,vs,e,h1,hr,hc⟩:=h.at hb k hk;obtain⟨ca,cc,pa,pc,ta,tc,rfl,ht⟩:=zie.1 hr;exact⟨b,off,ca,cc,pa,pc,ta,tc,e,h1,ht,hc 0 (by decide),hc 1 (by decide),hc 2 (by decide),hc 3 (by decide),hc 4 (by decide),hc 5 (by decide)⟩
theorem Bk.six{t:TypeId}{w:World}{g:Nat}{x y z u v s:Value}(h:Bk t w g [x,y,z,u,v,s]):w.cell? ⟨g,0,none⟩=some x/\w.cell? ⟨g,1,none⟩=some y/\w.cell? ⟨g,2,none⟩=some z/\w.cell? ⟨g,3,none⟩=some u/\w.cell? ⟨g,4,none⟩=some v/\w.cell? ⟨g,5,none⟩=some s/\∀j,w.frozen? ⟨g,j,none⟩=false :=
 ⟨h.cell 0 (by simp),h.cell 1 (by simp),h.cell 2 (by simp),h.cell 3 (by simp),h.cell 4 (by simp),h.cell 5 (by simp),fun j=>h.fz j⟩
