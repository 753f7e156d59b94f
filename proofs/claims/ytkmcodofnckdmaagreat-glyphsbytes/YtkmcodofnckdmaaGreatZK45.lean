import Derived.Test.YtkmcodofnckdmaaGreatZK44
set_option maxHeartbeats 8000000
set_option maxRecDepth 100000
set_option linter.unusedSimpArgs false
set_option linter.unusedVariables false
namespace Go.Proofs.YtkmcodofnckdmaaGreat
open Tryz Go.RowKit Go.Maps
theorem zsg:(Tryz.prog.info? 62).map (fun i=>(i.zero,i.size,i.bytes))=some (some (.agg #[.slice none 0 0,.slice none 0 0,.slice none 0 0,.int .i64 0,.int .i64 0,.bool false]),6,96):=by kernel_rfl
theorem KgI.le{b:LN}{ax:Int}{k:Nat}{l:List Gl}{q:Nat}(h:KgI b ax k l q)(hb:b.length<=1048576):q<=1100000:=by
 by_cases hk:0<k
 . have:=h.hi hk
   omega
 . have h1:=h.rd
   rw[show k=0 by omega,rdGk]at h1;injection h1 with h1;injection h1 with h1 h2;omega
theorem KgI.ps{b:LN}{ax:Int}{k:Nat}{l:List Gl}{q:Nat}(h:KgI b ax k l q):∀x∈l,x.o.ps.length<=12:=fun x hx=>by
 have h1:=zjy.1 h.fr x hx;rcases zim x.o with h2|h2|h2
 . have:=(zbg.1 h2.2).2.2.1
   omega
 . rw[h2.1]at h1;exact absurd h1 (by decide)
 . rw[h2.1]at h1;exact absurd h1 (by decide)
theorem zss(ba:OA)(bc:Nat)(xs:LN)(ga:OA)(gc:Nat)(ma:OA)(mc:Nat)(s:Sr)(ax:Int)(w:World)(hx:Rb w ba bc xs)(hg:Tzz w ga gc s.rg)(hm:Rii w ma mc s.rw)(hi:I64 ax)(hxl:xs.length<=1048576)(hT:∀k tl q,k<nmV xs 0 2->rdGk xs ax k=some (tl,q)->(gTb xs q).length<=100000) :
 Calls Tryz.prog 23 #[.slice ba xs.length bc,.agg #[.slice ga s.rg.length gc,.slice ma s.rw.length mc],.int .i64 ax] w fun e w'=>∃a' c',e=.returned (.tuple #[.slice a' (rdGL xs s ax).length c',.int .i64 (rdGE xs s ax)])/\Gr GlE (fun k=>w.heap.size<=k) w' a' c' (rdGL xs s ax)/\(∀c o,a'=some ⟨c,o,none⟩->w.heap.size<=c)/\Below w.heap.size w w':=by
 have k2:=hm.lenB;have k3:=hg.lenB;have hpc:=hx.le;have hpm:=hx.cap;unfold maxLen at hpm;obtain⟨W,hW,X1,hbW⟩:∃W,W=w.alloc (.cells #[.slice ga s.rg.length gc,.slice ma s.rw.length mc] 26)/\Bk 26 W w.heap.size [.slice ga s.rg.length gc,.slice ma s.rw.length mc]/\Below w.heap.size w W:=⟨_,rfl,Bk.new _ _ _,bl1 _⟩;replace hg:=hg.below hbW;replace hm:=hm.below hbW;replace hx:=hx.below hbW;have hu:=zg3 ba bc xs 0 W hx ⟨by decide,by decide⟩;have hnl:=zam hx.lim 0 2;have zik:Hid (rdGOk xs s ax=false->rdGL xs s ax=[]/\rdGE xs s ax=2):=zrh;have HB1:Hid (¬nmV xs 0 2<=100->rdGOk xs s ax=false):=zku;have z0t:Hid (∀k tl q,KgI xs ax k tl q->k<nmV xs 0 2->GlBad xs ax q->rdGOk xs s ax=false):=fun k tl q h1 h2 h3=>by
  rcases h3 with h3|⟨x,q2,h3,h4⟩
  . exact h1.bad1 h2 h3
  . exact h1.bad2 h2 h3 h4
 have HB3:Hid (∀tl q,KgI xs ax (nmV xs 0 2) tl q->q≠xs.length->rdGOk xs s ax=false):=fun tl q h1 h2=>h1.bad3 h2;have HB4:Hid (∀tl q,KgI xs ax (nmV xs 0 2) tl q->foG tl s ax=false->rdGOk xs s ax=false):=fun tl q h1 h2=>h1.bad4 h2;have HGD:Hid (∀tl,KgI xs ax (nmV xs 0 2) tl xs.length->foG tl s ax=true->rdGL xs s ax=tl/\rdGE xs s ax=0):=fun tl h1 h2=>h1.good hx.lim h2 hxl;have HTT:Hid (∀k tl q,KgI xs ax k tl q->k<nmV xs 0 2->(gTb xs q).length<=100000):=fun k tl q h1 h2=>hT k tl q h2 h1.rd;have HBY:Hid (Byt xs):=hx.lim;obtain⟨n,hn⟩:∃n,nmV xs 0 2=n:=⟨_,rfl⟩;generalize inB xs.length 0 2=qb at hu;rw[hn]at hu hnl HB1 z0t HB3 HB4 HGD HTT;have hn6:n<65536:=hnl;have g0:decide ((1048576:Int)<(xs.length:Int))=false:=qB (by omega);clear hnl hn hT;obtain⟨p0,p1,_⟩:=X1.two;go_enter func23,ntmps23;go_upto_region 1 with fail
 rw[<-hW];clear hW;go_wp2_with fail
 refine hu.mono ?_;rintro e u0 ⟨rfl,rfl⟩;clear hu;by_cases hn4:n<=100;rotate_left
 . have g1:decide ((100:Int)<(n:Int))=true:=qC (by omega)
   have HNO:Hid (_):=zik.out (HB1.out hn4);clear hg hm hx HB1 HB3 HB4 HGD HTT z0t X1;go_wp2;go_ret2;exact⟨none,0,by rw[HNO.out.1,HNO.out.2];rfl,by rw[HNO.out.1];exact Gr.nil _ _ _ _ _ (qD _) (fun _=>rfl),(fun c o e=>by cases e),hbW⟩
 have g1:decide ((100:Int)<(n:Int))=false:=qB (by omega);obtain⟨V,hV,XS,hbV⟩:∃V,V=W.alloc (.cells #[.slice ba xs.length bc,.int .i64 2] 101)/\Bk 101 V W.heap.size [.slice ba xs.length bc,.int .i64 2]/\Below W.heap.size W V:=⟨_,rfl,Bk.new _ _ _,bl1 _⟩;have hS0:Sc 101 V W.heap.size ba bc xs 2:=⟨XS,hx.below hbV,fun b o e hne=>Nat.ne_of_lt (hx.blk hne e)⟩;have HX1:Hid (Bk 26 W w.heap.size [.slice ga s.rg.length gc,.slice ma s.rw.length mc]):=X1;have HG0:Hid (Tzz W ga gc s.rg):=hg;have HM0:Hid (Rii W ma mc s.rw):=hm;have HX:Hid (Rb W ba bc xs):=hx;have HBW:Hid (Below w.heap.size w W):=hbW;have HVS:Hid (V.heap.size=W.heap.size+1):=by show _=_;rw[hV];simp
 obtain⟨g,hgg⟩:∃g,W.heap.size=g:=⟨_,rfl⟩;have HG:Hid (W.heap.size=g):=hgg;have hB0:Below W.heap.size W V:=hbV;go_upto_region 5 with fail
 rw[<-hV];rw[hgg]at hS0 HVS;try rw[hgg]
 clear hV XS hbV X1 hg hm hx hbW hgg g0 g1 p0 p1;go_wp2
 go_loopw [11,30] (fun v i wr=>∃(k:Nat) (tl:List Gl) (q:Nat),k<=n/\i=.int .i64 k/\Hid (KgI xs ax k tl q)/\Sc 101 wr g ba bc xs q/\Gw GlE 62 (g+1) (fun k=>g+1<=k) wr v tl/\g+1<=wr.heap.size/\Below W.heap.size W wr) (fun _ i _=>n-(intOf i).toNat)
 case atStart=>exact⟨0,[],2,qD _,rfl,KgI.zero _ _,hS0,Gw.nil _ _ _ _ _,by rw[HVS.out];exact qE _,hB0⟩
 case round =>
  clear hS0 hB0;obtain⟨k,tl,q,hk,rfl,HK,hS,hGw,hgs,hB⟩:=hrel;have hlk:=zjh HK.out.rd;have HLK:Hid (tl.length=k):=hlk;by_cases hkn:k<n
  . have g2:(k:Int)<(n:Int):=by omega
    obtain⟨a6,c6,rfl,-,-⟩:=hGw.slice;have htu:=zvo g ba bc xs q ax wr hS hxl (HK.out.le hxl) hi (HTT.out k tl q HK.out hkn);rw[hlk]at hGw ⊢;clear hlk;go_wp2_with fail
    refine htu.mono ?_;rintro e u2 ⟨hta,hk2⟩;have hs2:=hk2.size;have hOW:∀q,(Value.slice a6 k c6).ownBlock=some q->g+1<=q/\q<wr.heap.size:=fun q e=>hGw.lo e;replace hGw:=hGw.kpS hS.bk (by decide) (by omega) hk2;replace hB:=hB.trans (hk2.below hB.size (by rw[HG.out];exact qE _));rcases hta with ⟨hta,HBA⟩|hta
    . obtain⟨⟨b0,n0,c0,b1,n1,c1,b2,n2,c2,z0,z1,bb,rfl⟩⟩:=hta
      have HNO:Hid (_):=zik.out (z0t.out k tl q HK.out hkn HBA.out);have hBf:Below W.heap.size W (u2.alloc (.cells #[.slice b0 n0 c0,.slice b1 n1 c1,.slice b2 n2 c2,.int .i64 z0,.int .i64 z1,.bool bb] 62)):=hB.trans ((bl1 _).mono hB.size);have zor:Hid (_):=HBW.out.trans (hBf.mono HBW.out.size);clear hGw hS htu hk2 hB HB1 HB3 HB4 HGD HTT z0t hBf HK HBA hOW;go_wp2;go_ret2;exact⟨none,0,by rw[HNO.out.1,HNO.out.2];rfl,by rw[HNO.out.1];exact Gr.nil _ _ _ _ _ (qD _) (fun _=>rfl),(fun c o e=>by cases e),zor.out⟩
    . obtain⟨⟨xa,xc,qa,qc,ta,tc,t,q2,rfl,hTC,hS2,HRD,HMK⟩⟩:=hta
      have HK2:Hid (KgI xs ax (k+1) (tl++[t]) q2):=HK.out.succ HBY.out HRD.out HMK.out;have HOW:Hid (∀q,(Value.slice a6 k c6).ownBlock=some q->g+1<=q/\q<wr.heap.size):=fun q e=>hOW q e;have l1:=hTC.cs.lenB;have l2:=hTC.ps.lenB;have l3:=hTC.ts.lenB;obtain⟨U,hU,XU,hbU⟩:∃U,U=u2.alloc (.cells #[.slice xa t.o.cs.length xc,.slice qa t.o.ps.length qc,.slice ta t.ts.length tc,.int .i64 t.ab,.int .i64 t.ar,.bool t.mr] 62)/\Bk 62 U u2.heap.size [.slice xa t.o.cs.length xc,.slice qa t.o.ps.length qc,.slice ta t.ts.length tc,.int .i64 t.ab,.int .i64 t.ar,.bool t.mr]/\Below u2.heap.size u2 U:=⟨_,rfl,Bk.new _ _ _,bl1 _⟩;clear hS htu hk2 hOW HRD HMK HK;go_upto_region 9 with fail
      rw[<-hU];clear hU;replace hS2:=hS2.below hbU;replace hGw:=hGw.below hbU;replace hTC:=hTC.below hbU;replace hB:=hB.trans (hbU.mono hB.size);have hs3:=hbU.size;clear hbU;obtain⟨V9,hV9,Y9,hb9⟩:∃V,V=U.alloc (.cells #[.slice xa t.o.cs.length xc,.slice qa t.o.ps.length qc,.slice ta t.ts.length tc,.int .i64 t.ab,.int .i64 t.ar,.bool t.mr] 62)/\Bk 62 V U.heap.size [.slice xa t.o.cs.length xc,.slice qa t.o.ps.length qc,.slice ta t.ts.length tc,.int .i64 t.ab,.int .i64 t.ar,.bool t.mr]/\Below U.heap.size U V:=⟨_,rfl,Bk.new _ _ _,bl1 _⟩;obtain⟨y0,y1,y2,y3,y4,y5,-⟩:=XU.six;have hGb:=hGw.below hb9;have zhy:GlE.rep (fun q=>g+1<=q/\(Value.slice a6 k c6).ownBlock≠some q) V9 [.slice xa t.o.cs.length xc,.slice qa t.o.ps.length qc,.slice ta t.ts.length tc,.int .i64 t.ab,.int .i64 t.ar,.bool t.mr] t:=GlE.stay (zie.2 ⟨xa,xc,qa,qc,ta,tc,rfl,hTC.below hb9⟩) (qE _) (fun q h1 _=>⟨⟨by omega,fun e=>by have:=(HOW.out q e).2;omega⟩,rfl⟩);have zar:=Gr.one (E:=GlE) zhy Y9.lt (fun j hj=>Y9.cell j hj);have hBb:Below W.heap.size W V9:=hB.trans (hb9.mono hB.size);have hs9:=hb9.size;have hbs:g+1<=V9.heap.size:=(by omega);have hS9:=hS2.below hb9;have hll:tl.length+1<=1000000:=(by rw[HLK.out];omega);clear zhy hGw hTC hS2 hB;go_wp2_with (at_builtin;rw[<-hV9];refine zab 22 62 underlying22 zsg rfl (by decide) (by decide) rfl _ _ rfl (g+1) (fun k=>g+1<=k) _ tl rfl hGb (some ⟨U.heap.size,0,none⟩) 1 1 [t] rfl rfl zar hll hbs ?_)
      intro v9 w9 hT9 hgrow _;rw[<-hV9]at hgrow;have hB9:Below W.heap.size W w9:=hBb.grown hgrow hBb.size (fun q hq=>by have:=(HOW.out q hq).1;have:=HG.out;omega);have zvl:=hS9.grown hgrow (fun e=>by have:=(HOW.out g e).1;omega) (fun b o e hne e2=>by have:=(HOW.out b e2).1;have:=HX.out.blk hne e;have:=HG.out;omega);have zvj:g+1<=w9.heap.size:=qF hbs hgrow.size;clear hgrow hGb zar hbs hll hBb hV9 Y9 y0 y1 y2 y3 y4 y5 XU hb9 hS9;go_wp2;go_roundw
      case rel=>exact⟨k+1,tl++[t],q2,by omega,by go_num,HK2,zvl,hT9,zvj,hB9⟩
      case measure=>simp[intOf];omega
  . have hkk:k=n:=by omega
    have HKN:Hid (KgI xs ax n tl q):=(by rw[<-hkk];exact HK.out);have g4:¬(k:Int)<(n:Int):=(by omega);obtain⟨a6,c6,rfl,hgr,hb6⟩:=hGw.slice;have HLO:Hid (∀c o,a6=some ⟨c,o,none⟩->w.heap.size<=c):=fun c o e=>by
     have h1:=(hb6 c o e).1;have h2:=HBW.out.size;have h3:=HG.out;omega
    have HLW:Hid (∀k,g+1<=k->w.heap.size<=k):=fun k h1=>by
     have h2:=HBW.out.size;have h3:=HG.out;omega
    clear hb6 hkk hlk hkn HK;have hX1:=HX1.out.below hB;obtain⟨p0,p1,_⟩:=hX1.two;obtain⟨s0,s1,-⟩:=hS.bk.two;have hBw:=HBW.out.trans (hB.mono HBW.out.size);have hgf:=zh2 _ a6 c6 tl ga gc ma mc s ax wr hgr HKN.out.ps (HG0.out.below hB) (HM0.out.below hB) hi;have HGR:Hid (Gr GlE (fun k=>g+1<=k) wr a6 c6 tl):=hgr;clear hGw hX1 hgr;by_cases hq:q=xs.length;rotate_left
    . have g5:((q:Int) != (xs.length:Int))=true:=bne_iff_ne.2 (by omega)
      have HNO:Hid (_):=zik.out (HB3.out tl q HKN.out hq);clear hgf hS hq HB1 HB3 HB4 HGD HTT z0t HKN;go_wp2;go_ret2;exact⟨none,0,by rw[HNO.out.1,HNO.out.2];rfl,by rw[HNO.out.1];exact Gr.nil _ _ _ _ _ (qD _) (fun _=>rfl),(fun c o e=>by cases e),hBw⟩
    have g5:((q:Int) != (xs.length:Int))=false:=(by rw[hq];simp);have HQ:Hid (q=xs.length):=hq;clear hq hS;cases hfo:foG tl s ax with
    | false =>
     rw[hfo]at hgf;have HNO:Hid (_):=zik.out (HB4.out tl q HKN.out hfo);clear hfo HB1 HB3 HB4 HGD HTT z0t HKN;go_wp2_with fail
     refine hgf.mono ?_;rintro e u3 ⟨rfl,hb3⟩;have zor:Hid (_):=hBw.trans (hb3.mono hBw.size);clear hgf hb3;go_wp2;go_ret2;exact⟨none,0,by rw[HNO.out.1,HNO.out.2];rfl,by rw[HNO.out.1];exact Gr.nil _ _ _ _ _ (qD _) (fun _=>rfl),(fun c o e=>by cases e),zor.out⟩
    | true =>
     rw[hfo]at hgf;have HYS:Hid (_):=HGD.out tl (by have h:=HKN.out;rw[HQ.out]at h;exact h) hfo;clear hfo HB1 HB3 HB4 HGD HTT z0t HKN;go_wp2_with fail
     refine hgf.mono ?_;rintro e u3 ⟨rfl,hb3⟩;have zor:Hid (_):=hBw.trans (hb3.mono hBw.size);have HGF:Hid (Gr GlE (fun k=>w.heap.size<=k) u3 a6 c6 tl):=(HGR.out.below hb3).wide (fun k h1 _=>HLW.out k h1);clear hgf hb3;go_wp2;go_ret2;exact⟨a6,c6,by rw[HYS.out.1,HYS.out.2];rfl,by rw[HYS.out.1];exact HGF.out,HLO.out,zor.out⟩
theorem zdz(g:Nat)(pa:OA)(pc:Nat)(xs:LN)(p:Nat)(w:World)(h:Sc 152 w g pa pc xs p)(hp:p<=1000000) :
 Calls Tryz.prog 150 #[pg g] w fun e w'=>e=.returned (.int .i64 (hd1 (xs.drop p):Int))/\Sc 152 w' g pa pc xs (p+1)/\Kp g w w':=by
 have hF:=fun U (hr:Rb U pa pc xs)=>zc1 pa pc xs (p:Int) U hr ⟨by omega,by omega⟩;simp only[zr6]at hF;generalize inB xs.length (p:Int) 1=qb at hF;generalize (hd1 (xs.drop p):Int)=vv at hF ⊢;obtain⟨x0,x1,_⟩:=h.bk.two;go_enter func150,ntmps150;go_upto_region 1 with fail
 refine wp_region_held_drew (S:=(fun u=>u.cell? ⟨g,0,none⟩=some (.slice pa xs.length pc)/\u.cell? ⟨g,1,none⟩=some (.int .i64 (p:Int)))) (by kernel_rfl) ?_ (fun hH=>?_)
 . (try dsimp only)
   go_keep
 have hdr:Below w.heap.size w w.drew:=Below.drew1;have hkp:Kp g w w.drew:=(Kp.refl g w).drew;generalize w.drew=ud at hdr hkp hH ⊢;replace h:=h.below hdr;clear hdr x0 x1;refine hT 0 hH ?_;refine hT 1 hH ?_;refine hT 2 hH ?_;refine hT 3 hH ?_;refine hT 4 hH ?_;refine hT 5 hH ?_;refine hT 6 hH ?_;refine hT 7 hH ?_;refine hCall (i:=8) rfl (by kernel_rfl) (by rfl) (fun K hK=>?_);go_simp;refine(hF _ h.rb).mono ?_;rintro e u1 ⟨rfl,rfl⟩;go_wp2_with fail
 refine hK.out _ _ ?_ (fun hH=>?_)
 . (try dsimp only)
   exact hH
 clear hK K;try simp only[Act.put,pZ]
 refine hT 9 hH ?_;refine hT 10 hH ?_;refine hT 11 hH ?_;refine hT 12 hH ?_;refine hT 13 hH ?_;refine wpAnyH_done (by kernel_rfl) ?_ _;clear hH;obtain⟨x0,x1,f0,f1⟩:=h.bk.two;have hpn:(p:Int)+1=((p+1:Nat):Int):=by omega
 have HS:Hid (Sc 152 (ud.setCell ⟨g,1,none⟩ (.int .i64 ((p+1:Nat):Int))) g pa pc xs (p+1)):=h.step (p+1);have HK2:Hid (Kp g w (ud.setCell ⟨g,1,none⟩ (.int .i64 ((p+1:Nat):Int)))):=hkp.setCell 1 (.int .i64 ((p+1:Nat):Int));obtain⟨m,hm⟩:∃m:Nat,p+1=m:=⟨_,rfl⟩;have hml:m<=1000002:=by omega
 rw[hm]at hpn HS HK2;have HM:Hid (p+1=m):=hm;clear hm;go_wp2;go_ret;exact⟨rfl,by rw[HM.out];exact HS.out,HK2.out⟩
theorem zha(g:Nat)(pa:OA)(pc:Nat)(xs:LN)(p:Nat)(w:World)(h:Sc 152 w g pa pc xs p)(hp:p<=1000000) :
 Calls Tryz.prog 94 #[pg g] w fun e w'=>e=.returned (.int .i64 (hd2 (xs.drop p):Int))/\Sc 152 w' g pa pc xs (p+2)/\Kp g w w':=by
 have hF:=fun U (hr:Rb U pa pc xs)=>zgc pa pc xs (p:Int) U hr ⟨by omega,by omega⟩;simp only[zjq]at hF;generalize inB xs.length (p:Int) 2=qb at hF;generalize (hd2 (xs.drop p):Int)=vv at hF ⊢;obtain⟨x0,x1,_⟩:=h.bk.two;go_enter func94,ntmps94;go_upto_region 1 with fail
 refine wp_region_held_drew (S:=(fun u=>u.cell? ⟨g,0,none⟩=some (.slice pa xs.length pc)/\u.cell? ⟨g,1,none⟩=some (.int .i64 (p:Int)))) (by kernel_rfl) ?_ (fun hH=>?_)
 . (try dsimp only)
   go_keep
 have hdr:Below w.heap.size w w.drew:=Below.drew1;have hkp:Kp g w w.drew:=(Kp.refl g w).drew;generalize w.drew=ud at hdr hkp hH ⊢;replace h:=h.below hdr;clear hdr x0 x1;refine hT 0 hH ?_;refine hT 1 hH ?_;refine hT 2 hH ?_;refine hT 3 hH ?_;refine hT 4 hH ?_;refine hT 5 hH ?_;refine hT 6 hH ?_;refine hT 7 hH ?_;refine hCall (i:=8) rfl (by kernel_rfl) (by rfl) (fun K hK=>?_);go_simp;refine(hF _ h.rb).mono ?_;rintro e u1 ⟨rfl,rfl⟩;go_wp2_with fail
 refine hK.out _ _ ?_ (fun hH=>?_)
 . (try dsimp only)
   exact hH
 clear hK K;try simp only[Act.put,pZ]
 refine hT 9 hH ?_;refine hT 10 hH ?_;refine hT 11 hH ?_;refine hT 12 hH ?_;refine hT 13 hH ?_;refine wpAnyH_done (by kernel_rfl) ?_ _;clear hH;obtain⟨x0,x1,f0,f1⟩:=h.bk.two;have hpn:(p:Int)+2=((p+2:Nat):Int):=by omega
 have HS:Hid (Sc 152 (ud.setCell ⟨g,1,none⟩ (.int .i64 ((p+2:Nat):Int))) g pa pc xs (p+2)):=h.step (p+2);have HK2:Hid (Kp g w (ud.setCell ⟨g,1,none⟩ (.int .i64 ((p+2:Nat):Int)))):=hkp.setCell 1 (.int .i64 ((p+2:Nat):Int));obtain⟨m,hm⟩:∃m:Nat,p+2=m:=⟨_,rfl⟩;have hml:m<=1000002:=by omega
 rw[hm]at hpn HS HK2;have HM:Hid (p+2=m):=hm;clear hm;go_wp2;go_ret;exact⟨rfl,by rw[HM.out];exact HS.out,HK2.out⟩
theorem zdj(g:Nat)(pa:OA)(pc:Nat)(xs:LN)(p:Nat)(w:World)(h:Sc 152 w g pa pc xs p)(hp:p<=1000000) :
 Calls Tryz.prog 93 #[pg g] w fun e w'=>e=.returned (.int .i64 (sx16 (hd2 (xs.drop p))))/\Sc 152 w' g pa pc xs (p+2)/\Kp g w w':=by
 have hF:=fun U (hr:Rb U pa pc xs)=>zc3 pa pc xs (p:Int) U hr ⟨by omega,by omega⟩;simp only[zjq]at hF;generalize inB xs.length (p:Int) 2=qb at hF;generalize (sx16 (hd2 (xs.drop p)))=vv at hF ⊢;obtain⟨x0,x1,_⟩:=h.bk.two;go_enter func93,ntmps93;go_upto_region 1 with fail
 refine wp_region_held_drew (S:=(fun u=>u.cell? ⟨g,0,none⟩=some (.slice pa xs.length pc)/\u.cell? ⟨g,1,none⟩=some (.int .i64 (p:Int)))) (by kernel_rfl) ?_ (fun hH=>?_)
 . (try dsimp only)
   go_keep
 have hdr:Below w.heap.size w w.drew:=Below.drew1;have hkp:Kp g w w.drew:=(Kp.refl g w).drew;generalize w.drew=ud at hdr hkp hH ⊢;replace h:=h.below hdr;clear hdr x0 x1;refine hT 0 hH ?_;refine hT 1 hH ?_;refine hT 2 hH ?_;refine hT 3 hH ?_;refine hT 4 hH ?_;refine hT 5 hH ?_;refine hT 6 hH ?_;refine hT 7 hH ?_;refine hCall (i:=8) rfl (by kernel_rfl) (by rfl) (fun K hK=>?_);go_simp;refine(hF _ h.rb).mono ?_;rintro e u1 ⟨rfl,rfl⟩;go_wp2_with fail
 refine hK.out _ _ ?_ (fun hH=>?_)
 . (try dsimp only)
   exact hH
 clear hK K;try simp only[Act.put,pZ]
 refine hT 9 hH ?_;refine hT 10 hH ?_;refine hT 11 hH ?_;refine hT 12 hH ?_;refine hT 13 hH ?_;refine wpAnyH_done (by kernel_rfl) ?_ _;clear hH;obtain⟨x0,x1,f0,f1⟩:=h.bk.two;have hpn:(p:Int)+2=((p+2:Nat):Int):=by omega
 have HS:Hid (Sc 152 (ud.setCell ⟨g,1,none⟩ (.int .i64 ((p+2:Nat):Int))) g pa pc xs (p+2)):=h.step (p+2);have HK2:Hid (Kp g w (ud.setCell ⟨g,1,none⟩ (.int .i64 ((p+2:Nat):Int)))):=hkp.setCell 1 (.int .i64 ((p+2:Nat):Int));obtain⟨m,hm⟩:∃m:Nat,p+2=m:=⟨_,rfl⟩;have hml:m<=1000002:=by omega
 rw[hm]at hpn HS HK2;have HM:Hid (p+2=m):=hm;clear hm;go_wp2;go_ret;exact⟨rfl,by rw[HM.out];exact HS.out,HK2.out⟩
theorem zdl{x y:Int}(h:x=y):Ending.returned (.int .i64 x)=Ending.returned (.int .i64 y):=by rw[h]
theorem zq2(f g:Nat)(pa:OA)(pc:Nat)(xs:LN)(p:Nat)(w:World)(h:Sc 152 w g pa pc xs p)(hp:p<=1000000)(hf:f<256) :
 Calls Tryz.prog 151 #[pg g,.int .i64 (f:Int),.int .i64 2,.int .i64 16] w fun e w'=>∃j,j<=2/\e=.returned (.int .i64 (dfR f 2 16 (xs.drop p)).1)/\(dfR f 2 16 (xs.drop p)).2=xs.drop (p+j)/\Sc 152 w' g pa pc xs (p+j)/\Kp g w w':=by
 have hb1:=zfy (s:=xs.drop p) (fun x hx=>h.rb.lim x (List.mem_of_mem_drop hx));have q1:(f:Int).tdiv 2=((f/2:Nat):Int):=by rw[Int.tdiv_eq_ediv_of_nonneg (by omega)];rfl
 have q2:(f:Int).tdiv 16=((f/16:Nat):Int):=by rw[Int.tdiv_eq_ediv_of_nonneg (by omega)];rfl
 by_cases ha:f/2%2=1 <;> by_cases hb:f/16%2=1
 . have HE:Hid (dfR f 2 16 (xs.drop p)=((hd1 (xs.drop p):Int),(xs.drop p).drop 1)):=by
     show _=_;unfold dfR;rw[if_pos ha,if_pos hb]
   have g1:((f/2:Nat):Int)%2=1:=(by omega);have g2:((f/16:Nat):Int)%2=1:=(by omega);clear ha hb;go_enter func151,ntmps151;go_upto_region 1 with fail
   refine wp_region_held_drew (S:=fun w9=>True) (by kernel_rfl) ?_ (fun hH=>?_)
   . (try dsimp only)
     all_goals go_keep
   have hdr:Below w.heap.size w w.drew:=Below.drew1;have hkp:Kp g w w.drew:=(Kp.refl g w).drew;generalize w.drew=ud at hdr hkp hH ⊢;replace h:=h.below hdr;clear hdr;refine hT 0 hH ?_;refine hT 1 hH ?_;refine hT 2 hH ?_;refine hT 3 hH ?_;refine hT 4 hH ?_;refine hT 5 hH ?_;refine hT 6 hH ?_;refine hT 7 hH ?_;refine hT 8 hH ?_;refine hT 9 hH ?_;refine hT 10 hH ?_;refine hT 11 hH ?_;refine wpAnyH_done (by kernel_rfl) ?_ _;clear hH;go_wp2_with fail
   refine(zdz g pa pc xs p _ h hp).mono ?_;rintro e u2 ⟨rfl,hs,hk⟩;go_wp2;go_ret;exact⟨1,by omega,zdl (by rw[HE.out]),by rw[HE.out];exact(List.drop_drop).trans (by rw[Nat.add_comm]) ,hs,hkp.trans hk⟩
 . have HE:Hid (dfR f 2 16 (xs.drop p)=(-(hd1 (xs.drop p):Int),(xs.drop p).drop 1)):=by
     show _=_;unfold dfR;rw[if_pos ha,if_neg hb]
   have g1:((f/2:Nat):Int)%2=1:=(by omega);have g2:((f/16:Nat):Int)%2=0:=(by omega);clear ha hb;go_enter func151,ntmps151;go_upto_region 1 with fail
   refine wp_region_held_drew (S:=fun w9=>True) (by kernel_rfl) ?_ (fun hH=>?_)
   . (try dsimp only)
     all_goals go_keep
   have hdr:Below w.heap.size w w.drew:=Below.drew1;have hkp:Kp g w w.drew:=(Kp.refl g w).drew;generalize w.drew=ud at hdr hkp hH ⊢;replace h:=h.below hdr;clear hdr;refine hT 0 hH ?_;refine hT 1 hH ?_;refine hT 2 hH ?_;refine hT 3 hH ?_;refine hT 4 hH ?_;refine hT 5 hH ?_;refine hT 6 hH ?_;refine hT 7 hH ?_;refine hT 8 hH ?_;refine hT 9 hH ?_;refine hT 10 hH ?_;refine hT 11 hH ?_;refine wpAnyH_done (by kernel_rfl) ?_ _;clear hH;go_wp2_with fail
   refine(zdz g pa pc xs p _ h hp).mono ?_;rintro e u2 ⟨rfl,hs,hk⟩;go_wp2;go_ret;exact⟨1,by omega,zdl (by rw[HE.out]),by rw[HE.out];exact(List.drop_drop).trans (by rw[Nat.add_comm]) ,hs,hkp.trans hk⟩
 . have HE:Hid (dfR f 2 16 (xs.drop p)=(0,xs.drop p)):=by
     show _=_;unfold dfR;rw[if_neg ha,if_pos hb]
   have g1:((f/2:Nat):Int)%2=0:=(by omega);have g2:((f/16:Nat):Int)%2=1:=(by omega);clear ha hb;go_enter func151,ntmps151;go_upto_region 1 with fail
   refine wp_region_held_drew (S:=fun w9=>True) (by kernel_rfl) ?_ (fun hH=>?_)
   . (try dsimp only)
     all_goals go_keep
   have hdr:Below w.heap.size w w.drew:=Below.drew1;have hkp:Kp g w w.drew:=(Kp.refl g w).drew;generalize w.drew=ud at hdr hkp hH ⊢;replace h:=h.below hdr;clear hdr;refine hT 0 hH ?_;refine hT 1 hH ?_;refine hT 2 hH ?_;refine hT 3 hH ?_;refine hT 4 hH ?_;refine hT 5 hH ?_;refine hT 6 hH ?_;refine hT 7 hH ?_;refine hT 8 hH ?_;refine hT 9 hH ?_;refine hT 10 hH ?_;refine hT 11 hH ?_;refine wpAnyH_done (by kernel_rfl) ?_ _;clear hH;go_wp2;go_ret;exact⟨0,by omega,zdl (by rw[HE.out]),by rw[HE.out];rfl,h,hkp⟩
 . have HE:Hid (dfR f 2 16 (xs.drop p)=(sx16 (hd2 (xs.drop p)),(xs.drop p).drop 2)):=by
     show _=_;unfold dfR;rw[if_neg ha,if_neg hb]
   have g1:((f/2:Nat):Int)%2=0:=(by omega);have g2:((f/16:Nat):Int)%2=0:=(by omega);clear ha hb;go_enter func151,ntmps151;go_upto_region 1 with fail
   refine wp_region_held_drew (S:=fun w9=>True) (by kernel_rfl) ?_ (fun hH=>?_)
   . (try dsimp only)
     all_goals go_keep
   have hdr:Below w.heap.size w w.drew:=Below.drew1;have hkp:Kp g w w.drew:=(Kp.refl g w).drew;generalize w.drew=ud at hdr hkp hH ⊢;replace h:=h.below hdr;clear hdr;refine hT 0 hH ?_;refine hT 1 hH ?_;refine hT 2 hH ?_;refine hT 3 hH ?_;refine hT 4 hH ?_;refine hT 5 hH ?_;refine hT 6 hH ?_;refine hT 7 hH ?_;refine hT 8 hH ?_;refine hT 9 hH ?_;refine hT 10 hH ?_;refine hT 11 hH ?_;refine wpAnyH_done (by kernel_rfl) ?_ _;clear hH;go_wp2_with fail
   refine(zdj g pa pc xs p _ h hp).mono ?_;rintro e u2 ⟨rfl,hs,hk⟩;go_wp2;go_ret;exact⟨2,by omega,zdl (by rw[HE.out]),by rw[HE.out];exact(List.drop_drop).trans (by rw[Nat.add_comm]) ,hs,hkp.trans hk⟩
theorem zq1(f g:Nat)(pa:OA)(pc:Nat)(xs:LN)(p:Nat)(w:World)(h:Sc 152 w g pa pc xs p)(hp:p<=1000000)(hf:f<256) :
 Calls Tryz.prog 151 #[pg g,.int .i64 (f:Int),.int .i64 4,.int .i64 32] w fun e w'=>∃j,j<=2/\e=.returned (.int .i64 (dfR f 4 32 (xs.drop p)).1)/\(dfR f 4 32 (xs.drop p)).2=xs.drop (p+j)/\Sc 152 w' g pa pc xs (p+j)/\Kp g w w':=by
 have hb1:=zfy (s:=xs.drop p) (fun x hx=>h.rb.lim x (List.mem_of_mem_drop hx));have q1:(f:Int).tdiv 4=((f/4:Nat):Int):=by rw[Int.tdiv_eq_ediv_of_nonneg (by omega)];rfl
 have q2:(f:Int).tdiv 32=((f/32:Nat):Int):=by rw[Int.tdiv_eq_ediv_of_nonneg (by omega)];rfl
 by_cases ha:f/4%2=1 <;> by_cases hb:f/32%2=1
 . have HE:Hid (dfR f 4 32 (xs.drop p)=((hd1 (xs.drop p):Int),(xs.drop p).drop 1)):=by
     show _=_;unfold dfR;rw[if_pos ha,if_pos hb]
   have g1:((f/4:Nat):Int)%2=1:=(by omega);have g2:((f/32:Nat):Int)%2=1:=(by omega);clear ha hb;go_enter func151,ntmps151;go_upto_region 1 with fail
   refine wp_region_held_drew (S:=fun w9=>True) (by kernel_rfl) ?_ (fun hH=>?_)
   . (try dsimp only)
     all_goals go_keep
   have hdr:Below w.heap.size w w.drew:=Below.drew1;have hkp:Kp g w w.drew:=(Kp.refl g w).drew;generalize w.drew=ud at hdr hkp hH ⊢;replace h:=h.below hdr;clear hdr;refine hT 0 hH ?_;refine hT 1 hH ?_;refine hT 2 hH ?_;refine hT 3 hH ?_;refine hT 4 hH ?_;refine hT 5 hH ?_;refine hT 6 hH ?_;refine hT 7 hH ?_;refine hT 8 hH ?_;refine hT 9 hH ?_;refine hT 10 hH ?_;refine hT 11 hH ?_;refine wpAnyH_done (by kernel_rfl) ?_ _;clear hH;go_wp2_with fail
   refine(zdz g pa pc xs p _ h hp).mono ?_;rintro e u2 ⟨rfl,hs,hk⟩;go_wp2;go_ret;exact⟨1,by omega,zdl (by rw[HE.out]),by rw[HE.out];exact(List.drop_drop).trans (by rw[Nat.add_comm]) ,hs,hkp.trans hk⟩
 . have HE:Hid (dfR f 4 32 (xs.drop p)=(-(hd1 (xs.drop p):Int),(xs.drop p).drop 1)):=by
     show _=_;unfold dfR;rw[if_pos ha,if_neg hb]
   have g1:((f/4:Nat):Int)%2=1:=(by omega);have g2:((f/32:Nat):Int)%2=0:=(by omega);clear ha hb;go_enter func151,ntmps151;go_upto_region 1 with fail
   refine wp_region_held_drew (S:=fun w9=>True) (by kernel_rfl) ?_ (fun hH=>?_)
   . (try dsimp only)
     all_goals go_keep
   have hdr:Below w.heap.size w w.drew:=Below.drew1;have hkp:Kp g w w.drew:=(Kp.refl g w).drew;generalize w.drew=ud at hdr hkp hH ⊢;replace h:=h.below hdr;clear hdr;refine hT 0 hH ?_;refine hT 1 hH ?_;refine hT 2 hH ?_;refine hT 3 hH ?_;refine hT 4 hH ?_;refine hT 5 hH ?_;refine hT 6 hH ?_;refine hT 7 hH ?_;refine hT 8 hH ?_;refine hT 9 hH ?_;refine hT 10 hH ?_;refine hT 11 hH ?_;refine wpAnyH_done (by kernel_rfl) ?_ _;clear hH;go_wp2_with fail
   refine(zdz g pa pc xs p _ h hp).mono ?_;rintro e u2 ⟨rfl,hs,hk⟩;go_wp2;go_ret;exact⟨1,by omega,zdl (by rw[HE.out]),by rw[HE.out];exact(List.drop_drop).trans (by rw[Nat.add_comm]) ,hs,hkp.trans hk⟩
 . have HE:Hid (dfR f 4 32 (xs.drop p)=(0,xs.drop p)):=by
     show _=_;unfold dfR;rw[if_neg ha,if_pos hb]
   have g1:((f/4:Nat):Int)%2=0:=(by omega);have g2:((f/32:Nat):Int)%2=1:=(by omega);clear ha hb;go_enter func151,ntmps151;go_upto_region 1 with fail
   refine wp_region_held_drew (S:=fun w9=>True) (by kernel_rfl) ?_ (fun hH=>?_)
   . (try dsimp only)
     all_goals go_keep
   have hdr:Below w.heap.size w w.drew:=Below.drew1;have hkp:Kp g w w.drew:=(Kp.refl g w).drew;generalize w.drew=ud at hdr hkp hH ⊢;replace h:=h.below hdr;clear hdr;refine hT 0 hH ?_;refine hT 1 hH ?_;refine hT 2 hH ?_;refine hT 3 hH ?_;refine hT 4 hH ?_;refine hT 5 hH ?_;refine hT 6 hH ?_;refine hT 7 hH ?_;refine hT 8 hH ?_;refine hT 9 hH ?_;refine hT 10 hH ?_;refine hT 11 hH ?_;refine wpAnyH_done (by kernel_rfl) ?_ _;clear hH;go_wp2;go_ret;exact⟨0,by omega,zdl (by rw[HE.out]),by rw[HE.out];rfl,h,hkp⟩
 . have HE:Hid (dfR f 4 32 (xs.drop p)=(sx16 (hd2 (xs.drop p)),(xs.drop p).drop 2)):=by
     show _=_;unfold dfR;rw[if_neg ha,if_neg hb]
   have g1:((f/4:Nat):Int)%2=0:=(by omega);have g2:((f/32:Nat):Int)%2=0:=(by omega);clear ha hb;go_enter func151,ntmps151;go_upto_region 1 with fail
   refine wp_region_held_drew (S:=fun w9=>True) (by kernel_rfl) ?_ (fun hH=>?_)
   . (try dsimp only)
     all_goals go_keep
   have hdr:Below w.heap.size w w.drew:=Below.drew1;have hkp:Kp g w w.drew:=(Kp.refl g w).drew;generalize w.drew=ud at hdr hkp hH ⊢;replace h:=h.below hdr;clear hdr;refine hT 0 hH ?_;refine hT 1 hH ?_;refine hT 2 hH ?_;refine hT 3 hH ?_;refine hT 4 hH ?_;refine hT 5 hH ?_;refine hT 6 hH ?_;refine hT 7 hH ?_;refine hT 8 hH ?_;refine hT 9 hH ?_;refine hT 10 hH ?_;refine hT 11 hH ?_;refine wpAnyH_done (by kernel_rfl) ?_ _;clear hH;go_wp2_with fail
   refine(zdj g pa pc xs p _ h hp).mono ?_;rintro e u2 ⟨rfl,hs,hk⟩;go_wp2;go_ret;exact⟨2,by omega,zdl (by rw[HE.out]),by rw[HE.out];exact(List.drop_drop).trans (by rw[Nat.add_comm]) ,hs,hkp.trans hk⟩
def CutI(es:LN)(l:List Pn)(k p:Nat)(D:List (List Pn)):Prop:=cutC es 0 l=(cutC (es.drop k) p l).map (fun r=>D++r)
theorem CutI.zero(es:LN)(l:List Pn):CutI es l 0 0 []:=by
 unfold CutI;rw[List.drop_zero];cases cutC es 0 l <;> rfl
theorem zi0{es:LN}{k:Nat}(hk:k<es.length):es.drop k=es.getD k 0::es.drop (k+1):=by
 rw[List.drop_eq_getElem_cons hk];simp[List.getD,hk]
theorem CutI.bad{es:LN}{l:List Pn}{k p:Nat}{D:List (List Pn)}(h:CutI es l k p D)(hk:k<es.length)(hb:es.getD k 0<p\/l.length<=es.getD k 0):cutC es 0 l=none:=by
 unfold CutI at h;rw[h,zi0 hk,cutC,if_pos hb];rfl
theorem CutI.step{es:LN}{l:List Pn}{k p:Nat}{D:List (List Pn)}(h:CutI es l k p D)(hk:k<es.length)(hb:¬(es.getD k 0<p\/l.length<=es.getD k 0)):CutI es l (k+1) (es.getD k 0+1) (D++[(l.drop p).take (es.getD k 0+1-p)]):=by
 unfold CutI at h ⊢;rw[h,zi0 hk,cutC,if_neg hb];cases cutC (es.drop (k+1)) (es.getD k 0+1) l with
 | none=>rfl
 | some r=>simp
theorem CutI.all{es:LN}{l:List Pn}{p:Nat}{D:List (List Pn)}(h:CutI es l es.length p D):cutC es 0 l=some D:=by
 unfold CutI at h;rw[h,List.drop_length,cutC];simp
theorem z0m:∀(es:LN) (p:Nat) (l:List Pn) (cs:List (List Pn)),cutC es p l=some cs->cs.length=es.length/\cs.flatten.length<=es.length*l.length:=by
 intro es
 induction es with
 | nil =>
  intro p l cs h;injection h with h;subst h;exact⟨rfl,qD _⟩
 | cons e t ih =>
  intro p l cs h;rw[cutC]at h;split at h
  . cases h
  . cases hc:cutC t (e+1) l with
    | none=>rw[hc]at h;cases h
    | some r =>
     rw[hc]at h;injection h with h;subst h
     obtain⟨h1,h2⟩:=ih _ _ _ hc;refine⟨by rw[List.length_cons,List.length_cons,h1],?_⟩;rw[List.flatten_cons,qA,List.length_cons,Nat.add_mul,Nat.one_mul,qL,qJ];omega
theorem zl6(n:Nat)(s:LN):(lsW n s).length=(fsW n s).length:=by
 unfold lsW;exact zl5 _ _ _ (zdm _ _ _ _ _) (zdm _ _ _ _ _)
theorem zww(n:Nat)(s:LN):(lsW n s).length<=80:=by
 rw[zl6];unfold fsW flW;by_cases h:ptsW n (rdE n s).1<=80
 . rw[if_pos h,qL]
   omega
 . rw[if_neg h]
   simp
theorem zwg(n:Nat)(s:LN)(hn:n<=10):(candC n s).cs.length<=10/\(candC n s).cs.flatten.length<=800/\(candC n s).ps=[]:=by
 unfold candC;cases hc:cutC (rdE n s).1 0 (lsW n s) with
 | none=>exact⟨qD _,qD _,rfl⟩
 | some cs =>
  obtain⟨h1,h2⟩:=z0m _ _ _ _ hc;rw[zl1]at h1 h2;refine⟨by show cs.length<=10;omega,?_,rfl⟩;show cs.flatten.length<=800;have h3:=zww n s;have h4:n*(lsW n s).length<=10*80:=Nat.mul_le_mul hn h3;omega
theorem zwe(b:LN):(candO b).cs.flatten.length<=800:=by
 unfold candO;split
 . exact qD _
 . split
   . exact(zwg _ _ (by omega)).2.1
   . exact qD _
