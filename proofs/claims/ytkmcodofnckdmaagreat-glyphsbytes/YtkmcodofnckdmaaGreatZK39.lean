import Derived.Test.YtkmcodofnckdmaaGreatZK38
set_option maxHeartbeats 4000000
set_option maxRecDepth 100000
set_option linter.unusedSimpArgs false
set_option linter.unusedVariables false
namespace Go.Proofs.YtkmcodofnckdmaaGreat
open Tryz Go.RowKit Go.Maps
theorem ziz(B:Nat)(G:Nat->Prop)(bs:LN)(a:OA)(c:Nat)(xs:LN)(w:World)(h:Pc w B G ⟨bs,[],false⟩)(hr:Rb w a c xs)(hg:∀b o,a=some ⟨b,o,none⟩->G b)(hl:bs.length+4+xs.length<=1048000) :
 Calls Tryz.prog 79 #[pg B,.slice a xs.length c] w fun e w'=>e=.returned (.tuple #[])/\Pc w' B G ⟨bs++(be4 ((xs.length:Nat):Int)++xs),[],false⟩/\Keep G w w':=by
 have h1:=zrq B G ⟨bs,[],false⟩ ((xs.length:Nat):Int) w h ⟨by omega,by omega⟩ (by show bs.length+4<=_;omega);rw[z1g (by omega) (by omega)]at h1;clear h;go_enter func79,ntmps79;go_wp2_with fail
 refine h1.mono ?_;rintro e v1 ⟨rfl,hP1,hK1⟩;have h2:=zdn B G _ a c xs v1 hP1 (hr.kept hK1 hg) (by simp[be4];omega);have e2:(St.mk (bs++be4 ((xs.length:Nat):Int)) [] false).app xs=⟨bs++(be4 ((xs.length:Nat):Int)++xs),[],false⟩:=by simp[St.app]
 rw[e2]at h2;clear h1 hP1 e2;go_wp2_with fail
 refine h2.mono ?_;rintro e v2 ⟨rfl,hP2,hK2⟩;have hK:=hK1.trans hK2;clear h2 hK1 hK2;go_wp2
 go_end0
 exact⟨rfl,hP2,hK⟩
theorem zst(B:Nat)(G:Nat->Prop)(bs:LN)(S:Nat->Prop)(xa:OA)(xc:Nat)(qa:OA)(qc:Nat)(ta:OA)(tc:Nat)(x:Gl)(ax:Int)(w:World)(h:Pc w B G ⟨bs,[],false⟩)(hx:GlC S w xa xc qa qc ta tc x)(hi:I64 ax)(hf:foT x.o x.ts ax=true)(hab:-32768<=x.ab/\x.ab<=65535)(har:-32768<=x.ar/\x.ar<=65535)(hl:bs.length+(glB x).length<=1048000) :
 Calls Tryz.prog 42 #[pg B,.agg #[.slice xa x.o.cs.length xc,.slice qa x.o.ps.length qc,.slice ta x.ts.length tc,.int .i64 x.ab,.int .i64 x.ar,.bool x.mr],.int .i64 ax] w fun e w'=>e=.returned (.int .i64 (wrOE x.o))/\(wrOE x.o=0->Pc w' B G ⟨bs++glB x,[],false⟩)/\Keep G w w':=by
 have k1:=hx.cs.lenB;have k2:=hx.ps.lenB;have k3:=hx.ts.lenB;rw[zem]at hl;have hlo:=(zgs x.o).2;have hlt:=zfc hf;have HGB:Hid (glB x=be4 (((wrOB x.o).length:Nat):Int)++(wrOB x.o++(be4 (((tuBt x.ts).length:Nat):Int)++(tuBt x.ts++(be2 x.ab++(be2 x.ar++be1 (if x.mr then 1 else 0))))))):=rfl;have HGL:Hid (∀k,G k->k<w.heap.size):=h.1;obtain⟨W,hW,X1,hbW⟩:∃W,W=w.alloc (.cells #[.slice xa x.o.cs.length xc,.slice qa x.o.ps.length qc,.slice ta x.ts.length tc,.int .i64 x.ab,.int .i64 x.ar,.bool x.mr] 62)/\Bk 62 W w.heap.size [.slice xa x.o.cs.length xc,.slice qa x.o.ps.length qc,.slice ta x.ts.length tc,.int .i64 x.ab,.int .i64 x.ar,.bool x.mr]/\Below w.heap.size w W:=⟨_,rfl,Bk.new _ _ _,bl1 _⟩;have hc1:=zf0 S xa xc qa qc x.o W (hx.below hbW).cs (hx.below hbW).ps;have hc2:=fun U (hU:Below W.heap.size W U)=>zg0 S xa xc qa qc x.o S ta tc x.ts ax U ((hx.below hbW).below hU).cs ((hx.below hbW).below hU).ps ((hx.below hbW).below hU).ts hi;rw[(zbo hf).1,(zbo hf).2]at hc2;obtain⟨p0,p1,p2,p3,p4,p5,-⟩:=X1.six;clear hx;go_enter func42,ntmps42;go_upto_region 1 with fail
 rw[<-hW];clear hW;go_wp2_with fail
 refine hc1.mono ?_;rintro e u1 ⟨a1,c1,rfl,hr1,hb1⟩;have hs1:=hbW.size;clear hc1 p0 p1 p2 p3 p4 p5;replace X1:=X1.below hb1;obtain⟨p0,p1,p2,p3,p4,p5,-⟩:=X1.six;by_cases he:wrOE x.o=0;rotate_left
 . have g1:(wrOE x.o != 0)=true:=bne_iff_ne.2 he
   have hbF:Below w.heap.size w u1:=hbW.trans (hb1.mono hbW.size);have HK:Hid (Keep G w u1):=Keep.of_below hbF HGL.out;have HNE:Hid (wrOE x.o≠0):=he;clear hc2 he h HGB;go_wp2;go_ret;exact⟨rfl,fun e=>absurd e HNE.out,HK.out⟩
 rw[he];go_wp2_with fail
 refine(hc2 u1 hb1).mono ?_;rintro e u2 ⟨a2,c2,rfl,hr2,hb2⟩;clear hc2 p0 p1 p2 p3 p4 p5;replace X1:=X1.below hb2;have hbF:Below w.heap.size w u2:=(hbW.trans (hb1.mono hbW.size)).trans (hb2.mono (qF hbW.size hb1.size));obtain⟨G',hP,hG1,hG2⟩:=h.wide' hbF;have hu1:=hb1.size;have hXl:=X1.lt;have hlo1:=hr1.lo15;have zqb:=hr2.lo15;have z0v:=hr1.lt15;have zde:=hr2.lt15;have hq1:∀b o,a1=some ⟨b,o,none⟩->G' b:=fun b o e=>hG2 b (by have:=hlo1 b o e;omega) (by have:=z0v b o e;have:=hb2.size;omega);have hq2:∀b o,a2=some ⟨b,o,none⟩->G' b:=fun b o e=>hG2 b (by have:=zqb b o e;omega) (zde b o e);have hqX:G' w.heap.size:=hG2 _ (qE _) hXl;have hd1:=hr1.rd.below hb2;have hd2:=hr2.rd;have HE0:Hid (wrOE x.o=0):=he;have HKF:Hid (Keep G w u2):=Keep.of_below hbF HGL.out;have HG1:Hid (∀k,G k->G' k):=hG1;have HXK:Hid (Bk 62 u2 w.heap.size _):=X1;have hc1:=ziz B G' bs a1 c1 (wrOB x.o) u2 hP hd1 hq1 (by omega);clear h hP hG1 hG2 hr1 hr2 hlo1 zqb z0v zde hb1 hb2 hbW hbF he;obtain⟨p0,p1,p2,p3,p4,p5,-⟩:=X1.six;go_wp2_with fail
 refine hc1.mono ?_;rintro e u3 ⟨rfl,hP3,hK3⟩;clear hc1 p0 p1 p2 p3 p4 p5;replace X1:=X1.kept hK3 hqX;replace hd2:=hd2.kept hK3 hq2;have hc1:=ziz B G' _ a2 c2 (tuBt x.ts) u3 hP3 hd2 hq2 (by simp[be4];omega);obtain⟨p0,p1,p2,p3,p4,p5,-⟩:=X1.six;go_wp2_with fail
 refine hc1.mono ?_;rintro e u4 ⟨rfl,hP4,hK4⟩;clear hc1 p0 p1 p2 p3 p4 p5 hP3;replace X1:=X1.kept hK4 hqX;have hc1:=zap B G' _ x.ab u4 hP4 ⟨by omega,by omega⟩ (by simp[be4];omega);rw[zb0 (by omega) (by omega)]at hc1;obtain⟨p0,p1,p2,p3,p4,p5,-⟩:=X1.six;go_wp2_with fail
 refine hc1.mono ?_;rintro e u5 ⟨rfl,hP5,hK5⟩;clear hc1 p0 p1 p2 p3 p4 p5 hP4;replace X1:=X1.kept hK5 hqX;have hc1:=zap B G' _ x.ar u5 hP5 ⟨by omega,by omega⟩ (by simp[be4,be2];omega);rw[zb0 (by omega) (by omega)]at hc1;obtain⟨p0,p1,p2,p3,p4,p5,-⟩:=X1.six;go_wp2_with fail
 refine hc1.mono ?_;rintro e u6 ⟨rfl,hP6,hK6⟩;clear hc1 p0 p1 p2 p3 p4 p5 hP5;replace X1:=X1.kept hK6 hqX;obtain⟨p0,p1,p2,p3,p4,p5,-⟩:=X1.six;have HKK:Hid (Keep G w u6):=HKF.out.trans ((((hK3.trans hK4).trans hK5).trans hK6).mono HG1.out);have hc1:=zat B G' _ (if x.mr then 1 else 0) u6 hP6 (by split <;> exact⟨by omega,by omega⟩) (by simp[be4,be2];omega);rw[put8A (by split <;> omega) (by split <;> omega)]at hc1;clear hP6 hK3 hK4 hK5 hK6;cases hmr:x.mr
 all_goals
  rw[hmr]at hc1 p5;simp only[Bool.false_eq_true,if_false,if_true]at hc1;go_wp2_with fail
  refine hc1.mono ?_;rintro e u7 ⟨rfl,hP7,hK7⟩;have HK7:Hid (Keep G w u7):=HKK.out.trans (hK7.mono HG1.out);have HP7:Hid (Pc u7 B G ⟨bs++glB x,[],false⟩):=by
   have h9:=hP7.guard (G':=G) (fun k hk=>⟨hP7.1 k (HG1.out k hk),HG1.out k hk⟩);show Pc _ _ _ _;rw[HGB.out,hmr];simpa [qI] using h9
  clear hc1 hP7 hK7 p0 p1 p2 p3 p4 p5;go_wp2;go_ret;exact⟨by rw[HE0.out];rfl,fun _=>HP7.out,HK7.out⟩
theorem zn5{l:List Gl}{k:Nat}(hk:k<l.length)(P:LN):P++glsB (l.take (k+1))=P++glsB (l.take k)++glB (l.getD k Gl.none):=by
 rw[zak (d:=Gl.none) hk,zaz,ze7,qI]
theorem zlc{s:Sr}{ab ar:Int}(h:fiS s ab ar=true):(-32768<=ab/\ab<=32767)/\-32768<=ar/\ar<=32767:=by
 obtain⟨h1,h2⟩:=zs5.1 h;omega
theorem zxd{l:List Gl}{k:Nat}(hk:k<l.length)(h0:frE (l.take k)=0):(wrOE (l.getD k Gl.none).o≠0->frE l=wrOE (l.getD k Gl.none).o)/\(wrOE (l.getD k Gl.none).o=0->frE (l.take (k+1))=0):=by
 have h1:frE (l.take (k+1))=wrOE (l.getD k Gl.none).o:=by
  rw[zak (d:=Gl.none) hk,zfj,if_pos h0];simp[frE];intro e;exact e.symm
 refine⟨fun h=>?_,fun h=>h1.trans h⟩;have h2:frE l=frE (l.take (k+1)++l.drop (k+1)):=by rw[List.take_append_drop]
 rw[h2,zfj,if_neg (by rw[h1];exact h),h1]
theorem zwp{l:List Gl}{s:Sr}{ax:Int}(h:foG l s ax=false):wrGB l s ax=[]/\wrGE l s ax=1:=by
 have h1:wrGE l s ax=1:=by unfold wrGE;rw[h];rfl
 refine⟨?_,h1⟩;unfold wrGB;rw[if_neg (by rw[h1];decide)]
theorem zqi{l:List Gl}{s:Sr}{ax:Int}(h:foG l s ax=true)(hf:frE l≠0):wrGB l s ax=[]/\wrGE l s ax=frE l:=by
 have h1:wrGE l s ax=frE l:=by unfold wrGE;rw[h,if_pos rfl,if_neg hf]
 refine⟨?_,h1⟩;unfold wrGB;rw[if_neg (by rw[h1];exact hf)]
theorem zqh{l:List Gl}{s:Sr}{ax:Int}(h:foG l s ax=true)(hf:frE l=0)(hs:(gsB l).length<=1048000):wrGB l s ax=gsB l/\wrGE l s ax=0:=by
 have h1:wrGE l s ax=0:=zbx.2 ⟨h,hf,by omega⟩;refine⟨?_,h1⟩;unfold wrGB;rw[if_pos h1]
theorem zpl(S:Nat->Prop)(a:OA)(ca:Nat)(l:List Gl)(ga:OA)(gc:Nat)(ma:OA)(mc:Nat)(s:Sr)(ax:Int)(w:World)(hl:Gr GlE S w a ca l)(hps:∀x∈l,x.o.ps.length<=12)(hg:Tzz w ga gc s.rg)(hm:Rii w ma mc s.rw)(hi:I64 ax)(hsz:foG l s ax=true->(gsB l).length<=1048000) :
 Calls Tryz.prog 21 #[.slice a l.length ca,.agg #[.slice ga s.rg.length gc,.slice ma s.rw.length mc],.int .i64 ax] w fun e w'=>∃a' c',e=.returned (.tuple #[.slice a' (wrGB l s ax).length c',.int .i64 (wrGE l s ax)])/\Rw 5 w.heap.size w' a' c' (wrGB l s ax)/\Below w.heap.size w w':=by
 have kl:=hl.lenB;have k2:=hm.lenB;have k3:=hg.lenB;obtain⟨W,hW,X1,hbW⟩:∃W,W=w.alloc (.cells #[.slice ga s.rg.length gc,.slice ma s.rw.length mc] 26)/\Bk 26 W w.heap.size [.slice ga s.rg.length gc,.slice ma s.rw.length mc]/\Below w.heap.size w W:=⟨_,rfl,Bk.new _ _ _,bl1 _⟩;obtain⟨p0,p1,_⟩:=X1.two;have hf1:=zh2 S a ca l ga gc ma mc s ax W (hl.below hbW) hps (hg.below hbW) (hm.below hbW) hi;cases hfo:foG l s ax with
 | false =>
  rw[hfo]at hf1;have HN:Hid (_):=zwp hfo;clear hfo hsz;go_enter func21,ntmps21;go_upto_region 1 with fail
  rw[<-hW];clear hW;go_wp2_with fail
  refine hf1.mono ?_;rintro e u ⟨rfl,hb1⟩;have za1:=hbW.trans (hb1.mono hbW.size);clear hf1 p0 p1;go_wp2;go_ret2;exact⟨none,0,by rw[HN.out.1,HN.out.2];rfl,by rw[HN.out.1];exact Rw.nil _ _,za1⟩
 | true =>
 rw[hfo]at hf1;have hss:=hsz hfo;have HSS:Hid ((gsB l).length<=1048000):=hss;have HFO:Hid (foG l s ax=true):=hfo;obtain⟨⟨hF1,hF2⟩,-,hF4⟩:=zbt.1 hfo;have HEL:Hid (∀k,k<l.length->foT (l.getD k Gl.none).o (l.getD k Gl.none).ts ax=true/\((-32768<=(l.getD k Gl.none).ab/\(l.getD k Gl.none).ab<=32767)/\-32768<=(l.getD k Gl.none).ar/\(l.getD k Gl.none).ar<=32767)):=fun k hk=>by
  obtain⟨-,-,h1,h2⟩:=zd5.1 (hF4 k hk);exact⟨h1,zlc h2⟩
 have HTE:Hid (gsB l=be2 ((l.length:Nat):Int)++glsB l):=rfl;have HTK:Hid (∀k,2+(glsB (l.take k)).length<=1048000):=fun k=>by
  have h1:=HSS.out;have h2:glsB l=glsB (l.take k)++glsB (l.drop k):=by rw[<-zaz,List.take_append_drop]
  unfold gsB at h1;rw[qA,h2,qA]at h1;simp[be2]at h1;omega
 clear hfo hsz hss hF4;go_enter func21,ntmps21;go_upto_region 1 with fail
 rw[<-hW];clear hW;go_wp2_with fail
 refine hf1.mono ?_;rintro e u ⟨rfl,hb1⟩;have HL:Hid (Gr GlE (fun k=>k<u.heap.size) u a ca l):=((hl.below hbW).below hb1).wide (fun k _ h=>h);have HBW:Hid (Below w.heap.size w u):=hbW.trans (hb1.mono hbW.size);have hP0:=zjn u (· < u.heap.size) (fun _ h=>h);have hB0:=bl1 (w:=u) (.cells #[.slice none 0 0,.int .i64 0,.map none,.bool false] 90);clear hl hg hm hf1 hb1 X1 hbW p0 p1;go_wp2_with fail
 refine(zap u.heap.size _ _ (l.length:Int) _ hP0 ⟨by omega,by omega⟩ (by decide)).mono ?_;rintro e u1 ⟨rfl,hP1,hK1⟩;rw[show St.zero=⟨[],[],false⟩from rfl,zb0 (by omega) (by omega),List.nil_append]at hP1;have hB1:Below u.heap.size u u1:=hB0.trans (hK1.below (fun k hk=>hk));obtain⟨Q,hQ⟩:∃Q,be2 ((l.length:Nat):Int)=Q:=⟨_,rfl⟩;have HQL:Hid (Q.length=2):=by show _=_;rw[<-hQ];rfl
 rw[hQ]at hP1 HTE;have hI:Pc u1 u.heap.size (· < u.heap.size) ⟨Q++glsB (l.take 0),[],false⟩:=by
  rw[List.take_zero,glsB,List.append_nil];exact hP1
 obtain⟨B,hBB⟩:∃g,u.heap.size=g:=⟨_,rfl⟩;have HBB:Hid (u.heap.size=B):=hBB;rw[hBB]at hI hB1 HL ⊢;clear hP0 hK1 hB0 hP1 hQ hBB;go_wp2
 go_loopw [25] (fun i wr=>∃k:Nat,k<=l.length/\i=.int .i64 k/\Pc wr B (· < B) ⟨Q++glsB (l.take k),[],false⟩/\Hid (frE (l.take k)=0)/\Below B u wr) (fun i _=>l.length-(intOf i).toNat)
 case atStart=>exact⟨0,qD _,rfl,hI,rfl,hB1⟩
 case round =>
  clear hI hB1;obtain⟨k,hk,rfl,hP,HF0,hB⟩:=hrel;have hBs:B<=wr.heap.size:=by have:=hB.size;rw[HBB.out]at this;exact this
  have hBw:Below w.heap.size w wr:=HBW.out.trans (hB.mono (by have:=HBW.out.size;rw[HBB.out]at this;exact this));by_cases hkn:k<l.length
  . obtain⟨b,off,xa,xc,qa,qc,ta,tc,ea,hb,hGC,d0,d1,d2,d3,d4,d5⟩:=HL.out.gl (by rw[HBB.out];exact hB) k hkn
    obtain⟨hE1,hE2,hE3⟩:=HEL.out k hkn;have HSJ:Hid (_):=zn5 hkn Q;have hlj:=HTK.out (k+1);have HFE:Hid (_):=zxd hkn HF0.out;have hlk:(Q++glsB (l.take k)).length+(glB (l.getD k Gl.none)).length<=1048000:=by
     have h1:=congrArg List.length HSJ.out;rw[qA,qA,HQL.out]at h1;omega
    obtain⟨x,hx⟩:∃x,l.getD k Gl.none=x:=⟨_,rfl⟩;rw[hx]at hGC d0 d1 d2 d3 d4 d5 hE1 hE2 hE3 HSJ HFE hlk;obtain⟨b2,hb2⟩:∃b2,Q++glsB (l.take k)=b2:=⟨_,rfl⟩;rw[hb2]at hP HSJ hlk;subst ea;have i1:(0:Int)<=(k:Int):=(by omega);have i2:(k:Int)<(l.length:Int):=(by omega);obtain⟨V,hV,X0,hb0⟩:∃V,V=wr.alloc (.cells #[.slice xa x.o.cs.length xc,.slice qa x.o.ps.length qc,.slice ta x.ts.length tc,.int .i64 x.ab,.int .i64 x.ar,.bool x.mr] 62)/\Bk 62 V wr.heap.size [.slice xa x.o.cs.length xc,.slice qa x.o.ps.length qc,.slice ta x.ts.length tc,.int .i64 x.ab,.int .i64 x.ar,.bool x.mr]/\Below wr.heap.size wr V:=⟨_,rfl,Bk.new _ _ _,bl1 _⟩;have hBV:Below B u V:=hB.trans (hb0.mono hBs);have hput:=zst B (· < B) b2 _ xa xc qa qc ta tc x ax V (hP.below hb0) (hGC.below hb0) hi hE1 ⟨by omega,by omega⟩ ⟨by omega,by omega⟩ hlk;rw[<-HSJ.out]at hput;obtain⟨q0,q1,q2,q3,q4,q5,_⟩:=X0.six;clear hx hb2 hP hGC hlj hlk;go_upto_region 8 with fail
    rw[<-hV];clear hV d0 d1 d2 d3 d4 d5 hb0;go_wp2_with fail
    refine hput.mono ?_;rintro e v4 ⟨rfl,hP4,hk4⟩;have hB4:Below B u v4:=hBV.trans (hk4.below (fun k hk=>hk));have hBw4:Below w.heap.size w v4:=HBW.out.trans (hB4.mono (by have:=HBW.out.size;rw[HBB.out]at this;exact this));clear hput q0 q1 q2 q3 q4 q5 hk4 X0 HSJ hB hBV hBw;by_cases he:wrOE x.o=0;rotate_left
    . have g1:(wrOE x.o != 0)=true:=bne_iff_ne.2 he
      have HN:Hid (wrGB l s ax=[]/\wrGE l s ax=wrOE x.o):=by
       have h1:=HFE.out.1 he;have h2:=zqi HFO.out (by rw[h1];exact he);exact⟨h2.1,h2.2.trans h1⟩
      clear he hP4 HFE;go_wp2;go_ret2;exact⟨none,0,by rw[HN.out.1,HN.out.2];rfl,by rw[HN.out.1];exact Rw.nil _ _,hBw4⟩
    have HP5:Hid (Pc v4 B (· < B) ⟨Q++glsB (l.take (k+1)),[],false⟩):=hP4 he;have HF5:Hid (frE (l.take (k+1))=0):=HFE.out.2 he;rw[he];clear hP4 HFE he HF0;go_wp2;go_roundw
    case rel=>exact⟨k+1,by omega,by go_num,HP5.out,HF5,hB4⟩
    case measure=>simp[intOf];omega
  . obtain rfl:k=l.length:=by omega
    have g4:¬(l.length:Int)<(l.length:Int):=(by omega);have HF9:Hid (frE l=0):=by
     have h:=HF0.out;rw[List.take_length]at h;exact h
    rw[List.take_length,<-HTE.out]at hP;have hall:=zfn B _ _ _ hP (qF HSS.out (by decide));have ea:allB ⟨gsB l,[],false⟩=gsB l:=(by simp[allB]);have eb:allE ⟨gsB l,[],false⟩=0:=rfl;rw[ea,eb]at hall;have HN:Hid (_):=zqh HFO.out HF9.out HSS.out;have hbz:=hBw.size;clear hP ea eb;go_wp2_with fail
    refine hall.mono ?_;rintro e u9 ⟨a9,c9,rfl,hr9,hb9⟩;have hB9:=hBw.trans (hb9.mono hBw.size);clear hall;go_wp2;go_ret2;exact⟨a9,c9,by rw[HN.out.1,HN.out.2];rfl,by rw[HN.out.1];exact hr9.mono hbz,hB9⟩
theorem Io.ne_bo{base b2:Nat}{w:World}{v vb:Value}{zs:LI}{ys:LN}(h:Io base w v zs)(hb:Bo b2 w vb ys){g:Nat}(h1:v.ownBlock=some g):some g≠vb.ownBlock:=by
 intro e;rcases h.2.2 with ⟨e0,_⟩|⟨g1,cap,cur,k1,k2,k3,k4⟩
 . rw[e0]at h1;cases h1
 . rcases hb.2.2 with ⟨e0,_⟩|⟨g2,cap2,cur2,m1,m2,m3,_⟩
   . rw[e0]at e;cases e
   . rw[m1]at e
     rw[k1]at h1;cases h1;cases e;rw[k3]at m3;cases m3
theorem Io.grownB{base b2:Nat}{w w':World}{v vb:Value}{zs:LI}{ys:LN}(h:Io base w v zs)(hb:Bo b2 w vb ys)(hg:w.grownBy w' vb.ownBlock):Io base w' v zs:=by
 have hne:=fun g=>Io.ne_bo h hb (g:=g);obtain⟨h1,h3⟩:=h;refine⟨h1,h3.1,?_⟩;rcases h3.2 with h0|⟨g,cap,cur,k1,k2,k3,k4⟩
 . exact .inl h0
 . exact .inr ⟨g,cap,cur,k1,k2,(hg.block g (Array.getElem?_eq_some_iff.1 k3).1 (hne g (by rw[k1];rfl))).trans k3,k4⟩
theorem Bo.grownI{base b2:Nat}{w w':World}{v vb:Value}{zs:LI}{ys:LN}(hb:Bo b2 w vb ys)(h:Io base w v zs)(hg:w.grownBy w' v.ownBlock):Bo b2 w' vb ys:=by
 have hne:=fun g=>Io.ne_bo h hb (g:=g);obtain⟨h1,h3⟩:=hb;refine⟨h1,h3.1,?_⟩;rcases h3.2 with h0|⟨g,cap,cur,k1,k2,k3,k4⟩
 . exact .inl h0
 . refine .inr ⟨g,cap,cur,k1,k2,(hg.block g (Array.getElem?_eq_some_iff.1 k3).1 (fun e=>?_)).trans k3,k4⟩
   exact hne g e.symm (by rw[k1];rfl)
theorem zfp{w:World}{o:Oper}{a:Act}{K:Act->World->Prop}{Q:Exit->Act->World->Prop}
    (s x:Operand) (ho:o.op=.call { callee:=.builtin .append,args:=#[s,x],argTypes:=#[42,42] })
    (base:Nat) (v:Value) (ys:LN) (hs:a.eval s=v) (hown:Bo base w v ys) (ad:OA) (c m:Nat) (zs:LN) (hm:m=zs.length) (hne:zs≠[]) (hx:a.eval x=.slice ad m c)
    (hrd:Rb w ad c zs) (hlen:ys.length+zs.length<=1000000) (hbase:base<=w.heap.size)
    (h:∀v' w',Bo base w' v' (ys++zs)->w.grownBy w' v.ownBlock->K (a.put o.dst v') w'):o.wp Tryz.prog a w K Q:=by
 obtain⟨i0,hi,hz0,hz1,hz2⟩:=info_parts zhv;rcases hrd.2.2.2.2 with h0|⟨b,off,e',hb,hc⟩
 . exact absurd h0 hne
 subst e' hm;refine zdb w s x 42 ho base 5 i0 (.int .u8 0) 1 1 underlying42 hi hz0 hz1 hz2 rfl (by decide) v ys.length (ys.map Y) hs hown.2 ⟨b,off,none⟩ zs.length c (zs.map Y) hx (by simp) ?_ (zhs zs) (by unfold maxLen;omega) (by omega) hbase ?_
 . intro j u hj
   have hjl:j<zs.length:=by
    rcases Nat.lt_or_ge j zs.length with h1|h1
    . exact h1
    . rw[List.getElem?_eq_none (by simpa using h1)]at hj;cases hj
   have zdp:(⟨b,off,none⟩:Addr).add j=⟨b,off+j,none⟩:=(by unfold Addr.add;split <;> simp_all);rw[zdp,hc j hjl];rw[List.getElem?_map,qG hjl]at hj;simp at hj;rw[<-hj];simp[List.getD,hjl,Y]
 . intro v' w' k1 k2 _ _
   exact h v' w' ⟨hown.1.append hrd.lim,by rw[List.map_append,qA];exact k1⟩ k2
def Apt(v u:Value):Prop:=∀k,v.ownBlock=some k->u.ownBlock≠some k
theorem Apt.symm{v u:Value}(h:Apt v u):Apt u v:=fun k h1 h2=>h k h2 h1
theorem Apt.of{base:Nat}{w:World}{v v' u:Value}{ys:LN}(h:Apt v u)(hu:Bo base w u ys)(hv:v'.ownBlock=v.ownBlock\/v'.ownBlock=some w.heap.size):Apt v' u:=fun k h1 h2=>by
 rcases hv with e|e
 . exact h k (by rw[<-e];exact h1) h2
 . rw[e]at h1;cases h1;have:=(hu.lo h2).2;omega
theorem Bo.grownA{base:Nat}{w w':World}{v u:Value}{ys:LN}(hu:Bo base w u ys)(hg:w.grownBy w' v.ownBlock)(h:Apt v u):Bo base w' u ys:=by
 obtain⟨h1,h3⟩:=hu;refine⟨h1,h3.1,?_⟩;rcases h3.2 with h0|⟨g,cap,cur,k1,k2,k3,k4⟩
 . exact .inl h0
 . exact .inr ⟨g,cap,cur,k1,k2,(hg.block g (Array.getElem?_eq_some_iff.1 k3).1 (fun e=>h g e.symm (by rw[k1];rfl))).trans k3,k4⟩
theorem Bo.mono{base b2:Nat}{w:World}{v:Value}{ys:LN}(h:Bo base w v ys)(hb:b2<=base):Bo b2 w v ys:=by
 obtain⟨h1,h3⟩:=h;refine⟨h1,h3.1,?_⟩;rcases h3.2 with h0|⟨g,cap,cur,k1,k2,k3,k4⟩
 . exact .inl h0
 . exact .inr ⟨g,cap,cur,k1,qF hb k2,k3,k4⟩
theorem zae{w:World}{ops:Array Oper}{rest:List Oper}{o:Oper}{a:Act}{Q:Exit->Act->World->Prop}
    (hgd:o.guard=none) (s x:Operand) (ho:o.op=.call { callee:=.builtin .append,args:=#[s,x],argTypes:=#[42,42] })
    (base:Nat) (v:Value) (ys:LN) (hs:a.eval s=v) (hown:Bo base w v ys) (ad:OA) (c m:Nat) (zs:LN) (hm:m=zs.length) (hx:a.eval x=.slice ad m c)
    (hrd:Rb w ad c zs) (hlen:ys.length+zs.length<=1000000) (hbase:base<=w.heap.size)
    (h:∀v' w',Bo base w' v' (ys++zs)->w.grownBy w' v.ownBlock->(v'.ownBlock=v.ownBlock\/v'.ownBlock=some w.heap.size)->wpList Tryz.prog ops Q rest (a.put o.dst v') w'):wpList Tryz.prog ops Q (o::rest) a w:=by
 obtain⟨i0,hi,hz0,hz1,hz2⟩:=info_parts zhv;refine zas hgd s x 42 ho base 5 i0 underlying42 hi hz0 hz1 hz2 v ys.length ys hs hown.2 ad c m zs hx hm hrd (by omega) hbase ?_;intro v' w' k1 k2 k3;exact h v' w' ⟨hown.1.append hrd.lim,by rw[qA];exact k1⟩ k2 k3
theorem Bo.rb{base:Nat}{w:World}{a:OA}{c:Nat}{ys:LN}(h:Bo base w (.slice a ys.length c) ys):Rb w a c ys:=by
 obtain⟨a',c',e,hr⟩:=h.slice;injection e with e1 e2 e3;subst e1 e3;exact hr
theorem zoj(w:World)(zs:LN)(cs:Array Value)(hc:cs=(zs.map Y).toArray)(hl:Byt zs)(hm:zs.length<=maxLen):Bo w.heap.size (w.alloc (.cells cs 5)) (.slice (some ⟨w.heap.size,0,none⟩) zs.length zs.length) zs:=by
 subst hc;exact⟨hl,by simp,.inr ⟨w.heap.size,zs.length,_,rfl,qE _,heap_alloc_new w _,qE _,hm,by simp,by simp[List.take_of_length_le]⟩⟩
theorem zgu(x:Int)(w:World)(hx:0<=x)(hx2:x<=9223372036854775807) :
 Calls Tryz.prog 44 #[.int .i64 x,.int .i64 2] w fun e w'=>∃v,e=.returned v/\Bo w.heap.size w' v (be2 x)/\Below w.heap.size w w':=by
 have hmk:∀w,(Instr.makeSlice 42 (.int .i64 2) (.int .i64 2)).run Tryz.prog w=.ok (.slice (some ⟨w.heap.size,0,none⟩) 2 2) (w.alloc (.cells #[.int .u8 0,.int .u8 0] 5)):=by
  intro w;have h:=run_make_row' (P:=Tryz.prog) 42 5 (.int .u8 0) 1 underlying42 zca rfl .i64 .i64 2 (by decide) (by decide) w;rw[show madeCells #[Value.int IntKind.u8 0] 2=#[.int .u8 0,.int .u8 0] by kernel_rfl]at h;exact h
 go_enter func44,ntmps44;go_wp2;refine wp_loop_rounds 3 ?_;rw[rounds_succ];go_wp2;rw[rounds_succ];go_wp2;rw[rounds_succ];go_wp2;go_ret;refine⟨_,rfl,zoj w (be2 x) _ ?_ (zb4 x) (by simp[be2,maxLen]),bl1 _⟩;simp only[be2,List.map_cons,List.map_nil,Y];simp;omega
theorem zi6{z m:Int}(h:0<=z):z.tmod m=z%m:=Int.tmod_eq_emod_of_nonneg h
theorem zfl{x:Int}:be2 ((x+65536)%65536)=be2 x:=by
 unfold be2;rw[show(x+65536)%65536/256%256=x/256%256 by omega,show(x+65536)%65536%256=x%256 by omega]
theorem zkp(d:Int)(sh sm:Nat)(w:World)(hd:-32768<=d/\d<=32767)(hs:sh<=100)(hm:sm<=100) :
 Calls Tryz.prog 139 #[.int .i64 d,.int .i64 (sh:Int),.int .i64 (sm:Int)] w fun e w'=>∃v,e=.returned (.tuple #[.int .i64 ((axF d sh sm:Nat):Int),v])/\Bo w.heap.size w' v (axB d)/\Below w.heap.size w w':=by
 rcases zgv d with h|h|h|h
 . have HA:Hid (axF d sh sm=sm/\axB d=[]):=by unfold axF axB;rw[if_pos h,if_pos h];exact⟨rfl,rfl⟩
   subst h;go_enter func139,ntmps139;go_wp2;go_ret2;exact⟨.slice none 0 0,by rw[HA.out.1];rfl,by rw[HA.out.2];exact Bo.nil _ _,Below.refl _ _⟩
 . obtain⟨n,rfl⟩:∃n:Nat,d=(n:Int):=⟨d.toNat,by omega⟩
   have HA:Hid (axF (n:Int) sh sm=sh+sm/\axB (n:Int)=[n]):=(by unfold axF axB;rw[if_neg (by omega),if_pos h,if_neg (by omega),if_pos h];exact⟨rfl,by simp⟩);have g0:((n:Int)==0)=false:=(by simp;omega);have g1:decide ((0:Int)<(n:Int))=true:=qC h.1;have g2:decide ((n:Int)<256)=true:=qC h.2;have g3:(n:Int)%256=(n:Int):=(by omega);have HR:Hid (Bo w.heap.size (w.alloc (.cells #[.int .u8 (n:Int)] 5)) (.slice (some ⟨w.heap.size,0,none⟩) 1 1) [n]):=zoj w [n] #[.int .u8 (n:Int)] rfl (fun x hx=>by rw[List.mem_singleton.1 hx];omega) (by unfold maxLen;simp);go_enter func139,ntmps139;go_wp2;go_ret2;exact⟨.slice (some ⟨w.heap.size,0,none⟩) 1 1,by rw[HA.out.1];simp,by rw[HA.out.2];exact HR.out,bl1 _⟩
 . obtain⟨n,rfl⟩:∃n:Nat,d=-(n:Int):=⟨(-d).toNat,by omega⟩
   have HA:Hid (axF (-(n:Int)) sh sm=sh/\axB (-(n:Int))=[n]):=(by unfold axF axB;rw[if_neg (by omega),if_neg (by omega),if_pos h,if_neg (by omega),if_neg (by omega),if_pos h];exact⟨rfl,by simp⟩);have g0:((-(n:Int))==0)=false:=(by simp;omega);have g1:decide ((0:Int) < -(n:Int))=false:=qB (by omega);have g2:decide (-(n:Int)<0)=true:=qC h.1;have g4:decide ((-256:Int) < -(n:Int))=true:=qC h.2;have g3:(n:Int)%256=(n:Int):=(by omega);have HR:Hid (Bo w.heap.size (w.alloc (.cells #[.int .u8 (n:Int)] 5)) (.slice (some ⟨w.heap.size,0,none⟩) 1 1) [n]):=zoj w [n] #[.int .u8 (n:Int)] rfl (fun x hx=>by rw[List.mem_singleton.1 hx];omega) (by unfold maxLen;simp);go_enter func139,ntmps139;go_wp2;go_ret2;exact⟨.slice (some ⟨w.heap.size,0,none⟩) 1 1,by rw[HA.out.1];simp,by rw[HA.out.2];exact HR.out,bl1 _⟩
 . have HA:Hid (axF d sh sm=0/\axB d=be2 d):=by unfold axF axB;rw[if_neg (by omega),if_neg (by omega),if_neg (by omega),if_neg (by omega),if_neg (by omega),if_neg (by omega)];exact⟨rfl,rfl⟩
   have g0:(d==0)=false:=(by simp;omega);have hx0:0<=d+65536:=(by omega);obtain⟨z,hz⟩:∃z,z=(d+65536)%65536:=⟨_,rfl⟩;have hmz:(d+65536).tmod 65536=z:=(by rw[zi6 hx0,hz]);have hbg:=fun U=>zgu z U (by omega) (by omega);rw[show be2 z=be2 d by rw[hz,zfl]]at hbg;clear hz;have hgo:Calls Tryz.prog 139 #[.int .i64 d,.int .i64 (sh:Int),.int .i64 (sm:Int)] w fun e w'=>∃v,e=.returned (.tuple #[.int .i64 0,v])/\Bo w.heap.size w' v (be2 d)/\Below w.heap.size w w':=by
    clear HA;rcases h with h|h
    . have g1:decide ((0:Int)<d)=false:=qB (by omega)
      have g2:decide (d<0)=true:=qC (by omega);have g4:decide ((-256:Int)<d)=false:=qB (by omega);go_enter func139,ntmps139;go_wp2_with fail
      refine(hbg _).mono ?_;rintro e u ⟨v,rfl,hr,hb⟩;obtain⟨a,c,rfl,_⟩:=hr.slice;go_wp2;go_ret2;exact⟨_,rfl,hr,hb⟩
    . have g1:decide ((0:Int)<d)=true:=qC (by omega)
      have g2:decide (d<0)=false:=qB (by omega);have g4:decide (d<256)=false:=qB (by omega);go_enter func139,ntmps139;go_wp2_with fail
      refine(hbg _).mono ?_;rintro e u ⟨v,rfl,hr,hb⟩;obtain⟨a,c,rfl,_⟩:=hr.slice;go_wp2;go_ret2;exact⟨_,rfl,hr,hb⟩
   refine hgo.mono ?_;rintro e u ⟨v,rfl,hr,hb⟩;exact⟨v,by rw[HA.out.1];rfl,by rw[HA.out.2];exact hr,hb⟩
theorem zo9(d:Int)(w:World)(hd:-32768<=d/\d<=32767) :
 Calls Tryz.prog 139 #[.int .i64 d,.int .i64 2,.int .i64 16] w fun e w'=>∃v,e=.returned (.tuple #[.int .i64 ((axF d 2 16:Nat):Int),v])/\Bo w.heap.size w' v (axB d)/\Below w.heap.size w w':=zkp d 2 16 w hd (by omega) (by omega)
theorem zo8(d:Int)(w:World)(hd:-32768<=d/\d<=32767) :
 Calls Tryz.prog 139 #[.int .i64 d,.int .i64 4,.int .i64 32] w fun e w'=>∃v,e=.returned (.tuple #[.int .i64 ((axF d 4 32:Nat):Int),v])/\Bo w.heap.size w' v (axB d)/\Below w.heap.size w w':=zkp d 4 32 w hd (by omega) (by omega)
theorem zxn(d:Int)(sh sm:Nat):axF d sh sm<=sh+sm:=by unfold axF;split <;> (try split) <;> (try split) <;> omega
