import Derived.Test.YtkmcodofnckdmaaGreatZK40
import Derived.Test.YtkmcodofnckdmaaGreatZK41
import Derived.Laws.Cover1
set_option maxHeartbeats 8000000
set_option maxRecDepth 100000
set_option linter.unusedSimpArgs false
set_option linter.unusedVariables false
namespace Go.Proofs.YtkmcodofnckdmaaGreat
open Tryz Go.RowKit Go.Maps
theorem z65G{z:Int}(h:-32768<=z/\z<=32767):∃y,(z+65536).tmod 65536=y/\0<=y/\y<=9223372036854775807/\be2 y=be2 z:=by
 refine⟨(z+65536)%65536,zeg (by omega),by omega,by omega,zib⟩
theorem z3o(b:Bool):be1 (if b then 1 else 0)=[if b then 1 else 0]:=by cases b <;> rfl
theorem zg8(S:Nat->Prop)(a:OA)(ca:Nat)(l:List Gl)(ga:OA)(gc:Nat)(ma:OA)(mc:Nat)(s:Sr)(ax:Int)(w:World)(hl:Gr GlE S w a ca l)(hpt:∀x∈l,x.o.cs.flatten.length<=100000)(hpp:∀x∈l,x.o.ps.length<=100000)(hg:Tzz w ga gc s.rg)(hm:Rii w ma mc s.rw)(hi:I64 ax)(hsz:foG l s ax=true->(gsB l).length<=990000) :
 Calls Tryz.prog 22 #[.slice a l.length ca,.agg #[.slice ga s.rg.length gc,.slice ma s.rw.length mc],.int .i64 ax] w fun e w'=>∃a' c',e=.returned (.tuple #[.slice a' (wrGB l s ax).length c',.int .i64 (wrGE l s ax)])/\Rb w' a' c' (wrGB l s ax)/\Below w.heap.size w w':=by
 have kl:=hl.lenB;have k2:=hm.lenB;have k3:=hg.lenB;obtain⟨W,hW,X1,hbW⟩:∃W,W=w.alloc (.cells #[.slice ga s.rg.length gc,.slice ma s.rw.length mc] 26)/\Bk 26 W w.heap.size [.slice ga s.rg.length gc,.slice ma s.rw.length mc]/\Below w.heap.size w W:=⟨_,rfl,Bk.new _ _ _,bl1 _⟩;obtain⟨p0,p1,_⟩:=X1.two;have hf1:=zir S a ca l ga gc ma mc s ax W (hl.below hbW) hpt hpp (hg.below hbW) (hm.below hbW) hi;go_enter func22,ntmps22;go_upto_region 1 with fail
 rw[<-hW];clear hW;cases hfo:foG l s ax with
 | false =>
  rw[hfo]at hf1;have HN:Hid (_):=zwp hfo;clear hfo hsz;go_wp2_with fail
  refine hf1.mono ?_;rintro e u ⟨rfl,hb1⟩;have za1:=hbW.trans (hb1.mono hbW.size);clear hf1 p0 p1;go_wp2;go_ret2;exact⟨none,0,by rw[HN.out.1,HN.out.2];rfl,by rw[HN.out.1];exact Rb.nil _ _ _ (qD _) (fun _=>rfl),za1⟩
 | true =>
 rw[hfo]at hf1;have hss:=hsz hfo;have HSS:Hid ((gsB l).length<=990000):=hss;have HFO:Hid (foG l s ax=true):=hfo;obtain⟨⟨hF1,hF2⟩,-,hF4⟩:=zbt.1 hfo;have HEL:Hid (∀k,k<l.length->foT (l.getD k Gl.none).o (l.getD k Gl.none).ts ax=true/\((-32768<=(l.getD k Gl.none).ab/\(l.getD k Gl.none).ab<=32767)/\-32768<=(l.getD k Gl.none).ar/\(l.getD k Gl.none).ar<=32767)):=fun k hk=>by
  obtain⟨-,-,h1,h2⟩:=zd5.1 (hF4 k hk);exact⟨h1,zlc h2⟩
 have HTE:Hid (gsB l=be2 ((l.length:Nat):Int)++glsB l):=rfl;have HTK:Hid (∀k,2+(glsB (l.take k)).length<=990000):=fun k=>by
  have h1:=HSS.out;have h2:glsB l=glsB (l.take k)++glsB (l.drop k):=by rw[<-zaz,List.take_append_drop]
  unfold gsB at h1;rw[qA,h2,qA]at h1;simp[be2]at h1;omega
 clear hfo hsz hss hF4;go_wp2_with fail
 refine hf1.mono ?_;rintro e u ⟨rfl,hb1⟩;have HL:Hid (Gr GlE S u a ca l):=(hl.below hbW).below hb1;have HBW:Hid (Below w.heap.size w u):=hbW.trans (hb1.mono hbW.size);have HPT:Hid (∀x∈l,x.o.cs.flatten.length<=100000):=hpt;have HPP:Hid (∀x∈l,x.o.ps.length<=100000):=hpp;clear hl hg hm hf1 hb1 X1 hbW p0 p1 hpt hpp;go_wp2_with fail
 refine(zgu (l.length:Int) u (by omega) (by omega)).mono ?_;rintro e u1 ⟨v0,rfl,zzx,hB0⟩;obtain⟨Q,hQ⟩:∃Q,be2 ((l.length:Nat):Int)=Q:=⟨_,rfl⟩;have HQL:Hid (Q.length=2):=by show _=_;rw[<-hQ];rfl
 rw[hQ]at zzx HTE;have hI:Bo u.heap.size u1 v0 (Q++glsB (l.take 0)):=by
  rw[List.take_zero,glsB,List.append_nil];exact zzx
 obtain⟨B,hBB⟩:∃g,u.heap.size=g:=⟨_,rfl⟩;have HBB:Hid (u.heap.size=B):=hBB;have HBS:Hid (∀U,Below B u U->B<=U.heap.size):=fun U h=>by rw[<-HBB.out];exact h.size
 rw[hBB]at hI hB0;clear zzx hQ hBB;go_wp2
 go_loopw [8,9] (fun v i wr=>∃k:Nat,k<=l.length/\i=.int .i64 k/\Bo B wr v (Q++glsB (l.take k))/\Hid (frE (l.take k)=0)/\Below B u wr) (fun _ i _=>l.length-(intOf i).toNat)
 case atStart=>exact⟨0,qD _,rfl,hI,rfl,hB0⟩
 case round =>
  clear hI hB0;obtain⟨k,hk,rfl,hBo,HF0,hB⟩:=hrel;by_cases hkn:k<l.length
  . obtain⟨b0,off,xa,xc,qa,qc,ta,tc,ea,hb,hGC,c0,c1,c2,c3,c4,c5⟩:=HL.out.gl (Below.refl _ _) k hkn
    have zc5:l.getD k Gl.none∈l:=(by rw[show l.getD k Gl.none=l[k] by simp[List.getD,hkn]];exact List.getElem_mem _);have hpt:=HPT.out _ zc5;have hpp:=HPP.out _ zc5;obtain⟨hE1,hE2,hE3⟩:=HEL.out k hkn;have HSJ:Hid (_):=zn5 hkn Q;have hlj:=HTK.out (k+1);have HFE:Hid (_):=zxd hkn HF0.out;have hlk:(Q++glsB (l.take k)).length+(glB (l.getD k Gl.none)).length<=990000:=by
     have h1:=congrArg List.length HSJ.out;rw[qA,qA,HQL.out]at h1;omega
    rw[zem]at hlk;obtain⟨a6,c6,e6,-⟩:=hBo.slice;subst e6;obtain⟨x,hx⟩:∃x,l.getD k Gl.none=x:=⟨_,rfl⟩;rw[hx]at hGC c0 c1 c2 c3 c4 c5 hE1 hE2 hE3 HSJ HFE hlk hpt hpp;have HGB:Hid (glB x=be4 (((wrOB x.o).length:Nat):Int)++(wrOB x.o++(be4 (((tuBt x.ts).length:Nat):Int)++(tuBt x.ts++(be2 x.ab++(be2 x.ar++be1 (if x.mr then 1 else 0))))))):=rfl;obtain⟨b2,hb2⟩:∃b2,Q++glsB (l.take k)=b2:=⟨_,rfl⟩;rw[hb2]at hBo HSJ hlk ⊢;have HAT:Hid (∀U,Below B u U->GlC S U xa xc qa qc ta tc x/\U.cell? ⟨b0,off+k*6,none⟩=some (.slice xa x.o.cs.length xc)/\U.cell? ⟨b0,off+k*6+1,none⟩=some (.slice qa x.o.ps.length qc)/\U.cell? ⟨b0,off+k*6+2,none⟩=some (.slice ta x.ts.length tc)/\U.cell? ⟨b0,off+k*6+3,none⟩=some (.int .i64 x.ab)/\U.cell? ⟨b0,off+k*6+4,none⟩=some (.int .i64 x.ar)/\U.cell? ⟨b0,off+k*6+5,none⟩=some (.bool x.mr)):=fun U hU=>by
     rw[<-HBB.out]at hU;exact⟨hGC.below hU,(hU.cell (p:=⟨b0,off+k*6,none⟩) hb).trans c0,(hU.cell (p:=⟨b0,off+k*6+1,none⟩) hb).trans c1,(hU.cell (p:=⟨b0,off+k*6+2,none⟩) hb).trans c2,(hU.cell (p:=⟨b0,off+k*6+3,none⟩) hb).trans c3,(hU.cell (p:=⟨b0,off+k*6+4,none⟩) hb).trans c4,(hU.cell (p:=⟨b0,off+k*6+5,none⟩) hb).trans c5⟩
    subst ea;have i1:(0:Int)<=(k:Int):=(by omega);have i2:(k:Int)<(l.length:Int):=(by omega);obtain⟨e1,gz1,ge10,ge11,he1⟩:=z65G hE2;obtain⟨e2,gz2,ge20,ge21,he2⟩:=z65G hE3;rw[<-he1,<-he2]at HGB;have kcs:=hGC.cs.lenB;have kps:=hGC.ps.lenB;have kts:=hGC.ts.lenB;clear hx hb2 hGC c0 c1 c2 c3 c4 c5 he1 he2 zc5 hlj;obtain⟨hG,d0,d1,-⟩:=HAT.out wr hB;have hwo:=zft S xa xc qa qc x.o wr hG.cs hG.ps hpt;clear hG;go_wp2_with fail
    refine hwo.mono ?_;rintro e u5 ⟨a1,c1,rfl,hOo,hb5⟩;have hAo:=zic (b2:=0) hBo hOo (qE _);replace hBo:=hBo.below hb5;replace hB:=hB.trans (hb5.mono (HBS.out _ hB));clear hwo hb5 d0 d1;by_cases he:wrOE x.o=0;rotate_left
    . have g1:(wrOE x.o != 0)=true:=bne_iff_ne.2 he
      have HN:Hid (wrGB l s ax=[]/\wrGE l s ax=wrOE x.o):=by
       have h1:=HFE.out.1 he;have h2:=zqi HFO.out (by rw[h1];exact he);exact⟨h2.1,h2.2.trans h1⟩
      have hBw:Below w.heap.size w u5:=HBW.out.trans (hB.mono (by have:=HBW.out.size;rw[HBB.out]at this;exact this));clear he hBo hOo hAo HFE HSJ hB;go_wp2;go_ret2;exact⟨none,0,by rw[HN.out.1,HN.out.2];rfl,by rw[HN.out.1];exact Rb.nil _ _ _ (qD _) (fun _=>rfl),hBw⟩
    have HF5:Hid (frE (l.take (k+1))=0):=HFE.out.2 he;rw[he];clear HFE he HF0;go_upto_region 10 with fail
    obtain⟨hG,d0,d1,d2,-⟩:=HAT.out u5 hB;clear hG;refine wp_region_held_drew (S:=fun w9=>w9.cell? ⟨b0,off+k*6,none⟩=some (.slice xa x.o.cs.length xc)/\w9.cell? ⟨b0,off+k*6+1,none⟩=some (.slice qa x.o.ps.length qc)/\w9.cell? ⟨b0,off+k*6+2,none⟩=some (.slice ta x.ts.length tc)) (by kernel_rfl) ?_ (fun hH=>?_)
    . (try dsimp only)
      go_keep
    have hdr:Below u5.heap.size u5 u5.drew:=Below.drew1;generalize u5.drew=Z at hdr hH ⊢;replace hBo:=hBo.below hdr;replace hOo:=hOo.below hdr;replace hB:=hB.trans (hdr.mono (HBS.out _ hB));clear hdr d0 d1 d2;refine hT 0 hH ?_;refine hT 1 hH ?_;refine hT 2 hH ?_;refine hT 3 hH ?_;refine hT 4 hH ?_;refine hT 5 hH ?_;refine hT 6 hH ?_;refine hT 7 hH ?_;refine hT 8 hH ?_;refine hT 9 hH ?_;refine hT 10 hH ?_;obtain⟨hG,-⟩:=HAT.out Z hB;have hwt:=zfs S xa xc qa qc x.o S ta tc x.ts ax Z hG.cs hG.ps hG.ts hpt hpp hi;rw[(zbo hE1).1,(zbo hE1).2]at hwt;clear hG;refine hCall (i:=11) rfl (by kernel_rfl) (by rfl) (fun K hK=>?_);go_simp;refine hwt.mono ?_;rintro e u6 ⟨a2,c2,rfl,hOt,hb6⟩;have hAt:=zic (b2:=0) hBo hOt (qE _);replace hBo:=hBo.below hb6;replace hOo:=hOo.below hb6;replace hB:=hB.trans (hb6.mono (HBS.out _ hB));clear hwt hb6;go_wp2_with fail
    refine hK.out _ _ ?_ (fun hH=>?_)
    . (try dsimp only)
      obtain⟨-,d0,d1,d2,-⟩:=HAT.out u6 hB;exact⟨d0,d1,d2⟩
    clear hK K;try simp only[Act.put,pZ]
    refine hT 12 hH ?_;refine hT 13 hH ?_;refine hT 14 hH ?_;refine hT 15 hH ?_;refine hT 16 hH ?_;refine wpAnyH_done (by kernel_rfl) ?_ _;clear hH hE1;obtain⟨O,hO⟩:∃o,wrOB x.o=o:=⟨_,rfl⟩;obtain⟨T,hTT⟩:∃o,tuBt x.ts=o:=⟨_,rfl⟩;rw[hO]at hOo hAo HGB hlk;rw[hTT]at hOt hAt HGB hlk;rw[hO,hTT];clear hO hTT;have HL0:Hid (b2.length+(13+O.length+T.length)<=990000):=(by show _<=_;omega);have hOl:O.length<=990000:=(by omega);have hTl:T.length<=990000:=(by omega);clear hlk;go_wp2_with fail
    refine(zok ((O.length:Nat):Int) _ (by omega) (by omega)).mono ?_;rintro e uq ⟨ab,cb,rfl,hrb,hb⟩;replace hBo:=hBo.below hb;replace hOo:=hOo.below hb;replace hOt:=hOt.below hb;replace hB:=hB.trans (hb.mono (HBS.out _ hB));clear hb;have hbs:B<=_:=HBS.out _ hB;have hll:b2.length+(be4 ((O.length:Nat):Int)).length<=1000000:=(by rw[show(be4 ((O.length:Nat):Int)).length=4 from rfl];have:=HL0.out;omega);go_wp2_with (at_builtin;refine zae rfl _ _ rfl B _ b2 rfl hBo _ _ _ (be4 ((O.length:Nat):Int)) rfl rfl hrb hll hbs ?_)
    intro q1 w1 zsq hgrow hfr;have hB1:=hB.grown hgrow hbs (fun q hq=>(hBo.lo hq).1);have hAo':=hAo.of hOo hfr;replace hOo:=hOo.grownA hgrow hAo;replace hAo:=hAo';clear hAo';have zw8:=hAt.of hOt hfr;replace hOt:=hOt.grownA hgrow hAt;replace hAt:=zw8;clear zw8;clear hBo hB hll hbs hgrow hfr hrb;obtain⟨r1,hr1⟩:∃s,b2++be4 ((O.length:Nat):Int)=s:=⟨_,rfl⟩;have HR1:Hid (b2++be4 ((O.length:Nat):Int)=r1):=hr1;have HL1:Hid (r1.length+(9+O.length+T.length)<=990000):=(by show _<=_;rw[<-hr1,qA,show(be4 ((O.length:Nat):Int)).length=4 from rfl];have:=HL0.out;omega);rw[hr1]at zsq;clear hr1;have hBo:=zsq;have hB:=hB1;clear zsq hB1;obtain⟨av1,cv1,ev1,-⟩:=hBo.slice;subst ev1;obtain hRo:=hOo.rb;have hbs:B<=_:=HBS.out _ hB;have hll:r1.length+O.length<=1000000:=(by have:=HL1.out;omega);go_wp2_with (at_builtin;refine zae rfl _ _ rfl B _ r1 rfl hBo _ _ _ (O) rfl rfl hRo hll hbs ?_)
    intro q2 w2 zsp hgrow hfr;have hB2:=hB.grown hgrow hbs (fun q hq=>(hBo.lo hq).1);have zw8:=hAt.of hOt hfr;replace hOt:=hOt.grownA hgrow hAt;replace hAt:=zw8;clear zw8;clear hBo hB hll hbs hgrow hfr hRo;obtain⟨r2,hr2⟩:∃s,r1++O=s:=⟨_,rfl⟩;have HR2:Hid (r1++O=r2):=hr2;have HL2:Hid (r2.length+(9+T.length)<=990000):=(by show _<=_;rw[<-hr2,qA];have:=HL1.out;omega);rw[hr2]at zsp;clear hr2;have hBo:=zsp;have hB:=hB2;clear zsp hB2;obtain⟨av2,cv2,ev2,-⟩:=hBo.slice;subst ev2;clear hOo hAo;go_wp2_with fail
    refine(zok ((T.length:Nat):Int) _ (by omega) (by omega)).mono ?_;rintro e uq ⟨ab,cb,rfl,hrb,hb⟩;replace hBo:=hBo.below hb;replace hOt:=hOt.below hb;replace hB:=hB.trans (hb.mono (HBS.out _ hB));clear hb;have hbs:B<=_:=HBS.out _ hB;have hll:r2.length+(be4 ((T.length:Nat):Int)).length<=1000000:=(by rw[show(be4 ((T.length:Nat):Int)).length=4 from rfl];have:=HL2.out;omega);go_wp2_with (at_builtin;refine zae rfl _ _ rfl B _ r2 rfl hBo _ _ _ (be4 ((T.length:Nat):Int)) rfl rfl hrb hll hbs ?_)
    intro q3 w3 zso hgrow hfr;have hB3:=hB.grown hgrow hbs (fun q hq=>(hBo.lo hq).1);have zw8:=hAt.of hOt hfr;replace hOt:=hOt.grownA hgrow hAt;replace hAt:=zw8;clear zw8;clear hBo hB hll hbs hgrow hfr hrb;obtain⟨r3,hr3⟩:∃s,r2++be4 ((T.length:Nat):Int)=s:=⟨_,rfl⟩;have HR3:Hid (r2++be4 ((T.length:Nat):Int)=r3):=hr3;have HL3:Hid (r3.length+(5+T.length)<=990000):=(by show _<=_;rw[<-hr3,qA,show(be4 ((T.length:Nat):Int)).length=4 from rfl];have:=HL2.out;omega);rw[hr3]at zso;clear hr3;have hBo:=zso;have hB:=hB3;clear zso hB3;obtain⟨av3,cv3,ev3,-⟩:=hBo.slice;subst ev3;obtain hRt:=hOt.rb;have hbs:B<=_:=HBS.out _ hB;have hll:r3.length+T.length<=1000000:=(by have:=HL3.out;omega);go_wp2_with (at_builtin;refine zae rfl _ _ rfl B _ r3 rfl hBo _ _ _ (T) rfl rfl hRt hll hbs ?_)
    intro q4 w4 hBo4 hgrow hfr;have hB4:=hB.grown hgrow hbs (fun q hq=>(hBo.lo hq).1);clear hBo hB hll hbs hgrow hfr hRt;obtain⟨r4,hr4⟩:∃s,r3++T=s:=⟨_,rfl⟩;have HR4:Hid (r3++T=r4):=hr4;have HL4:Hid (r4.length+(5)<=990000):=(by show _<=_;rw[<-hr4,qA];have:=HL3.out;omega);rw[hr4]at hBo4;clear hr4;have hBo:=hBo4;have hB:=hB4;clear hBo4 hB4;obtain⟨av4,cv4,ev4,-⟩:=hBo.slice;subst ev4;clear hOt hAt;obtain⟨hG,d0,d1,d2,d3,d4,d5⟩:=HAT.out _ hB;clear hG d0 d1 d2 d5 d4;go_wp2_with fail
    refine(zbf e1 _ ge10 ge11).mono ?_;rintro e uq ⟨ab,cb,rfl,hrb,hb⟩;replace hBo:=hBo.below hb;replace hB:=hB.trans (hb.mono (HBS.out _ hB));clear hb d3;have hbs:B<=_:=HBS.out _ hB;have hll:r4.length+(be2 e1).length<=1000000:=(by rw[show(be2 e1).length=2 from rfl];have:=HL4.out;omega);go_wp2_with (at_builtin;refine zae rfl _ _ rfl B _ r4 rfl hBo _ _ _ (be2 e1) rfl rfl hrb hll hbs ?_)
    intro q5 w5 zvn hgrow hfr;have hB5:=hB.grown hgrow hbs (fun q hq=>(hBo.lo hq).1);clear hBo hB hll hbs hgrow hfr hrb;obtain⟨r5,hr5⟩:∃s,r4++be2 e1=s:=⟨_,rfl⟩;have HR5:Hid (r4++be2 e1=r5):=hr5;have HL5:Hid (r5.length+(3)<=990000):=(by show _<=_;rw[<-hr5,qA,show(be2 e1).length=2 from rfl];have:=HL4.out;omega);rw[hr5]at zvn;clear hr5;have hBo:=zvn;have hB:=hB5;clear zvn hB5;obtain⟨av5,cv5,ev5,-⟩:=hBo.slice;subst ev5;obtain⟨hG,d0,d1,d2,d3,d4,d5⟩:=HAT.out _ hB;clear hG d0 d1 d2 d5 d3;go_wp2_with fail
    refine(zbf e2 _ ge20 ge21).mono ?_;rintro e uq ⟨ab,cb,rfl,hrb,hb⟩;replace hBo:=hBo.below hb;replace hB:=hB.trans (hb.mono (HBS.out _ hB));clear hb d4;have hbs:B<=_:=HBS.out _ hB;have hll:r5.length+(be2 e2).length<=1000000:=(by rw[show(be2 e2).length=2 from rfl];have:=HL5.out;omega);go_wp2_with (at_builtin;refine zae rfl _ _ rfl B _ r5 rfl hBo _ _ _ (be2 e2) rfl rfl hrb hll hbs ?_)
    intro q6 w6 hBo6 hgrow hfr;have hB6:=hB.grown hgrow hbs (fun q hq=>(hBo.lo hq).1);clear hBo hB hll hbs hgrow hfr hrb;obtain⟨r6,hr6⟩:∃s,r5++be2 e2=s:=⟨_,rfl⟩;have HR6:Hid (r5++be2 e2=r6):=hr6;have HL6:Hid (r6.length+(1)<=990000):=(by show _<=_;rw[<-hr6,qA,show(be2 e2).length=2 from rfl];have:=HL5.out;omega);rw[hr6]at hBo6;clear hr6;have hBo:=hBo6;have hB:=hB6;clear hBo6 hB6;obtain⟨av6,cv6,ev6,-⟩:=hBo.slice;subst ev6;obtain⟨hG,d0,d1,d2,d3,d4,d5⟩:=HAT.out _ hB;clear hG d0 d1 d2 d3 d4;have hll:r6.length+1<=1000000:=(by have:=HL6.out;omega);rw[z3o]at HGB;have HFI:Hid (r6++[if x.mr then 1 else 0]=Q++glsB (l.take (k+1))):=by
     show _=_;rw[HSJ.out,HGB.out,<-HR6.out,<-HR5.out,<-HR4.out,<-HR3.out,<-HR2.out,<-HR1.out];simp only[qI]
    clear HSJ HGB HR1 HR2 HR3 HR4 HR5 HR6;cases hmr:x.mr with
    | false =>
     rw[hmr]at d5 HFI;simp only[Bool.false_eq_true,if_false,if_true]at HFI;clear hmr;go_upto_region 20 with fail
     clear d5;have bp:=bl1 (w:=w6) (.cells #[.int .u8 ((0:Nat):Int)] 5);have hT8:=hBo.below bp;have hN:=Bk.new 5 w6 [.int .u8 ((0:Nat):Int)];have n0:=hN.cell 0 (by simp);have hB8:=hB.trans (bp.mono (HBS.out _ hB));have zzn:=HBS.out _ hB8;clear hN bp hBo hB;go_wp2_with (at_builtin;refine zaj rfl _ _ rfl B _ r6 rfl hT8 w6.heap.size 0 rfl n0 (by decide) hll zzn ?_)
     intro v10 z2 zzt hgrow;have zh0:Below B u z2:=hB8.grown hgrow zzn (fun k hk=>(hT8.lo hk).1);rw[HFI.out]at zzt;clear hgrow hT8 hB8 zzn n0;go_wp2;go_roundw
     case rel=>exact⟨k+1,by omega,by go_num,zzt,HF5,zh0⟩
     case measure=>simp[intOf];omega
    | true =>
     rw[hmr]at d5 HFI;simp only[Bool.false_eq_true,if_false,if_true]at HFI;clear hmr;go_upto_region 20 with fail
     clear d5;have bp:=bl1 (w:=w6) (.cells #[.int .u8 ((1:Nat):Int)] 5);have hT8:=hBo.below bp;have hN:=Bk.new 5 w6 [.int .u8 ((1:Nat):Int)];have n0:=hN.cell 0 (by simp);have hB8:=hB.trans (bp.mono (HBS.out _ hB));have zzn:=HBS.out _ hB8;clear hN bp hBo hB;go_wp2_with (at_builtin;refine zaj rfl _ _ rfl B _ r6 rfl hT8 w6.heap.size 1 rfl n0 (by decide) hll zzn ?_)
     intro v10 z2 zzt hgrow;have zh0:Below B u z2:=hB8.grown hgrow zzn (fun k hk=>(hT8.lo hk).1);rw[HFI.out]at zzt;clear hgrow hT8 hB8 zzn n0;go_wp2;go_roundw
     case rel=>exact⟨k+1,by omega,by go_num,zzt,HF5,zh0⟩
     case measure=>simp[intOf];omega
  . obtain rfl:k=l.length:=by omega
    have g4:¬(l.length:Int)<(l.length:Int):=(by omega);have HF9:Hid (frE l=0):=by
     have h:=HF0.out;rw[List.take_length]at h;exact h
    rw[List.take_length,<-HTE.out]at hBo;have hBw:Below w.heap.size w wr:=HBW.out.trans (hB.mono (by have:=HBW.out.size;rw[HBB.out]at this;exact this));obtain⟨a9,c9,e9,hr9⟩:=hBo.slice;subst e9;have HN:Hid (_):=zqh HFO.out HF9.out (qF HSS.out (by decide));have g5:¬(1048576:Int)<((gsB l).length:Int):=(by have:=HSS.out;omega);generalize hgg:gsB l=gg at *;clear hBo hB HF0;go_wp2;go_ret2;exact⟨a9,c9,by rw[HN.out.1,HN.out.2];rfl,by rw[HN.out.1];exact hr9,hBw⟩
def blkP(xs:LN)(p:Nat):Nat:=if inB xs.length ((p:Int)+4) (nmV xs (p:Int) 4:Int)=true then p+4+nmV xs (p:Int) 4 else p
theorem zk9(sb:Nat)(a:OA)(cap:Nat)(xs:LN)(p:Nat)(w:World)(hX:Bk 101 w sb [.slice a xs.length cap,.int .i64 (p:Int)])(hr:Rb w a cap xs)(hl:xs.length<=1048576)(hp:p<=2000000) :
 Calls Tryz.prog 88 #[.pointer (some ⟨sb,0,none⟩)] w fun e w'=>∃(a1:OA) (c1 p':Nat),e=.returned (.slice a1 (cutV xs ((p:Int)+4) (nmV xs (p:Int) 4:Int)).length c1)/\Rb w' a1 c1 (cutV xs ((p:Int)+4) (nmV xs (p:Int) 4:Int))/\(∀b o,a1=some ⟨b,o,none⟩->w.heap.size<=b)/\Bk 101 w' sb [.slice a xs.length cap,.int .i64 (p':Int)]/\Hid (p'=blkP xs p)/\Kp sb w w':=by
 obtain⟨q0,q1,-⟩:=hX.two;have hsl:=hX.lt;have hcp:=hr.cap;have hu:=fun U (hU:Below w.heap.size w U)=>zxw a cap xs (p:Int) U (hr.below hU) ⟨by omega,by omega⟩;have hnb:nmV xs (p:Int) 4<=4294967295:=by have:=zam hr.lim (p:Int) 4;omega
 have hc:=fun U (hU:Below w.heap.size w U)=>z0k a cap xs ((p+4:Nat):Int) (nmV xs (p:Int) 4:Int) U (hr.below hU) ⟨by omega,by omega⟩ ⟨by omega,by omega⟩ (by omega);have HBP1:Hid (inB xs.length ((p:Int)+4) (nmV xs (p:Int) 4:Int)=true->p+4+nmV xs (p:Int) 4=blkP xs p):=fun h=>by unfold blkP;rw[if_pos h]
 have HBP0:Hid (inB xs.length ((p:Int)+4) (nmV xs (p:Int) 4:Int)=false->p=blkP xs p):=fun h=>by unfold blkP;rw[if_neg (by rw[h];decide)]
 generalize nmV xs (p:Int) 4=n at *;have hw4:IntKind.i64.wrap ((p:Int)+4)=((p+4:Nat):Int):=by rw[zbn (by omega) (by omega)];omega
 go_enter func88,ntmps88;go_upto_region 1 with fail
 refine wp_region_held_drew (S:=fun w9=>w9.cell? ⟨sb,0,none⟩=some (.slice a xs.length cap)/\w9.cell? ⟨sb,1,none⟩=some (.int .i64 (p:Int))) (by kernel_rfl) ?_ (fun hH=>?_)
 . (try dsimp only)
   go_keep
 have hdr:Below w.heap.size w w.drew:=Below.drew1;generalize w.drew=Z at hdr hH ⊢;refine hT 0 hH ?_;refine hT 1 hH ?_;refine hT 2 hH ?_;refine hT 3 hH ?_;refine hT 4 hH ?_;refine hT 5 hH ?_;refine hT 6 hH ?_;refine hT 7 hH ?_;refine hCall (i:=8) rfl (by kernel_rfl) (by rfl) (fun K hK=>?_);go_simp;refine(hu _ hdr).mono ?_;rintro e u ⟨rfl,rfl⟩;go_wp2_with fail
 refine hK.out _ _ ?_ (fun hH=>?_)
 . (try dsimp only)
   exact hH
 clear hK K;try simp only[Act.put,pZ]
 refine hT 9 hH ?_;refine hT 10 hH ?_;refine hT 11 hH ?_;refine hT 12 hH ?_;refine hT 13 hH ?_;refine wpAnyH_done (by kernel_rfl) ?_ _;clear hu q0 q1;obtain⟨q0,q1⟩:=hH;go_upto_region 2 with fail
 refine wp_region_held_drew (S:=fun w9=>w9.cell? ⟨sb,0,none⟩=some (.slice a xs.length cap)/\w9.cell? ⟨sb,1,none⟩=some (.int .i64 (p:Int))) (by kernel_rfl) ?_ (fun hH=>?_)
 . (try dsimp only)
   go_keep
 have hdr2:Below Z.heap.size Z Z.drew:=Below.drew1;replace hdr:=hdr.trans (hdr2.mono hdr.size);generalize Z.drew=Z2 at hdr hH ⊢;clear hdr2 q0 q1;refine hT 0 hH ?_;refine hT 1 hH ?_;refine hT 2 hH ?_;refine hT 3 hH ?_;refine hT 4 hH ?_;refine hT 5 hH ?_;refine hT 6 hH ?_;refine hT 7 hH ?_;refine hT 8 hH ?_;refine hT 9 hH ?_;try rw[hw4]
 refine hCall (i:=10) rfl (by kernel_rfl) (by rfl) (fun K hK=>?_);go_simp;refine(hc _ hdr).mono ?_;rintro e u ⟨a1,c1,rfl,hr1,hb1⟩;have hbw:=hdr.trans (hb1.mono hdr.size);have hXu:=hX.below hbw;have hds:=hdr.size;have hbs:=hb1.size;go_wp2_with fail
 refine hK.out _ _ ?_ (fun hH=>?_)
 . (try dsimp only)
   exact⟨hXu.two.1,hXu.two.2.1⟩
 clear hK K;try simp only[Act.put,pZ]
 refine hT 11 hH ?_;refine hT 12 hH ?_;refine hT 13 hH ?_;refine hT 14 hH ?_;refine hT 15 hH ?_;refine wpAnyH_done (by kernel_rfl) ?_ _;clear hH hc;have hlo:∀b o,a1=some ⟨b,o,none⟩->w.heap.size<=b:=fun b o e=>qF hds (hr1.lo15 b o e);have hrb:=hr1.rd;have e4:((p+4:Nat):Int)=(p:Int)+4:=by omega
 have e7:((p+4+n:Nat):Int)=(p:Int)+(4+(n:Int)):=by omega
 have e8:(p:Int)+4+(n:Int)=(p:Int)+(4+(n:Int)):=by omega
 rw[e4]at hrb;obtain⟨q0,q1,f0,f1⟩:=hXu.two;have HKw:Hid (Kp sb w u):=Kp.of hbw;have HXU:Hid (Bk 101 u sb [.slice a xs.length cap,.int .i64 (p:Int)]):=hXu;have HR1:Hid (Rb u a1 c1 (cutV xs ((p:Int)+4) (n:Int))):=hrb;have HE8:Hid ((p:Int)+4+(n:Int)=(p:Int)+(4+(n:Int))):=e8;try rw[e4]
 try rw[e7]
 clear e4 e7 e8 hw4;cases hin:inB xs.length ((p:Int)+4) (n:Int) with
 | false =>
  have HQ:Hid (p=blkP xs p):=HBP0.out hin;clear hin hX hdr hb1 hbw hXu hr1 hr hrb;go_wp2;go_ret;exact⟨a1,c1,p,rfl,HR1.out,hlo,HXU.out,HQ,HKw.out⟩
 | true =>
  have HQ:Hid (p+4+n=blkP xs p):=HBP1.out hin;have hw5:IntKind.i64.wrap (4+(n:Int))=4+(n:Int):=zbn (by omega) (by omega);have hw6:IntKind.i64.wrap ((p:Int)+(4+(n:Int)))=(p:Int)+(4+(n:Int)):=zbn (by omega) (by omega);have HB2:Hid (Bk 101 (u.setCell ⟨sb,1,none⟩ (.int .i64 ((p:Int)+(4+(n:Int))))) sb [.slice a xs.length cap,.int .i64 ((p:Int)+(4+(n:Int)))]):=HXU.out.set 1 _
  have HR2:Hid (Rb (u.setCell ⟨sb,1,none⟩ (.int .i64 ((p:Int)+(4+(n:Int))))) a1 c1 (cutV xs ((p:Int)+4) (n:Int))):=hrb.kept (Keep.setCell (Keep.refl (fun k=>k≠sb) u) (p:=⟨sb,1,none⟩) (fun h=>h rfl) _) (fun b o e=>by
   show b≠sb;have:=hlo b o e
   omega)
  have HK2:Hid (Kp sb w (u.setCell ⟨sb,1,none⟩ (.int .i64 ((p:Int)+(4+(n:Int)))))):=HKw.out.setCell 1 _;clear hin hX hdr hb1 hbw hXu hr1 hr hrb;go_wp2;try rw[hw5]
  try rw[hw6]
  go_ret;refine⟨a1,c1,p+4+n,rfl,HR2.out,hlo,?_,HQ,HK2.out⟩;rw[show((p+4+n:Nat):Int)=(p:Int)+(4+(n:Int)) by omega];exact HB2.out
theorem zgh{X:LN}(h:rdOE X=0):wrOE (rdOL X)=0/\wrOB (rdOL X)=X:=by
 unfold rdOE at h;by_cases hk:rdOk X=true
 . unfold rdOL
   rw[if_pos hk];exact zjf.1 hk
 . rw[if_neg hk]at h
   exact absurd h (by decide)
theorem zge{X:LN}{o:Ol}{ax:Int}(h:rdTE X o ax=0):foT o (rdTL X o ax) ax=true/\tuBt (rdTL X o ax)=X:=by
 unfold rdTE at h;by_cases hk:rdTOk X o ax=true
 . exact zrc hk
 . rw[if_neg hk]at h
   exact absurd h (by decide)
theorem zhn{b:LN}{ax:Int}{p:Nat}{x:Gl}{q:Nat}(h:rdGl b ax p=some (x,q)):q=g4 b p+5/\g4 b p+5<=b.length/\rdOE (gOb b p)=0/\rdTE (gTb b p) (rdOL (gOb b p)) ax=0/\x=⟨rdOL (gOb b p),rdTL (gTb b p) (rdOL (gOb b p)) ax,sx16 (nmV b (g4 b p:Int) 2),sx16 (nmV b ((g4 b p+2:Nat):Int) 2),decide (nmV b ((g4 b p+4:Nat):Int) 1=1)⟩:=by
 unfold rdGl at h;by_cases hk:g4 b p+5<=b.length/\rdOE (gOb b p)=0/\rdTE (gTb b p) (rdOL (gOb b p)) ax=0
 . rw[if_pos hk]at h
   injection h with h;injection h with h1 h2;exact⟨h2.symm,hk.1,hk.2.1,hk.2.2,h1.symm⟩
 . rw[if_neg hk]at h
   cases h
theorem znr{b:LN}{ax:Int}{p:Nat}(h1:g4 b p+5<=b.length)(h2:rdOE (gOb b p)=0)(h3:rdTE (gTb b p) (rdOL (gOb b p)) ax=0):rdGl b ax p=some (⟨rdOL (gOb b p),rdTL (gTb b p) (rdOL (gOb b p)) ax,sx16 (nmV b (g4 b p:Int) 2),sx16 (nmV b ((g4 b p+2:Nat):Int) 2),decide (nmV b ((g4 b p+4:Nat):Int) 1=1)⟩,g4 b p+5):=by
 unfold rdGl;rw[if_pos ⟨h1,h2,h3⟩]
theorem zjg{b:LN}{ax:Int}{p:Nat}(h:¬(g4 b p+5<=b.length/\rdOE (gOb b p)=0/\rdTE (gTb b p) (rdOL (gOb b p)) ax=0)):rdGl b ax p=none:=by
 unfold rdGl;rw[if_neg h]
theorem cutB{b:LN}(hb:Byt b)(p n:Nat):Byt ((b.drop p).take n):=fun x hx=>hb x (List.mem_of_mem_drop (List.mem_of_mem_take hx))
theorem ziv{b:LN}{p n:Nat}(h:p+n<=b.length):nmV b (p:Int) n=V8 ((b.drop p).take n):=by
 have e:inB b.length (p:Int) n=true:=by simp only[inB,qM];omega
 rw[nmV,if_pos e,Int.toNat_natCast]
theorem zj4{b:LN}{p n:Nat}(h:p+n<=b.length):cutV b (p:Int) (n:Int)=(b.drop p).take n:=by
 rw[zd7 (by simp only[inB,qM];omega),Int.toNat_natCast,Int.toNat_natCast]
theorem zxm{xs:LN}(h:Byt xs)(hl:xs.length=4):be4 ((V8 xs:Nat):Int)=xs:=by
 match xs,hl with
 | [a,b,c,d],_ =>
  have ha:=h a (by simp);have hb:=h b (by simp);have hc:=h c (by simp);have hd:=h d (by simp);have e:V8 [a,b,c,d]=16777216*a+(65536*b+(256*c+d)):=by simp only[V8,List.foldl_cons,List.foldl_nil];omega
  rw[e];simp only[be4,List.cons.injEq,and_true];refine⟨by omega,by omega,by omega,by omega⟩
theorem z3n{xs:LN}(h:Byt xs)(hl:xs.length=1):be1 ((V8 xs:Nat):Int)=xs:=by
 match xs,hl with
 | [a],_ =>
  have ha:=h a (by simp);have e:V8 [a]=a:=by simp only[V8,List.foldl_cons,List.foldl_nil];omega
  rw[e];simp only[be1,List.cons.injEq,and_true];omega
theorem tkdr(b:LN){p m n r:Nat}(h:r=p+m):(b.drop p).take m++(b.drop r).take n=(b.drop p).take (m+n):=by
 rw[h,List.take_add,List.drop_drop]
theorem zvp{b:LN}(hb:Byt b){ax:Int}{p:Nat}{x:Gl}{q:Nat}(h:rdGl b ax p=some (x,q))(hm:nmV b ((g4 b p+4:Nat):Int) 1<=1):glB x=(b.drop p).take (q-p)/\p<=q/\q<=b.length/\wrOE x.o=0:=by
 obtain⟨h1,h2,h3,h4,rfl⟩:=zhn h;obtain⟨o1,o2⟩:=zgh h3;obtain⟨t1,t2⟩:=zge h4;have e4:g4 b p=p+4+g1 b p+4+g3 b p:=rfl;have e2:g2 b p=p+4+g1 b p:=rfl;refine⟨?_,by omega,by omega,o1⟩;unfold glB;dsimp only;rw[o2,t2];have c1:gOb b p=(b.drop (p+4)).take (g1 b p):=zj4 (by omega);have c2:gTb b p=(b.drop (g2 b p+4)).take (g3 b p):=zj4 (by omega);have l1:(gOb b p).length=g1 b p:=by rw[c1,qL,qJ];omega
 have l2:(gTb b p).length=g3 b p:=by rw[c2,qL,qJ];omega
 have b1:be4 ((g1 b p:Nat):Int)=(b.drop p).take 4:=by
  unfold g1;rw[ziv (by omega)];exact zxm (cutB hb _ _) (by rw[qL,qJ];omega)
 have b2:be4 ((g3 b p:Nat):Int)=(b.drop (g2 b p)).take 4:=by
  unfold g3;rw[ziv (by omega)];exact zxm (cutB hb _ _) (by rw[qL,qJ];omega)
 have b3:be2 (sx16 (nmV b (g4 b p:Int) 2))=(b.drop (g4 b p)).take 2:=by
  rw[ziv (by omega)];exact zxl (cutB hb _ _) (by rw[qL,qJ];omega)
 have b4:be2 (sx16 (nmV b ((g4 b p+2:Nat):Int) 2))=(b.drop (g4 b p+2)).take 2:=by
  rw[ziv (by omega)];exact zxl (cutB hb _ _) (by rw[qL,qJ];omega)
 have b5:be1 (if decide (nmV b ((g4 b p+4:Nat):Int) 1=1)=true then 1 else 0)=(b.drop (g4 b p+4)).take 1:=by
  have e5:(if decide (nmV b ((g4 b p+4:Nat):Int) 1=1)=true then (1:Int)else 0)=((nmV b ((g4 b p+4:Nat):Int) 1:Nat):Int):=by
   split
   . rename_i hh
     have:=of_decide_eq_true hh;omega
   . rename_i hh
     have:¬nmV b ((g4 b p+4:Nat):Int) 1=1:=fun h=>hh (qC h);omega
  rw[e5,ziv (by omega)];exact z3n (cutB hb _ _) (by rw[qL,qJ];omega)
 rw[l1,l2,b1,b2,b3,b4,b5,c1,c2];rw[tkdr b (p:=g4 b p+2) (r:=g4 b p+4) (m:=2) rfl,tkdr b (p:=g4 b p) (r:=g4 b p+2) (m:=2) rfl,tkdr b (p:=g2 b p+4) (r:=g4 b p) (m:=g3 b p) rfl,tkdr b (p:=g2 b p) (r:=g2 b p+4) (m:=4) rfl,tkdr b (p:=p+4) (r:=g2 b p) (m:=g1 b p) rfl,tkdr b (p:=p) (r:=p+4) (m:=4) rfl];congr 1;omega
structure KgI(b:LN)(ax:Int)(k:Nat)(l:List Gl)(q:Nat):Prop where
 rd:rdGk b ax k=some (l,q)
 bs:glsB l=(b.drop 2).take (q-2)
 lo:2<=q
 fr:frE l=0
 hi:0<k->q<=b.length
theorem KgI.zero(b:LN)(ax:Int):KgI b ax 0 [] 2:=⟨rfl,rfl,qE _,rfl,fun h=>absurd h (by decide)⟩
theorem zkw{b:LN}{ax:Int}{k:Nat}{l:List Gl}{q:Nat}(h:rdGk b ax k=some (l,q)){x:Gl}{q2:Nat}(ht:rdGl b ax q=some (x,q2)):rdGk b ax (k+1)=some (l++[x],q2):=by
 rw[rdGk,h,Option.bind_some];dsimp only;rw[ht];rfl
theorem zkx{b:LN}{ax:Int}{k:Nat}{l:List Gl}{q:Nat}(h:rdGk b ax k=some (l,q))(ht:rdGl b ax q=none):rdGk b ax (k+1)=none:=by
 rw[rdGk,h,Option.bind_some];dsimp only;rw[ht];rfl
theorem KgI.succ{b:LN}(hb:Byt b){ax:Int}{k:Nat}{l:List Gl}{q:Nat}(h:KgI b ax k l q){x:Gl}{q2:Nat}(ht:rdGl b ax q=some (x,q2))(hm:nmV b ((g4 b q+4:Nat):Int) 1<=1):KgI b ax (k+1) (l++[x]) q2:=by
 obtain⟨r1,r2,r3,r4⟩:=zvp hb ht hm;have h3:=h.lo;refine⟨zkw h.rd ht,?_,by omega,?_,fun _=>r3⟩
 . rw[zaz,ze7,h.bs,r1,tkdr b (by omega)]
   congr 1;omega
 . rw[zfj,if_pos h.fr]
   simp[frE,r4]
theorem zu8{xs:LN}(h:0<nmV xs 0 2):2<=xs.length:=by
 unfold nmV at h;cases hi:inB xs.length 0 2 with
 | false=>rw[show inB xs.length 0 ((2:Nat):Int)=false from hi]at h;simp at h
 | true=>simp[inB]at hi;omega
theorem KgI.good{b:LN}(hb:Byt b){s:Sr}{ax:Int}{l:List Gl}(h:KgI b ax (nmV b 0 2) l b.length)(hf:foG l s ax=true)(hl:b.length<=1048576):rdGL b s ax=l/\rdGE b s ax=0:=by
 have h1:=zjh h.rd;have h2:=(zbt.1 hf).1.1;have h3:=zu8 (xs:=b) (by omega);have e1:be2 ((l.length:Nat):Int)=b.take 2:=by
  rw[h1];have e:=ziv (b:=b) (p:=0) (n:=2) (by omega);rw[show((0:Nat):Int)=0 from rfl,List.drop_zero]at e;rw[e];exact be_V8 (fun x hx=>hb x (List.mem_of_mem_take hx)) (by rw[qL];omega)
 have e2:gsB l=b:=by
  unfold gsB;rw[e1,h.bs,show(b.drop 2).take (b.length-2)=b.drop 2 from List.take_of_length_le (by rw[qJ];omega),List.take_append_drop]
 exact zks h.rd (zbx.2 ⟨hf,h.fr,by rw[e2];exact hl⟩) e2
theorem KgI.bad1{b:LN}{s:Sr}{ax:Int}{k:Nat}{l:List Gl}{q:Nat}(h:KgI b ax k l q)(hk:k<nmV b 0 2)(ht:rdGl b ax q=none):rdGOk b s ax=false:=zkt (zkx h.rd ht) hk
theorem zrl{b:LN}{s:Sr}{ax:Int}{k:Nat}{l:List Gl}{q:Nat}(h:KgI b ax k l q)(hk:k<=nmV b 0 2)(ho:rdGOk b s ax=true):∃m:List Gl,wrGE m s ax=0/\gsB m=b/\m.length=nmV b 0 2/\l=m.take k/\q=2+(glsB (m.take k)).length:=by
 obtain⟨h1,h2⟩:=zyt ho;have h3:=(zbt.1 (zbx.1 h1).1).1.2;generalize rdGL b s ax=m at h1 h2 h3;have h4:m.length=nmV b 0 2:=by rw[<-h2,zy8 h3]
 have h5:=zrk h1 k (by omega);rw[h2,h.rd]at h5;injection h5 with h5;injection h5 with h6 h7
 exact⟨m,h1,h2,h4,h6,h7⟩
theorem KgI.bad3{b:LN}{s:Sr}{ax:Int}{l:List Gl}{q:Nat}(h:KgI b ax (nmV b 0 2) l q)(hq:q≠b.length):rdGOk b s ax=false:=by
 cases ho:rdGOk b s ax with
 | false=>rfl
 | true =>
  obtain⟨m,h1,h2,h3,h4,h5⟩:=zrl h (qE _) ho;rw[<-h3,List.take_length]at h5;refine absurd ?_ hq;rw[h5,<-h2,gsB,qA];rfl
theorem KgI.bad4{b:LN}{s:Sr}{ax:Int}{l:List Gl}{q:Nat}(h:KgI b ax (nmV b 0 2) l q)(hf:foG l s ax=false):rdGOk b s ax=false:=zhm h.rd (Or.inl (fun e=>by rw[(zbx.1 e).1]at hf;cases hf))
theorem z1e{b:LN}{s:Sr}{ax:Int}{m:List Gl}{k:Nat}(h1:wrGE m s ax=0)(h2:gsB m=b)(hk:k<m.length):∃A Z:LN,b=A++(glB (m.getD k Gl.none)++Z)/\A.length=2+(glsB (m.take k)).length/\rdGl b ax (2+(glsB (m.take k)).length)=some (m.getD k Gl.none,2+(glsB (m.take k)).length+(glB (m.getD k Gl.none)).length)/\foT (m.getD k Gl.none).o (m.getD k Gl.none).ts ax=true:=by
 obtain⟨h3,h4,h5⟩:=zbx.1 h1;obtain⟨h6,h7,h8⟩:=zbt.1 h3;have hgk:m.getD k Gl.none=m[k]:=by simp[List.getD,hk]
 have hb:b=(be2 ((m.length:Nat):Int)++glsB (m.take k))++(glB (m.getD k Gl.none)++glsB (m.drop (k+1))):=by
  have es:m=m.take k++m[k]::m.drop (k+1):=by simp
  rw[<-h2];unfold gsB;rw[qI];congr 1;rw[hgk]
  conv=>lhs;rw[es,zaz,glsB]
 obtain⟨f1,f2,f3,f4⟩:=zd5.1 (h8 k hk);exact⟨_,_,hb,by rw[qA];rfl,zkv hb (by rw[qA];rfl) (zjy.1 h4 _ (by rw[hgk];exact List.getElem_mem _)) f3 f4,f3⟩
theorem KgI.bad2{b:LN}{s:Sr}{ax:Int}{k:Nat}{l:List Gl}{q:Nat}(h:KgI b ax k l q)(hk:k<nmV b 0 2){x:Gl}{q2:Nat}(ht:rdGl b ax q=some (x,q2))(hm:¬nmV b ((g4 b q+4:Nat):Int) 1<=1):rdGOk b s ax=false:=by
 cases ho:rdGOk b s ax with
 | false=>rfl
 | true =>
  obtain⟨m,h1,h2,h3,h4,h5⟩:=zrl h (Nat.le_of_lt hk) ho;obtain⟨A,Z,e1,e2,e3,-⟩:=z1e (k:=k) h1 h2 (by omega);rw[<-h5]at e2 e3;have e4:=(zhn e3).1;refine absurd ?_ hm;generalize m.getD k Gl.none=y at e1 e3 e4;have e5:b=(A++(be4 (((wrOB y.o).length:Nat):Int)++(wrOB y.o++(be4 (((tuBt y.ts).length:Nat):Int)++(tuBt y.ts++(be2 y.ab++be2 y.ar))))))++(be1 (if y.mr then 1 else 0)++Z):=by
   rw[e1,glB];simp only[qI]
  have e6:(A++(be4 (((wrOB y.o).length:Nat):Int)++(wrOB y.o++(be4 (((tuBt y.ts).length:Nat):Int)++(tuBt y.ts++(be2 y.ab++be2 y.ar)))))).length=g4 b q+4:=by
   have h6:=zem y;simp only[qA];rw[show(be4 (((wrOB y.o).length:Nat):Int)).length=4 from rfl,show(be4 (((tuBt y.ts).length:Nat):Int)).length=4 from rfl,show(be2 y.ab).length=2 from rfl,show(be2 y.ar).length=2 from rfl];omega
  rw[zbl (n:=1) e5 e6 rfl];cases y.mr <;> decide
theorem zxb{b:LN}{ax:Int}{p:Nat}(n:Nat)(h:b.length<=n):(gTb b p).length<=n:=by
 unfold gTb;cases hi:inB b.length ((g2 b p+4:Nat):Int) (g3 b p:Int) with
 | false=>rw[zh4 hi];exact qD _
 | true =>
  rw[zd7 hi,qL,qJ];omega
theorem z05{a b:ByteArray}(h:a≠b):(a.toList==b.toList)=false:=beq_eq_false_iff_ne.2 (fun e=>h (toList_inj e))
theorem Rb.strA{w:World}{a:OA}{cap:Nat}{xs:LN}(h:Rb w a cap xs) :
 (convert 42 9 (.slice a xs.length cap)).run Tryz.prog w=.ok (.string (str8 xs)) w:=by
 by_cases hx:xs=[]
 . subst hx
   have e:(convert 42 9 (.slice a 0 cap)).run Tryz.prog w=.ok (.string ByteArray.empty) w:=by
    rw[run_convert_bytes_string w 42 9 5 _ 0 cap underlying42 underlying5 underlying9];cases a <;> simp[Conv.bytesToString,loadCells,loadCellsFrom]
   exact e
 . exact h.str hx
theorem zui{xs ys:LN}(hx:Byt xs)(hy:Byt ys)(e:str8 xs=str8 ys):xs=ys:=by
 rw[<-zq3 hx,e,zq3 hy]
theorem zld(a b:OA)(ca cb:Nat)(xs ys:LN)(w:World)(ha:Rb w a ca xs)(hb:Rb w b cb ys) :
 Calls Tryz.prog 146 #[.slice a xs.length ca,.slice b ys.length cb] w fun e w'=>e=.returned (.bool (decide (xs=ys)))/\w=w':=by
 have h1:=ha.strA;have h2:=hb.strA;by_cases he:xs=ys
 . have hd:=qC he
   have hq:(str8 xs).toList==(str8 ys).toList:=(by rw[he];simp);have HD:Hid (decide (xs=ys)=true):=hd;clear hd he;go_enter func146,ntmps146;go_wp2;go_ret;exact⟨zaa (by rw[HD.out]),rfl⟩
 . have hd:=qB he
   have hq:=z05 (fun e=>he (zui ha.lim hb.lim e));have HD:Hid (decide (xs=ys)=false):=hd;clear hd he;go_enter func146,ntmps146;go_wp2;go_ret;exact⟨zaa (by rw[HD.out]),rfl⟩
theorem zjs:(Tryz.prog.info? 144).map (fun i=>(i.zero,i.size,i.bytes))=some (some (.agg #[.slice none 0 0,.bool false,.slice none 0 0,.slice none 0 0,.slice none 0 0]),5,104):=by kernel_rfl
theorem zu7{xs:LN}(h:0<nmV xs 0 2):2<=xs.length:=by
 unfold nmV at h;cases hi:inB xs.length 0 2 with
 | false=>rw[show inB xs.length 0 ((2:Nat):Int)=false from hi]at h;simp at h
 | true=>simp[inB]at hi;omega
theorem Gw.kpS{α:Type}{E:El α}{t u:TypeId}{base g n:Nat}{w w':World}{v:Value}{l:List α}{cs:LV}(h:Gw E t base (fun k=>n<=k) w v l)(hb:Bk u w g cs)(ht:u≠t)(hg:g<n)(hk:Kp g w w'):Gw E t base (fun k=>n<=k) w' v l:=by
 refine h.stay hk.size (fun k h1 _ h2=>⟨h1,hk.block h2 (by omega)⟩) (fun k hv=>hk.block (h.lo hv).2 (fun e=>?_));obtain⟨cur,k1⟩:=h.ty hv;rw[e,hb]at k1;simp at k1;exact ht k1.2
theorem znp{b:LN}{ax cnt k:Nat}{l:List Tu}{q:Nat}(h:rdK b ax cnt k=some (l,q)){t:Tu}{q2:Nat}(ht:rdTu b ax cnt q=some (t,q2)):rdK b ax cnt (k+1)=some (l++[t],q2):=by
 rw[rdK,h,Option.bind_some];dsimp only;rw[ht];rfl
theorem znq{b:LN}{ax cnt k:Nat}{l:List Tu}{q:Nat}(h:rdK b ax cnt k=some (l,q))(ht:rdTu b ax cnt q=none):rdK b ax cnt (k+1)=none:=by
 rw[rdK,h,Option.bind_some];dsimp only;rw[ht];rfl
theorem zou(ba:OA)(bc:Nat)(xs:LN)(S:Nat->Prop)(a:OA)(ca:Nat)(b:OA)(cb:Nat)(o:Ol)(ax:Int)(w:World)(hx:Rb w ba bc xs)(hc:Gr PnE.row S w a ca o.cs)(hp:Gr PaE S w b cb o.ps)(hi:I64 ax)(hxl:xs.length<=100000) :
 Calls Tryz.prog 89 #[.slice ba xs.length bc,.agg #[.slice a o.cs.length ca,.slice b o.ps.length cb],.int .i64 ax] w fun e w'=>∃a' c',e=.returned (.tuple #[.slice a' (rdTL xs o ax).length c',.int .i64 (rdTE xs o ax)])/\Gr TuE (fun k=>w.heap.size<=k) w' a' c' (rdTL xs o ax)/\(∀c o,a'=some ⟨c,o,none⟩->w.heap.size<=c)/\Below w.heap.size w w':=by
 have kc:=hc.lenB;have kp:=hp.lenB;have hpc:=hx.le;have hpm:=hx.cap;unfold maxLen at hpm;obtain⟨W,hW,X1,hbW⟩:∃W,W=w.alloc (.cells #[.slice a o.cs.length ca,.slice b o.ps.length cb] 57)/\Bk 57 W w.heap.size [.slice a o.cs.length ca,.slice b o.ps.length cb]/\Below w.heap.size w W:=⟨_,rfl,Bk.new _ _ _,bl1 _⟩;replace hc:=hc.below hbW;replace hp:=hp.below hbW;replace hx:=hx.below hbW;have hu:=zg3 ba bc xs 0 W hx ⟨by decide,by decide⟩;have hnl:=zam hx.lim 0 2;have HNP:Hid (0<nmV xs 0 2->2<=xs.length):=zu7;have zik:Hid (rdTOk xs o ax=false->rdTL xs o ax=[]/\rdTE xs o ax=2):=zrd;have HB3:Hid (∀k,rdK xs ax.toNat (cntO o) k=none->k<=nmV xs 0 2->rdTOk xs o ax=false):=fun k h1 h2=>znm h1 h2;have HB2:Hid (¬nmV xs 0 2<=40->rdTOk xs o ax=false):=znn;have HB4:Hid (∀l p,rdK xs ax.toNat (cntO o) (nmV xs 0 2)=some (l,p)->(foT o l ax=false\/tuBt l≠xs)->rdTOk xs o ax=false):=fun l p h1 h2=>znl h1 h2;have HGD:Hid (∀l p,rdK xs ax.toNat (cntO o) (nmV xs 0 2)=some (l,p)->foT o l ax=true->tuBt l=xs->rdTL xs o ax=l/\rdTE xs o ax=0):=fun l p h1 h2 h3=>zjd h1 h2 h3;obtain⟨n,hn⟩:∃n,nmV xs 0 2=n:=⟨_,rfl⟩;generalize inB xs.length 0 2=qb at hu;rw[hn]at hu hnl HNP HB3 HB2 HB4 HGD;have hn6:n<65536:=hnl;clear hnl hn;have hf1:Calls Tryz.prog 58 #[.agg #[.slice a o.cs.length ca,.slice b o.ps.length cb],.slice none 0 0,.int .i64 ax] W fun e w'=>e=.returned (.bool (foT o [] ax))/\Below W.heap.size W w':=zd8 S a ca b cb o (fun _=>True) none 0 [] ax W hc hp (Gr.nil _ _ _ _ _ (qD _) (fun _=>rfl)) hi;obtain⟨p0,p1,_⟩:=X1.two;go_enter func89,ntmps89;go_upto_region 1 with fail
 rw[<-hW];clear hW;go_wp2_with fail
 refine hu.mono ?_;rintro e u0 ⟨rfl,rfl⟩;clear hu;cases hfo:foT o [] ax with
 | false =>
  rw[hfo]at hf1;have HNO:Hid (_):=zik.out (zje hfo);clear hfo hc hp hx HB2 HB3 HB4 HGD HNP;go_wp2_with fail
  refine hf1.mono ?_;rintro e m2 ⟨rfl,hb1⟩;have za1:=hbW.trans (hb1.mono hbW.size);clear hb1 hf1;go_wp2;go_ret2;exact⟨none,0,by rw[HNO.out.1,HNO.out.2];rfl,by rw[HNO.out.1];exact Gr.nil _ _ _ _ _ (qD _) (fun _=>rfl),(fun c o e=>by cases e),za1⟩
 | true =>
 rw[hfo]at hf1;obtain⟨hF1,hF2,-,-⟩:=zbb.1 hfo;have hcn:=zf3 hF1;have hfl:=(zbg.1 hF1).2.2.2.2.1;have hfp:=(zbg.1 hF1).2.2.1;clear hfo hF1;go_wp2_with fail
 refine hf1.mono ?_;rintro e m2 ⟨rfl,hb1⟩;replace hc:=hc.below hb1;replace hp:=hp.below hb1;replace hx:=hx.below hb1;replace X1:=X1.below hb1;replace hbW:=hbW.trans (hb1.mono hbW.size);clear hb1 hf1 p0 p1;by_cases hn4:n<=40;rotate_left
 . have g1:(40:Int)<(n:Int):=by omega
   have HNO:Hid (_):=zik.out (HB2.out hn4);clear hc hp hx HB2 HB3 HB4 HGD HNP X1;go_wp2;go_ret2;exact⟨none,0,by rw[HNO.out.1,HNO.out.2];rfl,by rw[HNO.out.1];exact Gr.nil _ _ _ _ _ (qD _) (fun _=>rfl),(fun c o e=>by cases e),hbW⟩
 have g1:¬(40:Int)<(n:Int):=by omega
 obtain⟨A,rfl⟩:∃A:Nat,ax=(A:Int):=⟨ax.toNat,by omega⟩;rw[Int.toNat_natCast]at HB3 HB4 HGD;obtain⟨N,hN⟩:∃N,cntO o=N:=⟨_,rfl⟩;have HN:Hid (cntO o=N):=hN;rw[hN]at HB3 HB4 HGD hcn;clear hN;obtain⟨V,hV,XS,hbV⟩:∃V,V=m2.alloc (.cells #[.slice ba xs.length bc,.int .i64 2] 203)/\Bk 203 V m2.heap.size [.slice ba xs.length bc,.int .i64 2]/\Below m2.heap.size m2 V:=⟨_,rfl,Bk.new _ _ _,bl1 _⟩;have hS0:Sc 203 V m2.heap.size ba bc xs 2:=⟨XS,hx.below hbV,fun b o e hne=>Nat.ne_of_lt (hx.blk hne e)⟩;have HX1:Hid (Bk 57 m2 w.heap.size [.slice a o.cs.length ca,.slice b o.ps.length cb]):=X1;have HC:Hid (Gr PnE.row S m2 a ca o.cs):=hc;have HP:Hid (Gr PaE S m2 b cb o.ps):=hp;have HX:Hid (Rb m2 ba bc xs):=hx;have HBW:Hid (Below w.heap.size w m2):=hbW;have HVS:Hid (V.heap.size=m2.heap.size+1):=by show _=_;rw[hV];simp
 obtain⟨g,hg⟩:∃g,m2.heap.size=g:=⟨_,rfl⟩;have HG:Hid (m2.heap.size=g):=hg;have hB0:Below m2.heap.size m2 V:=hbV;go_upto_region 5 with fail
 rw[<-hV];rw[hg]at hS0 HVS;clear hV XS hbV X1 hc hp hx hbW hg;go_wp2
 go_loopw [11,33] (fun v i wr=>∃(k:Nat) (tl:List Tu) (q:Nat),k<=n/\i=.int .i64 k/\rdK xs A N k=some (tl,q)/\(0<n->q<=xs.length)/\Sc 203 wr g ba bc xs q/\Gw TuE 144 (g+1) (fun k=>g+1<=k) wr v tl/\g+1<=wr.heap.size/\Below m2.heap.size m2 wr) (fun _ i _=>n-(intOf i).toNat)
 case atStart=>exact⟨0,[],2,qD _,rfl,rfl,HNP.out,hS0,Gw.nil _ _ _ _ _,by rw[HVS.out];exact qE _,hB0⟩
 case round =>
  clear hS0 hB0;obtain⟨k,tl,q,hk,rfl,hrk,hqx,hS,hGw,hgs,hB⟩:=hrel;have hX1:=HX1.out.below hB;have hlk:=zl0 hrk;by_cases hkn:k<n
  . have hqx2:=hqx (by omega)
    have hcc:=zi3 S a ca b cb o wr (HC.out.below hB) (HP.out.below hB) (by omega) (by omega);rw[HN.out]at hcc;obtain⟨p0,p1,_⟩:=hX1.two;have g2:(k:Int)<(n:Int):=(by omega);obtain⟨a6,c6,rfl,-,-⟩:=hGw.slice;rw[hlk]at hGw ⊢;go_wp2_with fail
    refine hcc.mono ?_;rintro e u1 ⟨rfl,hb1⟩;replace hS:=hS.below hb1;replace hGw:=hGw.below hb1;replace hB:=hB.trans (hb1.mono hB.size);replace hgs:=qF hgs hb1.size;clear hcc hb1 p0 p1 hX1;have htu:=zot g ba bc xs q A N u1 hS hqx2 hxl (by omega) (by omega);go_wp2_with fail
    refine htu.mono ?_;rintro e u2 ⟨hta,hk2⟩;have hs2:=hk2.size;have hOW:∀q,(Value.slice a6 k c6).ownBlock=some q->g+1<=q/\q<u1.heap.size:=fun q e=>hGw.lo e;replace hGw:=hGw.kpS hS.bk (by decide) (by omega) hk2;replace hB:=hB.trans (hk2.below hB.size (by rw[HG.out];exact qE _));cases hrd:rdTu xs A N q with
    | none =>
     rw[hrd]at hta;obtain⟨ra,rn,rc,bb,p2,pn,p3,xa,xn,xc,ya,yn,yc,rfl⟩:=hta;have HNO:Hid (_):=zik.out (HB3.out (k+1) (znq hrk hrd) hkn);have hBf:Below m2.heap.size m2 (u2.alloc (.cells #[.slice ra rn rc,.bool bb,.slice p2 pn p3,.slice xa xn xc,.slice ya yn yc] 144)):=hB.trans ((bl1 _).mono hB.size);have zor:Hid (_):=HBW.out.trans (hBf.mono HBW.out.size);clear hrd hrk hGw hS htu hk2 hB HB2 HB3 HB4 HGD hBf;go_wp2;go_ret2;exact⟨none,0,by rw[HNO.out.1,HNO.out.2];rfl,by rw[HNO.out.1];exact Gr.nil _ _ _ _ _ (qD _) (fun _=>rfl),(fun c o e=>by cases e),zor.out⟩
    | some r =>
     obtain⟨t,q2⟩:=r;rw[hrd]at hta;obtain⟨ra,rc,p2,p3,xa,xc,ya,yc,rfl,hTC,hS2,hq2⟩:=hta;have HRK:Hid (rdK xs A N (k+1)=some (tl++[t],q2)):=znp hrk hrd;have HOW:Hid (∀q,(Value.slice a6 k c6).ownBlock=some q->g+1<=q/\q<u1.heap.size):=fun q e=>hOW q e;obtain⟨l1,l2,l3,l4⟩:=hTC.len;obtain⟨U,hU,XU,hbU⟩:∃U,U=u2.alloc (.cells #[.slice ra t.rg.length rc,.bool t.al,.slice p2 t.pts.length p3,.slice xa t.dx.length xc,.slice ya t.dy.length yc] 144)/\Bk 144 U u2.heap.size [.slice ra t.rg.length rc,.bool t.al,.slice p2 t.pts.length p3,.slice xa t.dx.length xc,.slice ya t.dy.length yc]/\Below u2.heap.size u2 U:=⟨_,rfl,Bk.new _ _ _,bl1 _⟩;clear hrd hrk hS htu hk2 hOW;go_upto_region 9 with fail
     rw[<-hU];clear hU;replace hS2:=hS2.below hbU;replace hGw:=hGw.below hbU;replace hTC:=hTC.below hbU;replace hB:=hB.trans (hbU.mono hB.size);have hs3:=hbU.size;clear hbU;obtain⟨V9,hV9,Y9,hb9⟩:∃V,V=U.alloc (.cells #[.slice ra t.rg.length rc,.bool t.al,.slice p2 t.pts.length p3,.slice xa t.dx.length xc,.slice ya t.dy.length yc] 144)/\Bk 144 V U.heap.size [.slice ra t.rg.length rc,.bool t.al,.slice p2 t.pts.length p3,.slice xa t.dx.length xc,.slice ya t.dy.length yc]/\Below U.heap.size U V:=⟨_,rfl,Bk.new _ _ _,bl1 _⟩;obtain⟨y0,y1,y2,y3,y4,-⟩:=XU.five;have hGb:=hGw.below hb9;have zhy:TuE.rep (fun q=>g+1<=q/\(Value.slice a6 k c6).ownBlock≠some q) V9 [.slice ra t.rg.length rc,.bool t.al,.slice p2 t.pts.length p3,.slice xa t.dx.length xc,.slice ya t.dy.length yc] t:=TuE.stay (zke.2 ⟨ra,rc,p2,p3,xa,xc,ya,yc,rfl,hTC.below hb9⟩) (qE _) (fun q h1 _=>⟨⟨by omega,fun e=>by have:=(HOW.out q e).2;omega⟩,rfl⟩);have zar:=Gr.one (E:=TuE) zhy Y9.lt (fun j hj=>Y9.cell j hj);have hBb:Below m2.heap.size m2 V9:=hB.trans (hb9.mono hB.size);have hs9:=hb9.size;have hbs:g+1<=V9.heap.size:=(by omega);have hS9:=hS2.below hb9;have hll:tl.length+1<=1000000:=(by omega);clear zhy hGw hTC hS2 hB;go_wp2_with (at_builtin;rw[<-hV9];refine zab 58 144 underlying58 zjs rfl (by decide) (by decide) rfl _ _ rfl (g+1) (fun k=>g+1<=k) _ tl rfl hGb (some ⟨U.heap.size,0,none⟩) 1 1 [t] rfl rfl zar hll hbs ?_)
     intro v9 w9 hT9 hgrow _;rw[<-hV9]at hgrow;have hB9:Below m2.heap.size m2 w9:=hBb.grown hgrow hBb.size (fun q hq=>by have:=(HOW.out q hq).1;have:=HG.out;omega);have zvl:=hS9.grown hgrow (fun e=>by have:=(HOW.out g e).1;omega) (fun b o e hne e2=>by have:=(HOW.out b e2).1;have:=HX.out.blk hne e;have:=HG.out;omega);have zvj:g+1<=w9.heap.size:=qF hbs hgrow.size;clear hgrow hGb zar hbs hll hBb hV9 Y9 y0 y1 y2 y3 y4 XU hb9 hS9;go_wp2;go_roundw
     case rel=>exact⟨k+1,tl++[t],q2,by omega,by go_num,HRK.out,fun _=>hq2,zvl,hT9,zvj,hB9⟩
     case measure=>simp[intOf];omega
  . obtain rfl:k=n:=by omega
    have g4:¬(k:Int)<(k:Int):=(by omega);obtain⟨a6,c6,rfl,hgr,hb6⟩:=hGw.slice;have HLO:Hid (∀c o,a6=some ⟨c,o,none⟩->w.heap.size<=c):=fun c o e=>by
     have h1:=(hb6 c o e).1;have h2:=HBW.out.size;have h3:=HG.out;omega
    have HLW:Hid (∀k,g+1<=k->w.heap.size<=k):=fun k h1=>by
     have h2:=HBW.out.size;have h3:=HG.out;omega
    clear hb6;have hwr:=zos S a ca b cb o _ a6 c6 tl (A:Int) wr (HC.out.below hB) (HP.out.below hB) hgr hi;obtain⟨p0,p1,_⟩:=hX1.two;have HRK:Hid (rdK xs A N k=some (tl,q)):=hrk;have hBw:=HBW.out.trans (hB.mono HBW.out.size);have hrx:=HX.out.below hB;clear hGw hS hrk hlk hqx hX1;cases hfo:foT o tl (A:Int) with
    | false =>
     have HNO:Hid (_):=zik.out (HB4.out tl q HRK.out (.inl hfo));rw[(zer hfo).1,(zer hfo).2]at hwr;clear hfo HB2 HB3 HB4 HGD HRK hgr;go_wp2_with fail
     refine hwr.mono ?_;rintro e u1 ⟨a1,c1,rfl,hr1,hb1⟩;have za1:=hBw.trans (hb1.mono hBw.size);clear hwr hb1 hr1;go_wp2;go_ret2;exact⟨none,0,by rw[HNO.out.1,HNO.out.2];rfl,by rw[HNO.out.1];exact Gr.nil _ _ _ _ _ (qD _) (fun _=>rfl),(fun c o e=>by cases e),za1⟩
    | true =>
     have HFO:Hid (foT o tl (A:Int)=true):=hfo;rw[(zbo hfo).1,(zbo hfo).2]at hwr;clear hfo;go_wp2_with fail
     refine hwr.mono ?_;rintro e u1 ⟨a1,c1,rfl,hr1,hb1⟩;have za1:=hBw.trans (hb1.mono hBw.size);have heq:=zld a1 ba c1 bc (tuBt tl) xs u1 hr1 (hrx.below hb1);replace hgr:=(hgr.below hb1).wide (S':=fun k=>w.heap.size<=k) (fun k h1 _=>HLW.out k h1);have hl1:=hr1.le;clear hwr hb1 p0 p1;by_cases he:tuBt tl=xs
     . have HG2:Hid (_):=HGD.out tl q HRK.out HFO.out he
       rw[qC he]at heq;clear he HB2 HB3 HB4 HGD zik HRK hr1;generalize tuBt tl=tb at *;go_wp2_with fail
       refine heq.mono ?_;rintro e u2 ⟨rfl,rfl⟩;clear heq;go_wp2;go_ret2;exact⟨a6,c6,by rw[HG2.out.1,HG2.out.2];rfl,by rw[HG2.out.1];exact hgr,HLO.out,za1⟩
     . have HNO:Hid (_):=zik.out (HB4.out tl q HRK.out (.inr he))
       rw[qB he]at heq;clear he HB2 HB3 HB4 HGD zik HRK hr1;generalize tuBt tl=tb at *;go_wp2_with fail
       refine heq.mono ?_;rintro e u2 ⟨rfl,rfl⟩;clear heq;go_wp2;go_ret2;exact⟨none,0,by rw[HNO.out.1,HNO.out.2];rfl,by rw[HNO.out.1];exact Gr.nil _ _ _ _ _ (qD _) (fun _=>rfl),(fun c o e=>by cases e),za1⟩
