import Derived.Test.YtkmcodofnckdmaaGreatZK47
set_option maxHeartbeats 8000000
set_option maxRecDepth 100000
set_option linter.unusedSimpArgs false
set_option linter.unusedVariables false
namespace Go.Proofs.YtkmcodofnckdmaaGreat
open Tryz Go.RowKit Go.Maps
theorem zrb{b:LN}{o:Ol}{ax:Int}(h:b.length<2):rdTOk b o ax=false:=by
 cases hk:rdTOk b o ax with
 | false=>rfl
 | true =>
  have h1:=congrArg List.length (zrc hk).2;unfold tuBt at h1;rw[qA]at h1;have:(be2 ((rdTL b o ax).length:Int)).length=2:=rfl;omega
theorem zgf{o:Ol}{ax:Int}{A N:Nat}(hA:A=(min ax 4).toNat)(hN:N=min (cntO o) 2000)(h:foT o [] ax=true):ax.toNat=A/\cntO o=N:=by
 obtain⟨h1,h2,_⟩:=zbb.1 h;have:=zf3 h1;omega
theorem zlr(ba:OA)(bc:Nat)(xs:LN)(S:Nat->Prop)(a:OA)(ca:Nat)(b:OA)(cb:Nat)(o:Ol)(ax:Int)(w:World)(hx:Rb w ba bc xs)(hc:Gr PnE.row S w a ca o.cs)(hp:Gr PaE S w b cb o.ps)(hfl:o.cs.flatten.length<=100000)(hpl:o.ps.length<=100000)(hi:I64 ax)(hxl:xs.length<=100000) :
 Calls Tryz.prog 53 #[.slice ba xs.length bc,.agg #[.slice a o.cs.length ca,.slice b o.ps.length cb],.int .i64 ax] w fun e w'=>∃a' c',e=.returned (.tuple #[.slice a' (rdTL xs o ax).length c',.int .i64 (rdTE xs o ax)])/\Gr TuE (fun k=>w.heap.size<=k) w' a' c' (rdTL xs o ax)/\(∀c o,a'=some ⟨c,o,none⟩->w.heap.size<=c)/\Below w.heap.size w w':=by
 have kc:=hc.lenB;have kp:=hp.lenB;have hpc:=hx.le;have hpm:=hx.cap;unfold maxLen at hpm;obtain⟨W,hW,X1,hbW⟩:∃W,W=w.alloc (.cells #[.slice a o.cs.length ca,.slice b o.ps.length cb] 57)/\Bk 57 W w.heap.size [.slice a o.cs.length ca,.slice b o.ps.length cb]/\Below w.heap.size w W:=⟨_,rfl,Bk.new _ _ _,bl1 _⟩;replace hc:=hc.below hbW;replace hp:=hp.below hbW;replace hx:=hx.below hbW;have hu:=zgc ba bc xs 0 W hx ⟨by decide,by decide⟩;have hnl:=zam hx.lim 0 2;obtain⟨A,hA⟩:∃A,A=(min ax 4).toNat:=⟨_,rfl⟩;obtain⟨N,hN⟩:∃N,N=min (cntO o) 2000:=⟨_,rfl⟩;have hA4:A<=4:=by omega
 have hN2:N<=2000:=by omega
 have HCO:Hid (cntO o<=200000):=by show _<=_;unfold cntO;omega
 have HSM:Hid (foT o [] ax=true->ax.toNat=A/\cntO o=N):=fun h=>zgf hA hN h;have HAM:Hid (A=(min ax 4).toNat):=hA;have HNM:Hid (N=min (cntO o) 2000):=hN;have zik:Hid (rdTOk xs o ax=false->rdTL xs o ax=[]/\rdTE xs o ax=2):=zrd;have HB3:Hid (∀k,rdK xs A N k=none->k<=nmV xs 0 2->rdTOk xs o ax=false):=fun k h1 h2=>by
  cases hf:foT o [] ax with
  | false=>exact zje hf
  | true =>
   obtain⟨e1,e2⟩:=zgf hA hN hf;rw[<-e1,<-e2]at h1;exact znm h1 h2
 have HB2:Hid (¬nmV xs 0 2<=40->rdTOk xs o ax=false):=znn;have HB4:Hid (∀l p,rdK xs A N (nmV xs 0 2)=some (l,p)->(foT o l ax=false\/tuBt l≠xs)->rdTOk xs o ax=false):=fun l p h1 h2=>by
  cases hf:foT o [] ax with
  | false=>exact zje hf
  | true =>
   obtain⟨e1,e2⟩:=zgf hA hN hf;rw[<-e1,<-e2]at h1;exact znl h1 h2
 have HGD:Hid (∀l p,rdK xs A N (nmV xs 0 2)=some (l,p)->foT o l ax=true->tuBt l=xs->rdTL xs o ax=l/\rdTE xs o ax=0):=fun l p h1 h2 h3=>by
  obtain⟨e1,e2⟩:=zgf hA hN (zs0 h2);rw[<-e1,<-e2]at h1;exact zjd h1 h2 h3
 have HZ0:Hid (tuBt []=xs->nmV xs 0 2=0):=fun h=>by rw[<-h];exact zr5 (l:=[]) (by simp)
 have HIN:Hid (inB xs.length 0 2=decide (2<=xs.length)):=by show _=_;rw[Bool.eq_iff_iff];simp[inB];omega
 rw[HIN.out]at hu;obtain⟨n,hn⟩:∃n,nmV xs 0 2=n:=⟨_,rfl⟩;rw[hn]at hu hnl HB3 HB2 HB4 HGD HZ0;have hn6:n<65536:=hnl;clear hnl hn hA hN HIN;have HX1:Hid (Bk 57 W w.heap.size [.slice a o.cs.length ca,.slice b o.ps.length cb]):=X1;have HC:Hid (Gr PnE.row S W a ca o.cs):=hc;have HP:Hid (Gr PaE S W b cb o.ps):=hp;have HX:Hid (Rb W ba bc xs):=hx;have HBW:Hid (Below w.heap.size w W):=hbW;obtain⟨g,hg⟩:∃g,W.heap.size=g:=⟨_,rfl⟩;have HG:Hid (W.heap.size=g):=hg;go_enter func53,ntmps53;go_upto_region 1 with fail
 rw[<-hW];clear hW X1 hc hp hx hbW hg;go_wp2_with fail
 refine hu.mono ?_;rintro e u0 ⟨rfl,rfl⟩;clear hu;go_wp2
 go_loopw [9,10,11,12] (fun okv pp v i wr=>((∃(k q:Nat) (tl:List Tu),okv=.bool true/\pp=.int .i64 (q:Int)/\i=.int .i64 (k:Int)/\k<=n/\(k=0\/n<=40)/\rdK xs A N k=some (tl,q)/\q<=xs.length/\Gw TuE 144 g (fun k=>g<=k) wr v tl)\/(∃(z:Int) (j:Nat) (tl:List Tu),okv=.bool false/\pp=.int .i64 z/\i=.int .i64 (j:Int)/\rdTOk xs o ax=false/\Gw TuE 144 g (fun k=>g<=k) wr v tl))/\g<=wr.heap.size/\Below W.heap.size W wr) (fun _ _ _ i _=>n-(intOf i).toNat)
 case atStart =>
  by_cases h2:2<=xs.length
  . exact⟨.inl ⟨0,2,[],by rw[qC h2],rfl,rfl,qD _,.inl rfl,rfl,h2,Gw.nil _ _ _ _ _⟩,by rw[HG.out];exact qE _,Below.refl _ _⟩
  . exact⟨.inr ⟨2,0,[],by rw[qB h2],rfl,rfl,zrb (by omega),Gw.nil _ _ _ _ _⟩,by rw[HG.out];exact qE _,Below.refl _ _⟩
 case round =>
  obtain⟨hst,hgs,hB⟩:=hrel;have hX1:=HX1.out.below hB;obtain⟨p0,p1,_⟩:=hX1.two;have zcb:=HBW.out.trans (hB.mono HBW.out.size);rcases hst with ⟨k,q,tl,rfl,rfl,rfl,hk,hk4,hrk,hqx,hGw⟩|⟨z,j,tl,rfl,rfl,rfl,zn0,hGw⟩;rotate_left
  . have HNO:Hid (_):=zik.out zn0
    obtain⟨a6,c6,rfl,hgr,-⟩:=hGw.slice;have hwr:=zg7 S a ca b cb o _ a6 c6 tl ax wr (HC.out.below hB) (HP.out.below hB) hgr hfl hpl hi;generalize wrTB o tl ax=bb at hwr;generalize wrTE o tl ax=be at hwr;have klt:=hgr.lenB;clear zn0 hGw hgr HB2 HB3 HB4 HGD;by_cases hj:(j:Int)<(n:Int)
    . go_wp2_with fail
      refine hwr.mono ?_;rintro e u1 ⟨a1,c1,rfl,-,hb1⟩;have za1:=zcb.trans (hb1.mono zcb.size);clear hwr hb1;go_wp2;go_ret2;exact⟨none,0,by rw[HNO.out.1,HNO.out.2];rfl,by rw[HNO.out.1];exact Gr.nil _ _ _ _ _ (qD _) (fun _=>rfl),(fun c o e=>by cases e),za1⟩
    . go_wp2_with fail
      refine hwr.mono ?_;rintro e u1 ⟨a1,c1,rfl,-,hb1⟩;have za1:=zcb.trans (hb1.mono zcb.size);clear hwr hb1;go_wp2;go_ret2;exact⟨none,0,by rw[HNO.out.1,HNO.out.2];rfl,by rw[HNO.out.1];exact Gr.nil _ _ _ _ _ (qD _) (fun _=>rfl),(fun c o e=>by cases e),za1⟩
  have hlk:=zl0 hrk;by_cases hgo:k<n/\n<=40
  . obtain⟨hkn,hn4⟩:=hgo
    have g2:(k:Int)<(n:Int):=(by omega);have g3:(n:Int)<=40:=(by omega);have hcc:=zfu S a ca b cb o wr (HC.out.below hB) hfl hpl;obtain⟨cn,hcn⟩:∃x,cntO o=x:=⟨_,rfl⟩;have hcn2:cn<=200000:=(by rw[<-hcn];exact HCO.out);have hmn:min (cn:Int) 2000=(N:Int):=(by rw[<-hcn];have:=HNM.out;omega);rw[hcn]at hcc;obtain⟨a6,c6,rfl,-,-⟩:=hGw.slice;rw[hlk]at hGw ⊢;clear hcn;go_wp2_with fail
    refine hcc.mono ?_;rintro e u1 ⟨rfl,hb1⟩;replace hGw:=hGw.below hb1;replace hB:=hB.trans (hb1.mono hB.size);replace hgs:=qF hgs hb1.size;have HOW:Hid (∀q,(Value.slice a6 k c6).ownBlock=some q->g<=q/\q<u1.heap.size):=fun q e=>hGw.lo e;clear hcc hb1 p0 p1 hX1;obtain⟨axm,hxm⟩:∃z,min ax 4=z:=⟨_,rfl⟩;have htu:=zow ba bc xs q A N axm u1 (HX.out.below hB) hqx hxl (by rw[<-hxm];exact HAM.out) (by omega) (by omega) ⟨by have:=hi.1;omega,by omega⟩;go_wp2_with fail
    refine htu.mono ?_;rintro e u2 ⟨htr,hb2⟩;replace hGw:=hGw.below hb2;replace hB:=hB.trans (hb2.mono hB.size);have hs2:=hb2.size;clear htu hb2 hxm;cases hrd:rdTu xs A N q with
    | none =>
     rw[hrd]at htr;obtain⟨t,ra,rc,p2,p3,xa,xc,ya,yc,rfl,hTC⟩:=htr;have HBAD:Hid (rdTOk xs o ax=false):=HB3.out (k+1) (znq hrk hrd) hkn;clear hrd hrk zcb hmn;obtain⟨U,hU,XU,hbU⟩:∃U,U=u2.alloc (.cells #[.slice ra t.rg.length rc,.bool t.al,.slice p2 t.pts.length p3,.slice xa t.dx.length xc,.slice ya t.dy.length yc] 144)/\Bk 144 U u2.heap.size [.slice ra t.rg.length rc,.bool t.al,.slice p2 t.pts.length p3,.slice xa t.dx.length xc,.slice ya t.dy.length yc]/\Below u2.heap.size u2 U:=⟨_,rfl,Bk.new _ _ _,bl1 _⟩;obtain⟨l1,l2,l3,l4⟩:=hTC.len;go_upto_region 8 with fail
     rw[<-hU];clear hU;replace hGw:=hGw.below hbU;replace hTC:=hTC.below hbU;replace hB:=hB.trans (hbU.mono hB.size);have hs3:=hbU.size;clear hbU;obtain⟨V9,hV9,Y9,hb9⟩:∃V,V=U.alloc (.cells #[.slice ra t.rg.length rc,.bool t.al,.slice p2 t.pts.length p3,.slice xa t.dx.length xc,.slice ya t.dy.length yc] 144)/\Bk 144 V U.heap.size [.slice ra t.rg.length rc,.bool t.al,.slice p2 t.pts.length p3,.slice xa t.dx.length xc,.slice ya t.dy.length yc]/\Below U.heap.size U V:=⟨_,rfl,Bk.new _ _ _,bl1 _⟩;obtain⟨y0,y1,y2,y3,y4,-⟩:=XU.five;have hGb:=hGw.below hb9;have zhy:TuE.rep (fun q=>g<=q/\(Value.slice a6 k c6).ownBlock≠some q) V9 [.slice ra t.rg.length rc,.bool t.al,.slice p2 t.pts.length p3,.slice xa t.dx.length xc,.slice ya t.dy.length yc] t:=TuE.stay (zke.2 ⟨ra,rc,p2,p3,xa,xc,ya,yc,rfl,hTC.below hb9⟩) (qE _) (fun q h1 _=>⟨⟨by omega,fun e=>by have:=(HOW.out q e).2;omega⟩,rfl⟩);have zar:=Gr.one (E:=TuE) zhy Y9.lt (fun j hj=>Y9.cell j hj);have hBb:Below W.heap.size W V9:=hB.trans (hb9.mono hB.size);have hs9:=hb9.size;have hbs:g<=V9.heap.size:=(by omega);have hll:tl.length+1<=1000000:=(by omega);clear zhy hGw hTC hB;go_wp2_with (at_builtin;rw[<-hV9];refine zab 58 144 underlying58 zjs rfl (by decide) (by decide) rfl _ _ rfl g (fun k=>g<=k) _ tl rfl hGb (some ⟨U.heap.size,0,none⟩) 1 1 [t] rfl rfl zar hll hbs ?_)
     intro v9 w9 hT9 hgrow _;rw[<-hV9]at hgrow;have hB9:Below W.heap.size W w9:=hBb.grown hgrow hBb.size (fun q hq=>by have:=(HOW.out q hq).1;have:=HG.out;omega);have zvj:g<=w9.heap.size:=qF hbs hgrow.size;clear hgrow hGb zar hbs hll hBb hV9 Y9 y0 y1 y2 y3 y4 XU hb9;go_wp2;go_roundw
     case rel=>exact⟨.inr ⟨_,k+1,tl++[t],rfl,rfl,by go_num,HBAD.out,hT9⟩,zvj,hB9⟩
     case measure=>simp[intOf];omega
    | some r =>
     obtain⟨t,q2⟩:=r;rw[hrd]at htr;obtain⟨ra,rc,p2,p3,xa,xc,ya,yc,rfl,hTC,hlt,hq2⟩:=htr;have HRK:Hid (rdK xs A N (k+1)=some (tl++[t],q2)):=znp hrk hrd;obtain⟨sz,hsz⟩:∃z:Int,(q2:Int)-(q:Int)=z:=⟨_,rfl⟩;have gsz:0<sz:=(by omega);have hqs:(q:Int)+sz=(q2:Int):=(by omega);rw[hsz];have hszb:sz<=1000000:=(by omega);clear hrd hrk zcb hmn hsz hlt;obtain⟨U,hU,XU,hbU⟩:∃U,U=u2.alloc (.cells #[.slice ra t.rg.length rc,.bool t.al,.slice p2 t.pts.length p3,.slice xa t.dx.length xc,.slice ya t.dy.length yc] 144)/\Bk 144 U u2.heap.size [.slice ra t.rg.length rc,.bool t.al,.slice p2 t.pts.length p3,.slice xa t.dx.length xc,.slice ya t.dy.length yc]/\Below u2.heap.size u2 U:=⟨_,rfl,Bk.new _ _ _,bl1 _⟩;obtain⟨l1,l2,l3,l4⟩:=hTC.len;go_upto_region 8 with fail
     rw[<-hU];clear hU;replace hGw:=hGw.below hbU;replace hTC:=hTC.below hbU;replace hB:=hB.trans (hbU.mono hB.size);have hs3:=hbU.size;clear hbU;obtain⟨V9,hV9,Y9,hb9⟩:∃V,V=U.alloc (.cells #[.slice ra t.rg.length rc,.bool t.al,.slice p2 t.pts.length p3,.slice xa t.dx.length xc,.slice ya t.dy.length yc] 144)/\Bk 144 V U.heap.size [.slice ra t.rg.length rc,.bool t.al,.slice p2 t.pts.length p3,.slice xa t.dx.length xc,.slice ya t.dy.length yc]/\Below U.heap.size U V:=⟨_,rfl,Bk.new _ _ _,bl1 _⟩;obtain⟨y0,y1,y2,y3,y4,-⟩:=XU.five;have hGb:=hGw.below hb9;have zhy:TuE.rep (fun q=>g<=q/\(Value.slice a6 k c6).ownBlock≠some q) V9 [.slice ra t.rg.length rc,.bool t.al,.slice p2 t.pts.length p3,.slice xa t.dx.length xc,.slice ya t.dy.length yc] t:=TuE.stay (zke.2 ⟨ra,rc,p2,p3,xa,xc,ya,yc,rfl,hTC.below hb9⟩) (qE _) (fun q h1 _=>⟨⟨by omega,fun e=>by have:=(HOW.out q e).2;omega⟩,rfl⟩);have zar:=Gr.one (E:=TuE) zhy Y9.lt (fun j hj=>Y9.cell j hj);have hBb:Below W.heap.size W V9:=hB.trans (hb9.mono hB.size);have hs9:=hb9.size;have hbs:g<=V9.heap.size:=(by omega);have hll:tl.length+1<=1000000:=(by omega);clear zhy hGw hTC hB;go_wp2_with (at_builtin;rw[<-hV9];refine zab 58 144 underlying58 zjs rfl (by decide) (by decide) rfl _ _ rfl g (fun k=>g<=k) _ tl rfl hGb (some ⟨U.heap.size,0,none⟩) 1 1 [t] rfl rfl zar hll hbs ?_)
     intro v9 w9 hT9 hgrow _;rw[<-hV9]at hgrow;have hB9:Below W.heap.size W w9:=hBb.grown hgrow hBb.size (fun q hq=>by have:=(HOW.out q hq).1;have:=HG.out;omega);have zvj:g<=w9.heap.size:=qF hbs hgrow.size;clear hgrow hGb zar hbs hll hBb hV9 Y9 y0 y1 y2 y3 y4 XU hb9;go_wp2;go_roundw
     case rel=>exact⟨.inl ⟨k+1,q2,tl++[t],rfl,rfl,by go_num,by omega,.inr hn4,HRK.out,hq2,hT9⟩,zvj,hB9⟩
     case measure=>simp[intOf];omega
  obtain⟨a6,c6,rfl,hgr,hb6⟩:=hGw.slice;have HLO:Hid (∀c o,a6=some ⟨c,o,none⟩->w.heap.size<=c):=fun c o e=>by
   have h1:=(hb6 c o e).1;have h2:=HBW.out.size;have h3:=HG.out;omega
  have HLW:Hid (∀k,g<=k->w.heap.size<=k):=fun k h1=>by
   have h2:=HBW.out.size;have h3:=HG.out;omega
  clear hb6;have hwr:=zg7 S a ca b cb o _ a6 c6 tl ax wr (HC.out.below hB) (HP.out.below hB) hgr hfl hpl hi;have hrx:=HX.out.below hB;have klt:=hgr.lenB;by_cases hn4:n<=40
  . have ek:k=n:=by omega
    rw[ek]at hrk ⊢;have g2:¬(n:Int)<(n:Int):=(by omega);have HRK:Hid (rdK xs A N n=some (tl,q)):=hrk;clear ek hk hk4 hgo hrk hGw hlk;cases hfo:foT o tl ax with
    | false =>
     have HNO:Hid (_):=zik.out (HB4.out tl q HRK.out (.inl hfo));rw[(zer hfo).1,(zer hfo).2]at hwr;clear hfo HB2 HB3 HB4 HGD hgr;go_wp2_with fail
     refine hwr.mono ?_;rintro e u1 ⟨a1,c1,rfl,-,hb1⟩;have za1:=zcb.trans (hb1.mono zcb.size);clear hwr hb1;go_wp2;go_ret2;exact⟨none,0,by rw[HNO.out.1,HNO.out.2];rfl,by rw[HNO.out.1];exact Gr.nil _ _ _ _ _ (qD _) (fun _=>rfl),(fun c o e=>by cases e),za1⟩
    | true =>
     have HFO:Hid (foT o tl ax=true):=hfo;rw[(zbo hfo).1,(zbo hfo).2]at hwr;clear hfo;go_wp2_with fail
     refine hwr.mono ?_;rintro e u1 ⟨a1,c1,rfl,hr1,hb1⟩;have za1:=zcb.trans (hb1.mono zcb.size);have heq:=zcr ba a1 bc c1 xs (tuBt tl) u1 (hrx.below hb1) hr1;replace hgr:=(hgr.below hb1).wide (S':=fun k=>w.heap.size<=k) (fun k h1 _=>HLW.out k h1);have hl1:=hr1.le;clear hwr hb1 p0 p1 hX1;by_cases he:tuBt tl=xs
     . have HG2:Hid (_):=HGD.out tl q HRK.out HFO.out he
       rw[qC he.symm]at heq;clear he HB2 HB3 HB4 HGD zik HRK hr1;go_wp2_with fail
       refine heq.mono ?_;rintro e u2 ⟨rfl,hb1⟩;have zzm:=za1.trans (hb1.mono za1.size);replace hgr:=hgr.below hb1;clear heq hb1;go_wp2;go_ret2;exact⟨a6,c6,by rw[HG2.out.1,HG2.out.2];rfl,by rw[HG2.out.1];exact hgr,HLO.out,zzm⟩
     . have HNO:Hid (_):=zik.out (HB4.out tl q HRK.out (.inr he))
       rw[qB (fun e=>he e.symm)]at heq;clear he HB2 HB3 HB4 HGD zik HRK hr1;go_wp2_with fail
       refine heq.mono ?_;rintro e u2 ⟨rfl,hb1⟩;replace za1:=za1.trans (hb1.mono za1.size);clear heq hb1;go_wp2;go_ret2;exact⟨none,0,by rw[HNO.out.1,HNO.out.2];rfl,by rw[HNO.out.1];exact Gr.nil _ _ _ _ _ (qD _) (fun _=>rfl),(fun c o e=>by cases e),za1⟩
  . have ek:k=0:=by omega
    rw[ek]at hrk ⊢;have etl:tl=[]:=(by rw[rdK]at hrk;injection hrk with h;injection h with h1 h2;exact h1.symm);have g2:(0:Int)<(n:Int):=(by omega);have g3:¬(n:Int)<=40:=(by omega);have HBAD:Hid (rdTOk xs o ax=false):=HB2.out hn4;have HNE:Hid (tuBt tl≠xs):=fun h=>by rw[etl]at h;have:=HZ0.out h;omega
    clear ek hk hk4 hgo hrk hGw hlk etl;cases hfo:foT o tl ax with
    | false =>
     have HNO:Hid (_):=zik.out HBAD.out;rw[(zer hfo).1,(zer hfo).2]at hwr;clear hfo HB2 HB3 HB4 HGD hgr;go_wp2_with fail
     refine hwr.mono ?_;rintro e u1 ⟨a1,c1,rfl,-,hb1⟩;have za1:=zcb.trans (hb1.mono zcb.size);clear hwr hb1;go_wp2;go_ret2;exact⟨none,0,by rw[HNO.out.1,HNO.out.2];rfl,by rw[HNO.out.1];exact Gr.nil _ _ _ _ _ (qD _) (fun _=>rfl),(fun c o e=>by cases e),za1⟩
    | true =>
     have HFO:Hid (foT o tl ax=true):=hfo;rw[(zbo hfo).1,(zbo hfo).2]at hwr;clear hfo;go_wp2_with fail
     refine hwr.mono ?_;rintro e u1 ⟨a1,c1,rfl,hr1,hb1⟩;have za1:=zcb.trans (hb1.mono zcb.size);have heq:=zcr ba a1 bc c1 xs (tuBt tl) u1 (hrx.below hb1) hr1;replace hgr:=(hgr.below hb1).wide (S':=fun k=>w.heap.size<=k) (fun k h1 _=>HLW.out k h1);have hl1:=hr1.le;clear hwr hb1 p0 p1 hX1;have HNO:Hid (_):=zik.out HBAD.out;rw[qB (fun e=>HNE.out e.symm)]at heq;clear HB2 HB3 HB4 HGD zik hr1;go_wp2_with fail
     refine heq.mono ?_;rintro e u2 ⟨rfl,hb1⟩;replace za1:=za1.trans (hb1.mono za1.size);clear heq hb1;go_wp2;go_ret2;exact⟨none,0,by rw[HNO.out.1,HNO.out.2];rfl,by rw[HNO.out.1];exact Gr.nil _ _ _ _ _ (qD _) (fun _=>rfl),(fun c o e=>by cases e),za1⟩
def glX(xs:LN)(ax:Int)(p:Nat):Gl:=⟨rdOL (gOb xs p),rdTL (gTb xs p) (rdOL (gOb xs p)) ax,sx16 (nmV xs (g4 xs p:Int) 2),sx16 (nmV xs ((g4 xs p+2:Nat):Int) 2),decide (nmV xs ((g4 xs p+4:Nat):Int) 1=1)⟩
def glK(xs:LN)(ax:Int)(p:Nat):Bool:=inB xs.length ((p+4:Nat):Int) (g1 xs p:Int)&&(inB xs.length ((g2 xs p+4:Nat):Int) (g3 xs p:Int)&&(decide (rdOE (gOb xs p)=0)&&(decide (rdTE (gTb xs p) (rdOL (gOb xs p)) ax=0)&&inB xs.length ((g4 xs p+4:Nat):Int) 1)))
theorem zzz{xs:LN}{ax:Int}{p:Nat}(h:glK xs ax p=true):rdGl xs ax p=some (glX xs ax p,g4 xs p+5):=by
 unfold glK at h;simp only[Bool.and_eq_true,qM]at h;obtain⟨-,-,h3,h4,h5⟩:=h;have h6:g4 xs p+5<=xs.length:=by
  unfold inB at h5;have:=of_decide_eq_true h5;omega
 exact znr h6 h3 h4
theorem z23{xs:LN}{ax:Int}{p:Nat}(h:glK xs ax p=false):rdGl xs ax p=none:=by
 refine zjg (fun hc=>?_);obtain⟨h1,h2,h3⟩:=hc;have e2:g2 xs p=p+4+g1 xs p:=rfl;have e4:g4 xs p=g2 xs p+4+g3 xs p:=rfl;have:glK xs ax p=true:=by
  unfold glK;simp only[Bool.and_eq_true,qM];refine⟨?_,?_,h2,h3,?_⟩ <;> (unfold inB;rw[qM];omega)
 rw[h]at this;cases this
theorem zrg(X:LN):(rdOL X).cs.flatten.length<=80/\(rdOL X).ps.length<=6/\(rdOL X).cs.length<=10:=by
 by_cases hk:rdOk X=true
 . have h:rdOE X=0:=by unfold rdOE;rw[if_pos hk]
   have hf:=zbg.1 (zrf h);exact⟨hf.2.2.2.2.1,hf.2.2.1,hf.2.1⟩
 . have h:rdOL X=Ol.none:=by unfold rdOL;rw[if_neg hk]
   rw[h];exact⟨qD _,qD _,qD _⟩
theorem zre(X:LN)(o:Ol)(ax:Int):(rdTL X o ax).length<=40/\(tuBt (rdTL X o ax)).length<=33000:=by
 cases hk:rdTOk X o ax with
 | true =>
  obtain⟨h1,h2⟩:=zrc hk;exact⟨(zbb.1 h1).2.2.1,zfc h1⟩
 | false =>
  rw[(zrd hk).1];exact⟨qD _,by decide⟩
theorem z24{b:LN}{ax:Int}{p:Nat}{x:Gl}{q:Nat}(h:rdGl b ax p=some (x,q)):p+(glB x).length=q/\q<=b.length:=by
 obtain⟨h1,h2,h3,h4,rfl⟩:=zhn h;have e4:g4 b p=p+4+g1 b p+4+g3 b p:=rfl;have e2:g2 b p=p+4+g1 b p:=rfl;rw[zem];dsimp only;rw[(zgh h3).2,(zge h4).2];have c1:gOb b p=(b.drop (p+4)).take (g1 b p):=zj4 (by omega);have c2:gTb b p=(b.drop (g2 b p+4)).take (g3 b p):=zj4 (by omega);rw[c1,c2,qL,qJ,qL,qJ];omega
theorem zri{b:LN}{ax:Int}:∀ {k:Nat} {l:List Gl} {q:Nat},rdGk b ax k=some (l,q)->(glsB l).length+2=q/\(0<k->q<=b.length):=by
 intro k
 induction k with
 | zero=>intro l q h;rw[rdGk]at h;injection h with h;injection h with h1 h2;rw[<-h1,<-h2];exact⟨rfl,fun h=>absurd h (by decide)⟩
 | succ k ih =>
  intro l q h;rw[rdGk]at h;cases hr:rdGk b ax k with
  | none=>rw[hr]at h;cases h
  | some r =>
   rw[hr]at h;cases ht:rdGl b ax r.2 with
   | none=>rw[Option.bind_some,ht]at h;cases h
   | some t =>
    rw[Option.bind_some,ht,Option.bind_some]at h;injection h with h;injection h with h1 h2
    obtain⟨h3,-⟩:=ih (l:=r.1) (q:=r.2) (by rw[hr]);obtain⟨h4,h5⟩:=z24 (x:=t.1) (q:=t.2) (by rw[ht]);rw[<-h1,<-h2,zaz,ze7,qA];exact⟨by omega,fun _=>h5⟩
structure RdS(xs:LN)(s:Sr)(ax:Int)(k:Nat)(tl:List Gl)(p:Nat)(ok:Bool):Prop where
 yes:ok=true->rdGk xs ax k=some (tl,p)
 no:ok=false->rdGOk xs s ax=false
 len:tl.length=k
 pt:∀x∈tl,x.o.cs.flatten.length<=100000/\x.o.ps.length<=100000
 sz:(glsB tl).length<=100000
theorem zmx(s:Sr)(ax:Int):wrGE [] s ax≠0:=fun h=>absurd (zbt.1 (zbx.1 h).1).1.1 (by decide)
theorem RdS.start(xs:LN)(s:Sr)(ax:Int):RdS xs s ax 0 [] 2 (inB xs.length 0 2):=by
 refine⟨fun _=>rfl,fun h=>?_,rfl,(fun x hx=>by cases hx),qD _⟩;have h0:nmV xs 0 2=0:=by
  unfold nmV;rw[if_neg (by rw[show inB xs.length 0 ((2:Nat):Int)=false from h];decide)]
 exact zhm (l:=[]) (p:=2) (by rw[h0];rfl) (Or.inl (zmx s ax))
theorem RdS.step{xs:LN}{s:Sr}{ax:Int}{k:Nat}{tl:List Gl}{p:Nat}(h:RdS xs s ax k tl p true)(hk:k<nmV xs 0 2)(hl:xs.length<=6000):RdS xs s ax (k+1) (tl++[glX xs ax p]) (g4 xs p+5) (glK xs ax p):=by
 have h1:=h.yes rfl;obtain⟨s1,s2⟩:=zri h1;obtain⟨o1,o2,o3⟩:=zrg (gOb xs p);refine⟨fun hy=>zkw h1 (zzz hy),fun hn=>zkt (zkx h1 (z23 hn)) hk,by rw[qA,h.len];rfl,fun x hx=>?_,?_⟩
 . rcases List.mem_append.1 hx with hx|hx
   . exact h.pt x hx
   . rw[List.mem_singleton.1 hx]
     exact⟨qF o1 (by decide),qF o2 (by decide)⟩
 . have h2:(glsB tl).length<=6000:=by
     by_cases hk0:0<k
     . have:=s2 hk0
       omega
     . have:tl=[]:=List.eq_nil_of_length_eq_zero (by rw[h.len];omega)
       rw[this];exact qD _
   have h3:=(zgs (glX xs ax p).o).2;have h4:(tuBt (glX xs ax p).ts).length<=33000:=(zre (gTb xs p) (rdOL (gOb xs p)) ax).2;rw[zaz,ze7,qA,zem];omega
theorem RdS.le{xs:LN}{s:Sr}{ax:Int}{k:Nat}{tl:List Gl}{p:Nat}(h:RdS xs s ax k tl p true)(hl:xs.length<=6000):p<=6002:=by
 obtain⟨s1,s2⟩:=zri (h.yes rfl);by_cases hk0:0<k
 . have:=s2 hk0
   omega
 . have:tl=[]:=List.eq_nil_of_length_eq_zero (by rw[h.len];omega)
   rw[this]at s1;rw[<-s1];decide
structure RdF(xs:LN)(s:Sr)(ax:Int)(ok:Bool)(tl:List Gl):Prop where
 good:ok=true->wrGE tl s ax=0->gsB tl=xs->rdGL xs s ax=tl/\rdGE xs s ax=0
 bad:¬(ok=true/\wrGE tl s ax=0/\gsB tl=xs)->rdGL xs s ax=[]/\rdGE xs s ax=2
 pt:∀x∈tl,x.o.cs.flatten.length<=100000/\x.o.ps.length<=100000
 sz:(gsB tl).length<=990000
theorem RdS.fin{xs:LN}{s:Sr}{ax:Int}{k:Nat}{tl:List Gl}{p:Nat}{ok:Bool}(h:RdS xs s ax k tl p ok)(he:ok=false\/k=nmV xs 0 2\/k=0/\¬nmV xs 0 2<=100):RdF xs s ax ok tl:=by
 have hsz:(gsB tl).length<=990000:=by
  unfold gsB;rw[qA,show(be2 ((tl.length:Nat):Int)).length=2 from rfl];have:=h.sz;omega
 refine⟨fun h1 h2 h3=>?_,fun hn=>zrh ?_,h.pt,hsz⟩
 . rcases he with he|he|⟨he,he2⟩
   . rw[h1]at he;cases he
   . exact zks (by rw[<-he];exact h.yes h1) h2 h3
   . have:tl=[]:=List.eq_nil_of_length_eq_zero (by rw[h.len];exact he)
     rw[this]at h2;exact absurd h2 (zmx s ax)
 . rcases he with he|he|⟨he,he2⟩
   . exact h.no he
   . cases hok:ok with
     | false=>exact h.no hok
     | true =>
      refine zhm (by rw[<-he];exact h.yes hok) ?_;by_cases h2:wrGE tl s ax=0
      . exact Or.inr (fun h3=>hn ⟨hok,h2,h3⟩)
      . exact Or.inl h2
   . exact zku he2
theorem zo2(ba:OA)(bc:Nat)(xs:LN)(ga:OA)(gc:Nat)(ma:OA)(mc:Nat)(s:Sr)(ax:Int)(w:World)(hx:Rb w ba bc xs)(hg:Tzz w ga gc s.rg)(hm:Rii w ma mc s.rw)(hi:I64 ax)(hxl:xs.length<=6000) :
 Calls Tryz.prog 24 #[.slice ba xs.length bc,.agg #[.slice ga s.rg.length gc,.slice ma s.rw.length mc],.int .i64 ax] w fun e w'=>∃a' c',e=.returned (.tuple #[.slice a' (rdGL xs s ax).length c',.int .i64 (rdGE xs s ax)])/\Gr GlE (fun k=>w.heap.size<=k) w' a' c' (rdGL xs s ax)/\Below w.heap.size w w':=by
 have k2:=hm.lenB;have k3:=hg.lenB;have hpc:=hx.le;have hpm:=hx.cap;unfold maxLen at hpm;obtain⟨W,hW,X1,hbW⟩:∃W,W=w.alloc (.cells #[.slice ga s.rg.length gc,.slice ma s.rw.length mc] 26)/\Bk 26 W w.heap.size [.slice ga s.rg.length gc,.slice ma s.rw.length mc]/\Below w.heap.size w W:=⟨_,rfl,Bk.new _ _ _,bl1 _⟩;replace hg:=hg.below hbW;replace hm:=hm.below hbW;replace hx:=hx.below hbW;have hu:=zgc ba bc xs 0 W hx ⟨by decide,by decide⟩;have hnl:=zam hx.lim 0 2;have HBY:Hid (Byt xs):=hx.lim;have HST:Hid (RdS xs s ax 0 [] 2 (inB xs.length 0 2)):=RdS.start xs s ax;have HSP:Hid (∀k tl p,RdS xs s ax k tl p true->k<nmV xs 0 2->RdS xs s ax (k+1) (tl++[glX xs ax p]) (g4 xs p+5) (glK xs ax p)):=fun k tl p h1 h2=>h1.step h2 hxl;have HFN:Hid (∀k tl p ok,RdS xs s ax k tl p ok->(ok=false\/k=nmV xs 0 2\/k=0/\¬nmV xs 0 2<=100)->RdF xs s ax ok tl):=fun k tl p ok h1 h2=>h1.fin h2;obtain⟨n,hn⟩:∃n,nmV xs 0 2=n:=⟨_,rfl⟩;generalize inB xs.length 0 2=ok0 at hu HST;rw[hn]at hu hnl HSP HFN;have hn6:n<65536:=hnl;clear hnl hn;have HX1:Hid (Bk 26 W w.heap.size [.slice ga s.rg.length gc,.slice ma s.rw.length mc]):=X1;have HG0:Hid (Tzz W ga gc s.rg):=hg;have HM0:Hid (Rii W ma mc s.rw):=hm;have HX:Hid (Rb W ba bc xs):=hx;have HBW:Hid (Below w.heap.size w W):=hbW;obtain⟨g,hgg⟩:∃g,W.heap.size=g:=⟨_,rfl⟩;have HG:Hid (W.heap.size=g):=hgg;go_enter func24,ntmps24;go_upto_region 1 with fail
 rw[<-hW];clear hW X1 hg hm hx hbW hgg;go_wp2_with fail
 refine hu.mono ?_;rintro e u0 ⟨rfl,rfl⟩;clear hu
 go_upto_block 0 with fail
 go_cut [9,10,11]from 12 to 146 (fun s9 s10 s11 wx=>∃(ok:Bool) (tl:List Gl) (z:Int),s9=.bool ok/\s10=.int .i64 z/\Hid (RdF xs s ax ok tl)/\Gw GlE 62 g (fun k=>g<=k) wx s11 tl/\Below W.heap.size W wx)
 case first =>
  go_wp2_with fail
  go_loopw [9,10,11,12] (fun okv pv v i wr=>∃(k p:Nat) (tl:List Gl) (ok:Bool),okv=.bool ok/\pv=.int .i64 (p:Int)/\i=.int .i64 (k:Int)/\k<=n/\(k=0\/n<=100)/\Hid (RdS xs s ax k tl p ok)/\Gw GlE 62 g (fun k=>g<=k) wr v tl/\g<=wr.heap.size/\Below W.heap.size W wr) (fun _ _ _ i _=>n-(intOf i).toNat)
  case atStart=>exact⟨0,2,[],ok0,rfl,rfl,rfl,qD _,.inl rfl,HST,Gw.nil _ _ _ _ _,by rw[HG.out];exact qE _,Below.refl _ _⟩
  case round =>
   obtain⟨k,p,tl,ok,rfl,rfl,rfl,hk,hk0,HR,hGw,hgs,hB⟩:=hrel;have HLK:Hid (tl.length=k):=HR.out.len;by_cases hkn:k<n;rotate_left
   . have m2:¬(k:Int)<(n:Int):=by omega
     have m2b:decide ((k:Int)<(n:Int))=false:=qB m2;have HF:Hid (RdF xs s ax ok tl):=HFN.out k tl p ok HR.out (.inr (.inl (by omega)));clear HR HSP HFN HST;go_wp2_with fail
     go_meet;exact⟨ok,tl,_,rfl,rfl,HF,hGw,hB⟩
   have m2:(k:Int)<(n:Int):=(by omega);have m2b:decide ((k:Int)<(n:Int))=true:=qC m2;by_cases hn1:n<=100;rotate_left
   . have m3:¬(n:Int)<=100:=by omega
     have m3b:decide ((n:Int)<=100)=false:=qB m3;have HF:Hid (RdF xs s ax ok tl):=HFN.out k tl p ok HR.out (.inr (.inr ⟨by omega,hn1⟩));clear HR HSP HFN HST;go_wp2_with fail
     go_meet;exact⟨ok,tl,_,rfl,rfl,HF,hGw,hB⟩
   have m3:(n:Int)<=100:=(by omega);have m3b:decide ((n:Int)<=100)=true:=qC m3;cases ok with
   | false =>
    have HF:Hid (RdF xs s ax false tl):=HFN.out k tl p false HR.out (.inl rfl);clear HR HSP HFN HST;go_wp2_with fail
    go_meet;exact⟨false,tl,_,rfl,rfl,HF,hGw,hB⟩
   | true =>
   have hpl:=HR.out.le hxl;have HR2:Hid (RdS xs s ax (k+1) (tl++[glX xs ax p]) (g4 xs p+5) (glK xs ax p)):=HSP.out k tl p HR.out hkn;clear HR HSP HFN HST;obtain⟨a6,c6,e6,-,-⟩:=hGw.slice;subst e6;rw[HLK.out]at hGw ⊢;have HGW:Hid (Gw GlE 62 g (fun k=>g<=k) wr (.slice a6 k c6) tl):=hGw;have HOW:Hid (∀q,(Value.slice a6 k c6).ownBlock=some q->g<=q/\q<wr.heap.size):=fun q e=>hGw.lo e
   -- the numbers
   have hg1:g1 xs p<4294967296:=zam HBY.out (p:Int) 4;have hg3:g3 xs p<4294967296:=zam HBY.out (g2 xs p:Int) 4;have e2:g2 xs p=p+4+g1 xs p:=rfl;have e4:g4 xs p=g2 xs p+4+g3 xs p:=rfl;have hv1:=zdy (zam HBY.out (g4 xs p:Int) 2);have hv2:=zdy (zam HBY.out ((g4 xs p+2:Nat):Int) 2);have hcO:∀U,Rb U ba bc xs->Calls Tryz.prog 50 #[.slice ba xs.length bc,.int .i64 (p:Int)] U fun e w'=>e=.returned (.tuple #[.int .i64 (g1 xs p:Int),.bool (inB xs.length (p:Int) 4)])/\U=w':=fun U hr=>zm9 ba bc xs (p:Int) U hr ⟨by omega,by omega⟩;have hcP:∀U,Rb U ba bc xs->Calls Tryz.prog 51 #[.slice ba xs.length bc,.int .i64 ((p:Int)+4),.int .i64 (g1 xs p:Int)] U fun e w'=>∃a' cap',e=.returned (.tuple #[.slice a' (gOb xs p).length cap',.bool (inB xs.length ((p+4:Nat):Int) (g1 xs p:Int))])/\Rw 5 U.heap.size w' a' cap' (gOb xs p)/\Below U.heap.size U w':=fun U hr=>zna ba bc xs ((p+4:Nat):Int) (g1 xs p:Int) U hr ⟨by omega,by omega⟩ ⟨by omega,by omega⟩ (by omega);have hcQ:∀U,Rb U ba bc xs->Calls Tryz.prog 50 #[.slice ba xs.length bc,.int .i64 (g2 xs p:Int)] U fun e w'=>e=.returned (.tuple #[.int .i64 (g3 xs p:Int),.bool (inB xs.length (g2 xs p:Int) 4)])/\U=w':=fun U hr=>zm9 ba bc xs (g2 xs p:Int) U hr ⟨by omega,by omega⟩;have hcR:∀U,Rb U ba bc xs->Calls Tryz.prog 51 #[.slice ba xs.length bc,.int .i64 ((g2 xs p:Int)+4),.int .i64 (g3 xs p:Int)] U fun e w'=>∃a' cap',e=.returned (.tuple #[.slice a' (gTb xs p).length cap',.bool (inB xs.length ((g2 xs p+4:Nat):Int) (g3 xs p:Int))])/\Rw 5 U.heap.size w' a' cap' (gTb xs p)/\Below U.heap.size U w':=fun U hr=>zna ba bc xs ((g2 xs p+4:Nat):Int) (g3 xs p:Int) U hr ⟨by omega,by omega⟩ ⟨by omega,by omega⟩ (by omega);have hcS:∀U,Rb U ba bc xs->Calls Tryz.prog 54 #[.slice ba xs.length bc,.int .i64 (g4 xs p:Int)] U fun e w'=>e=.returned (.tuple #[.int .i64 (sx16 (nmV xs (g4 xs p:Int) 2)),.bool (inB xs.length (g4 xs p:Int) 2)])/\U=w':=fun U hr=>zc3 ba bc xs (g4 xs p:Int) U hr ⟨by omega,by omega⟩
   have hcT:∀U,Rb U ba bc xs->Calls Tryz.prog 54 #[.slice ba xs.length bc,.int .i64 ((g4 xs p:Int)+2)] U fun e w'=>e=.returned (.tuple #[.int .i64 (sx16 (nmV xs ((g4 xs p+2:Nat):Int) 2)),.bool (inB xs.length ((g4 xs p+2:Nat):Int) 2)])/\U=w':=fun U hr=>zc3 ba bc xs ((g4 xs p+2:Nat):Int) U hr ⟨by omega,by omega⟩;have hcV:∀U,Rb U ba bc xs->Calls Tryz.prog 55 #[.slice ba xs.length bc,.int .i64 ((g4 xs p:Int)+4)] U fun e w'=>e=.returned (.tuple #[.int .i64 (nmV xs ((g4 xs p+4:Nat):Int) 1:Int),.bool (inB xs.length ((g4 xs p+4:Nat):Int) 1)])/\U=w':=fun U hr=>zc1 ba bc xs ((g4 xs p+4:Nat):Int) U hr ⟨by omega,by omega⟩;have HOL:Hid ((gOb xs p).length<=100000):=by
    show _<=_;unfold gOb;cases hc:inB xs.length ((p+4:Nat):Int) (g1 xs p:Int) with
    | false=>rw[zh4 hc];exact qD _
    | true=>rw[zd7 hc,qL,qJ];omega
   have HTL:Hid ((gTb xs p).length<=100000):=zxb (ax:=ax) 100000 (by omega);obtain⟨o1,o2,o3⟩:=zrg (gOb xs p);obtain⟨t1,-⟩:=zre (gTb xs p) (rdOL (gOb xs p)) ax;have hv3:nmV xs ((g4 xs p+4:Nat):Int) 1<256:=zam HBY.out _ 1;have HGX:Hid (glX xs ax p=⟨rdOL (gOb xs p),rdTL (gTb xs p) (rdOL (gOb xs p)) ax,sx16 (nmV xs (g4 xs p:Int) 2),sx16 (nmV xs ((g4 xs p+2:Nat):Int) 2),decide (nmV xs ((g4 xs p+4:Nat):Int) 1=1)⟩):=rfl;have HGK:Hid (glK xs ax p=(inB xs.length ((p+4:Nat):Int) (g1 xs p:Int)&&(inB xs.length ((g2 xs p+4:Nat):Int) (g3 xs p:Int)&&(decide (rdOE (gOb xs p)=0)&&(decide (rdTE (gTb xs p) (rdOL (gOb xs p)) ax=0)&&inB xs.length ((g4 xs p+4:Nat):Int) 1))))):=rfl;have hrO:=fun U a1 c1 (hr:Rb U a1 c1 (gOb xs p))=>zls a1 c1 (gOb xs p) U hr HOL.out;have hrT:=fun U a1 c1 S xa xc qa qc (hr:Rb U a1 c1 (gTb xs p)) h1 h2=>zlr a1 c1 (gTb xs p) S xa xc qa qc (rdOL (gOb xs p)) ax U hr h1 h2 (qF o1 (by decide)) (qF o2 (by decide)) hi HTL.out;generalize sx16 (nmV xs (g4 xs p:Int) 2)=v1 at *;generalize sx16 (nmV xs ((g4 xs p+2:Nat):Int) 2)=v2 at *;generalize nmV xs ((g4 xs p+4:Nat):Int) 1=v3 at *;generalize inB xs.length ((g4 xs p+4:Nat):Int) 1=q3 at *;generalize inB xs.length ((p+4:Nat):Int) (g1 xs p:Int)=q1 at *;generalize inB xs.length ((g2 xs p+4:Nat):Int) (g3 xs p:Int)=q2 at *;generalize rdTE (gTb xs p) (rdOL (gOb xs p)) ax=te at *;generalize rdTL (gTb xs p) (rdOL (gOb xs p)) ax=ts at *;generalize rdOE (gOb xs p)=oe at *;generalize rdOL (gOb xs p)=ob at *;generalize gOb xs p=Ob at *;generalize gTb xs p=Tb at *;generalize glX xs ax p=gx at *;generalize glK xs ax p=gk at *;generalize g4 xs p=p4 at *;generalize g3 xs p=n3 at *;generalize g2 xs p=p2 at *;generalize g1 xs p=n1 at *;have E2:Hid ((p:Int)+(4+(n1:Int))=(p2:Int)):=(by show _=_;omega);have E4:Hid ((p2:Int)+(4+(n3:Int))=(p4:Int)):=(by show _=_;omega);have hp2:p2<=5000000000:=(by omega);have hp4:p4<=10000000000:=(by omega);clear e2 e4 hGw HBY
   -- the glyph's block
   obtain⟨V0,hV0,XG,hb0⟩:∃V,V=wr.alloc (.cells #[.slice none 0 0,.slice none 0 0,.slice none 0 0,.int .i64 0,.int .i64 0,.bool false] 62)/\Bk 62 V wr.heap.size [.slice none 0 0,.slice none 0 0,.slice none 0 0,.int .i64 0,.int .i64 0,.bool false]/\Below wr.heap.size wr V:=⟨_,rfl,Bk.new _ _ _,bl1 _⟩;obtain⟨gG,hgG⟩:∃n,wr.heap.size=n:=⟨_,rfl⟩;have HGG:Hid (wr.heap.size=gG):=hgG;go_upto_region 8 with fail
   rw[<-hV0];rw[hgG]at XG;try rw[hgG]
   clear hV0 hgG;have HBr:∀U,Below wr.heap.size wr U->Rb U ba bc xs:=fun U hU=>HX.out.below (hB.trans (hU.mono hB.size));have hBr:=hb0;have hs0:=XG.lt;clear hb0;go_wp2_with fail
   refine(hcO _ (HBr _ hBr)).mono ?_;rintro e u ⟨rfl,rfl⟩;go_wp2_with fail
   refine(hcP _ (HBr _ hBr)).mono ?_;rintro e u1 ⟨a1,c1,rfl,hr1,hb1⟩;have hs1:=hb1.size;replace XG:=XG.below hb1;replace hBr:=hBr.trans (hb1.mono hBr.size);clear hb1 hcO hcP;go_wp2_with fail
   rw[E2.out];refine(hcQ _ (HBr _ hBr)).mono ?_;rintro e u ⟨rfl,rfl⟩;go_wp2_with fail
   refine(hcR _ (HBr _ hBr)).mono ?_;rintro e u2 ⟨a2,c2,rfl,hr2,hb1⟩;have hs2:=hb1.size;replace XG:=XG.below hb1;replace hBr:=hBr.trans (hb1.mono hBr.size);have hd1:=hr1.rd.below hb1;have hd2:=hr2.rd;clear hb1 hcQ hcR hr1 hr2;have hro:=hrO u2 a1 c1 hd1;go_wp2_with fail
   rw[E4.out];refine hro.mono ?_;rintro e u3 ⟨xa,xc,qa,qc,rfl,hGc,hGp,⟨hlc,hlp⟩,hb1⟩;have hs3:=hb1.size;replace XG:=XG.below hb1;replace hBr:=hBr.trans (hb1.mono hBr.size);replace hd2:=hd2.below hb1;clear hb1 hro hrO hd1;have hn0:gG+1<=u2.heap.size:=(by omega);replace hGc:Gr PnE.row (fun k=>gG+1<=k) u3 xa xc ob.cs:=hGc.wide (fun k h1 _=>qF hn0 h1);replace hGp:Gr PaE (fun k=>gG+1<=k) u3 qa qc ob.ps:=hGp.wide (fun k h1 _=>qF hn0 h1);have z2d:∀c o,xa=some ⟨c,o,none⟩->gG+1<=c:=fun c o e=>qF hn0 (hlc c o e);have z2a:∀c o,qa=some ⟨c,o,none⟩->gG+1<=c:=fun c o e=>qF hn0 (hlp c o e);have kc:=hGc.lenB;have kp:=hGp.lenB;obtain⟨V,hV,XO,hbV⟩:∃V,V=u3.alloc (.cells #[.slice xa ob.cs.length xc,.slice qa ob.ps.length qc] 57)/\Bk 57 V u3.heap.size [.slice xa ob.cs.length xc,.slice qa ob.ps.length qc]/\Below u3.heap.size u3 V:=⟨_,rfl,Bk.new _ _ _,bl1 _⟩;go_upto_region 15 with fail
   rw[<-hV];clear hV hlc hlp;replace XG:=XG.below hbV;replace hBr:=hBr.trans (hbV.mono hBr.size);replace hd2:=hd2.below hbV;replace hGc:=hGc.below hbV;replace hGp:=hGp.below hbV;have hsV:=hbV.size;obtain⟨gO,hgO⟩:∃n,u3.heap.size=n:=⟨_,rfl⟩;rw[hgO]at XO hs3 hsV;try rw[hgO]
   have hGO:gG+1<=gO:=(by omega);clear hgO hbV;have hrt:=hrT V a2 c2 _ xa xc qa qc hd2 hGc hGp;obtain⟨z0,z1,-⟩:=XO.two;go_wp2_with fail
   refine hrt.mono ?_;rintro e u4 ⟨ta,tc,rfl,hGt,hlt,hb1⟩;have hs4:=hb1.size;replace XG:=XG.below hb1;replace XO:=XO.below hb1;replace hBr:=hBr.trans (hb1.mono hBr.size);replace hGc:=hGc.below hb1;replace hGp:=hGp.below hb1;have hn3:gG+1<=V.heap.size:=(by omega);replace hGt:Gr TuE (fun k=>gG+1<=k) u4 ta tc ts:=hGt.wide (fun k h1 _=>qF hn3 h1);have hltB:∀c o,ta=some ⟨c,o,none⟩->gG+1<=c:=fun c o e=>qF hn3 (hlt c o e);have kt:=hGt.lenB;clear hrt hrT hb1 hlt hd2 z0 z1
   -- the stores
   have hge:wr.heap.size<=gG:=(by rw[HGG.out];exact qE _);obtain⟨U5,hU5⟩:∃U,U=((u4.setCell ⟨gG,0,none⟩ (.slice xa ob.cs.length xc)).setCell ⟨gG,1,none⟩ (.slice qa ob.ps.length qc)).setCell ⟨gG,2,none⟩ (.slice ta ts.length tc):=⟨_,rfl⟩;have XG5:Bk 62 U5 gG [.slice xa ob.cs.length xc,.slice qa ob.ps.length qc,.slice ta ts.length tc,.int .i64 0,.int .i64 0,.bool false]:=(by rw[hU5];exact((XG.set 0 _).set 1 _).set 2 _);have hBr5:Below wr.heap.size wr U5:=(by rw[hU5];exact((hBr.setCell (p:=⟨gG,0,none⟩) hge _).setCell (p:=⟨gG,1,none⟩) hge _).setCell (p:=⟨gG,2,none⟩) hge _);have hK5:K3 (gG+1) u4 U5:=(by rw[hU5];exact((K3.set _ (by omega) 0 _).trans (K3.set _ (by omega) 1 _)).trans (K3.set _ (by omega) 2 _));obtain⟨y0,y1,y2,y3,y4,y5,hf⟩:=XG.six;have f0:=hf 0;have f1:=hf 1;have f2:=hf 2;obtain⟨z0,z1,-⟩:=XO.two;have hneo:gG≠gO:=(by omega);go_upto_region 18 with fail
   rw[<-hU5];clear hU5 y0 y1 y2 y3 y4 y5 hf f0 f1 f2 z0 z1 XO XG hBr;go_wp2_with fail
   refine(hcS _ (HBr _ hBr5)).mono ?_;rintro e u ⟨rfl,rfl⟩;obtain⟨U6,hU6⟩:∃U,U=U5.setCell ⟨gG,3,none⟩ (.int .i64 v1):=⟨_,rfl⟩;have XG6:Bk 62 U6 gG [.slice xa ob.cs.length xc,.slice qa ob.ps.length qc,.slice ta ts.length tc,.int .i64 v1,.int .i64 0,.bool false]:=(by rw[hU6];exact XG5.set 3 _);have hBr6:Below wr.heap.size wr U6:=(by rw[hU6];exact hBr5.setCell (p:=⟨gG,3,none⟩) hge _);have hK6:K3 (gG+1) u4 U6:=(by rw[hU6];exact hK5.trans (K3.set _ (by omega) 3 _));obtain⟨y0,y1,y2,y3,y4,y5,hf⟩:=XG5.six;have f3:=hf 3;go_upto_region 19 with fail
   rw[<-hU6];clear hU6 y0 y1 y2 y3 y4 y5 hf f3 XG5 hBr5 hK5 hcS;go_wp2_with fail
   refine(hcT _ (HBr _ hBr6)).mono ?_;rintro e u ⟨rfl,rfl⟩;obtain⟨U7,hU7⟩:∃U,U=U6.setCell ⟨gG,4,none⟩ (.int .i64 v2):=⟨_,rfl⟩;have XG7:Bk 62 U7 gG [.slice xa ob.cs.length xc,.slice qa ob.ps.length qc,.slice ta ts.length tc,.int .i64 v1,.int .i64 v2,.bool false]:=(by rw[hU7];exact XG6.set 4 _);have hBr7:Below wr.heap.size wr U7:=(by rw[hU7];exact hBr6.setCell (p:=⟨gG,4,none⟩) hge _);have hK7:K3 (gG+1) u4 U7:=(by rw[hU7];exact hK6.trans (K3.set _ (by omega) 4 _));obtain⟨y0,y1,y2,y3,y4,y5,hf⟩:=XG6.six;have f4:=hf 4;go_upto_region 20 with fail
   rw[<-hU7];clear hU7 y0 y1 y2 y3 y4 y5 hf f4 XG6 hBr6 hK6 hcT;go_wp2_with fail
   refine(hcV _ (HBr _ hBr7)).mono ?_;rintro e u ⟨rfl,rfl⟩;obtain⟨mk,hmk⟩:∃b,decide (v3=1)=b:=⟨_,rfl⟩;have g5:((v3:Int)==1)=mk:=(by rw[<-hmk,Bool.eq_iff_iff];simp;omega);rw[hmk]at HGX;obtain⟨U8,hU8⟩:∃U,U=U7.setCell ⟨gG,5,none⟩ (.bool mk):=⟨_,rfl⟩;have XG8:Bk 62 U8 gG [.slice xa ob.cs.length xc,.slice qa ob.ps.length qc,.slice ta ts.length tc,.int .i64 v1,.int .i64 v2,.bool mk]:=(by rw[hU8];exact XG7.set 5 _);have hBr8:Below wr.heap.size wr U8:=(by rw[hU8];exact hBr7.setCell (p:=⟨gG,5,none⟩) hge _);have hK8:K3 (gG+1) u4 U8:=(by rw[hU8];exact hK7.trans (K3.set _ (by omega) 5 _));obtain⟨y0,y1,y2,y3,y4,y5,hf⟩:=XG7.six;have f5:=hf 5;clear hmk;go_upto_region 23 with fail
   rw[<-hU8];have hTC:GlC (fun k=>gG+1<=k) U8 xa xc qa qc ta tc ⟨ob,ts,v1,v2,mk⟩:=⟨zaf (⟨_,_,rfl,fun c o e _=>z2d c o e,hGc,by omega⟩:PnE.row.row.rep (fun k=>gG+1<=k) u4 [.slice xa ob.cs.length xc] ob.cs) hK8,zaf (⟨_,_,rfl,fun c o e _=>z2a c o e,hGp,by omega⟩:PaE.row.rep (fun k=>gG+1<=k) u4 [.slice qa ob.ps.length qc] ob.ps) hK8,zaf (⟨_,_,rfl,fun c o e _=>hltB c o e,hGt,by omega⟩:TuE.row.rep (fun k=>gG+1<=k) u4 [.slice ta ts.length tc] ts) hK8,hv1,hv2⟩;clear hU8 y0 y1 y2 y3 y4 y5 hf f5 XG7 hBr7 hK7 hcV hK8 hGc hGp hGt g5 z2d z2a hltB
   go_cut [9]from 128 to 142 (fun s9 wx=>s9=.bool gk/\wx=U8)
   case first =>
    cases q1 with
    | false =>
     have HK:Hid (gk=false):=(by show gk=false;rw[HGK.out];rfl);clear HGK;go_wp2_with fail
     go_meet;exact⟨by rw[HK.out],rfl⟩
    | true =>
    cases q2 with
    | false =>
     have HK:Hid (gk=false):=(by show gk=false;rw[HGK.out];rfl);clear HGK;go_wp2_with fail
     go_meet;exact⟨by rw[HK.out],rfl⟩
    | true =>
    by_cases ho:oe=0;rotate_left
    . have HK:Hid (gk=false):=by show gk=false;rw[HGK.out,qB ho];rfl
      have g7:(oe==0)=false:=(by simp;exact ho);clear HGK;go_wp2_with fail
      go_meet;exact⟨by rw[HK.out],rfl⟩
    have g7:(oe==0)=true:=(by rw[ho];rfl);by_cases ht:te=0;rotate_left
    . have HK:Hid (gk=false):=by show gk=false;rw[HGK.out,qC ho,qB ht];rfl
      have g8:(te==0)=false:=(by simp;exact ht);clear HGK ho;go_wp2_with fail
      go_meet;exact⟨by rw[HK.out],rfl⟩
    have g8:(te==0)=true:=(by rw[ht];rfl);have HK:Hid (gk=q3):=(by show gk=q3;rw[HGK.out,qC ho,qC ht];rfl);clear HGK ho ht;go_wp2_with fail
    go_meet;exact⟨by rw[HK.out],rfl⟩
   case rest =>
   obtain⟨rfl,rfl⟩:=hcut;have l1:=hTC.cs.lenB;have l2:=hTC.ps.lenB;have l3:=hTC.ts.lenB;obtain⟨V9,hV9,Y9,hb9⟩:∃V,V=wc.alloc (.cells #[.slice xa ob.cs.length xc,.slice qa ob.ps.length qc,.slice ta ts.length tc,.int .i64 v1,.int .i64 v2,.bool mk] 62)/\Bk 62 V wc.heap.size [.slice xa ob.cs.length xc,.slice qa ob.ps.length qc,.slice ta ts.length tc,.int .i64 v1,.int .i64 v2,.bool mk]/\Below wc.heap.size wc V:=⟨_,rfl,Bk.new _ _ _,bl1 _⟩;obtain⟨y0,y1,y2,y3,y4,y5,-⟩:=XG8.six;have hBr9:=hBr8.trans (hb9.mono hBr8.size);have hGb:=HGW.out.below hBr9;have zhy:GlE.rep (fun q=>g<=q/\(Value.slice a6 k c6).ownBlock≠some q) V9 [.slice xa ob.cs.length xc,.slice qa ob.ps.length qc,.slice ta ts.length tc,.int .i64 v1,.int .i64 v2,.bool mk] ⟨ob,ts,v1,v2,mk⟩:=GlE.stay (zie.2 ⟨xa,xc,qa,qc,ta,tc,rfl,hTC.below hb9⟩) (qE _) (fun q h1 _=>⟨⟨by have:=HGG.out;omega,fun e=>by have:=(HOW.out q e).2;have:=HGG.out;omega⟩,rfl⟩);rw[<-HGX.out]at zhy;have zar:=Gr.one (E:=GlE) zhy Y9.lt (fun j hj=>Y9.cell j hj);have hBb:Below W.heap.size W V9:=hB.trans (hBr9.mono hB.size);have hs9:=hBr9.size;have hbs:g<=V9.heap.size:=(by omega);have hll:tl.length+1<=1000000:=(by rw[HLK.out];omega);clear zhy hTC hb9 hBr8 hBr9;go_wp2_with (at_builtin;rw[<-hV9];refine zab 22 62 underlying22 zsg rfl (by decide) (by decide) rfl _ _ rfl g (fun k=>g<=k) _ tl rfl hGb (some ⟨wc.heap.size,0,none⟩) 1 1 [gx] rfl rfl zar hll hbs ?_)
   intro v9 w9 hT9 hgrow _;rw[<-hV9]at hgrow;have hB9:Below W.heap.size W w9:=hBb.grown hgrow hBb.size (fun q hq=>by have:=(HOW.out q hq).1;have:=HG.out;omega);have zvj:g<=w9.heap.size:=qF hbs hgrow.size;clear hgrow hGb zar hbs hll hBb hV9 Y9 y0 y1 y2 y3 y4 y5 XG8;go_wp2;go_roundw
   case rel=>exact⟨k+1,p4+5,tl++[gx],gk,rfl,by go_num,by go_num,by omega,.inr hn1,HR2,hT9,zvj,hB9⟩
   case measure=>simp[intOf];omega
 case rest =>
 obtain⟨ok,tl,z,rfl,rfl,HF,hGw,hB⟩:=hcut;clear HST HSP HFN;obtain⟨a6,c6,rfl,hgr,-⟩:=hGw.slice;have HLW:Hid (∀k,g<=k->w.heap.size<=k):=fun k h1=>by
  have h2:=HBW.out.size;have h3:=HG.out;omega
 have hX1:=HX1.out.below hB;obtain⟨p0,p1,_⟩:=hX1.two;have zcb:=HBW.out.trans (hB.mono HBW.out.size);have hwr:=zg8 _ a6 c6 tl ga gc ma mc s ax wc hgr (fun x hx=>(HF.out.pt x hx).1) (fun x hx=>(HF.out.pt x hx).2) (HG0.out.below hB) (HM0.out.below hB) hi (fun _=>HF.out.sz);have hrx:=HX.out.below hB;have klt:=hgr.lenB;have HGR:Hid (Gr GlE (fun k=>g<=k) wc a6 c6 tl):=hgr;clear hGw hgr hX1;by_cases he:wrGE tl s ax=0;rotate_left
 . have HNO:Hid (_):=HF.out.bad (fun h=>he h.2.1)
   have g1:(wrGE tl s ax != 0)=true:=bne_iff_ne.2 he;generalize wrGB tl s ax=bb at hwr;generalize wrGE tl s ax=be at *;clear HF he;cases ok with
   | false =>
    go_wp2_with fail
    refine hwr.mono ?_;rintro e u1 ⟨a1,c1,rfl,hr1,hb1⟩;have za1:=zcb.trans (hb1.mono zcb.size);clear hwr hb1 hr1;go_wp2;go_ret2;exact⟨none,0,by rw[HNO.out.1,HNO.out.2];rfl,by rw[HNO.out.1];exact Gr.nil _ _ _ _ _ (qD _) (fun _=>rfl),za1⟩
   | true =>
    go_wp2_with fail
    refine hwr.mono ?_;rintro e u1 ⟨a1,c1,rfl,hr1,hb1⟩;have za1:=zcb.trans (hb1.mono zcb.size);clear hwr hb1 hr1;go_wp2;go_ret2;exact⟨none,0,by rw[HNO.out.1,HNO.out.2];rfl,by rw[HNO.out.1];exact Gr.nil _ _ _ _ _ (qD _) (fun _=>rfl),za1⟩
 have HWB:Hid (wrGB tl s ax=gsB tl):=by show _=_;unfold wrGB;rw[if_pos he]
 have HE:Hid (wrGE tl s ax=0):=he;rw[HWB.out,he]at hwr;clear he HWB;cases ok with
 | false =>
  have HNO:Hid (_):=HF.out.bad (fun h=>by cases h.1);clear HF;generalize gsB tl=bb at hwr;go_wp2_with fail
  refine hwr.mono ?_;rintro e u1 ⟨a1,c1,rfl,hr1,hb1⟩;have za1:=zcb.trans (hb1.mono zcb.size);clear hwr hb1 hr1;go_wp2;go_ret2;exact⟨none,0,by rw[HNO.out.1,HNO.out.2];rfl,by rw[HNO.out.1];exact Gr.nil _ _ _ _ _ (qD _) (fun _=>rfl),za1⟩
 | true =>
 have HGD:Hid (gsB tl=xs->rdGL xs s ax=tl/\rdGE xs s ax=0):=fun h=>HF.out.good rfl HE.out h;have HBD:Hid (¬gsB tl=xs->rdGL xs s ax=[]/\rdGE xs s ax=2):=fun h=>HF.out.bad (fun h2=>h h2.2.2);clear HF;generalize gsB tl=bb at *;go_wp2_with fail
 refine hwr.mono ?_;rintro e u1 ⟨a1,c1,rfl,hr1,hb1⟩;have za1:=zcb.trans (hb1.mono zcb.size);have heq:=zcr ba a1 bc c1 xs bb u1 (hrx.below hb1) hr1;have hgr:=(HGR.out.below hb1).wide (S':=fun k=>w.heap.size<=k) (fun k h1 _=>HLW.out k h1);have hl1:=hr1.le;have hl2:=hr1.cap;unfold maxLen at hl2;clear hwr hb1 p0 p1 hr1;by_cases hbe:bb=xs
 . have HG2:Hid (_):=HGD.out hbe
   rw[qC hbe.symm]at heq;clear hbe HGD HBD;go_wp2_with fail
   refine heq.mono ?_;rintro e u2 ⟨rfl,hb1⟩;have zzm:=za1.trans (hb1.mono za1.size);replace hgr:=hgr.below hb1;clear heq hb1;go_wp2;go_ret2;exact⟨a6,c6,by rw[HG2.out.1,HG2.out.2];rfl,by rw[HG2.out.1];exact hgr,zzm⟩
 . have HNO:Hid (_):=HBD.out hbe
   rw[qB (fun e=>hbe e.symm)]at heq;clear hbe HGD HBD;go_wp2_with fail
   refine heq.mono ?_;rintro e u2 ⟨rfl,hb1⟩;replace za1:=za1.trans (hb1.mono za1.size);clear heq hb1;go_wp2;go_ret2;exact⟨none,0,by rw[HNO.out.1,HNO.out.2];rfl,by rw[HNO.out.1];exact Gr.nil _ _ _ _ _ (qD _) (fun _=>rfl),za1⟩
theorem zo1(S S2:Nat->Prop)(a:OA)(ca:Nat)(b:OA)(cb:Nat)(l:List Gl)(w:World)(ha:Gr GlE S w a ca l)(hb:Gr GlE S2 w b cb l) :
 Calls Tryz.prog 26 #[.slice a l.length ca,.slice b l.length cb] w fun e w'=>e=.returned (.bool true)/\Below w.heap.size w w':=by
 have kl:=ha.lenB;have HA:Hid (Gr GlE S w a ca l):=ha;have HB:Hid (Gr GlE S2 w b cb l):=hb;clear ha hb;go_enter func26,ntmps26;go_wp2
 go_loopw [5] (fun i wr=>∃k:Nat,k<=l.length/\i=.int .i64 k/\Below w.heap.size w wr) (fun i _=>l.length-(intOf i).toNat)
 case atStart=>exact⟨0,qD _,rfl,Below.refl _ _⟩
 case round =>
  obtain⟨k,hk,rfl,hB⟩:=hrel;by_cases hkn:k<l.length
  . obtain⟨b1,o1,xa,xc,qa,qc,ta,tc,ea,hb1,hG1,d0,d1,d2,d3,d4,d5⟩:=HA.out.gl hB k hkn
    obtain⟨b2,o2,xa',xc',qa',qc',ta',tc',eb,hb2,hG2,e0,e1,e2,e3,e4,e5⟩:=HB.out.gl hB k hkn;generalize l.getD k Gl.none=x at *;subst ea eb;have i1:(0:Int)<=(k:Int):=(by omega);have i2:(k:Int)<(l.length:Int):=(by omega);have hws:=hB.size;have k1:=hG1.cs.lenB;have k2:=hG1.ps.lenB;have k3:=hG1.ts.lenB;have hc1:=fun U (hU:Below wr.heap.size wr U)=>zo0 S S2 xa xc qa qc xa' xc' qa' qc' x.o U (hG1.below hU).cs (hG1.below hU).ps (hG2.below hU).cs (hG2.below hU).ps;have hc2:=fun U (hU:Below wr.heap.size wr U)=>zoz S S2 ta tc ta' tc' x.ts U (hG1.below hU).ts (hG2.below hU).ts;clear hG1 hG2;go_upto_region 6 with fail
    refine wp_region_held_drew (S:=fun w9=>w9.cell? ⟨b1,o1+k*6,none⟩=some (.slice xa x.o.cs.length xc)/\w9.cell? ⟨b1,o1+k*6+1,none⟩=some (.slice qa x.o.ps.length qc)/\w9.cell? ⟨b1,o1+k*6+2,none⟩=some (.slice ta x.ts.length tc)/\w9.cell? ⟨b1,o1+k*6+3,none⟩=some (.int .i64 x.ab)/\w9.cell? ⟨b1,o1+k*6+4,none⟩=some (.int .i64 x.ar)/\w9.cell? ⟨b1,o1+k*6+5,none⟩=some (.bool x.mr)/\w9.cell? ⟨b2,o2+k*6,none⟩=some (.slice xa' x.o.cs.length xc')/\w9.cell? ⟨b2,o2+k*6+1,none⟩=some (.slice qa' x.o.ps.length qc')/\w9.cell? ⟨b2,o2+k*6+2,none⟩=some (.slice ta' x.ts.length tc')/\w9.cell? ⟨b2,o2+k*6+3,none⟩=some (.int .i64 x.ab)/\w9.cell? ⟨b2,o2+k*6+4,none⟩=some (.int .i64 x.ar)/\w9.cell? ⟨b2,o2+k*6+5,none⟩=some (.bool x.mr)) (by kernel_rfl) ?_ (fun hH=>?_)
    . (try dsimp only)
      go_keep
    have hdr:Below wr.heap.size wr wr.drew:=Below.drew1;generalize wr.drew=Z at hdr hH ⊢;replace d0:=(hdr.cell (p:=⟨b1,o1+k*6,none⟩) (by show b1<_;omega)).trans d0;replace d1:=(hdr.cell (p:=⟨b1,o1+k*6+1,none⟩) (by show b1<_;omega)).trans d1;replace d2:=(hdr.cell (p:=⟨b1,o1+k*6+2,none⟩) (by show b1<_;omega)).trans d2;replace d3:=(hdr.cell (p:=⟨b1,o1+k*6+3,none⟩) (by show b1<_;omega)).trans d3;replace d4:=(hdr.cell (p:=⟨b1,o1+k*6+4,none⟩) (by show b1<_;omega)).trans d4;replace d5:=(hdr.cell (p:=⟨b1,o1+k*6+5,none⟩) (by show b1<_;omega)).trans d5;replace e0:=(hdr.cell (p:=⟨b2,o2+k*6,none⟩) (by show b2<_;omega)).trans e0;replace e1:=(hdr.cell (p:=⟨b2,o2+k*6+1,none⟩) (by show b2<_;omega)).trans e1;replace e2:=(hdr.cell (p:=⟨b2,o2+k*6+2,none⟩) (by show b2<_;omega)).trans e2;replace e3:=(hdr.cell (p:=⟨b2,o2+k*6+3,none⟩) (by show b2<_;omega)).trans e3;replace e4:=(hdr.cell (p:=⟨b2,o2+k*6+4,none⟩) (by show b2<_;omega)).trans e4;replace e5:=(hdr.cell (p:=⟨b2,o2+k*6+5,none⟩) (by show b2<_;omega)).trans e5;have hzs:=hdr.size;refine hT 0 hH ?_;refine hT 1 hH ?_;refine hT 2 hH ?_;refine hT 3 hH ?_;refine hT 4 hH ?_;refine hT 5 hH ?_;refine hT 6 hH ?_;refine hT 7 hH ?_;refine hT 8 hH ?_;refine hT 9 hH ?_;refine hCall (i:=10) rfl (by kernel_rfl) (by rfl) (fun K hK=>?_);go_simp;refine(hc1 _ hdr).mono ?_;rintro e u1 ⟨rfl,hu1⟩;replace d0:=(hu1.cell (p:=⟨b1,o1+k*6,none⟩) (by show b1<_;omega)).trans d0;replace d1:=(hu1.cell (p:=⟨b1,o1+k*6+1,none⟩) (by show b1<_;omega)).trans d1;replace d2:=(hu1.cell (p:=⟨b1,o1+k*6+2,none⟩) (by show b1<_;omega)).trans d2;replace d3:=(hu1.cell (p:=⟨b1,o1+k*6+3,none⟩) (by show b1<_;omega)).trans d3;replace d4:=(hu1.cell (p:=⟨b1,o1+k*6+4,none⟩) (by show b1<_;omega)).trans d4;replace d5:=(hu1.cell (p:=⟨b1,o1+k*6+5,none⟩) (by show b1<_;omega)).trans d5;replace e0:=(hu1.cell (p:=⟨b2,o2+k*6,none⟩) (by show b2<_;omega)).trans e0;replace e1:=(hu1.cell (p:=⟨b2,o2+k*6+1,none⟩) (by show b2<_;omega)).trans e1
    replace e2:=(hu1.cell (p:=⟨b2,o2+k*6+2,none⟩) (by show b2<_;omega)).trans e2;replace e3:=(hu1.cell (p:=⟨b2,o2+k*6+3,none⟩) (by show b2<_;omega)).trans e3;replace e4:=(hu1.cell (p:=⟨b2,o2+k*6+4,none⟩) (by show b2<_;omega)).trans e4;replace e5:=(hu1.cell (p:=⟨b2,o2+k*6+5,none⟩) (by show b2<_;omega)).trans e5;replace hdr:=hdr.trans (hu1.mono hdr.size);have hus:=hu1.size;clear hu1 hc1;go_wp2_with fail
    refine hK.out _ _ ?_ (fun hH=>?_)
    . (try dsimp only)
      exact⟨d0,d1,d2,d3,d4,d5,e0,e1,e2,e3,e4,e5⟩
    clear hK K;try simp only[Act.put,pZ]
    refine hT 11 hH ?_;refine hT 12 hH ?_;refine hT 13 hH ?_;refine hT 14 hH ?_;refine hT 15 hH ?_;refine hT 16 hH ?_;refine hT 17 hH ?_;refine hT 18 hH ?_;refine hT 19 hH ?_;refine hT 20 hH ?_;refine hT 21 hH ?_;refine hT 22 hH ?_;refine hCall (i:=23) rfl (by kernel_rfl) (by rfl) (fun K hK=>?_);go_simp;refine(hc2 _ hdr).mono ?_;rintro e u2 ⟨rfl,hu2⟩;replace d0:=(hu2.cell (p:=⟨b1,o1+k*6,none⟩) (by show b1<_;omega)).trans d0;replace d1:=(hu2.cell (p:=⟨b1,o1+k*6+1,none⟩) (by show b1<_;omega)).trans d1;replace d2:=(hu2.cell (p:=⟨b1,o1+k*6+2,none⟩) (by show b1<_;omega)).trans d2;replace d3:=(hu2.cell (p:=⟨b1,o1+k*6+3,none⟩) (by show b1<_;omega)).trans d3;replace d4:=(hu2.cell (p:=⟨b1,o1+k*6+4,none⟩) (by show b1<_;omega)).trans d4;replace d5:=(hu2.cell (p:=⟨b1,o1+k*6+5,none⟩) (by show b1<_;omega)).trans d5;replace e0:=(hu2.cell (p:=⟨b2,o2+k*6,none⟩) (by show b2<_;omega)).trans e0;replace e1:=(hu2.cell (p:=⟨b2,o2+k*6+1,none⟩) (by show b2<_;omega)).trans e1;replace e2:=(hu2.cell (p:=⟨b2,o2+k*6+2,none⟩) (by show b2<_;omega)).trans e2;replace e3:=(hu2.cell (p:=⟨b2,o2+k*6+3,none⟩) (by show b2<_;omega)).trans e3;replace e4:=(hu2.cell (p:=⟨b2,o2+k*6+4,none⟩) (by show b2<_;omega)).trans e4;replace e5:=(hu2.cell (p:=⟨b2,o2+k*6+5,none⟩) (by show b2<_;omega)).trans e5;replace hdr:=hdr.trans (hu2.mono hdr.size);clear hu2 hc2;go_wp2_with fail
    refine hK.out _ _ ?_ (fun hH=>?_)
    . (try dsimp only)
      exact⟨d0,d1,d2,d3,d4,d5,e0,e1,e2,e3,e4,e5⟩
    clear hK K;try simp only[Act.put,pZ]
    refine hT 24 hH ?_;refine hT 25 hH ?_;refine hT 26 hH ?_;refine hT 27 hH ?_;refine hT 28 hH ?_;refine hT 29 hH ?_;refine hT 30 hH ?_;refine hT 31 hH ?_;refine hT 32 hH ?_;refine hT 33 hH ?_;refine hT 34 hH ?_;refine hT 35 hH ?_;refine hT 36 hH ?_;refine hT 37 hH ?_;refine hT 38 hH ?_;refine hT 39 hH ?_;refine hT 40 hH ?_;refine hT 41 hH ?_;refine hT 42 hH ?_;refine hT 43 hH ?_;refine hT 44 hH ?_;refine hT 45 hH ?_;refine hT 46 hH ?_;refine hT 47 hH ?_;refine hT 48 hH ?_;refine hT 49 hH ?_;refine hT 50 hH ?_;refine hT 51 hH ?_;refine wpAnyH_done (by kernel_rfl) ?_ _;have hB9:=hB.trans (hdr.mono hB.size);clear hH d0 d1 d2 d3 d4 d5 e0 e1 e2 e3 e4 e5 hB hdr;go_wp2;go_roundw
    case rel=>exact⟨k+1,by omega,by go_num,hB9⟩
    case measure=>simp[intOf];omega
  . have g4:¬(k:Int)<(l.length:Int):=by omega
    go_wp2;go_ret;exact⟨rfl,hB⟩
theorem zqo{o:Ol}{l:List Tu}{ax:Int}(h:foT o l ax=true)(hl:l.length<=30):(tuBt l).length<=24002:=by
 obtain⟨h1,h2,h3,h4⟩:=zbb.1 h
 have:=zqn h1 h2.2 (l:=l) (fun t ht=>by
  obtain⟨k,hk,e⟩:=List.getElem_of_mem ht;have:=h4 k hk;rw[qH,qG hk,Option.getD_some,e]at this
  exact this)
 unfold tuBt;rw[qA];have:(be2 ((l.length:Nat):Int)).length=2:=rfl;omega
theorem zsv{ax:Int}:∀ {l:List Gl},(∀x∈l,foT x.o x.ts ax=true/\x.ts.length<=30)->(glsB l).length<=24615*l.length:=by
 intro l
 induction l with
 | nil=>intro _;exact qD _
 | cons x l ih =>
  intro h;have h1:=ih (fun y hy=>h y (by simp[hy]));obtain⟨h2,h3⟩:=h x (by simp);have h4:=zqo h2 h3;have h5:=(zgs x.o).2;have h6:=zem x;rw[glsB,qA,List.length_cons];omega
theorem z22{l:List Gl}{s:Sr}{ax:Int}(h:foG l s ax=true)(h30:∀x∈l,x.ts.length<=30)(h40:l.length<=40):(gsB l).length<=1048000:=by
 obtain⟨_,_,h3⟩:=zbt.1 h
 have h4:=zsv (ax:=ax) (l:=l) (fun x hx=>by
  obtain⟨k,hk,e⟩:=List.getElem_of_mem hx;have h5:=(zd5.1 (h3 k hk)).2.2.1;rw[qH,qG hk,Option.getD_some,e]at h5
  exact⟨h5,h30 x hx⟩)
 unfold gsB;rw[qA];have:(be2 ((l.length:Nat):Int)).length=2:=rfl;omega
def IsRowK(k:IntKind)(w:World)(a:OA)(len cap:Nat)(zs:LI):Prop :=
 (a=none/\len=0/\cap=0/\zs=[]) \/
 ∃x,a=some x/\len<=cap/\cap<=maxLen/\zs.length=cap/\(∀i,i<zs.length->w.cell? (x.add i)=some (.int k (zs.getD i 0)))/\∀n∈zs,(Lit.int k n).wf=true
theorem zi5{n:Int}(h:(Lit.int .u8 n).wf=true):0<=n/\n<256:=by
 simp[Lit.wf,IntKind.min,IntKind.max,IntKind.bits,IntKind.signed]at h;omega
theorem zif{n:Int}(h:(Lit.int .i64 n).wf=true):-9223372036854775808<=n/\n<=9223372036854775807:=by
 simp[Lit.wf,IntKind.min,IntKind.max,IntKind.bits,IntKind.signed]at h;omega
theorem IsRowK.cells{k:IntKind}{w:World}{a:OA}{len cap:Nat}{zs:LI}(h:IsRowK k w a len cap zs) :
 ∃ys:LI,len=ys.length/\(∀y∈ys,(Lit.int k y).wf=true)/\ys.length<=cap/\cap<=maxLen/\(a=none->cap=0) /\
     (ys=[]\/∃b off,a=some ⟨b,off,none⟩/\b<w.heap.size/\∀i,i<ys.length->w.cell? ⟨b,off+i,none⟩=some (.int k (ys.getD i 0))):=by
 rcases h with ⟨rfl,rfl,rfl,rfl⟩|⟨x,rfl,h1,h2,h3,hc,hw⟩
 . exact⟨[],rfl,(fun y hy=>by cases hy),qE _,qD _,fun _=>rfl,.inl rfl⟩
 . refine⟨zs.take len,by simp;omega,fun y hy=>hw y (List.mem_of_mem_take hy),by simp;omega,h2,(by simp),?_⟩
   by_cases h0:len=0
   . exact .inl (by simp[h0])
   . obtain⟨b,off,spot⟩:=x
     have c0:=hc 0 (by omega);have hspot:spot=none:=(by simpa [Addr.add] using World.cell?_spot c0);subst hspot;refine .inr ⟨b,off,rfl,?_,fun i hi=>?_⟩
     . have:=World.block_lt_of_cell? w _ c0
       simpa [Addr.add] using this
     . simp at hi
       have zdp:(⟨b,off,none⟩:Addr).add i=⟨b,off+i,none⟩:=(by unfold Addr.add;split <;> simp_all);have hci:=hc i (by omega);rw[zdp]at hci;rw[hci];simp[List.getD,show i<len by omega]
theorem IsRowK.rb{w:World}{a:OA}{len cap:Nat}{zs:LI}(h:IsRowK .u8 w a len cap zs):∃xs:LN,len=xs.length/\Rb w a cap xs:=by
 obtain⟨ys,h1,h2,h3,h4,h5,h6⟩:=h.cells;have hb:∀y∈ys,0<=y/\y<256:=fun y hy=>zi5 (h2 y hy);refine⟨ys.map Int.toNat,by simp[h1],?_,by simpa using h3,h4,h5,?_⟩
 . intro x hx
   obtain⟨y,hy,rfl⟩:=List.mem_map.1 hx;have:=hb y hy;omega
 . rcases h6 with rfl|⟨b,off,e,hlt,hc⟩
   . exact .inl rfl
   . refine .inr ⟨b,off,e,hlt,fun i hi=>?_⟩
     simp at hi;rw[hc i hi];have h0:ys.getD i 0=ys[i]:=(by simp[List.getD,hi]);have hy:=hb ys[i] (List.getElem_mem hi);rw[h0];simp[List.getD,hi];omega
