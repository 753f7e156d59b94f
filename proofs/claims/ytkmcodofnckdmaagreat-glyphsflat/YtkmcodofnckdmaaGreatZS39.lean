import Derived.Test.YtkmcodofnckdmaaGreatZS38
set_option maxHeartbeats 16000000
set_option maxRecDepth 100000
set_option linter.unusedSimpArgs false
set_option linter.unusedVariables false
namespace Go.Proofs.YtkmcodofnckdmaaGreat
open Go.RowKit Go.Maps
theorem Ro.fz{T:TypeId}{base:Nat}{w:World}{v:Value}{k:Nat}{qs:List Rat}(h:Ro T base w v k qs){g:Nat}(hv:v.ownBlock=some g)(n:Nat):w.frozen? ⟨g,n,none⟩=false:=by
 obtain⟨vs,h3,hnI,h4⟩:=h
 rcases h3.2 with ⟨rfl,e1⟩|⟨g',cap,cur,rfl,hb,hg,hc1,hc2,hc3,ht⟩
 . cases hv
 . obtain rfl:g'=g:=by simpa [Value.ownBlock] using hv
   exact frozen_of_row w g' n _ _ hg
def LN(DX DY A A1 B B1:List Rat)(n:Nat):Prop:=DX.length=n/\DX.length=n/\DX.length=n/\DY.length=n/\A.length=n/\A1.length=n/\B.length=n/\B1.length=n
theorem Lqs.turn{X:List Rat}{a b:Nat}(h:Lqs X 0 a b)(c:Nat):Lqs X 0 a c:=by
 intro j hj
 have:=h j hj
 rw[if_neg (Nat.not_lt_zero j)]at this
 rw[if_neg (Nat.not_lt_zero j)]
 exact this
theorem zjj(S:Nat->Prop)(a:Option Addr)(ca:Nat)(b:Option Addr)(cb:Nat)(o:Ol)(S2:Nat->Prop)(la:Option Addr)(lc:Nat)(l:List Tu)(ga:Option Addr)(gc:Nat)(cs:List Int)(w:World)(hc:Gr PnE.row S w a ca o.cs)(hp:Gr PaE S w b cb o.ps)(hl:Gr TuE S2 w la lc l)(hg:Ri w ga gc cs)(hfl:o.cs.flatten.length<=100000)(hpl:o.ps.length<=100000) :
 Calls Tryz.prog 73 #[.agg #[.slice a o.cs.length ca,.slice b o.ps.length cb],.slice la l.length lc,.slice ga cs.length gc] w fun e w'=>∃a1 c1 a2 c2,e=.returned (.tuple #[.slice a1 (exA Pn.x Pa.dx Tu.dx o l cs).length c1,.slice a2 (exA Pn.y Pa.dy Tu.dy o l cs).length c2,.int .i64 (exE o l cs)])/\Rg w.heap.size w' a1 c1 900 (exA Pn.x Pa.dx Tu.dx o l cs)/\Rg w.heap.size w' a2 c2 900 (exA Pn.y Pa.dy Tu.dy o l cs)/\Below w.heap.size w w':=by
 have kl:=hl.lenB
 have kg:=hg.lenB
 obtain⟨W,hW,X1,hbW⟩:∃W,W=w.alloc (.cells #[.slice a o.cs.length ca,.slice b o.ps.length cb] 57)/\Bk 57 W w.heap.size [.slice a o.cs.length ca,.slice b o.ps.length cb]/\Below w.heap.size w W:=⟨_,rfl,Bk.new _ _ _,bl1 _⟩
 replace hc:=hc.below hbW;replace hp:=hp.below hbW;replace hl:=hl.below hbW;replace hg:=hg.below hbW;obtain⟨p0,p1,_⟩:=X1.two
 have hf1:=zn5 S a ca b cb o S2 la lc l (cs.length:Int) W hc hp hl hfl hpl (by unfold I64;omega)
 cases hfo:foT o l (cs.length:Int) with
 | false =>
  rw[hfo]at hf1;rw[zfl hfo,zfl hfo,znf hfo];clear hfo
  go_enter Tryz.func73,Tryz.ntmps73
  go_upto_region 1 with fail
  rw[<-hW];clear hW
  go_wp2_with fail
  refine hf1.mono ?_
  rintro e m2 ⟨rfl,hb1⟩
  have zay:=hbW.trans (hb1.mono hbW.size)
  clear hb1 hf1;go_wp2
  exact bodyPost_ret (v:=.tuple #[.slice none 0 0,.slice none 0 0,.int .i64 1]) (by simp[results,Tryz.results73,go_sem]) rfl ⟨none,0,none,0,rfl,Rg.nil _ _ _,Rg.nil _ _ _,zay⟩
 | true =>
 rw[hfo]at hf1;rw[zdi hfo,zdi hfo,ziv hfo]
 obtain⟨hF1,hF2,hF3,hF4⟩:=zcv.1 hfo
 have hFO:=zb5.1 hF1
 have HOL:Hid (o.cs.flatten.length<=80/\o.ps.length<=6/\o.cs.length<=10):=⟨hFO.2.2.2.2.1,hFO.2.2.1,hFO.2.1⟩
 have HCN:Hid (cntO o<=86):=zgy hF1
 have HSP:Hid (∀k,k<l.length->_):=fun k hk=>(zjd hF1 (hF4 k hk)).resolve_right (fun h=>h hF2)
 have HAL:Hid (∀k,k<l.length->(l.getD k Tu.none).al=true->(l.getD k Tu.none).dx.length=cntO o):=fun k hk ha=>tu_al (hF4 k hk) ha
 have hll:l.length<=40:=hF3
 clear hFO hF1 hF4 hfo hF3
 go_enter Tryz.func73,Tryz.ntmps73
 go_upto_region 1 with fail
 rw[<-hW];clear hW
 go_wp2_with fail
 refine hf1.mono ?_
 rintro e m1 ⟨rfl,hb1⟩;replace hc:=hc.below hb1;replace hp:=hp.below hb1;replace hl:=hl.below hb1;replace hg:=hg.below hb1;replace X1:=X1.below hb1
 replace hbW:=hbW.trans (hb1.mono hbW.size)
 clear hb1 hf1 p0 p1;obtain⟨p0,p1,_⟩:=X1.two
 go_wp2_with fail
 refine(zkz S a ca b cb o _ hc hp (by have:=HOL.out;omega) (by have:=HOL.out;omega)).mono ?_
 rintro e m2 ⟨vx,vy,rfl,hR0,hb1⟩
 have HC:Hid (Gr PnE.row S m1 a ca o.cs):=hc
 have HP:Hid (Gr PaE S m1 b cb o.ps):=hp
 have HL:Hid (Gr TuE S2 m1 la lc l):=hl
 have HG:Hid (Ri m1 ga gc cs):=hg
 have HX:Hid (Bk 57 m1 w.heap.size [.slice a o.cs.length ca,.slice b o.ps.length cb]):=X1
 have HBW:Hid (Below w.heap.size w m1):=hbW
 have HB1:Hid (Below m1.heap.size m1 m2):=hb1
 clear hc hp hl hg X1 hbW hb1 p0 p1
 have hq1:=hR0.1.lqs 0
 have hq2:=hR0.2.1.lqs 0
 rw[show rz (baQ Pn.x Pa.dx o)=exL Pn.x Pa.dx Tu.dx o (l.take 0) cs by rw[List.take_zero,znd];rfl]at hR0 hq1
 rw[show rz (baQ Pn.y Pa.dy o)=exL Pn.y Pa.dy Tu.dy o (l.take 0) cs by rw[List.take_zero,znd];rfl]at hR0 hq2
 obtain⟨xa,xc,rfl,-⟩:=hR0.1.slice;obtain⟨ya,yc,rfl,-⟩:=hR0.2.1.slice;rw[zb1,zb1]at hR0 ⊢
 obtain⟨n,hn⟩:∃n,cntO o=n:=⟨_,rfl⟩
 obtain⟨EX,hEX⟩:∃f:Nat->List Rat,∀i,exL Pn.x Pa.dx Tu.dx o (l.take i) cs=f i:=⟨_,fun _=>rfl⟩
 obtain⟨EY,hEY⟩:∃f:Nat->List Rat,∀i,exL Pn.y Pa.dy Tu.dy o (l.take i) cs=f i:=⟨_,fun _=>rfl⟩
 have HEX:Hid (exL Pn.x Pa.dx Tu.dx o l cs=EX l.length):=by show _=_;rw[<-hEX,List.take_length]
 have HEY:Hid (exL Pn.y Pa.dy Tu.dy o l cs=EY l.length):=by show _=_;rw[<-hEY,List.take_length]
 have HSX:Hid (∀i k,i<l.length->k<n->(EX (i+1)).getD k 0=(EX i).getD k 0+alQ (l.getD i Tu.none).rg cs*(spQ Pn.x o (nmd (l.getD i Tu.none)) (l.getD i Tu.none).dx).getD k 0):=fun i k hi hk=>by rw[<-hEX,<-hEX];exact zne hi (by rw[hn];exact hk)
 have HSY:Hid (∀i k,i<l.length->k<n->(EY (i+1)).getD k 0=(EY i).getD k 0+alQ (l.getD i Tu.none).rg cs*(spQ Pn.y o (nmd (l.getD i Tu.none)) (l.getD i Tu.none).dy).getD k 0):=fun i k hi hk=>by rw[<-hEY,<-hEY];exact zne hi (by rw[hn];exact hk)
 have HLX:Hid ((∀i,(EX i).length=n)/\∀i,(EY i).length=n):=⟨fun i=>by rw[<-hEX,zb1,hn],fun i=>by rw[<-hEY,zb1,hn]⟩
 rw[hEX]at hR0 hq1;rw[hEY]at hR0 hq2;rw[hn]at hR0 HCN HAL ⊢
 have HR0:Hid (R3 130 m1.heap.size m2 (.slice xa n xc) (.slice ya n yc) 900 (EX 0) (EY 0)):=hR0.le (by decide)
 have HQ0:Hid (Lqs (EX 0) 0 2 0/\Lqs (EY 0) 0 2 0):=⟨hq1,hq2⟩
 have HNN:Hid (cntO o=n):=hn
 have hn86:n<=86:=HCN.out
 have HLE:Hid ((exL Pn.x Pa.dx Tu.dx o l cs).length=n/\(exL Pn.y Pa.dy Tu.dy o l cs).length=n):=by rw[zb1,zb1];exact⟨hn,hn⟩
 clear hR0 hq1 hq2 hEX hEY hn HCN;go_wp2
 go_loopw [11] (fun iv wr=>∃i:Nat,i<=l.length/\iv=.int .i64 i/\R3 130 m1.heap.size wr (.slice xa n xc) (.slice ya n yc) 900 (EX i) (EY i)/\Lqs (EX i) 0 (2+18*i) 0/\Lqs (EY i) 0 (2+18*i) 0/\Below m1.heap.size m1 wr) (fun iv _=>l.length-(intOf iv).toNat)
 case atStart=>exact⟨0,Nat.zero_le _,rfl,HR0.out,HQ0.out.1,HQ0.out.2,HB1.out⟩
 case round =>
  clear HR0 HB1 HQ0;obtain⟨i,hi,rfl,hR,hQX,hQY,hB⟩:=hrel
  by_cases hin:i<l.length
  . obtain⟨b0,off,ra,rc,pa,pc,ta,tc,sa,sc,ea,hb,ht,E0,E1,E2,E3,E4⟩:=HL.out.tu (Below.refl _ _) i hin
    subst ea
    obtain⟨s1,s2,s3,s4,s5,s6,s7⟩:=HSP.out i hin
    have hal:=HAL.out i hin
    have hsx:=fun k=>HSX.out i k hin
    have hsy:=fun k=>HSY.out i k hin
    obtain⟨t,htt⟩:∃t,l.getD i Tu.none=t:=⟨_,rfl⟩
    rw[htt]at ht E0 E1 E2 E3 E4 hal s1 s2 s3 s4 s5 s6 s7
    simp only[htt]at hsx hsy
    obtain⟨KA,hKA⟩:∃K,2+18*i=K:=⟨_,rfl⟩
    rw[hKA]at hQX hQY
    have HKN:Hid (2+18*(i+1)=KA+18):=by show _=_;omega
    have hKA2:2<=KA/\KA<=800:=by omega
    have HQ3:Hid (Lqs (EX i) 0 KA 0/\Lqs (EY i) 0 KA 0):=⟨hQX,hQY⟩
    have HSS:Hid (_/\_/\_):=⟨s1,s2,s3⟩
    have HS4:Hid ((spQ Pn.x o (nmd t) t.dx).length=n):=s4.trans HNN.out
    have HS5:Hid ((spQ Pn.y o (nmd t) t.dy).length=n):=s5.trans HNN.out
    have zy6:Hid (∀k,k<n->_):=hsx
    have zy5:Hid (∀k,k<n->_):=hsy
    have HTU:Hid (TuC S2 m1 ra rc pa pc ta tc sa sc t):=ht
    have HAL2:Hid (t.al=true->t.dx.length=n):=hal
    clear htt s1 s2 s3 s4 s5 hsx hsy hQX hQY hKA ht hal
    have i1:(0:Int)<=(i:Int):=by omega
    have i2:(i:Int)<(l.length:Int):=by omega
    obtain⟨N0,hN0⟩:∃n,wr.heap.size=n:=⟨_,rfl⟩
    have HNB:Hid (∀b,B2 (.slice xa n xc) (.slice ya n yc) b->b<N0):=fun b hb=>by rw[<-hN0];exact(hR.lo hb).2
    have HLO:Hid (∀b,B2 (.slice xa n xc) (.slice ya n yc) b->m1.heap.size<=b):=fun b hb=>(hR.lo hb).1
    have D0:=(hB.cell (p:=⟨b0,off+i*5,none⟩) hb).trans E0
    go_wp2_with fail
    refine(zjm ra rc t.rg ga gc cs _ (HTU.out.below hB).tz (HG.out.below hB) (by omega)).mono ?_
    rintro e y1 ⟨v1,rfl,hFp,hb1⟩
    replace hFp:=hFp.le (show 2+2*t.rg.length<=10 by omega)
    obtain⟨pz,p1,p2,p3,p4,p5,p6,rfl⟩:=hFp.cells3'
    obtain⟨V2,hV2,X2,hb2⟩:∃V,V=y1.alloc (.cells #[.bool pz,.slice p1 p2 p3,.slice p4 p5 p6] 130)/\Bk 130 V y1.heap.size [.bool pz,.slice p1 p2 p3,.slice p4 p5 p6]/\Below y1.heap.size y1 V:=⟨_,rfl,Bk.new _ _ _,bl1 _⟩
    have hb3:=hb1.trans (hb2.mono hb1.size)
    have hNp:N0<=y1.heap.size:=by rw[<-hN0];exact hb1.size
    have hNv:y1.heap.size<=V2.heap.size:=hb2.size
    replace hR:=hR.below hb3
    replace hB:=hB.trans (hb3.mono hB.size)
    replace hFp:=hFp.below hb2
    obtain⟨q,hq⟩:∃q,alQ t.rg cs=q:=⟨_,rfl⟩
    rw[hq]at hFp zy6 zy5;clear hq hb1 hb2 hb3 D0
    go_upto_region 8 with fail
    rw[<-hV2];clear hV2
    generalize y1.heap.size=gp at *
    obtain⟨t0,t1,_⟩:=(HX.out.below hB).two
    have D0:=(hB.cell (p:=⟨b0,off+i*5,none⟩) hb).trans E0
    have D1:=(hB.cell (p:=⟨b0,off+i*5+1,none⟩) hb).trans E1
    have D2:=(hB.cell (p:=⟨b0,off+i*5+2,none⟩) hb).trans E2
    have D3:=(hB.cell (p:=⟨b0,off+i*5+3,none⟩) hb).trans E3
    have D4:=(hB.cell (p:=⟨b0,off+i*5+4,none⟩) hb).trans E4
    refine wp_region_held_drew (S:=fun w9=>w9.cell? ⟨w.heap.size,0,none⟩=some (.slice a o.cs.length ca)/\w9.cell? ⟨w.heap.size,1,none⟩=some (.slice b o.ps.length cb)/\w9.cell? ⟨b0,off+i*5,none⟩=some (.slice ra t.rg.length rc)/\w9.cell? ⟨b0,off+i*5+1,none⟩=some (.bool t.al)/\w9.cell? ⟨b0,off+i*5+2,none⟩=some (.slice pa t.pts.length pc)/\w9.cell? ⟨b0,off+i*5+3,none⟩=some (.slice ta t.dx.length tc)/\w9.cell? ⟨b0,off+i*5+4,none⟩=some (.slice sa t.dy.length sc)) (by kernel_rfl) ?_ (fun hH=>?_)
    . (try dsimp only)
      go_keep
    clear t0 t1 D0 D1 D2 D3 D4
    have hdr:Below V2.heap.size V2 V2.drew:=Below.drew1
    have hNd:=Nat.le_trans (Nat.le_trans hNp hNv) hdr.size
    generalize V2.drew=Z8 at hdr hH hNd ⊢
    replace X2:=X2.below hdr;replace hFp:=hFp.below hdr;replace hR:=hR.below hdr
    replace hB:=hB.trans (hdr.mono hB.size)
    clear hdr hNv;refine hT 0 hH ?_;refine hT 1 hH ?_;refine hT 2 hH ?_;refine hT 3 hH ?_;refine hT 4 hH ?_;refine hT 5 hH ?_;refine hT 6 hH ?_;refine hT 8 hH ?_;refine hT 9 hH ?_;refine hT 10 hH ?_;refine hT 11 hH ?_;refine hT 12 hH ?_;refine hT 13 hH ?_
    refine hT 14 hH ?_;refine hT 15 hH ?_;refine hT 16 hH ?_;refine hT 17 hH ?_
    refine hCall (i:=7) rfl (by kernel_rfl) (by rfl) (fun K hK=>?_)
    go_simp
    refine(zn2 S2 ra rc pa pc ta tc sa sc t _ (HTU.out.below hB) n (by omega) HAL2.out).mono ?_
    rintro e y3 ⟨na,nc,rfl,hN,hb1⟩;replace X2:=X2.below hb1;replace hFp:=hFp.below hb1;replace hR:=hR.below hb1
    replace hB:=hB.trans (hb1.mono hB.size)
    have hNy:=Nat.le_trans hNd hb1.size
    clear hb1 hNd
    go_wp2_with fail
    obtain⟨t0,t1,_⟩:=(HX.out.below hB).two
    have D0:=(hB.cell (p:=⟨b0,off+i*5,none⟩) hb).trans E0
    have D1:=(hB.cell (p:=⟨b0,off+i*5+1,none⟩) hb).trans E1
    have D2:=(hB.cell (p:=⟨b0,off+i*5+2,none⟩) hb).trans E2
    have D3:=(hB.cell (p:=⟨b0,off+i*5+3,none⟩) hb).trans E3
    have D4:=(hB.cell (p:=⟨b0,off+i*5+4,none⟩) hb).trans E4
    refine hK.out _ _ ?_ (fun hH=>?_)
    . (try dsimp only)
      exact⟨t0,t1,D0,D1,D2,D3,D4⟩
    clear hK K t0 t1 D0 D1 D2 D3 D4
    try simp only[Act.put,pZ]
    have hsp:=zjf S a ca b cb o na nc (nmd t) ta tc t.dx sa sc t.dy y3 (HC.out.below hB) (HP.out.below hB) hN (HTU.out.below hB).dx (HTU.out.below hB).dy (by have:=HOL.out;omega) (by have:=HOL.out;omega) (by have:=HOL.out;omega)
    rw[HSS.out.1,HSS.out.2.1,HSS.out.2.2]at hsp
    refine hCall (i:=18) rfl (by kernel_rfl) (by rfl) (fun K hK=>?_)
    go_simp
    refine hsp.mono ?_
    rintro e y4 ⟨d1,v1,d2,v2,rfl,hD1,hD2,hb1⟩;replace X2:=X2.below hb1;replace hFp:=hFp.below hb1;replace hR:=hR.below hb1
    replace hB:=hB.trans (hb1.mono hB.size)
    clear hb1 hsp
    go_wp2_with fail
    obtain⟨t0,t1,_⟩:=(HX.out.below hB).two
    have D0:=(hB.cell (p:=⟨b0,off+i*5,none⟩) hb).trans E0
    have D1:=(hB.cell (p:=⟨b0,off+i*5+1,none⟩) hb).trans E1
    have D2:=(hB.cell (p:=⟨b0,off+i*5+2,none⟩) hb).trans E2
    have D3:=(hB.cell (p:=⟨b0,off+i*5+3,none⟩) hb).trans E3
    have D4:=(hB.cell (p:=⟨b0,off+i*5+4,none⟩) hb).trans E4
    refine hK.out _ _ ?_ (fun hH=>?_)
    . (try dsimp only)
      exact⟨t0,t1,D0,D1,D2,D3,D4⟩
    clear hK K t0 t1 D0 D1 D2 D3 D4
    try simp only[Act.put,pZ]
    refine hT 19 hH ?_;refine hT 20 hH ?_;refine hT 21 hH ?_;refine hT 22 hH ?_;refine hT 23 hH ?_;refine hT 24 hH ?_;refine hT 25 hH ?_
    refine wpAnyH_done (by kernel_rfl) ?_ _
    clear hH
    obtain⟨A,hA⟩:∃A,EX i=A:=⟨_,rfl⟩
    obtain⟨A1,hA1⟩:∃A,EX (i+1)=A:=⟨_,rfl⟩
    obtain⟨B,hBq⟩:∃A,EY i=A:=⟨_,rfl⟩
    obtain⟨B1,hB1⟩:∃A,EY (i+1)=A:=⟨_,rfl⟩
    rw[hA,hA1]at zy6;rw[hBq,hB1]at zy5;rw[hA]at hR HQ3;rw[hBq]at hR HQ3
    have HLN:Hid (True/\True):=⟨trivial,trivial⟩
    clear HLN
    obtain⟨DX,hDX⟩:∃D,spQ Pn.x o (nmd t) t.dx=D:=⟨_,rfl⟩
    obtain⟨DY,hDY⟩:∃D,spQ Pn.y o (nmd t) t.dy=D:=⟨_,rfl⟩
    rw[hDX]at hD1 zy6 HS4;rw[hDY]at hD2 zy5 HS5;rw[hDX,hDY]
    have hlA:A.length=n:=by rw[<-hA];exact HLX.out.1 i
    have hlA1:A1.length=n:=by rw[<-hA1];exact HLX.out.1 (i+1)
    have hlB:B.length=n:=by rw[<-hBq];exact HLX.out.2 i
    have hlB1:B1.length=n:=by rw[<-hB1];exact HLX.out.2 (i+1)
    have HLN:Hid (LN DX DY A A1 B B1 n):=⟨HS4.out,HS4.out,HS4.out,HS5.out,hlA,hlA1,hlB,hlB1⟩
    have HEN:Hid (EX (i+1)=A1/\EY (i+1)=B1):=⟨hA1,hB1⟩
    have HSTX:Hid (∀k,k<n->A1.getD k 0=A.getD k 0+q*DX.getD k 0):=zy6.out
    have HSTY:Hid (∀k,k<n->B1.getD k 0=B.getD k 0+q*DY.getD k 0):=zy5.out
    rw[HS4.out,HS5.out];clear hA hA1 hBq hB1 hDX hDY hlA hlA1 hlB hlB1 zy6 zy5 HS4 HS5
    have HX2:Hid (Bk 130 y4 gp [.bool pz,.slice p1 p2 p3,.slice p4 p5 p6]):=X2
    have HFP:Hid (Fr y4 (.agg #[.bool pz,.slice p1 p2 p3,.slice p4 p5 p6]) 10 q):=hFp
    have HD1:Hid (Rg y3.heap.size y4 d1 v1 7 DX):=hD1
    have HD2:Hid (Rg y3.heap.size y4 d2 v2 7 DY):=hD2
    have HSZ:Hid (N0<=gp/\N0<=y3.heap.size):=⟨hNp,hNy⟩
    have HB5:Hid (Below m1.heap.size m1 y4):=hB
    have HRQ:Hid (R3 130 m1.heap.size y4 (.slice xa n xc) (.slice ya n yc) 900 (mx A1 A 0) (mx B1 B 0)/\Lqs (mx A1 A 0) 0 KA (KA+18)/\Lqs (mx B1 B 0) 0 KA (KA+18)):=by
     show _/\_
     rw[zqd,zqd]
     exact⟨hR,HQ3.out.1.turn _,HQ3.out.2.turn _⟩
    clear X2 hFp hD1 hD2 hR hB HQ3 hNp hNy hN HTU HAL2 HSS E0 E1 E2 E3 E4 hb hN0 s6 s7;go_wp2
    go_loopw [16] (fun kv wr=>∃k:Nat,k<=n/\kv=.int .i64 k/\R3 130 m1.heap.size wr (.slice xa n xc) (.slice ya n yc) 900 (mx A1 A k) (mx B1 B k)/\Lqs (mx A1 A k) k KA (KA+18)/\Lqs (mx B1 B k) k KA (KA+18)/\Kn (B2 (.slice xa n xc) (.slice ya n yc)) y4 wr) (fun kv _=>n-(intOf kv).toNat)
    case atStart=>exact⟨0,Nat.zero_le _,rfl,HRQ.out.1,HRQ.out.2.1,HRQ.out.2.2,Kn.refl _ _⟩
    case round =>
     clear HRQ;obtain⟨k,hk,rfl,hR,hQX,hQY,hKn⟩:=hrel
     by_cases hkn:k<n
     . have j1:(0:Int)<=(k:Int):=by omega
       have j2:(k:Int)<(n:Int):=by omega
       have hX2:=HX2.out.kn hKn (fun h=>by have:=HNB.out _ h;have:=HSZ.out;omega)
       have hFp:=HFP.out.kn hKn
       have hDD:=HD1.out.1.kn hKn (fun b' o' e h=>by have:=HD1.out.2 b' o' e;have:=HNB.out _ h;have:=HSZ.out;omega)
       obtain⟨bd12,od12,dx12,dy12,dw12,ea12,hbd,dd0,dd1,dd2,hFd⟩:=hDD.1.at (Below.refl _ _) k (by rw[HLN.out.2.2.1];exact hkn)
       subst ea12;obtain⟨dz12,da12,db12,dc12,dd12,de12,df12,e9⟩:=hFd.cells3'
       simp only[Value.agg.injEq,Array.mk.injEq,List.cons.injEq,and_true]at e9
       obtain⟨rfl,rfl,rfl⟩:=e9
       have CD:C3 wr bd12 (od12+k*3) (.bool dz12) (.slice da12 db12 dc12) (.slice dd12 de12 df12):=⟨hbd,dd0,dd1,dd2⟩
       have hml:(mx A1 A k).length=n:=by rw[zqf (HLN.out.2.2.2.2.2.1.trans HLN.out.2.2.2.2.1.symm) (by rw[HLN.out.2.2.2.2.2.1];exact hk)];exact HLN.out.2.2.2.2.1
       obtain⟨gx,cg12,eg12,hg1,hg2,hfz,hcx⟩:=hR.1.has (fun e=>by rw[e]at hml;simp at hml;omega)
       injection eg12 with eg12 eg2 eg3;subst eg12;clear eg2 eg3
       obtain⟨gx0,gx1,gx2,D0,D1,D2,hFx⟩:=hcx k (by rw[hml];exact hkn)
       obtain⟨xz12,xa12,xb12,xc12,xd12,xe12,xf12,e9⟩:=hFx.cells3'
       simp only[Value.agg.injEq,Array.mk.injEq,List.cons.injEq,and_true]at e9
       obtain⟨rfl,rfl,rfl⟩:=e9
       replace hFx:=hQX.at (by rw[hml];exact hkn) _ _ _ hFx
       rw[mx_at (HLN.out.2.2.2.2.2.1.trans HLN.out.2.2.2.2.1.symm) (by rw[HLN.out.2.2.2.2.1];exact hkn)]at hFx
       have CX:C3 wr gx (k*3) (.bool xz12) (.slice xa12 xb12 xc12) (.slice xd12 xe12 xf12):=⟨hg2,D0,D1,D2⟩
       have hdg:gx<N0:=HNB.out gx (.inl rfl)
       have hdb:N0<=bd12:=by have:=HD1.out.2 bd12 od12 rfl;have:=HSZ.out;omega
       have zt1:Hid (A1.getD k 0=A.getD k 0+q*DX.getD k 0):=HSTX.out k hkn
       have zox:Hid ((mx A1 A k).length=n):=hml
       have zow:Hid ((mx A1 A k).set k (A1.getD k 0)=mx A1 A (k+1)):=zqe (HLN.out.2.2.2.2.2.1.trans HLN.out.2.2.2.2.1.symm) (by rw[HLN.out.2.2.2.2.1];exact hkn)
       have HQ12:Hid (Lqs (mx A1 A k) k KA (KA+18)):=hQX
       clear hDD hbd dd0 dd1 dd2 D0 D1 D2 hcx hfz hg1 hg2 hml hQX;obtain⟨r0,r1,r2,_⟩:=hX2.three
       have c0:=CD.2.1
       have c1:=CD.2.2.1
       have c2:=CD.2.2.2
       go_upto_region 12 with fail
       refine wp_region_held_drew (S:=fun w9=>w9.cell? ⟨gp,0,none⟩=some (.bool pz)/\w9.cell? ⟨gp,1,none⟩=some (.slice p1 p2 p3)/\w9.cell? ⟨gp,2,none⟩=some (.slice p4 p5 p6)/\w9.cell? ⟨bd12,od12+k*3,none⟩=some (.bool dz12)/\w9.cell? ⟨bd12,od12+k*3+1,none⟩=some (.slice da12 db12 dc12)/\w9.cell? ⟨bd12,od12+k*3+2,none⟩=some (.slice dd12 de12 df12)) (by kernel_rfl) ?_ (fun hH=>?_)
       . (try dsimp only)
         go_keep
       clear r0 r1 r2 c0 c1 c2
       have hdr:Below wr.heap.size wr wr.drew:=Below.drew1
       generalize wr.drew=Z12 at hdr hH ⊢
       replace hX2:=hX2.below hdr;replace CD:=CD.below hdr;replace CX:=CX.below hdr;replace hFp:=hFp.below hdr;replace hFd:=hFd.below hdr;replace hFx:=hFx.below hdr;replace hR:=hR.below hdr
       replace hKn:=hKn.more hdr
       clear hdr;refine hT 0 hH ?_;refine hT 1 hH ?_;refine hT 2 hH ?_;refine hT 3 hH ?_;refine hT 4 hH ?_;refine hT 6 hH ?_;refine hT 7 hH ?_;refine hT 8 hH ?_;refine hT 9 hH ?_;refine hT 10 hH ?_
       refine wpAnyH_ready (rs:=[5,11]) (by kernel_rfl) (by simp) (hCons (i:=5) rfl (by rfl) (fun K hK=>?_) (hCons (i:=11) rfl (by rfl) (fun K hK=>?_) AllReadyH.nil))
       . have D0:=CX.2.1
         have D1:=CX.2.2.1
         have D2:=CX.2.2.2
         go_simp;clear D0 D1 D2;obtain⟨r0,r1,r2,_⟩:=hX2.three
         have c0:=CD.2.1
         have c1:=CD.2.2.1
         have c2:=CD.2.2.2
         refine hK.out _ _ ?_ (fun hH=>?_)
         . (try dsimp only)
           exact⟨r0,r1,r2,c0,c1,c2⟩
         clear hK K r0 r1 r2 c0 c1 c2
         try simp only[Act.put,pZ]
         refine hCall (i:=11) rfl (by kernel_rfl) (by rfl) (fun K hK=>?_)
         go_simp
         refine(zbl 10 7 q _ _ _ _ hFp.ct hFd.ct (by decide) (by decide) (by decide) (by decide)).mono ?_
         rintro e U112 ⟨vm12,rfl,hFm,hb1⟩;replace hX2:=hX2.below hb1;replace CD:=CD.below hb1;replace CX:=CX.below hb1;replace hFp:=hFp.below hb1;replace hFd:=hFd.below hb1;replace hFx:=hFx.below hb1;replace hR:=hR.below hb1
         replace hKn:=hKn.more hb1
         clear hb1
         go_wp2_with fail
         obtain⟨r0,r1,r2,_⟩:=hX2.three
         have c0:=CD.2.1
         have c1:=CD.2.2.1
         have c2:=CD.2.2.2
         refine hK.out _ _ ?_ (fun hH=>?_)
         . (try dsimp only)
           exact⟨r0,r1,r2,c0,c1,c2⟩
         clear hK K r0 r1 r2 c0 c1 c2
         try simp only[Act.put,pZ]
         refine hCall (i:=12) rfl (by kernel_rfl) (by rfl) (fun K hK=>?_)
         go_simp
         refine(zbp KA 17 _ _ _ _ _ hFx.ct hFm.ct (by omega) (by decide) (by omega) (by decide)).mono ?_
         rintro e U212 ⟨va12,rfl,hFa,hb1⟩;replace hX2:=hX2.below hb1;replace CD:=CD.below hb1;replace CX:=CX.below hb1;replace hR:=hR.below hb1
         replace hKn:=hKn.more hb1
         clear hb1;rw[<-zt1.out]at hFa;obtain⟨az12,aa12,ab12,ac12,ad12,ae12,af12,rfl⟩:=hFa.cells3'
         go_wp2_with fail
         obtain⟨r0,r1,r2,_⟩:=hX2.three
         have c0:=CD.2.1
         have c1:=CD.2.2.1
         have c2:=CD.2.2.2
         refine hK.out _ _ ?_ (fun hH=>?_)
         . (try dsimp only)
           exact⟨r0,r1,r2,c0,c1,c2⟩
         clear hK K r0 r1 r2 c0 c1 c2
         try simp only[Act.put,pZ]
         refine hT 13 hH ?_
         refine hCall (i:=14) rfl (by kernel_rfl) (by rfl) (fun K hK=>?_)
         obtain⟨hR3,hk3⟩:=hR.putX (g:=gx) rfl k (by rw[zox.out];exact hkn) (hFa.le (show KA+17+1<=900 by omega))
         dsimp only[s3]at hR3 hk3
         have hfz:=hR.1.fz (g:=gx) rfl
         have f0:=hfz (k*3)
         have f1:=hfz (k*3+1)
         have f2:=hfz (k*3+2)
         have hcl:=CX.1
         have D0:=CX.2.1
         have D1:=CX.2.2.1
         have D2:=CX.2.2.2
         go_simp;clear D0 D1 D2 f0 f1 f2 hcl
         replace hX2:=hX2.kn hk3 (fun e=>by have:=HSZ.out;omega)
         replace CD:=CD.kn hk3 (fun e=>by omega)
         replace hKn:=hKn.trans hk3 (fun b e _=>.inl (by rw[e];rfl))
         have hQX:Lqs (mx A1 A (k+1)) (k+1) KA (KA+18):=by
          rw[<-zow.out]
          exact HQ12.out.set (by rw[zox.out];exact hkn) (hFa.le (show KA+17+1<=KA+18 by omega)).lq
         rw[zow.out]at hR3
         generalize (((U212.setCell ⟨gx,k*3,none⟩ (.bool az12)).setCell ⟨gx,k*3+1,none⟩ (.slice aa12 ab12 ac12)).setCell ⟨gx,k*3+2,none⟩ (.slice ad12 ae12 af12))=U312 at *
         replace hR:=hR3
         clear hR3 hk3 hfz hFa hFx CX hFm hFd hFp zt1 zox zow HQ12;obtain⟨r0,r1,r2,_⟩:=hX2.three
         have c0:=CD.2.1
         have c1:=CD.2.2.1
         have c2:=CD.2.2.2
         refine hK.out _ _ ?_ (fun hH=>?_)
         . (try dsimp only)
           exact⟨r0,r1,r2,c0,c1,c2⟩
         clear hK K r0 r1 r2 c0 c1 c2
         try simp only[Act.put,pZ]
         refine wpAnyH_done (by kernel_rfl) ?_ _
         clear hH hX2 CD hdg hdb
         have hX2:=HX2.out.kn hKn (fun h=>by have:=HNB.out _ h;have:=HSZ.out;omega)
         have hFp:=HFP.out.kn hKn
         have hDD:=HD2.out.1.kn hKn (fun b' o' e h=>by have:=HD2.out.2 b' o' e;have:=HNB.out _ h;have:=HSZ.out;omega)
         obtain⟨bd13,od13,dx13,dy13,dw13,ea13,hbd,dd0,dd1,dd2,hFd⟩:=hDD.1.at (Below.refl _ _) k (by rw[HLN.out.2.2.2.1];exact hkn)
         subst ea13;obtain⟨dz13,da13,db13,dc13,dd13,de13,df13,e9⟩:=hFd.cells3'
         simp only[Value.agg.injEq,Array.mk.injEq,List.cons.injEq,and_true]at e9
         obtain⟨rfl,rfl,rfl⟩:=e9
         have CD:C3 U312 bd13 (od13+k*3) (.bool dz13) (.slice da13 db13 dc13) (.slice dd13 de13 df13):=⟨hbd,dd0,dd1,dd2⟩
         have hml:(mx B1 B k).length=n:=by rw[zqf (HLN.out.2.2.2.2.2.2.2.trans HLN.out.2.2.2.2.2.2.1.symm) (by rw[HLN.out.2.2.2.2.2.2.2];exact hk)];exact HLN.out.2.2.2.2.2.2.1
         obtain⟨gy,cg13,eg13,hg1,hg2,hfz,hcx⟩:=hR.2.1.has (fun e=>by rw[e]at hml;simp at hml;omega)
         injection eg13 with eg13 eg2 eg3;subst eg13;clear eg2 eg3
         obtain⟨gx0,gx1,gx2,D0,D1,D2,hFx⟩:=hcx k (by rw[hml];exact hkn)
         obtain⟨xz13,xa13,xb13,xc13,xd13,xe13,xf13,e9⟩:=hFx.cells3'
         simp only[Value.agg.injEq,Array.mk.injEq,List.cons.injEq,and_true]at e9
         obtain⟨rfl,rfl,rfl⟩:=e9
         replace hFx:=hQY.at (by rw[hml];exact hkn) _ _ _ hFx
         rw[mx_at (HLN.out.2.2.2.2.2.2.2.trans HLN.out.2.2.2.2.2.2.1.symm) (by rw[HLN.out.2.2.2.2.2.2.1];exact hkn)]at hFx
         have CX:C3 U312 gy (k*3) (.bool xz13) (.slice xa13 xb13 xc13) (.slice xd13 xe13 xf13):=⟨hg2,D0,D1,D2⟩
         have hdg:gy<N0:=HNB.out gy (.inr rfl)
         have hdb:N0<=bd13:=by have:=HD2.out.2 bd13 od13 rfl;have:=HSZ.out;omega
         have zi6:Hid (B1.getD k 0=B.getD k 0+q*DY.getD k 0):=HSTY.out k hkn
         have zfd:Hid ((mx B1 B k).length=n):=hml
         have zfc:Hid ((mx B1 B k).set k (B1.getD k 0)=mx B1 B (k+1)):=zqe (HLN.out.2.2.2.2.2.2.2.trans HLN.out.2.2.2.2.2.2.1.symm) (by rw[HLN.out.2.2.2.2.2.2.1];exact hkn)
         have zt0:Hid (Lqs (mx B1 B k) k KA (KA+18)):=hQY
         clear hDD hbd dd0 dd1 dd2 D0 D1 D2 hcx hfz hg1 hg2 hml hQY;obtain⟨r0,r1,r2,_⟩:=hX2.three
         have c0:=CD.2.1
         have c1:=CD.2.2.1
         have c2:=CD.2.2.2
         go_upto_region 13 with fail
         refine wp_region_held_drew (S:=fun w9=>w9.cell? ⟨gp,0,none⟩=some (.bool pz)/\w9.cell? ⟨gp,1,none⟩=some (.slice p1 p2 p3)/\w9.cell? ⟨gp,2,none⟩=some (.slice p4 p5 p6)/\w9.cell? ⟨bd13,od13+k*3,none⟩=some (.bool dz13)/\w9.cell? ⟨bd13,od13+k*3+1,none⟩=some (.slice da13 db13 dc13)/\w9.cell? ⟨bd13,od13+k*3+2,none⟩=some (.slice dd13 de13 df13)) (by kernel_rfl) ?_ (fun hH=>?_)
         . (try dsimp only)
           go_keep
         clear r0 r1 r2 c0 c1 c2
         have hdr:Below U312.heap.size U312 U312.drew:=Below.drew1
         generalize U312.drew=Z13 at hdr hH ⊢
         replace hX2:=hX2.below hdr;replace CD:=CD.below hdr;replace CX:=CX.below hdr;replace hFp:=hFp.below hdr;replace hFd:=hFd.below hdr;replace hFx:=hFx.below hdr;replace hR:=hR.below hdr
         replace hKn:=hKn.more hdr
         clear hdr;refine hT 0 hH ?_;refine hT 1 hH ?_;refine hT 2 hH ?_;refine hT 3 hH ?_;refine hT 4 hH ?_;refine hT 6 hH ?_;refine hT 7 hH ?_;refine hT 8 hH ?_;refine hT 9 hH ?_;refine hT 10 hH ?_
         refine wpAnyH_ready (rs:=[5,11]) (by kernel_rfl) (by simp) (hCons (i:=5) rfl (by rfl) (fun K hK=>?_) (hCons (i:=11) rfl (by rfl) (fun K hK=>?_) AllReadyH.nil))
         . have D0:=CX.2.1
           have D1:=CX.2.2.1
           have D2:=CX.2.2.2
           go_simp;clear D0 D1 D2;obtain⟨r0,r1,r2,_⟩:=hX2.three
           have c0:=CD.2.1
           have c1:=CD.2.2.1
           have c2:=CD.2.2.2
           refine hK.out _ _ ?_ (fun hH=>?_)
           . (try dsimp only)
             exact⟨r0,r1,r2,c0,c1,c2⟩
           clear hK K r0 r1 r2 c0 c1 c2
           try simp only[Act.put,pZ]
           refine hCall (i:=11) rfl (by kernel_rfl) (by rfl) (fun K hK=>?_)
           go_simp
           refine(zbl 10 7 q _ _ _ _ hFp.ct hFd.ct (by decide) (by decide) (by decide) (by decide)).mono ?_
           rintro e U113 ⟨vm13,rfl,hFm,hb1⟩;replace hX2:=hX2.below hb1;replace CD:=CD.below hb1;replace CX:=CX.below hb1;replace hFp:=hFp.below hb1;replace hFd:=hFd.below hb1;replace hFx:=hFx.below hb1;replace hR:=hR.below hb1
           replace hKn:=hKn.more hb1
           clear hb1
           go_wp2_with fail
           obtain⟨r0,r1,r2,_⟩:=hX2.three
           have c0:=CD.2.1
           have c1:=CD.2.2.1
           have c2:=CD.2.2.2
           refine hK.out _ _ ?_ (fun hH=>?_)
           . (try dsimp only)
             exact⟨r0,r1,r2,c0,c1,c2⟩
           clear hK K r0 r1 r2 c0 c1 c2
           try simp only[Act.put,pZ]
           refine hCall (i:=12) rfl (by kernel_rfl) (by rfl) (fun K hK=>?_)
           go_simp
           refine(zbp KA 17 _ _ _ _ _ hFx.ct hFm.ct (by omega) (by decide) (by omega) (by decide)).mono ?_
           rintro e U213 ⟨va13,rfl,hFa,hb1⟩;replace hX2:=hX2.below hb1;replace CD:=CD.below hb1;replace CX:=CX.below hb1;replace hR:=hR.below hb1
           replace hKn:=hKn.more hb1
           clear hb1;rw[<-zi6.out]at hFa;obtain⟨az13,aa13,ab13,ac13,ad13,ae13,af13,rfl⟩:=hFa.cells3'
           go_wp2_with fail
           obtain⟨r0,r1,r2,_⟩:=hX2.three
           have c0:=CD.2.1
           have c1:=CD.2.2.1
           have c2:=CD.2.2.2
           refine hK.out _ _ ?_ (fun hH=>?_)
           . (try dsimp only)
             exact⟨r0,r1,r2,c0,c1,c2⟩
           clear hK K r0 r1 r2 c0 c1 c2
           try simp only[Act.put,pZ]
           refine hT 13 hH ?_
           refine hCall (i:=14) rfl (by kernel_rfl) (by rfl) (fun K hK=>?_)
           obtain⟨hR3,hk3⟩:=hR.putY (g:=gy) rfl k (by rw[zfd.out];exact hkn) (hFa.le (show KA+17+1<=900 by omega))
           dsimp only[s3]at hR3 hk3
           have hfz:=hR.2.1.fz (g:=gy) rfl
           have f0:=hfz (k*3)
           have f1:=hfz (k*3+1)
           have f2:=hfz (k*3+2)
           have hcl:=CX.1
           have D0:=CX.2.1
           have D1:=CX.2.2.1
           have D2:=CX.2.2.2
           go_simp;clear D0 D1 D2 f0 f1 f2 hcl
           replace hX2:=hX2.kn hk3 (fun e=>by have:=HSZ.out;omega)
           replace CD:=CD.kn hk3 (fun e=>by omega)
           replace hKn:=hKn.trans hk3 (fun b e _=>.inr (by rw[e];rfl))
           have hQY:Lqs (mx B1 B (k+1)) (k+1) KA (KA+18):=by
            rw[<-zfc.out]
            exact zt0.out.set (by rw[zfd.out];exact hkn) (hFa.le (show KA+17+1<=KA+18 by omega)).lq
           rw[zfc.out]at hR3
           generalize (((U213.setCell ⟨gy,k*3,none⟩ (.bool az13)).setCell ⟨gy,k*3+1,none⟩ (.slice aa13 ab13 ac13)).setCell ⟨gy,k*3+2,none⟩ (.slice ad13 ae13 af13))=U313 at *
           replace hR:=hR3
           clear hR3 hk3 hfz hFa hFx CX hFm hFd hFp zi6 zfd zfc zt0;obtain⟨r0,r1,r2,_⟩:=hX2.three
           have c0:=CD.2.1
           have c1:=CD.2.2.1
           have c2:=CD.2.2.2
           refine hK.out _ _ ?_ (fun hH=>?_)
           . (try dsimp only)
             exact⟨r0,r1,r2,c0,c1,c2⟩
           clear hK K r0 r1 r2 c0 c1 c2
           try simp only[Act.put,pZ]
           refine wpAnyH_done (by kernel_rfl) ?_ _
           clear hH hX2 CD hdg hdb
           have HR2:Hid (R3 130 m1.heap.size U313 _ _ 900 (mx A1 A (k+1)) (mx B1 B (k+1))):=hR
           have HQ2:Hid (_/\_):=⟨hQX,hQY⟩
           have HK2:Hid (Kn _ _ _):=hKn
           clear hR hQX hQY hKn;go_wp2
           go_roundw
           case rel=>exact⟨k+1,by omega,by go_num,HR2.out,HQ2.out.1,HQ2.out.2,HK2.out⟩
           case measure=>simp[intOf];omega
         . go_simp
           refine(zbl 10 7 q _ _ _ _ hFp.ct hFd.ct (by decide) (by decide) (by decide) (by decide)).mono ?_
           rintro e U113 ⟨vm13,rfl,hFm,hb1⟩;replace hX2:=hX2.below hb1;replace CD:=CD.below hb1;replace CX:=CX.below hb1;replace hFp:=hFp.below hb1;replace hFd:=hFd.below hb1;replace hFx:=hFx.below hb1;replace hR:=hR.below hb1
           replace hKn:=hKn.more hb1
           clear hb1
           go_wp2_with fail
           obtain⟨r0,r1,r2,_⟩:=hX2.three
           have c0:=CD.2.1
           have c1:=CD.2.2.1
           have c2:=CD.2.2.2
           refine hK.out _ _ ?_ (fun hH=>?_)
           . (try dsimp only)
             exact⟨r0,r1,r2,c0,c1,c2⟩
           clear hK K r0 r1 r2 c0 c1 c2
           try simp only[Act.put,pZ]
           refine hCall (i:=5) rfl (by kernel_rfl) (by rfl) (fun K hK=>?_)
           have D0:=CX.2.1
           have D1:=CX.2.2.1
           have D2:=CX.2.2.2
           go_simp;clear D0 D1 D2;obtain⟨r0,r1,r2,_⟩:=hX2.three
           have c0:=CD.2.1
           have c1:=CD.2.2.1
           have c2:=CD.2.2.2
           refine hK.out _ _ ?_ (fun hH=>?_)
           . (try dsimp only)
             exact⟨r0,r1,r2,c0,c1,c2⟩
           clear hK K r0 r1 r2 c0 c1 c2
           try simp only[Act.put,pZ]
           refine hCall (i:=12) rfl (by kernel_rfl) (by rfl) (fun K hK=>?_)
           go_simp
           refine(zbp KA 17 _ _ _ _ _ hFx.ct hFm.ct (by omega) (by decide) (by omega) (by decide)).mono ?_
           rintro e U213 ⟨va13,rfl,hFa,hb1⟩;replace hX2:=hX2.below hb1;replace CD:=CD.below hb1;replace CX:=CX.below hb1;replace hR:=hR.below hb1
           replace hKn:=hKn.more hb1
           clear hb1;rw[<-zi6.out]at hFa;obtain⟨az13,aa13,ab13,ac13,ad13,ae13,af13,rfl⟩:=hFa.cells3'
           go_wp2_with fail
           obtain⟨r0,r1,r2,_⟩:=hX2.three
           have c0:=CD.2.1
           have c1:=CD.2.2.1
           have c2:=CD.2.2.2
           refine hK.out _ _ ?_ (fun hH=>?_)
           . (try dsimp only)
             exact⟨r0,r1,r2,c0,c1,c2⟩
           clear hK K r0 r1 r2 c0 c1 c2
           try simp only[Act.put,pZ]
           refine hT 13 hH ?_
           refine hCall (i:=14) rfl (by kernel_rfl) (by rfl) (fun K hK=>?_)
           obtain⟨hR3,hk3⟩:=hR.putY (g:=gy) rfl k (by rw[zfd.out];exact hkn) (hFa.le (show KA+17+1<=900 by omega))
           dsimp only[s3]at hR3 hk3
           have hfz:=hR.2.1.fz (g:=gy) rfl
           have f0:=hfz (k*3)
           have f1:=hfz (k*3+1)
           have f2:=hfz (k*3+2)
           have hcl:=CX.1
           have D0:=CX.2.1
           have D1:=CX.2.2.1
           have D2:=CX.2.2.2
           go_simp;clear D0 D1 D2 f0 f1 f2 hcl
           replace hX2:=hX2.kn hk3 (fun e=>by have:=HSZ.out;omega)
           replace CD:=CD.kn hk3 (fun e=>by omega)
           replace hKn:=hKn.trans hk3 (fun b e _=>.inr (by rw[e];rfl))
           have hQY:Lqs (mx B1 B (k+1)) (k+1) KA (KA+18):=by
            rw[<-zfc.out]
            exact zt0.out.set (by rw[zfd.out];exact hkn) (hFa.le (show KA+17+1<=KA+18 by omega)).lq
           rw[zfc.out]at hR3
           generalize (((U213.setCell ⟨gy,k*3,none⟩ (.bool az13)).setCell ⟨gy,k*3+1,none⟩ (.slice aa13 ab13 ac13)).setCell ⟨gy,k*3+2,none⟩ (.slice ad13 ae13 af13))=U313 at *
           replace hR:=hR3
           clear hR3 hk3 hfz hFa hFx CX hFm hFd hFp zi6 zfd zfc zt0;obtain⟨r0,r1,r2,_⟩:=hX2.three
           have c0:=CD.2.1
           have c1:=CD.2.2.1
           have c2:=CD.2.2.2
           refine hK.out _ _ ?_ (fun hH=>?_)
           . (try dsimp only)
             exact⟨r0,r1,r2,c0,c1,c2⟩
           clear hK K r0 r1 r2 c0 c1 c2
           try simp only[Act.put,pZ]
           refine wpAnyH_done (by kernel_rfl) ?_ _
           clear hH hX2 CD hdg hdb
           have HR2:Hid (R3 130 m1.heap.size U313 _ _ 900 (mx A1 A (k+1)) (mx B1 B (k+1))):=hR
           have HQ2:Hid (_/\_):=⟨hQX,hQY⟩
           have HK2:Hid (Kn _ _ _):=hKn
           clear hR hQX hQY hKn;go_wp2
           go_roundw
           case rel=>exact⟨k+1,by omega,by go_num,HR2.out,HQ2.out.1,HQ2.out.2,HK2.out⟩
           case measure=>simp[intOf];omega
       . go_simp
         refine(zbl 10 7 q _ _ _ _ hFp.ct hFd.ct (by decide) (by decide) (by decide) (by decide)).mono ?_
         rintro e U112 ⟨vm12,rfl,hFm,hb1⟩;replace hX2:=hX2.below hb1;replace CD:=CD.below hb1;replace CX:=CX.below hb1;replace hFp:=hFp.below hb1;replace hFd:=hFd.below hb1;replace hFx:=hFx.below hb1;replace hR:=hR.below hb1
         replace hKn:=hKn.more hb1
         clear hb1
         go_wp2_with fail
         obtain⟨r0,r1,r2,_⟩:=hX2.three
         have c0:=CD.2.1
         have c1:=CD.2.2.1
         have c2:=CD.2.2.2
         refine hK.out _ _ ?_ (fun hH=>?_)
         . (try dsimp only)
           exact⟨r0,r1,r2,c0,c1,c2⟩
         clear hK K r0 r1 r2 c0 c1 c2
         try simp only[Act.put,pZ]
         refine hCall (i:=5) rfl (by kernel_rfl) (by rfl) (fun K hK=>?_)
         have D0:=CX.2.1
         have D1:=CX.2.2.1
         have D2:=CX.2.2.2
         go_simp;clear D0 D1 D2;obtain⟨r0,r1,r2,_⟩:=hX2.three
         have c0:=CD.2.1
         have c1:=CD.2.2.1
         have c2:=CD.2.2.2
         refine hK.out _ _ ?_ (fun hH=>?_)
         . (try dsimp only)
           exact⟨r0,r1,r2,c0,c1,c2⟩
         clear hK K r0 r1 r2 c0 c1 c2
         try simp only[Act.put,pZ]
         refine hCall (i:=12) rfl (by kernel_rfl) (by rfl) (fun K hK=>?_)
         go_simp
         refine(zbp KA 17 _ _ _ _ _ hFx.ct hFm.ct (by omega) (by decide) (by omega) (by decide)).mono ?_
         rintro e U212 ⟨va12,rfl,hFa,hb1⟩;replace hX2:=hX2.below hb1;replace CD:=CD.below hb1;replace CX:=CX.below hb1;replace hR:=hR.below hb1
         replace hKn:=hKn.more hb1
         clear hb1;rw[<-zt1.out]at hFa;obtain⟨az12,aa12,ab12,ac12,ad12,ae12,af12,rfl⟩:=hFa.cells3'
         go_wp2_with fail
         obtain⟨r0,r1,r2,_⟩:=hX2.three
         have c0:=CD.2.1
         have c1:=CD.2.2.1
         have c2:=CD.2.2.2
         refine hK.out _ _ ?_ (fun hH=>?_)
         . (try dsimp only)
           exact⟨r0,r1,r2,c0,c1,c2⟩
         clear hK K r0 r1 r2 c0 c1 c2
         try simp only[Act.put,pZ]
         refine hT 13 hH ?_
         refine hCall (i:=14) rfl (by kernel_rfl) (by rfl) (fun K hK=>?_)
         obtain⟨hR3,hk3⟩:=hR.putX (g:=gx) rfl k (by rw[zox.out];exact hkn) (hFa.le (show KA+17+1<=900 by omega))
         dsimp only[s3]at hR3 hk3
         have hfz:=hR.1.fz (g:=gx) rfl
         have f0:=hfz (k*3)
         have f1:=hfz (k*3+1)
         have f2:=hfz (k*3+2)
         have hcl:=CX.1
         have D0:=CX.2.1
         have D1:=CX.2.2.1
         have D2:=CX.2.2.2
         go_simp;clear D0 D1 D2 f0 f1 f2 hcl
         replace hX2:=hX2.kn hk3 (fun e=>by have:=HSZ.out;omega)
         replace CD:=CD.kn hk3 (fun e=>by omega)
         replace hKn:=hKn.trans hk3 (fun b e _=>.inl (by rw[e];rfl))
         have hQX:Lqs (mx A1 A (k+1)) (k+1) KA (KA+18):=by
          rw[<-zow.out]
          exact HQ12.out.set (by rw[zox.out];exact hkn) (hFa.le (show KA+17+1<=KA+18 by omega)).lq
         rw[zow.out]at hR3
         generalize (((U212.setCell ⟨gx,k*3,none⟩ (.bool az12)).setCell ⟨gx,k*3+1,none⟩ (.slice aa12 ab12 ac12)).setCell ⟨gx,k*3+2,none⟩ (.slice ad12 ae12 af12))=U312 at *
         replace hR:=hR3
         clear hR3 hk3 hfz hFa hFx CX hFm hFd hFp zt1 zox zow HQ12;obtain⟨r0,r1,r2,_⟩:=hX2.three
         have c0:=CD.2.1
         have c1:=CD.2.2.1
         have c2:=CD.2.2.2
         refine hK.out _ _ ?_ (fun hH=>?_)
         . (try dsimp only)
           exact⟨r0,r1,r2,c0,c1,c2⟩
         clear hK K r0 r1 r2 c0 c1 c2
         try simp only[Act.put,pZ]
         refine wpAnyH_done (by kernel_rfl) ?_ _
         clear hH hX2 CD hdg hdb
         have hX2:=HX2.out.kn hKn (fun h=>by have:=HNB.out _ h;have:=HSZ.out;omega)
         have hFp:=HFP.out.kn hKn
         have hDD:=HD2.out.1.kn hKn (fun b' o' e h=>by have:=HD2.out.2 b' o' e;have:=HNB.out _ h;have:=HSZ.out;omega)
         obtain⟨bd13,od13,dx13,dy13,dw13,ea13,hbd,dd0,dd1,dd2,hFd⟩:=hDD.1.at (Below.refl _ _) k (by rw[HLN.out.2.2.2.1];exact hkn)
         subst ea13;obtain⟨dz13,da13,db13,dc13,dd13,de13,df13,e9⟩:=hFd.cells3'
         simp only[Value.agg.injEq,Array.mk.injEq,List.cons.injEq,and_true]at e9
         obtain⟨rfl,rfl,rfl⟩:=e9
         have CD:C3 U312 bd13 (od13+k*3) (.bool dz13) (.slice da13 db13 dc13) (.slice dd13 de13 df13):=⟨hbd,dd0,dd1,dd2⟩
         have hml:(mx B1 B k).length=n:=by rw[zqf (HLN.out.2.2.2.2.2.2.2.trans HLN.out.2.2.2.2.2.2.1.symm) (by rw[HLN.out.2.2.2.2.2.2.2];exact hk)];exact HLN.out.2.2.2.2.2.2.1
         obtain⟨gy,cg13,eg13,hg1,hg2,hfz,hcx⟩:=hR.2.1.has (fun e=>by rw[e]at hml;simp at hml;omega)
         injection eg13 with eg13 eg2 eg3;subst eg13;clear eg2 eg3
         obtain⟨gx0,gx1,gx2,D0,D1,D2,hFx⟩:=hcx k (by rw[hml];exact hkn)
         obtain⟨xz13,xa13,xb13,xc13,xd13,xe13,xf13,e9⟩:=hFx.cells3'
         simp only[Value.agg.injEq,Array.mk.injEq,List.cons.injEq,and_true]at e9
         obtain⟨rfl,rfl,rfl⟩:=e9
         replace hFx:=hQY.at (by rw[hml];exact hkn) _ _ _ hFx
         rw[mx_at (HLN.out.2.2.2.2.2.2.2.trans HLN.out.2.2.2.2.2.2.1.symm) (by rw[HLN.out.2.2.2.2.2.2.1];exact hkn)]at hFx
         have CX:C3 U312 gy (k*3) (.bool xz13) (.slice xa13 xb13 xc13) (.slice xd13 xe13 xf13):=⟨hg2,D0,D1,D2⟩
         have hdg:gy<N0:=HNB.out gy (.inr rfl)
         have hdb:N0<=bd13:=by have:=HD2.out.2 bd13 od13 rfl;have:=HSZ.out;omega
         have zi6:Hid (B1.getD k 0=B.getD k 0+q*DY.getD k 0):=HSTY.out k hkn
         have zfd:Hid ((mx B1 B k).length=n):=hml
         have zfc:Hid ((mx B1 B k).set k (B1.getD k 0)=mx B1 B (k+1)):=zqe (HLN.out.2.2.2.2.2.2.2.trans HLN.out.2.2.2.2.2.2.1.symm) (by rw[HLN.out.2.2.2.2.2.2.1];exact hkn)
         have zt0:Hid (Lqs (mx B1 B k) k KA (KA+18)):=hQY
         clear hDD hbd dd0 dd1 dd2 D0 D1 D2 hcx hfz hg1 hg2 hml hQY;obtain⟨r0,r1,r2,_⟩:=hX2.three
         have c0:=CD.2.1
         have c1:=CD.2.2.1
         have c2:=CD.2.2.2
         go_upto_region 13 with fail
         refine wp_region_held_drew (S:=fun w9=>w9.cell? ⟨gp,0,none⟩=some (.bool pz)/\w9.cell? ⟨gp,1,none⟩=some (.slice p1 p2 p3)/\w9.cell? ⟨gp,2,none⟩=some (.slice p4 p5 p6)/\w9.cell? ⟨bd13,od13+k*3,none⟩=some (.bool dz13)/\w9.cell? ⟨bd13,od13+k*3+1,none⟩=some (.slice da13 db13 dc13)/\w9.cell? ⟨bd13,od13+k*3+2,none⟩=some (.slice dd13 de13 df13)) (by kernel_rfl) ?_ (fun hH=>?_)
         . (try dsimp only)
           go_keep
         clear r0 r1 r2 c0 c1 c2
         have hdr:Below U312.heap.size U312 U312.drew:=Below.drew1
         generalize U312.drew=Z13 at hdr hH ⊢
         replace hX2:=hX2.below hdr;replace CD:=CD.below hdr;replace CX:=CX.below hdr;replace hFp:=hFp.below hdr;replace hFd:=hFd.below hdr;replace hFx:=hFx.below hdr;replace hR:=hR.below hdr
         replace hKn:=hKn.more hdr
         clear hdr;refine hT 0 hH ?_;refine hT 1 hH ?_;refine hT 2 hH ?_;refine hT 3 hH ?_;refine hT 4 hH ?_;refine hT 6 hH ?_;refine hT 7 hH ?_;refine hT 8 hH ?_;refine hT 9 hH ?_;refine hT 10 hH ?_
         refine wpAnyH_ready (rs:=[5,11]) (by kernel_rfl) (by simp) (hCons (i:=5) rfl (by rfl) (fun K hK=>?_) (hCons (i:=11) rfl (by rfl) (fun K hK=>?_) AllReadyH.nil))
         . have D0:=CX.2.1
           have D1:=CX.2.2.1
           have D2:=CX.2.2.2
           go_simp;clear D0 D1 D2;obtain⟨r0,r1,r2,_⟩:=hX2.three
           have c0:=CD.2.1
           have c1:=CD.2.2.1
           have c2:=CD.2.2.2
           refine hK.out _ _ ?_ (fun hH=>?_)
           . (try dsimp only)
             exact⟨r0,r1,r2,c0,c1,c2⟩
           clear hK K r0 r1 r2 c0 c1 c2
           try simp only[Act.put,pZ]
           refine hCall (i:=11) rfl (by kernel_rfl) (by rfl) (fun K hK=>?_)
           go_simp
           refine(zbl 10 7 q _ _ _ _ hFp.ct hFd.ct (by decide) (by decide) (by decide) (by decide)).mono ?_
           rintro e U113 ⟨vm13,rfl,hFm,hb1⟩;replace hX2:=hX2.below hb1;replace CD:=CD.below hb1;replace CX:=CX.below hb1;replace hFp:=hFp.below hb1;replace hFd:=hFd.below hb1;replace hFx:=hFx.below hb1;replace hR:=hR.below hb1
           replace hKn:=hKn.more hb1
           clear hb1
           go_wp2_with fail
           obtain⟨r0,r1,r2,_⟩:=hX2.three
           have c0:=CD.2.1
           have c1:=CD.2.2.1
           have c2:=CD.2.2.2
           refine hK.out _ _ ?_ (fun hH=>?_)
           . (try dsimp only)
             exact⟨r0,r1,r2,c0,c1,c2⟩
           clear hK K r0 r1 r2 c0 c1 c2
           try simp only[Act.put,pZ]
           refine hCall (i:=12) rfl (by kernel_rfl) (by rfl) (fun K hK=>?_)
           go_simp
           refine(zbp KA 17 _ _ _ _ _ hFx.ct hFm.ct (by omega) (by decide) (by omega) (by decide)).mono ?_
           rintro e U213 ⟨va13,rfl,hFa,hb1⟩;replace hX2:=hX2.below hb1;replace CD:=CD.below hb1;replace CX:=CX.below hb1;replace hR:=hR.below hb1
           replace hKn:=hKn.more hb1
           clear hb1;rw[<-zi6.out]at hFa;obtain⟨az13,aa13,ab13,ac13,ad13,ae13,af13,rfl⟩:=hFa.cells3'
           go_wp2_with fail
           obtain⟨r0,r1,r2,_⟩:=hX2.three
           have c0:=CD.2.1
           have c1:=CD.2.2.1
           have c2:=CD.2.2.2
           refine hK.out _ _ ?_ (fun hH=>?_)
           . (try dsimp only)
             exact⟨r0,r1,r2,c0,c1,c2⟩
           clear hK K r0 r1 r2 c0 c1 c2
           try simp only[Act.put,pZ]
           refine hT 13 hH ?_
           refine hCall (i:=14) rfl (by kernel_rfl) (by rfl) (fun K hK=>?_)
           obtain⟨hR3,hk3⟩:=hR.putY (g:=gy) rfl k (by rw[zfd.out];exact hkn) (hFa.le (show KA+17+1<=900 by omega))
           dsimp only[s3]at hR3 hk3
           have hfz:=hR.2.1.fz (g:=gy) rfl
           have f0:=hfz (k*3)
           have f1:=hfz (k*3+1)
           have f2:=hfz (k*3+2)
           have hcl:=CX.1
           have D0:=CX.2.1
           have D1:=CX.2.2.1
           have D2:=CX.2.2.2
           go_simp;clear D0 D1 D2 f0 f1 f2 hcl
           replace hX2:=hX2.kn hk3 (fun e=>by have:=HSZ.out;omega)
           replace CD:=CD.kn hk3 (fun e=>by omega)
           replace hKn:=hKn.trans hk3 (fun b e _=>.inr (by rw[e];rfl))
           have hQY:Lqs (mx B1 B (k+1)) (k+1) KA (KA+18):=by
            rw[<-zfc.out]
            exact zt0.out.set (by rw[zfd.out];exact hkn) (hFa.le (show KA+17+1<=KA+18 by omega)).lq
           rw[zfc.out]at hR3
           generalize (((U213.setCell ⟨gy,k*3,none⟩ (.bool az13)).setCell ⟨gy,k*3+1,none⟩ (.slice aa13 ab13 ac13)).setCell ⟨gy,k*3+2,none⟩ (.slice ad13 ae13 af13))=U313 at *
           replace hR:=hR3
           clear hR3 hk3 hfz hFa hFx CX hFm hFd hFp zi6 zfd zfc zt0;obtain⟨r0,r1,r2,_⟩:=hX2.three
           have c0:=CD.2.1
           have c1:=CD.2.2.1
           have c2:=CD.2.2.2
           refine hK.out _ _ ?_ (fun hH=>?_)
           . (try dsimp only)
             exact⟨r0,r1,r2,c0,c1,c2⟩
           clear hK K r0 r1 r2 c0 c1 c2
           try simp only[Act.put,pZ]
           refine wpAnyH_done (by kernel_rfl) ?_ _
           clear hH hX2 CD hdg hdb
           have HR2:Hid (R3 130 m1.heap.size U313 _ _ 900 (mx A1 A (k+1)) (mx B1 B (k+1))):=hR
           have HQ2:Hid (_/\_):=⟨hQX,hQY⟩
           have HK2:Hid (Kn _ _ _):=hKn
           clear hR hQX hQY hKn;go_wp2
           go_roundw
           case rel=>exact⟨k+1,by omega,by go_num,HR2.out,HQ2.out.1,HQ2.out.2,HK2.out⟩
           case measure=>simp[intOf];omega
         . go_simp
           refine(zbl 10 7 q _ _ _ _ hFp.ct hFd.ct (by decide) (by decide) (by decide) (by decide)).mono ?_
           rintro e U113 ⟨vm13,rfl,hFm,hb1⟩;replace hX2:=hX2.below hb1;replace CD:=CD.below hb1;replace CX:=CX.below hb1;replace hFp:=hFp.below hb1;replace hFd:=hFd.below hb1;replace hFx:=hFx.below hb1;replace hR:=hR.below hb1
           replace hKn:=hKn.more hb1
           clear hb1
           go_wp2_with fail
           obtain⟨r0,r1,r2,_⟩:=hX2.three
           have c0:=CD.2.1
           have c1:=CD.2.2.1
           have c2:=CD.2.2.2
           refine hK.out _ _ ?_ (fun hH=>?_)
           . (try dsimp only)
             exact⟨r0,r1,r2,c0,c1,c2⟩
           clear hK K r0 r1 r2 c0 c1 c2
           try simp only[Act.put,pZ]
           refine hCall (i:=5) rfl (by kernel_rfl) (by rfl) (fun K hK=>?_)
           have D0:=CX.2.1
           have D1:=CX.2.2.1
           have D2:=CX.2.2.2
           go_simp;clear D0 D1 D2;obtain⟨r0,r1,r2,_⟩:=hX2.three
           have c0:=CD.2.1
           have c1:=CD.2.2.1
           have c2:=CD.2.2.2
           refine hK.out _ _ ?_ (fun hH=>?_)
           . (try dsimp only)
             exact⟨r0,r1,r2,c0,c1,c2⟩
           clear hK K r0 r1 r2 c0 c1 c2
           try simp only[Act.put,pZ]
           refine hCall (i:=12) rfl (by kernel_rfl) (by rfl) (fun K hK=>?_)
           go_simp
           refine(zbp KA 17 _ _ _ _ _ hFx.ct hFm.ct (by omega) (by decide) (by omega) (by decide)).mono ?_
           rintro e U213 ⟨va13,rfl,hFa,hb1⟩;replace hX2:=hX2.below hb1;replace CD:=CD.below hb1;replace CX:=CX.below hb1;replace hR:=hR.below hb1
           replace hKn:=hKn.more hb1
           clear hb1;rw[<-zi6.out]at hFa;obtain⟨az13,aa13,ab13,ac13,ad13,ae13,af13,rfl⟩:=hFa.cells3'
           go_wp2_with fail
           obtain⟨r0,r1,r2,_⟩:=hX2.three
           have c0:=CD.2.1
           have c1:=CD.2.2.1
           have c2:=CD.2.2.2
           refine hK.out _ _ ?_ (fun hH=>?_)
           . (try dsimp only)
             exact⟨r0,r1,r2,c0,c1,c2⟩
           clear hK K r0 r1 r2 c0 c1 c2
           try simp only[Act.put,pZ]
           refine hT 13 hH ?_
           refine hCall (i:=14) rfl (by kernel_rfl) (by rfl) (fun K hK=>?_)
           obtain⟨hR3,hk3⟩:=hR.putY (g:=gy) rfl k (by rw[zfd.out];exact hkn) (hFa.le (show KA+17+1<=900 by omega))
           dsimp only[s3]at hR3 hk3
           have hfz:=hR.2.1.fz (g:=gy) rfl
           have f0:=hfz (k*3)
           have f1:=hfz (k*3+1)
           have f2:=hfz (k*3+2)
           have hcl:=CX.1
           have D0:=CX.2.1
           have D1:=CX.2.2.1
           have D2:=CX.2.2.2
           go_simp;clear D0 D1 D2 f0 f1 f2 hcl
           replace hX2:=hX2.kn hk3 (fun e=>by have:=HSZ.out;omega)
           replace CD:=CD.kn hk3 (fun e=>by omega)
           replace hKn:=hKn.trans hk3 (fun b e _=>.inr (by rw[e];rfl))
           have hQY:Lqs (mx B1 B (k+1)) (k+1) KA (KA+18):=by
            rw[<-zfc.out]
            exact zt0.out.set (by rw[zfd.out];exact hkn) (hFa.le (show KA+17+1<=KA+18 by omega)).lq
           rw[zfc.out]at hR3
           generalize (((U213.setCell ⟨gy,k*3,none⟩ (.bool az13)).setCell ⟨gy,k*3+1,none⟩ (.slice aa13 ab13 ac13)).setCell ⟨gy,k*3+2,none⟩ (.slice ad13 ae13 af13))=U313 at *
           replace hR:=hR3
           clear hR3 hk3 hfz hFa hFx CX hFm hFd hFp zi6 zfd zfc zt0;obtain⟨r0,r1,r2,_⟩:=hX2.three
           have c0:=CD.2.1
           have c1:=CD.2.2.1
           have c2:=CD.2.2.2
           refine hK.out _ _ ?_ (fun hH=>?_)
           . (try dsimp only)
             exact⟨r0,r1,r2,c0,c1,c2⟩
           clear hK K r0 r1 r2 c0 c1 c2
           try simp only[Act.put,pZ]
           refine wpAnyH_done (by kernel_rfl) ?_ _
           clear hH hX2 CD hdg hdb
           have HR2:Hid (R3 130 m1.heap.size U313 _ _ 900 (mx A1 A (k+1)) (mx B1 B (k+1))):=hR
           have HQ2:Hid (_/\_):=⟨hQX,hQY⟩
           have HK2:Hid (Kn _ _ _):=hKn
           clear hR hQX hQY hKn;go_wp2
           go_roundw
           case rel=>exact⟨k+1,by omega,by go_num,HR2.out,HQ2.out.1,HQ2.out.2,HK2.out⟩
           case measure=>simp[intOf];omega
     . obtain rfl:k=n:=by omega
       have g4:¬(k:Int)<(k:Int):=by omega
       have HR2:Hid (R3 130 m1.heap.size wr (.slice xa k xc) (.slice ya k yc) 900 (EX (i+1)) (EY (i+1))):=by
        rw[HEN.out.1,HEN.out.2]
        have e1:=zms (HLN.out.2.2.2.2.2.1.trans HLN.out.2.2.2.2.1.symm)
        have e2:=zms (HLN.out.2.2.2.2.2.2.2.trans HLN.out.2.2.2.2.2.2.1.symm)
        rw[HLN.out.2.2.2.2.1]at e1;rw[HLN.out.2.2.2.2.2.2.1]at e2;rw[e1,e2]at hR
        exact hR
       have HQ2:Hid (Lqs (EX (i+1)) 0 (2+18*(i+1)) 0/\Lqs (EY (i+1)) 0 (2+18*(i+1)) 0):=by
        rw[HEN.out.1,HEN.out.2,HKN.out]
        have e1:=zms (HLN.out.2.2.2.2.2.1.trans HLN.out.2.2.2.2.1.symm)
        have e2:=zms (HLN.out.2.2.2.2.2.2.2.trans HLN.out.2.2.2.2.2.2.1.symm)
        rw[HLN.out.2.2.2.2.1]at e1;rw[HLN.out.2.2.2.2.2.2.1]at e2;rw[e1]at hQX;rw[e2]at hQY
        exact⟨hQX.end (by rw[HLN.out.2.2.2.2.2.1];exact Nat.le_refl _) 0,hQY.end (by rw[HLN.out.2.2.2.2.2.2.2];exact Nat.le_refl _) 0⟩
       have HB2:Hid (Below m1.heap.size m1 wr):=HB5.out.trans (hKn.below HB5.out.size (fun b hb=>HLO.out b hb))
       clear hR hQX hQY hKn;go_wp2
       go_roundw
       case rel=>exact⟨i+1,by omega,by go_num,HR2.out,HQ2.out.1,HQ2.out.2,HB2.out⟩
       case measure=>simp[intOf];omega
  . obtain rfl:i=l.length:=by omega
    have g9:¬(l.length:Int)<(l.length:Int):=by omega
    have zay:=HBW.out.trans (hB.mono HBW.out.size)
    obtain⟨a1,c1,e1,hZ1⟩:=hR.1.rg;obtain⟨a2,c2,e2,hZ2⟩:=hR.2.1.rg;rw[HLX.out.1]at e1;rw[HLX.out.2]at e2;injection e1 with e1 _ e3;injection e2 with e2 _ e4;subst e1 e3 e2 e4;rw[<-HEX.out]at hZ1;rw[<-HEY.out]at hZ2
    have HZ1:Hid (Rg w.heap.size wr xa xc 900 (exL Pn.x Pa.dx Tu.dx o l cs)):=hZ1.lower HBW.out.size
    have HZ2:Hid (Rg w.heap.size wr ya yc 900 (exL Pn.y Pa.dy Tu.dy o l cs)):=hZ2.lower HBW.out.size
    clear hR hQX hQY hB hZ1 hZ2;go_wp2
    exact bodyPost_ret (v:=.tuple #[.slice xa n xc,.slice ya n yc,.int .i64 0]) (by simp[results,Tryz.results73,go_sem]) rfl ⟨xa,xc,ya,yc,by rw[HLE.out.1,HLE.out.2],HZ1.out,HZ2.out,zay⟩
