import Derived.Test.YtkmcodofnckdmaaGreatZK18
set_option maxHeartbeats 8000000
set_option maxRecDepth 100000
set_option linter.unusedSimpArgs false
set_option linter.unusedVariables false
namespace Go.Proofs.YtkmcodofnckdmaaGreat
open Go.RowKit Go.Maps
theorem R22.two{base:Nat}{w4 w5 w6 w7:World}{vx vy:Value}{K:Nat}{X' Y':List (List Rat)}{BX BY:Nat->Prop}(h3:∀k,BX k->¬BY k)(h4:∀k,BX k->base<=k/\k<w4.heap.size)(h5:∀k,BY k->base<=k/\k<w4.heap.size)(hw:w4.heap.size<=w5.heap.size)(hx:Rr (fun k=>BX k\/w5.heap.size<=k) w6 vx K X')(k1:Kn BX w5 w6)(hy:Rr (fun k=>BY k\/w6.heap.size<=k) w7 vy K Y')(k2:Kn BY w6 w7)(hb:base<=w4.heap.size):R22 base w7 vx vy K X' Y':=by
 have s1:=k1.size
 have s2:=k2.size
 refine⟨fun k=>(BX k\/w5.heap.size<=k)/\k<w6.heap.size,fun k=>(BY k\/w6.heap.size<=k)/\k<w7.heap.size,(hx.mono (fun k h1 h2=>⟨h1,h2⟩)).kn k2 (fun k hk hy=>?_),hy.mono (fun k h1 h2=>⟨h1,h2⟩),fun k hk hy=>?_,fun k hk=>?_,fun k hk=>?_⟩
 . rcases hk.1 with h|h
   . exact h3 k h hy
   . have:=(h5 k hy).2;omega
 . rcases hk.1 with h|h
   . rcases hy.1 with h'|h'
     . exact h3 k h h'
     . omega
   . rcases hy.1 with h'|h'
     . have:=(h5 k h').2;omega
     . omega
 . rcases hk.1 with h|h
   . have:=(h4 k h).1;omega
   . omega
 . rcases hk.1 with h|h
   . have:=(h5 k h).1;omega
   . omega
def exA(f:Pn->Int)(g:Pa->Int)(tl:Tu->LI)(o:Ol)(l:List Tu)(cs:LI):List Rat:=if foT o l (cs.length:Int)=true then exL f g tl o l cs else []
def exE(o:Ol)(l:List Tu)(cs:LI):Int:=if foT o l (cs.length:Int)=true then 0 else 1
theorem zol{f:Pn->Int}{g:Pa->Int}{tl:Tu->LI}{o:Ol}{l:List Tu}{cs:LI}(h:foT o l (cs.length:Int)=false):exA f g tl o l cs=[]:=by unfold exA;rw[h];rfl
theorem zzh{o:Ol}{l:List Tu}{cs:LI}(h:foT o l (cs.length:Int)=false):exE o l cs=1:=by unfold exE;rw[h];rfl
theorem zjf{f:Pn->Int}{g:Pa->Int}{tl:Tu->LI}{o:Ol}{l:List Tu}{cs:LI}(h:foT o l (cs.length:Int)=true):exA f g tl o l cs=exL f g tl o l cs:=if_pos h
theorem ztx{o:Ol}{l:List Tu}{cs:LI}(h:foT o l (cs.length:Int)=true):exE o l cs=0:=if_pos h
theorem zqx{o:Ol}{t:Tu}{ax:Int}(hf:foB o=true)(h:tuB t (cntO o) ax=true):spL Pn.x o (nmd t) t.dx t.dx t.dy=spQ Pn.x o (nmd t) t.dx/\spL Pn.y o (nmd t) t.dy t.dx t.dy=spQ Pn.y o (nmd t) t.dy/\spE o (nmd t) t.dx t.dy=0/\(spQ Pn.x o (nmd t) t.dx).length=cntO o/\(spQ Pn.y o (nmd t) t.dy).length=cntO o/\t.dx.length<=86/\t.rg.length<=4\/¬(0<=ax/\ax<=4):=by
 by_cases hax:0<=ax/\ax<=4
 . left
   have hF:=za1.1 hf
   have hs:=zz1 hf h
   obtain⟨h1,h2,h3,h4⟩:=zd2.1 h
   have hx:∀z∈t.dx,-32768<=z/\z<=32767:=fun z hz=>zce.1 (List.all_eq_true.1 h3 z hz)
   have hy:∀z∈t.dy,-32768<=z/\z<=32767:=fun z hz=>zce.1 (List.all_eq_true.1 h4 z hz)
   have hc:=zfl hf
   have hl:=(zls h2).1
   have hr:=zif (zsq h2)
   have hrl:(t.rg.length:Int)=ax:=by unfold rgB at h1;rw[Bool.and_eq_true,decide_eq_true_iff]at h1;exact h1.2
   exact⟨zic hs,zic hs,zrd hs,zrc hF (fun p hp=>(hF.2.2.2.2.2.1 p hp).1) hx,zrc hF (fun p hp=>(hF.2.2.2.2.2.1 p hp).2) hy,by omega,by omega⟩
 . exact .inr hax
theorem zo5(S:Nat->Prop)(a:OA)(ca:Nat)(b:OA)(cb:Nat)(o:Ol)(S2:Nat->Prop)(la:OA)(lc:Nat)(l:List Tu)(ga:OA)(gc:Nat)(cs:LI)(w:World)(hc:Gr PnE.row S w a ca o.cs)(hp:Gr PaE S w b cb o.ps)(hl:Gr TuE S2 w la lc l)(hg:Ri w ga gc cs) :
 Calls Tryz.prog 118 #[.agg #[.slice a o.cs.length ca,.slice b o.ps.length cb],.slice la l.length lc,.slice ga cs.length gc] w fun e w'=>∃a1 c1 a2 c2,e=.returned (.tuple #[.slice a1 (exA Pn.x Pa.dx Tu.dx o l cs).length c1,.slice a2 (exA Pn.y Pa.dy Tu.dy o l cs).length c2,.int .i64 (exE o l cs)])/\Rg w.heap.size w' a1 c1 900 (exA Pn.x Pa.dx Tu.dx o l cs)/\Rg w.heap.size w' a2 c2 900 (exA Pn.y Pa.dy Tu.dy o l cs)/\Below w.heap.size w w':=by
 have kl:=hl.lenB
 have kg:=hg.lenB
 obtain⟨W,hW,X1,hbW⟩:∃W,W=w.alloc (.cells #[.slice a o.cs.length ca,.slice b o.ps.length cb] 57)/\Bk 57 W w.heap.size [.slice a o.cs.length ca,.slice b o.ps.length cb]/\Below w.heap.size w W:=⟨_,rfl,Bk.new _ _ _,bl1 _⟩
 replace hc:=hc.below hbW;replace hp:=hp.below hbW;replace hl:=hl.below hbW;replace hg:=hg.below hbW;obtain⟨p0,p1,_⟩:=X1.two
 have hf1:=zdt S a ca b cb o S2 la lc l (cs.length:Int) W hc hp hl (by unfold I64;omega)
 cases hfo:foT o l (cs.length:Int) with
 | false =>
  rw[hfo]at hf1;rw[zol hfo,zol hfo,zzh hfo];clear hfo
  go_enter Tryz.func118,Tryz.ntmps118
  go_upto_region 1 with fail
  rw[<-hW];clear hW
  go_wp2_with fail
  refine hf1.mono ?_
  rintro e m2 ⟨rfl,hb1⟩
  have zau:=hbW.trans (hb1.mono hbW.size)
  clear hb1 hf1;go_wp2
  exact bodyPost_ret (v:=.tuple #[.slice none 0 0,.slice none 0 0,.int .i64 1]) (by simp[results,Tryz.results118,go_sem]) rfl ⟨none,0,none,0,rfl,Rg.nil _ _ _,Rg.nil _ _ _,zau⟩
 | true =>
 rw[hfo]at hf1;rw[zjf hfo,zjf hfo,ztx hfo]
 obtain⟨hF1,hF2,hF3,hF4⟩:=zbc.1 hfo
 have hFO:=za1.1 hF1
 have HOL:Hid (o.cs.flatten.length<=80/\o.ps.length<=6/\o.cs.length<=10):=⟨hFO.2.2.2.2.1,hFO.2.2.1,hFO.2.1⟩
 have HCN:Hid (cntO o<=86):=zfl hF1
 have HSP:Hid (∀k,k<l.length->_):=fun k hk=>(zqx hF1 (hF4 k hk)).resolve_right (fun h=>h hF2)
 clear hFO hF1 hF4 hfo
 go_enter Tryz.func118,Tryz.ntmps118
 go_upto_region 1 with fail
 rw[<-hW];clear hW
 go_wp2_with fail
 refine hf1.mono ?_
 rintro e m1 ⟨rfl,hb1⟩;replace hc:=hc.below hb1;replace hp:=hp.below hb1;replace hl:=hl.below hb1;replace hg:=hg.below hb1;replace X1:=X1.below hb1
 replace hbW:=hbW.trans (hb1.mono hbW.size)
 clear hb1 hf1 p0 p1;obtain⟨p0,p1,_⟩:=X1.two
 have hx1:=X1.lt
 go_wp2_with fail
 refine(zo6 S a ca b cb o _ hc hp (by have:=HOL.out;omega) (by have:=HOL.out;omega)).mono ?_
 rintro e m2 ⟨vx,vy,rfl,hR0,hb1⟩
 have HC:Hid (Gr PnE.row S m1 a ca o.cs):=hc
 have HP:Hid (Gr PaE S m1 b cb o.ps):=hp
 have HL:Hid (Gr TuE S2 m1 la lc l):=hl
 have HG:Hid (Ri m1 ga gc cs):=hg
 have HX:Hid (Bk 57 m1 w.heap.size [.slice a o.cs.length ca,.slice b o.ps.length cb]):=X1
 have HBW:Hid (Below w.heap.size w m1):=hbW
 have HB1:Hid (Below m1.heap.size m1 m2):=hb1
 have HR0:Hid (R22 m1.heap.size m2 vx vy 20 (wz1 (baQ Pn.x Pa.dx o)) (wz1 (baQ Pn.y Pa.dy o))):=hR0
 clear hc hp hl hg X1 hbW hb1 hR0 p0 p1
 obtain⟨exx,hexx⟩:∃q,exL Pn.x Pa.dx Tu.dx o l cs=q:=⟨_,rfl⟩
 obtain⟨exy,hexy⟩:∃q,exL Pn.y Pa.dy Tu.dy o l cs=q:=⟨_,rfl⟩
 have HEX:Hid (exL Pn.x Pa.dx Tu.dx o l cs=exx):=hexx
 have HEY:Hid (exL Pn.y Pa.dy Tu.dy o l cs=exy):=hexy
 clear hexx hexy;go_wp2
 go_loopw [30] (fun i wr=>∃(k:Nat) (X Y:List (List Rat)),k<=l.length/\i=.int .i64 k/\TmI Pn.x Pa.dx Tu.dx o l cs k X/\TmI Pn.y Pa.dy Tu.dy o l cs k Y/\R22 m1.heap.size wr vx vy 20 X Y/\Below m1.heap.size m1 wr) (fun i _=>l.length-(intOf i).toNat)
 case atStart=>exact⟨0,_,_,Nat.zero_le _,rfl,TmI.start _ _ _ _ _ _,TmI.start _ _ _ _ _ _,HR0.out,HB1.out⟩
 case round =>
  clear HR0 HB1;obtain⟨k,X,Y,hk,rfl,hTX,hTY,hR,hB⟩:=hrel
  have HTX:Hid (TmI Pn.x Pa.dx Tu.dx o l cs k X):=hTX
  have HTY:Hid (TmI Pn.y Pa.dy Tu.dy o l cs k Y):=hTY
  clear hTX hTY
  by_cases hkn:k<l.length
  . obtain⟨BX,BY,hx,hy,h3,h4,h5⟩:=hR
    have hBs:=hB.size
    obtain⟨b0,off,ra,rc,pa,pc,xa,xc,ya,yc,ea,hb,ht,d0,d1,d2,d3,d4⟩:=HL.out.tu hB k hkn
    subst ea
    obtain⟨s1,s2,s3,s4,s5,s6,s7⟩:=HSP.out k hkn
    have HZX:Hid (alQ (l.getD k Tu.none).rg cs=0->TmI Pn.x Pa.dx Tu.dx o l cs (k+1) X):=fun h0=>HTX.out.skip hkn h0
    have HZY:Hid (alQ (l.getD k Tu.none).rg cs=0->TmI Pn.y Pa.dy Tu.dy o l cs (k+1) Y):=fun h0=>HTY.out.skip hkn h0
    have HNX:Hid (_):=HTX.out.step hkn s4
    have HNY:Hid (_):=HTY.out.step hkn s5
    obtain⟨t,htt⟩:∃t,l.getD k Tu.none=t:=⟨_,rfl⟩
    rw[htt]at ht d0 d1 d2 d3 d4 HZX HZY HNX HNY s1 s2 s3 s4 s5 s6 s7
    have HS4:Hid ((spQ Pn.x o (nmd t) t.dx).length=cntO o):=s4
    have HS5:Hid ((spQ Pn.y o (nmd t) t.dy).length=cntO o):=s5
    have HSS:Hid (_/\_/\_):=⟨s1,s2,s3⟩
    clear htt s1 s2 s3 s4 s5
    have i1:(0:Int)<=(k:Int):=by omega
    have i2:(k:Int)<(l.length:Int):=by omega
    obtain⟨V,hV,X0,hb0⟩:∃V,V=wr.alloc (.cells #[.slice ra t.rg.length rc,.bool t.al,.slice pa t.pts.length pc,.slice xa t.dx.length xc,.slice ya t.dy.length yc] 144)/\Bk 144 V wr.heap.size [.slice ra t.rg.length rc,.bool t.al,.slice pa t.pts.length pc,.slice xa t.dx.length xc,.slice ya t.dy.length yc]/\Below wr.heap.size wr V:=⟨_,rfl,Bk.new _ _ _,bl1 _⟩
    replace ht:=ht.below hb0;replace hx:=hx.below hb0;replace hy:=hy.below hb0
    have hwc:=hb0.size
    replace hB:=hB.trans (hb0.mono hB.size)
    obtain⟨q0,q1,q2,q3,q4,_⟩:=X0.five
    go_upto_region 7 with fail
    rw[<-hV];clear hV d0 d1 d2 d3 d4 hb0
    go_wp2_with fail
    refine(zuh ra rc t.rg ga gc cs _ ht.tz (HG.out.below hB) (by omega)).mono ?_
    rintro e y1 ⟨v1,rfl,hFp,hb1⟩
    replace hFp:=hFp.le (show 2+2*t.rg.length<=10 by omega)
    obtain⟨z1,x1,x2,x3,x4,x5,x6,rfl⟩:=hFp.cells3'
    obtain⟨V2,hV2,X2,hb2⟩:∃V,V=y1.alloc (.cells #[.bool z1,.slice x1 x2 x3,.slice x4 x5 x6] 125)/\Bk 125 V y1.heap.size [.bool z1,.slice x1 x2 x3,.slice x4 x5 x6]/\Below y1.heap.size y1 V:=⟨_,rfl,Bk.new _ _ _,bl1 _⟩
    have hb3:=hb1.trans (hb2.mono hb1.size)
    replace ht:=ht.below hb3;replace hx:=hx.below hb3;replace hy:=hy.below hb3
    replace hwc:=Nat.le_trans hwc hb3.size
    have hy1:wr.heap.size<=y1.heap.size:=Nat.le_trans (X0.lt |> Nat.le_of_lt) hb1.size
    replace hB:=hB.trans (hb3.mono hB.size)
    replace X0:=X0.below hb3;replace hFp:=hFp.below hb2;clear q0 q1 q2 q3 q4 hb1 hb2 hb3;obtain⟨q0,q1,q2,q3,q4,_⟩:=X0.five;obtain⟨r0,r1,r2,_⟩:=X2.three
    obtain⟨q,hq⟩:∃q,alQ t.rg cs=q:=⟨_,rfl⟩
    rw[hq]at hFp HZX HZY HNX HNY;clear hq
    have hsi:=zgr 10 q _ V2 hFp.ct (by decide) (by decide)
    go_upto_region 8 with fail
    rw[<-hV2];clear hV2
    by_cases hz0:q=0
    . have HZX2:Hid (TmI Pn.x Pa.dx Tu.dx o l cs (k+1) X):=HZX.out hz0
      have HZY2:Hid (TmI Pn.y Pa.dy Tu.dy o l cs (k+1) Y):=HZY.out hz0
      have hs0:sgnQ q=0:=by rw[hz0];rfl
      rw[hs0]at hsi;clear HNX HNY HZX HZY hz0 hs0
      go_wp2_with fail
      refine hsi.mono ?_
      rintro e m3 ⟨rfl,hb1⟩
      have HR2:Hid (R22 m1.heap.size m3 vx vy 20 X Y):=⟨BX,BY,hx.below hb1,hy.below hb1,h3,(fun k hk=>⟨(h4 k hk).1,by have:=(h4 k hk).2;have:=hb1.size;omega⟩),(fun k hk=>⟨(h5 k hk).1,by have:=(h5 k hk).2;have:=hb1.size;omega⟩)⟩
      have HB2:Hid (Below m1.heap.size m1 m3):=hB.trans (hb1.mono hB.size)
      clear hb1 hsi hx hy hB q0 q1 q2 q3 q4 r0 r1 r2;go_wp2
      go_roundw
      case rel=>exact⟨k+1,X,Y,by omega,by go_num,HZX2.out,HZY2.out,HR2.out,HB2.out⟩
      case measure=>simp[intOf];omega
    . have hs0:(sgnQ q==0)=false:=beq_eq_false_iff_ne.2 (fun e=>hz0 (zfs e))
      have hs1:¬sgnQ q=0:=fun e=>hz0 (zfs e)
      generalize sgnQ q=sg at *
      clear HZX HZY hz0
      go_wp2_with fail
      refine hsi.mono ?_
      rintro e m3 ⟨rfl,hb1⟩;replace ht:=ht.below hb1;replace hx:=hx.below hb1;replace hy:=hy.below hb1
      replace hwc:=Nat.le_trans hwc hb1.size
      replace hB:=hB.trans (hb1.mono hB.size)
      replace X0:=X0.below hb1;replace X2:=X2.below hb1;replace hFp:=hFp.below hb1;clear q0 q1 q2 q3 q4 r0 r1 r2 hb1 hsi
      have XO:=HX.out.below hB
      obtain⟨q0,q1,q2,q3,q4,_⟩:=X0.five;obtain⟨t0,t1,_⟩:=XO.two
      go_upto_region 9 with fail
      refine wp_region_held_drew (S:=fun w9=>w9.cell? ⟨w.heap.size,0,none⟩=some (.slice a o.cs.length ca)/\w9.cell? ⟨w.heap.size,1,none⟩=some (.slice b o.ps.length cb)/\w9.cell? ⟨wr.heap.size,0,none⟩=some (.slice ra t.rg.length rc)/\w9.cell? ⟨wr.heap.size,1,none⟩=some (.bool t.al)/\w9.cell? ⟨wr.heap.size,2,none⟩=some (.slice pa t.pts.length pc)/\w9.cell? ⟨wr.heap.size,3,none⟩=some (.slice xa t.dx.length xc)/\w9.cell? ⟨wr.heap.size,4,none⟩=some (.slice ya t.dy.length yc)) (by kernel_rfl) ?_ (fun hH=>?_)
      . (try dsimp only)
        go_keep
      have hdr:Below m3.heap.size m3 m3.drew:=Below.drew1
      generalize m3.drew=ud at hdr hH ⊢
      replace ht:=ht.below hdr;replace hx:=hx.below hdr;replace hy:=hy.below hdr
      replace hwc:=Nat.le_trans hwc hdr.size
      replace hB:=hB.trans (hdr.mono hB.size)
      replace X0:=X0.below hdr;replace X2:=X2.below hdr;replace XO:=XO.below hdr;replace hFp:=hFp.below hdr;clear hdr q0 q1 q2 q3 q4 t0 t1;refine hT 0 hH ?_;refine hT 1 hH ?_;refine hT 3 hH ?_;refine hT 4 hH ?_;refine hT 5 hH ?_;refine hT 6 hH ?_
      refine hCall (i:=2) rfl (by kernel_rfl) (by rfl) (fun K hK=>?_)
      go_simp
      refine(zo4 S2 ra rc pa pc xa xc ya yc t _ ht (by omega)).mono ?_
      rintro e y3 ⟨na,nc,rfl,hN,hb1⟩;replace ht:=ht.below hb1;replace hx:=hx.below hb1;replace hy:=hy.below hb1
      replace hwc:=Nat.le_trans hwc hb1.size
      replace hB:=hB.trans (hb1.mono hB.size)
      replace X0:=X0.below hb1;replace X2:=X2.below hb1;replace XO:=XO.below hb1;replace hFp:=hFp.below hb1;clear hb1;obtain⟨q0,q1,q2,q3,q4,_⟩:=X0.five;obtain⟨t0,t1,_⟩:=XO.two
      go_wp2_with fail
      refine hK.out _ _ ?_ (fun hH=>?_)
      . (try dsimp only)
        exact⟨t0,t1,q0,q1,q2,q3,q4⟩
      clear hK K q0 q1 q2 q3 q4 t0 t1
      try simp only[Act.put,pZ]
      have hsp:=zk3 S a ca b cb o na nc (nmd t) xa xc t.dx ya yc t.dy y3 (HC.out.below hB) (HP.out.below hB) hN ht.dx ht.dy (by have:=HOL.out;omega) (by have:=HOL.out;omega) (by have:=HOL.out;omega)
      rw[HSS.out.1,HSS.out.2.1,HSS.out.2.2]at hsp
      refine hCall (i:=7) rfl (by kernel_rfl) (by rfl) (fun K hK=>?_)
      go_simp
      refine hsp.mono ?_
      rintro e y4 ⟨u1,v1,u2,v2,rfl,hD1,hD2,hb1⟩
      have hwb:=hwc
      replace hx:=hx.below hb1;replace hy:=hy.below hb1
      replace hwc:=Nat.le_trans hwc hb1.size
      replace hB:=hB.trans (hb1.mono hB.size)
      replace X0:=X0.below hb1;replace X2:=X2.below hb1;replace XO:=XO.below hb1;replace hFp:=hFp.below hb1;clear hb1 hsp;obtain⟨q0,q1,q2,q3,q4,_⟩:=X0.five;obtain⟨t0,t1,_⟩:=XO.two
      go_wp2_with fail
      refine hK.out _ _ ?_ (fun hH=>?_)
      . (try dsimp only)
        exact⟨t0,t1,q0,q1,q2,q3,q4⟩
      clear hK K q0 q1 q2 q3 q4 t0 t1
      try simp only[Act.put,pZ]
      refine hT 8 hH ?_;refine hT 9 hH ?_;refine hT 10 hH ?_;refine hT 11 hH ?_;refine hT 12 hH ?_;refine hT 13 hH ?_;refine hT 14 hH ?_
      refine wpAnyH_done (by kernel_rfl) ?_ _
      clear hH
      have hXl:X.length=cntO o:=HTX.out.1
      have hYl:Y.length=cntO o:=HTY.out.1
      have HNX2:Hid (TmI Pn.x Pa.dx Tu.dx o l cs (k+1) (adK X (spQ Pn.x o (nmd t) t.dx) q (spQ Pn.x o (nmd t) t.dx).length)):=HNX.out
      have HNY2:Hid (TmI Pn.y Pa.dy Tu.dy o l cs (k+1) (adK Y (spQ Pn.y o (nmd t) t.dy) q (spQ Pn.y o (nmd t) t.dy).length)):=HNY.out
      have hx9:∀i,i<X.length->(X.getD i []).length<=1000:=fun i hi=>by have:=(HTX.out.2 i (by omega)).2.1;omega
      have hy9:∀i,i<Y.length->(Y.getD i []).length<=1000:=fun i hi=>by have:=(HTY.out.2 i (by omega)).2.1;omega
      have hcn:=HCN.out
      have hea:=zm3 BX vx X u1 v1 _ q z1 x1 x2 x3 x4 x5 x6 y4 hx hD1.1 (fun b' o' e hb'=>by have:=hD1.2 b' o' e;have:=(h4 b' hb').2;omega) hFp (by rw[HS4.out];exact hXl.symm) (by omega) hx9 (fun k hk=>by have:=(h4 k hk).2;omega)
      generalize spQ Pn.x o (nmd t) t.dx=DX at *
      generalize spQ Pn.y o (nmd t) t.dy=DY at *
      clear HSS HS4
      have HD2B:Hid (∀b' o',u2=some ⟨b',o',none⟩->y3.heap.size<=b'):=hD2.2
      obtain⟨r0,r1,r2,_⟩:=X2.three
      have HX9:Hid (X.length=cntO o/\Y.length=cntO o/\DY.length=cntO o/\∀i,i<Y.length->(Y.getD i []).length<=1000):=⟨hXl,hYl,HS5.out,hy9⟩
      clear HNX HNY hx9 hy9 hXl hYl
      go_wp2_with fail
      refine hea.mono ?_
      rintro e y5 ⟨rfl,hx',k1⟩
      have hX2b:¬BX y1.heap.size:=fun h=>by have:=(h4 _ h).2;omega
      replace X2:=X2.kn k1 hX2b
      replace hFp:=hFp.kn k1
      replace hD2:=hD2.1.kn k1 (fun b' o' e hb'=>by have:=hD2.2 b' o' e;have:=(h4 b' hb').2;omega)
      have hD2b:∀b' o',u2=some ⟨b',o',none⟩->¬BY b':=fun b' o' e hb'=>by have:=HD2B.out b' o' e;have:=(h5 b' hb').2;omega
      replace hy:=hy.kn k1 (fun k hk hk2=>h3 k hk2 hk)
      have hs45:=k1.size
      have heb:=zm3 BY vy Y u2 v2 _ q z1 x1 x2 x3 x4 x5 x6 y5 hy hD2 hD2b hFp (by rw[HX9.out.2.2.1];exact HX9.out.2.1.symm) (by have:=HX9.out.2.1;omega) HX9.out.2.2.2 (fun k hk=>by have:=(h5 k hk).2;omega)
      clear r0 r1 r2 hea hD1;obtain⟨r0,r1,r2,_⟩:=X2.three
      go_wp2_with fail
      refine heb.mono ?_
      rintro e y6 ⟨rfl,hy',k2⟩
      have HR2:Hid (R22 m1.heap.size y6 vx vy 20 (adK X DX q DX.length) (adK Y DY q DY.length)):=R22.two h3 h4 h5 hwc hx' k1 hy' k2 (by omega)
      have HB2:Hid (Below m1.heap.size m1 y6):=(hB.trans (k1.below (by omega) (fun k hk=>(h4 k hk).1))).trans (k2.below (by omega) (fun k hk=>(h5 k hk).1))
      clear heb hx' hy' hx hy hB k1 k2 hD2 r0 r1 r2 HX9;go_wp2
      go_roundw
      case rel=>exact⟨k+1,_,_,by omega,by go_num,HNX2.out,HNY2.out,HR2.out,HB2.out⟩
      case measure=>simp[intOf];omega
  . obtain rfl:k=l.length:=by omega
    have g9:¬(l.length:Int)<(l.length:Int):=by omega
    obtain⟨BX,BY,hx,hy,h3,h4,h5⟩:=hR
    have hcn:=HCN.out
    have hs1:=zjy BX vx X wr hx (by rw[HTX.out.1];omega) (fun i hi=>by have:=HTX.out.2 i (by rw[<-HTX.out.1];exact hi);omega)
    have hs2:=fun U (hb:Below wr.heap.size wr U)=>zjy BY vy Y U (hy.below hb) (by rw[HTY.out.1];omega) (fun i hi=>by have:=HTY.out.2 i (by rw[<-HTY.out.1];exact hi);omega)
    rw[HTX.out.end,HEX.out]at hs1;rw[HTY.out.end,HEY.out]at hs2
    have zau:=HBW.out.trans (hB.mono HBW.out.size)
    clear hx hy h3 h4 h5
    go_wp2_with fail
    refine hs1.mono ?_
    rintro e y1 ⟨e1,f1,rfl,hZ1,hb1⟩
    replace zau:=zau.trans (hb1.mono zau.size)
    have hwl:=HBW.out.size
    have hBs:=hB.size
    go_wp2_with fail
    refine(hs2 _ hb1).mono ?_
    rintro e y2 ⟨e2,f2,rfl,hZ2,hb2⟩
    have HZ1:Hid (Rg w.heap.size y2 e1 f1 900 exx):=(hZ1.below hb2).lower (by omega)
    have HZ2:Hid (Rg w.heap.size y2 e2 f2 900 exy):=hZ2.lower (by have:=hb1.size;omega)
    have HFI:Hid (Below w.heap.size w y2):=zau.trans (hb2.mono zau.size)
    clear hZ1 hZ2 zau hb1 hb2 hs1 hs2 hB;rw[<-HEX.out]at HZ1 ⊢;rw[<-HEY.out]at HZ2 ⊢;go_wp2
    exact bodyPost_ret (v:=.tuple #[.slice e1 (exL Pn.x Pa.dx Tu.dx o l cs).length f1,.slice e2 (exL Pn.y Pa.dy Tu.dy o l cs).length f2,.int .i64 0]) (by simp[results,Tryz.results118,go_sem]) rfl ⟨e1,f1,e2,f2,rfl,HZ1.out,HZ2.out,HFI.out⟩
theorem Gr.rwAt{α:Type}{E:El α}{S:Nat->Prop}{w:World}{a:OA}{cap:Nat}{m:List (List α)}(h:Gr E.row S w a cap m)(k:Nat)(hk:k<m.length) :
 ∃b off a' cap',a=some ⟨b,off,none⟩/\b<w.heap.size/\(∀wr,Below w.heap.size w wr->wr.cell? ⟨b,off+k,none⟩=some (.slice a' (m.getD k []).length cap'))/\Gr E S w a' cap' (m.getD k []):=by
 obtain⟨b,off,a',cap',e,hb,hc,hr,_⟩:=h.rw (Below.refl _ _) k hk
 exact⟨b,off,a',cap',e,hb,fun wr hB=>(hB.cell (p:=⟨b,off+k,none⟩) hb).trans hc,hr⟩
theorem zpe(S S2:Nat->Prop)(a:OA)(ca:Nat)(b:OA)(cb:Nat)(a':OA)(ca':Nat)(b':OA)(cb':Nat)(o:Ol)(w:World)(hg:Gr PnE.row S w a ca o.cs)(hm:Gr PaE S w b cb o.ps)(hg':Gr PnE.row S2 w a' ca' o.cs)(hm':Gr PaE S2 w b' cb' o.ps) :
 Calls Tryz.prog 40 #[.agg #[.slice a o.cs.length ca,.slice b o.ps.length cb],.agg #[.slice a' o.cs.length ca',.slice b' o.ps.length cb']] w fun e w'=>e=.returned (.bool true)/\Below w.heap.size w w':=by
 have k1:=hg.lenB
 have k2:=hm.lenB
 have g1:((o.cs.length:Int) != (o.cs.length:Int))=false:=by simp
 have g2:((o.ps.length:Int) != (o.ps.length:Int))=false:=by simp
 obtain⟨W,hW,X1,X2,hbW⟩:∃W,W=(w.alloc (.cells #[.slice a o.cs.length ca,.slice b o.ps.length cb] 57)).alloc (.cells #[.slice a' o.cs.length ca',.slice b' o.ps.length cb'] 57) /\
     Bk 57 W w.heap.size [.slice a o.cs.length ca,.slice b o.ps.length cb]/\Bk 57 W (w.heap.size+1) [.slice a' o.cs.length ca',.slice b' o.ps.length cb']/\Below w.heap.size w W:=⟨_,rfl,(Bk.new _ _ _).below (bl1 _),Bk.new1 _ _ _ _,bl2 _ _⟩
 have HA:Hid (Gr PnE.row S W a ca o.cs):=hg.below hbW
 have HB:Hid (Gr PnE.row S2 W a' ca' o.cs):=hg'.below hbW
 have HC:Hid (Gr PaE S W b cb o.ps):=hm.below hbW
 have HD:Hid (Gr PaE S2 W b' cb' o.ps):=hm'.below hbW
 have HX1:Hid (Bk 57 W w.heap.size [.slice a o.cs.length ca,.slice b o.ps.length cb]):=X1
 have HX2:Hid (Bk 57 W (w.heap.size+1) [.slice a' o.cs.length ca',.slice b' o.ps.length cb']):=X2
 have HBW:Hid (Below w.heap.size w W):=hbW
 clear hg hm hg' hm' X1 X2 hbW
 go_enter Tryz.func40,Tryz.ntmps40
 go_wp2;rw[<-hW];clear hW g1 g2
 go_loopw [5] (fun i wr=>∃k:Nat,k<=o.cs.length/\i=.int .i64 k/\Below W.heap.size W wr) (fun i _=>o.cs.length-(intOf i).toNat)
 case atStart=>exact⟨0,Nat.zero_le _,rfl,Below.refl _ _⟩
 case round =>
  obtain⟨k,hk,rfl,hnx⟩:=hrel
  obtain⟨x0,x1,_⟩:=(HX1.out.below hnx).two
  obtain⟨y0,y1,_⟩:=(HX2.out.below hnx).two
  by_cases hkn:k<o.cs.length
  . obtain⟨b1,o1,a1,c1,ea,l1,d1,p1⟩:=HA.out.rwAt k hkn
    obtain⟨b2,o2,a2,c2,eb,l2,d2,p2⟩:=HB.out.rwAt k hkn
    obtain⟨l,hl⟩:∃l,o.cs.getD k []=l:=⟨_,rfl⟩
    rw[hl]at d1 p1 d2 p2
    have e2:=p1.lenB
    have HD1:Hid (∀V,Below W.heap.size W V->V.cell? ⟨b1,o1+k,none⟩=some (.slice a1 l.length c1)/\V.cell? ⟨b2,o2+k,none⟩=some (.slice a2 l.length c2)):=fun V hV=>⟨d1 V hV,d2 V hV⟩
    have HP1:Hid (Gr PnE S W a1 c1 l):=p1
    have HP2:Hid (Gr PnE S2 W a2 c2 l):=p2
    have hll:((l.length:Int) != (l.length:Int))=false:=by simp
    obtain⟨q1,q2⟩:=HD1.out wr hnx
    have i1:(0:Int)<=(k:Int):=by omega
    have i2:(k:Int)<(o.cs.length:Int):=by omega
    subst ea eb;clear hl d1 d2 p1 p2
    go_wp2_with fail
    go_quiet (fail)
    have HNX:Hid (Below W.heap.size W wr):=hnx
    clear q1 q2 hnx x0 x1 y0 y1;go_wp2
    go_loopw [6] (fun i wr2=>∃j:Nat,j<=l.length/\i=.int .i64 j/\Below W.heap.size W wr2) (fun i _=>l.length-(intOf i).toNat)
    case atStart=>exact⟨0,Nat.zero_le _,rfl,below_drewN HNX.out _⟩
    case round =>
     obtain⟨j,hj,rfl,hny⟩:=hrel
     obtain⟨q1,q2⟩:=HD1.out wr hny
     obtain⟨x0,x1,_⟩:=(HX1.out.below hny).two
     obtain⟨y0,y1,_⟩:=(HX2.out.below hny).two
     by_cases hjn:j<l.length
     . obtain⟨b3,o3,ec,_,_,c0,c1',c2'⟩:=HP1.out.pn hny j hjn
       obtain⟨b4,o4,ed,_,_,d0,d1,d2⟩:=HP2.out.pn hny j hjn
       generalize l.getD j Pn.none=t at *
       obtain⟨x,y,z⟩:=t;dsimp only at c0 c1' c2' d0 d1 d2;subst ec ed
       have i3:(0:Int)<=(j:Int):=by omega
       have i4:(j:Int)<(l.length:Int):=by omega
       go_wp2_with fail
       go_quiet (fail)
       go_wp2
       go_roundw
       case rel=>exact⟨j+1,by omega,by go_num,below_drewN hny _⟩
       case measure=>simp[intOf];omega
     . have g1:¬(j:Int)<(l.length:Int):=by omega
       go_wp2
       go_roundw
       case rel=>exact⟨k+1,by omega,by go_num,hny⟩
       case measure=>simp[intOf];omega
  . have g1:¬(k:Int)<(o.cs.length:Int):=by omega
    go_wp2;clear x0 x1 y0 y1 hkn hk g1
    go_loopw [7] (fun i wr=>∃k:Nat,k<=o.ps.length/\i=.int .i64 k/\Below W.heap.size W wr) (fun i _=>o.ps.length-(intOf i).toNat)
    case atStart=>exact⟨0,Nat.zero_le _,rfl,hnx⟩
    case round =>
     clear hnx;obtain⟨k,hk,rfl,hnx⟩:=hrel
     obtain⟨x0,x1,_⟩:=(HX1.out.below hnx).two
     obtain⟨y0,y1,_⟩:=(HX2.out.below hnx).two
     by_cases hkn:k<o.ps.length
     . obtain⟨b3,o3,ec,_,_,c0,c1',c2'⟩:=HC.out.pa hnx k hkn
       obtain⟨b4,o4,ed,_,_,d0,d1,d2⟩:=HD.out.pa hnx k hkn
       generalize o.ps.getD k Pa.none=t at *
       obtain⟨x,y,z⟩:=t;dsimp only at c0 c1' c2' d0 d1 d2;subst ec ed
       have i3:(0:Int)<=(k:Int):=by omega
       have i4:(k:Int)<(o.ps.length:Int):=by omega
       go_wp2_with fail
       go_quiet (fail)
       go_wp2
       go_roundw
       case rel=>exact⟨k+1,by omega,by go_num,below_drewN hnx _⟩
       case measure=>simp[intOf];omega
     . have g1:¬(k:Int)<(o.ps.length:Int):=by omega
       have hbW:=HBW.out.trans (hnx.mono HBW.out.size)
       go_wp2
       go_ret
       exact⟨rfl,hbW⟩
theorem zll{α:Type}(f:Nat->α){n k:Nat}(hk:k<n):((List.range n).map f).take (k+1)=((List.range n).map f).take k++[f k]:=by
 rw[List.take_add_one,List.getElem?_eq_getElem (by simpa using hk)]
 simp
theorem zng{α:Type}(f:Nat->α)(n:Nat):((List.range n).map f).take n=(List.range n).map f:=List.take_of_length_le (by simp)
theorem zdc{α:Type}(f:Nat->α)(n:Nat):((List.range n).map f).length=n:=by simp
theorem zlg(S:Nat->Prop)(a:OA)(ca:Nat)(b:OA)(cb:Nat)(o:Ol)(xa:OA)(xc:Nat)(nx:LI)(ya:OA)(yc:Nat)(ny:LI)(w:World)(hc:Gr PnE.row S w a ca o.cs)(hp:Gr PaE S w b cb o.ps)(hx:Ri w xa xc nx)(hy:Ri w ya yc ny)(hlx:nx.length=cntO o)(hly:ny.length=cntO o)(hl:o.cs.flatten.length<=400)(hl1:o.cs.length<=400)(hl2:o.ps.length<=400) :
 Calls Tryz.prog 120 #[.agg #[.slice a o.cs.length ca,.slice b o.ps.length cb],.slice xa nx.length xc,.slice ya ny.length yc] w fun e w'=>∃a1 c1 a2 c2,e=.returned (.agg #[.slice a1 (reO o nx ny).cs.length c1,.slice a2 (reO o nx ny).ps.length c2])/\∃L:List (Nat×List Pn),Gw PkE 63 (w.heap.size+3) (fun k=>w.heap.size+3<=k) w' (.slice a1 (reO o nx ny).cs.length c1) L/\L.map Prod.snd=(reO o nx ny).cs/\(L.map Prod.fst).Nodup/\Gw PaE 54 (w.heap.size+3) (fun _=>False) w' (.slice a2 (reO o nx ny).ps.length c2) (reO o nx ny).ps/\Below w.heap.size w w':=by
 have HN1:Hid ((reO o nx ny).cs=(List.range o.cs.length).map (reC o.cs nx ny)):=rfl
 have HN2:Hid ((reO o nx ny).ps=(List.range o.ps.length).map (reA o.cs.flatten.length o.ps nx ny)):=rfl
 rw[HN1.out,HN2.out,zdc,zdc]
 obtain⟨W,hW,X1,X6,X7,hbW⟩:∃W,W=((w.alloc (.cells #[.slice a o.cs.length ca,.slice b o.ps.length cb] 57)).alloc (.cells #[.slice none 0 0,.slice none 0 0] 57)).alloc (.cells #[.slice none 0 0,.slice none 0 0] 57)/\Bk 57 W w.heap.size [.slice a o.cs.length ca,.slice b o.ps.length cb]/\Bk 57 W (w.heap.size+1) [.slice none 0 0,.slice none 0 0]/\Bk 57 W (w.heap.size+2) [.slice none 0 0,.slice none 0 0]/\Below w.heap.size w W :=
  ⟨_,rfl,((Bk.new _ _ [.slice a o.cs.length ca,.slice b o.ps.length cb]).below (al1 _)).below (al1 _),(Bk.new1 _ _ _ [.slice none 0 0,.slice none 0 0]).below (al1 _),by
   have h:=Bk.new 57 ((w.alloc (.cells #[.slice a o.cs.length ca,.slice b o.ps.length cb] 57)).alloc (.cells #[.slice none 0 0,.slice none 0 0] 57)) [.slice none 0 0,.slice none 0 0]
   simpa using h,al3 _ _ _⟩
 have hWs:W.heap.size=w.heap.size+3:=by rw[hW];simp
 obtain⟨p0,p1,_⟩:=X1.two
 have kx:=hx.lenB
 have ky:=hy.lenB
 have HC:Hid (Gr PnE.row S w a ca o.cs):=hc
 have HP:Hid (Gr PaE S w b cb o.ps):=hp
 have HX:Hid (Ri w xa xc nx):=hx
 have HY:Hid (Ri w ya yc ny):=hy
 have HBW:Hid (Below w.heap.size w W):=hbW
 have HX1:Hid (Bk 57 W w.heap.size [.slice a o.cs.length ca,.slice b o.ps.length cb]):=X1
 have HX6:Hid (Bk 57 W (w.heap.size+1) [.slice none 0 0,.slice none 0 0]):=X6
 have HX7:Hid (Bk 57 W (w.heap.size+2) [.slice none 0 0,.slice none 0 0]):=X7
 have HLX:Hid (nx.length=o.ps.length+o.cs.flatten.length/\ny.length=o.ps.length+o.cs.flatten.length):=⟨hlx,hly⟩
 have HWS:Hid (W.heap.size=w.heap.size+3):=hWs
 obtain⟨vs,hvs⟩:∃n,W.heap.size=n:=⟨_,rfl⟩
 have HVS:Hid (W.heap.size=vs):=hvs
 have hvs3:w.heap.size+3<=vs:=by omega
 have hvs4:vs<=w.heap.size+3:=by omega
 obtain⟨cs,ps⟩:=o
 dsimp only at *
 have HFC:Hid (ofC cs cs.length=cs.flatten.length):=zlr cs
 have HOL:Hid (∀k,ofC cs k<=cs.flatten.length):=fun k=>znw cs k
 obtain⟨N,hN⟩:∃n,cs.flatten.length=n:=⟨_,rfl⟩
 rw[hN]at HFC HOL HLX hl HN2 ⊢
 obtain⟨g7,hg7⟩:∃g,w.heap.size+1+1=g:=⟨_,rfl⟩
 have hg7a:g7<=w.heap.size+2:=by omega
 have hg7b:w.heap.size+2<=g7:=by omega
 have HX7:Hid (Bk 57 W g7 [.slice none 0 0,.slice none 0 0]):=by show Bk _ _ _ _;rw[<-hg7];exact HX7.out
 clear hc hp hx hy X1 X6 X7 hbW hlx hly hWs hvs hN
 have kc:=HC.out.lenB
 have kp:=HP.out.lenB
 go_enter Tryz.func120,Tryz.ntmps120
 go_upto_region 3 with fail
 rw[<-hW];clear hW hg7;go_wp2;clear p0 p1
 go_loopw [8,19] (fun at_ i wr=>∃(k:Nat) (pv:Value) (L:List (Nat×List Pn)),k<=cs.length/\i=.int .i64 k/\at_=.int .i64 (ofC cs k:Int)/\Bk 57 wr g7 [pv,.slice none 0 0]/\Gw PkE 63 vs (fun b=>vs<=b/\b<wr.heap.size) wr pv L/\Hid (L.map Prod.snd=((List.range cs.length).map (reC cs nx ny)).take k/\(L.map Prod.fst).Nodup)/\Kp g7 W wr) (fun _ i _=>cs.length-(intOf i).toNat)
 case atStart=>exact⟨0,.slice none 0 0,[],Nat.zero_le _,rfl,rfl,HX7.out,Gw.nil _ _ _ _ _,⟨rfl,List.nodup_nil⟩,Kp.refl _ _⟩
 case round =>
  obtain⟨k,pv,L,hk,rfl,rfl,hY,hG,HLL,hKp⟩:=hrel
  have hvl:vs<=wr.heap.size:=by rw[<-HVS.out];exact hKp.size
  have hBw:Below w.heap.size w wr:=HBW.out.trans (hKp.below HBW.out.size (by omega))
  by_cases hkn:k<cs.length
  . obtain⟨b1,o1,a1,c1,ea,hb1,hcd,z1w⟩:=HC.out.rwAt k hkn
    subst ea
    have d0:=hcd wr hBw
    have hst:=zdp hkn
    have hol1:=HOL.out (k+1)
    have HMV:Hid (_):=zll (reC cs nx ny) hkn
    have HRC:Hid (reC cs nx ny k=(List.range (cs.getD k []).length).map (reP cs nx ny k)):=rfl
    have HRP:Hid (∀j,reP cs nx ny k j=⟨nx.getD (ofC cs k+j) 0,ny.getD (ofC cs k+j) 0,((cs.getD k []).getD j Pn.none).on⟩):=fun j=>rfl
    obtain⟨c,hc⟩:∃c,cs.getD k []=c:=⟨_,rfl⟩
    rw[hc]at d0 z1w hst HRC HRP;rw[HRC.out]at HMV
    have hcb:c.length<=400:=by omega
    have HROW:Hid (Gr PnE S w a1 c1 c):=z1w
    obtain⟨ak,hak⟩:∃n,ofC cs k=n:=⟨_,rfl⟩
    rw[hak]at hst HRP ⊢
    have HAK:Hid (ofC cs (k+1)=ak+c.length):=hst
    have hol2:ak+c.length<=N:=by omega
    have hll:L.length+1<=1000000:=by
     have h1:=congrArg List.length HLL.out.1
     rw[List.length_map,List.length_take,zdc]at h1
     omega
    have i1:(0:Int)<=(k:Int):=by omega
    have i2:(k:Int)<(cs.length:Int):=by omega
    have HGW:Hid (Gw PkE 63 vs (fun b=>vs<=b/\b<wr.heap.size) wr pv L):=hG
    have HYY:Hid (Bk 57 wr g7 [pv,.slice none 0 0]):=hY
    have HKO:Hid (Kp g7 W wr):=hKp
    have HBO:Hid (Below w.heap.size w wr):=hBw
    obtain⟨wo,rfl⟩:∃wo,wo=wr:=⟨_,rfl⟩
    obtain⟨i0,hi0,hz0,hz1,hz2⟩:=info_parts zcx
    have hmk:=run_make (P:=Tryz.prog) wo 63 65 i0 (.agg #[.int .i64 0,.int .i64 0,.bool false]) Tryz.underlying63 hi0 hz0 .i64 .i64 0 (c.length:Int) (by omega) (by omega) (by rw[hz2];omega) (by omega)
    rw[hz1]at hmk
    simp only[Int.toNat_zero,Int.toNat_natCast]at hmk
    obtain⟨wm,hwm⟩:∃w1,wo.alloc (.cells (madeCells (Value.agg #[.int .i64 0,.int .i64 0,.bool false]).cells (c.length*3)) 65)=w1:=⟨_,rfl⟩
    have hI0:Gw PnE 65 wo.heap.size (fun _=>False) wm (.slice (some ⟨wo.heap.size,0,none⟩) 0 c.length) (((List.range c.length).map (reP cs nx ny k)).take 0):=by
     refine Gw.made ?_
     rw[<-hwm]
     have:=World.ownsRow_made (base:=wo.heap.size) (e:=65) (size:=3) wo (madeCells (Value.agg #[.int .i64 0,.int .i64 0,.bool false]).cells (c.length*3)) c.length (Nat.le_refl _) (by unfold maxLen;omega) (size_madeCells _ _)
     have h2:(wo.alloc (.cells (madeCells (Value.agg #[.int .i64 0,.int .i64 0,.bool false]).cells (c.length*3)) 65)).ownsRow wo.heap.size 65 3 (.slice (some ⟨wo.heap.size,0,none⟩) 0 c.length) 0 []:=by simpa using this
     exact h2
    have zn9:Below wo.heap.size wo wm:=by rw[<-hwm];exact bl1 _
    rw[hwm]at hmk;clear hwm hi0 hz0 hz1 hz2 hc hak hcd hG hY hKp z1w hst hol1;go_wp2;clear d0 hmk
    go_loopw [8,11,28] (fun at_ v i wr=>∃r:Nat,r<=c.length/\i=.int .i64 r/\at_=.int .i64 ((ak+r:Nat):Int)/\Hid (∃q,v.ownBlock=some q)/\Gw PnE 65 wo.heap.size (fun _=>False) wr v (((List.range c.length).map (reP cs nx ny k)).take r)/\Below wo.heap.size wo wr) (fun _ _ i _=>c.length-(intOf i).toNat)
    case atStart=>exact⟨0,Nat.zero_le _,rfl,rfl,⟨_,rfl⟩,hI0,zn9⟩
    case round =>
     clear hI0 zn9;obtain⟨r,hr,rfl,rfl,HOB,hV,hBo⟩:=hrel;obtain⟨a7,c7,rfl,zpr,hb7⟩:=hV.slice
     have hBu:=HBO.out.trans (hBo.mono HBO.out.size)
     obtain⟨at0,zw9⟩:∃n,ak+r=n:=⟨_,rfl⟩
     by_cases hrn:r<c.length
     . obtain⟨b2,o2,eb,hb2,⟨w0,w1⟩,e0,e1,e2⟩:=HROW.out.pn hBu r hrn
       subst eb
       have HMP:Hid (_):=zll (reP cs nx ny k) hrn
       rw[HRP.out r,zw9]at HMP
       have HAT:Hid (ak+(r+1)=at0+1):=by show _=_;omega
       rw[zw9]
       have hax:at0<nx.length:=by have:=HLX.out.1;omega
       have hay:at0<ny.length:=by have:=HLX.out.2;omega
       obtain⟨bx,ox,ex,hbx0,s0⟩:=HX.out.at hBu at0 hax
       subst ex
       obtain⟨bz,oz,ez,hbz0,s1⟩:=HY.out.at hBu at0 hay
       subst ez
       have hzx:=HX.out.i64 hax
       have hzy:=HY.out.i64 hay
       generalize nx.getD at0 0=zx at *
       generalize ny.getD at0 0=zy at *
       generalize c.getD r Pn.none=q at *
       obtain⟨x,y,on⟩:=q;dsimp only at w0 w1 e0 e1 e2 HMP
       have hl7:(((List.range c.length).map (reP cs nx ny k)).take r).length+[(⟨zx,zy,on⟩:Pn)].length<=1000000:=by rw[List.length_take,zdc];simp;omega
       generalize ((List.range c.length).map (reP cs nx ny k)).take r=K1 at *
       have i3:(0:Int)<=(r:Int):=by omega
       have i4:(r:Int)<(c.length:Int):=by omega
       have i5:(0:Int)<=(at0:Int):=by omega
       have i6:(at0:Int)<(nx.length:Int):=by omega
       have i7:(at0:Int)<(ny.length:Int):=by omega
       obtain⟨V,hV0,X0,hb0⟩:∃V,V=wr.alloc (.cells #[.int .i64 x,.int .i64 y,.bool on] 65)/\Bk 65 V wr.heap.size [.int .i64 x,.int .i64 y,.bool on]/\Below wr.heap.size wr V:=⟨_,rfl,Bk.new _ _ _,bl1 _⟩
       obtain⟨q0,q1,s2,_⟩:=X0.three
       have hwow:=HBO.out.size
       have hbos:=hBo.size
       replace s0:=(hb0.cell (p:=⟨bx,ox+at0,none⟩) (show bx<wr.heap.size by omega)).trans s0
       replace s1:=(hb0.cell (p:=⟨bz,oz+at0,none⟩) (show bz<wr.heap.size by omega)).trans s1
       have z2b:=hV
       have hVV:=hV.below hb0
       have hBZ:Below wo.heap.size wo V:=hBo.trans (hb0.mono hBo.size)
       clear zw9 hV zpr hb7 w0 w1 hax hay
       go_upto_region 10 with fail
       rw[<-hV0];clear hV0 e0 e1 e2 q0 q1
       refine wp_region_held_drew (S:=fun w9=>w9.cell? ⟨bx,ox+at0,none⟩=some (.int .i64 zx)/\w9.cell? ⟨bz,oz+at0,none⟩=some (.int .i64 zy)/\w9.cell? ⟨wr.heap.size,2,none⟩=some (.bool on)) (by kernel_rfl) ?_ (fun hH=>?_)
       . (try dsimp only)
         go_keep
       have hsz0:=X0.lt
       have hdr:Below V.heap.size V V.drew:=Below.drew1
       generalize V.drew=Z at hdr hH ⊢
       have hszz:=hdr.size
       have hsz:wr.heap.size<Z.heap.size:=by omega
       have hbx:bx<Z.heap.size:=by omega
       have hbz:bz<Z.heap.size:=by omega
       replace s0:=(hdr.cell (p:=⟨bx,ox+at0,none⟩) (show bx<V.heap.size by omega)).trans s0
       replace s1:=(hdr.cell (p:=⟨bz,oz+at0,none⟩) (show bz<V.heap.size by omega)).trans s1
       replace s2:=(hdr.cell (p:=⟨wr.heap.size,2,none⟩) hsz0).trans s2
       replace hVV:=hVV.below hdr
       replace hBZ:=hBZ.trans (hdr.mono hBZ.size)
       clear hdr X0 hb0;refine hT 0 hH ?_;refine hT 1 hH ?_;refine hT 2 hH ?_;refine hT 3 hH ?_;refine hT 4 hH ?_;refine hT 5 hH ?_;refine hT 6 hH ?_;refine hT 7 hH ?_;refine hT 8 hH ?_;refine hT 9 hH ?_;refine hT 10 hH ?_;refine hT 11 hH ?_
       refine hCall (i:=12) rfl (by kernel_rfl) (by rfl) (fun K hK=>?_)
       go_simp
       obtain⟨V1,hV1,A1,hb1⟩:∃U,U=Z.alloc (.cells #[.int .i64 zx,.int .i64 zy,.bool on] 65)/\Bk 65 U Z.heap.size [.int .i64 zx,.int .i64 zy,.bool on]/\Below Z.heap.size Z U:=⟨_,rfl,Bk.new _ _ _,bl1 _⟩
       rw[<-hV1];clear hV1
       replace s0:=(hb1.cell (p:=⟨bx,ox+at0,none⟩) hbx).trans s0
       replace s1:=(hb1.cell (p:=⟨bz,oz+at0,none⟩) hbz).trans s1
       replace s2:=(hb1.cell (p:=⟨wr.heap.size,2,none⟩) hsz).trans s2
       have hVb:=hVV.below hb1
       have zba:Gr PnE (fun k=>False/\(Value.slice a7 K1.length c7).ownBlock≠some k) V1 (some ⟨Z.heap.size,0,none⟩) 1 [⟨zx,zy,on⟩]:=Gr.one (E:=PnE) (vs:=pnC ⟨zx,zy,on⟩) (zaz.2 ⟨rfl,hzx,hzy⟩) A1.lt (fun j hj=>A1.cell j hj)
       have hBb:=hBZ.trans (hb1.mono hBZ.size)
       have hbs:=hBb.size
       refine hK.out _ _ ?_ (fun hH=>?_)
       . (try dsimp only)
         exact⟨s0,s1,s2⟩
       clear hK K
       try simp only[Act.put,pZ]
       refine hCall (i:=13) rfl (by kernel_rfl) (by rfl) (fun K hK=>?_)
       refine zbh 63 65 Tryz.underlying63 zcx rfl (by decide) (by decide) _ _ rfl wo.heap.size (fun _=>False) (.slice a7 K1.length c7) K1 rfl hVb ⟨Z.heap.size,0,none⟩ 1 1 [⟨zx,zy,on⟩] rfl rfl zba hl7 hbs ?_
       intro v9 w9 hT9 hgrow how
       have hOB:∃q,v9.ownBlock=some q:=by
        rcases how with how|how
        . obtain⟨q,hq⟩:=HOB.out
          exact⟨q,how.trans hq⟩
        . exact⟨_,how⟩
       have HOB9:Hid (∃q,v9.ownBlock=some q):=hOB
       clear how hOB
       have hB9:Below wo.heap.size wo w9:=hBb.grown hgrow hbs (fun k hk=>(hVb.lo hk).1)
       have hne:∀q,q<wo.heap.size\/q=wr.heap.size->some q≠(Value.slice a7 K1.length c7).ownBlock:=fun q hq e=>by
        have h1:=(z2b.lo e.symm)
        rcases hq with hq|hq <;> omega
       replace s0:=hgrow.cell s0 (hne bx (.inl (by omega)))
       replace s1:=hgrow.cell s1 (hne bz (.inl (by omega)))
       replace s2:=hgrow.cell s2 (hne wr.heap.size (.inr rfl))
       refine hK.out _ _ ?_ (fun hH=>?_)
       . (try dsimp only)
         exact⟨s0,s1,s2⟩
       clear hK K
       try simp only[Act.put,pZ]
       refine hT 14 hH ?_
       refine wpAnyH_done (by kernel_rfl) ?_ _
       rw[<-HMP.out]at hT9;clear hH hgrow hVb zba hbs hl7 HMP hBb s0 s1 s2 A1 hb1 hne z2b hVV;go_wp2
       go_roundw
       case rel=>exact⟨r+1,by omega,by go_num,by rw[HAT.out];go_num,HOB9,hT9,hB9⟩
       case measure=>simp[intOf];omega
     . obtain rfl:r=c.length:=by omega
       rw[zng]at hV zpr
       have g1:¬(c.length:Int)<(c.length:Int):=by omega
       have hk1:(((List.range c.length).map (reP cs nx ny k)).take c.length).length=((List.range c.length).map (reP cs nx ny k)).length:=by rw[zng]
       rw[hk1]
       have hcb2:((List.range c.length).map (reP cs nx ny k)).length<=140737488351232:=by rw[zdc];omega
       clear hk1
       generalize (List.range c.length).map (reP cs nx ny k)=K1 at *
       obtain⟨q7,hq7⟩:=HOB.out
       replace hq7:(Value.slice a7 K1.length c7).ownBlock=some q7:=by cases a7 <;> exact hq7
       obtain⟨c8,e8⟩:=hV.form hq7
       injection e8 with e8 _ e9;subst e8 e9
       have hq0:=(hV.lo hq7).1
       have hYr:=HYY.out.below hBo
       obtain⟨z0,z1,_⟩:=hYr.two
       have bp:=bl1 (w:=wr) (.cells #[.slice (some ⟨q7,0,none⟩) K1.length c7] 63)
       have hG1:=(HGW.out.below hBo).below bp
       have hG2:Gw PkE 63 vs (fun b=>vs<=b/\b<(wr.alloc (.cells #[.slice (some ⟨q7,0,none⟩) K1.length c7] 63)).heap.size) (wr.alloc (.cells #[.slice (some ⟨q7,0,none⟩) K1.length c7] 63)) pv L:=hG1.widenU (fun k h1 h2=>⟨h1.1,h2⟩)
       have hVb:=hV.below bp
       have hgrb:=zpr.below bp
       have zju:PkE.rep (fun k=>(vs<=k/\k<(wr.alloc (.cells #[.slice (some ⟨q7,0,none⟩) K1.length c7] 63)).heap.size)/\pv.ownBlock≠some k) (wr.alloc (.cells #[.slice (some ⟨q7,0,none⟩) K1.length c7] 63)) [.slice (some ⟨q7,0,none⟩) K1.length c7] (q7,K1):=by
        refine zzq hVb ?_ hcb2
        have hq1:=(hVb.lo rfl).2
        exact⟨⟨by omega,hq1⟩,fun e2=>hG2.ne hVb (by decide) e2 rfl⟩
       have HSD:Hid (((L++[(q7,K1)]).map Prod.snd=((List.range cs.length).map (reC cs nx ny)).take (k+1))/\((L++[(q7,K1)]).map Prod.fst).Nodup):=by
        refine⟨by rw[List.map_append,HLL.out.1,HMV.out];rfl,zhq HLL.out.2 (fun y hy=>?_)⟩
        have:=(HGW.out.ids y hy).2
        show y.1≠q7
        omega
       have hN:=Bk.new 63 wr [.slice (some ⟨q7,0,none⟩) K1.length c7]
       have zba:=Gr.one (E:=PkE) zju hN.lt (fun jj hjj=>by
        obtain rfl:jj=0:=by have h1:jj<1:=hjj;omega
        exact hN.cell 0 (by simp))
       have hKb:Kp g7 W (wr.alloc (.cells #[.slice (some ⟨q7,0,none⟩) K1.length c7] 63)):=(HKO.out.trans (Kp.of hBo)).trans (Kp.of bp)
       have hbs:vs<=(wr.alloc (.cells #[.slice (some ⟨q7,0,none⟩) K1.length c7] 63)).heap.size:=Nat.le_trans hvl (Nat.le_trans hBo.size bp.size)
       have hYb:=hYr.below bp
       have hpg:pv.ownBlock≠some g7:=fun e=>by have:=(HGW.out.lo e).1;omega
       obtain⟨apv,cpv,epv,_,_⟩:=hG2.slice;subst epv;clear hV zpr hb7 hG1 hVb hgrb zju hN bp hYr hBo hBu zw9
       go_wp2_with (at_builtin;refine zad 37 63 Tryz.underlying37 zdr rfl Nat.one_pos (by decide) rfl _ _ rfl vs _ _ L rfl hG2 (some ⟨wr.heap.size,0,none⟩) 1 1 [(q7,K1)] rfl rfl zba hll hbs ?_)
       intro v9 w9 hT9 hgrow hown
       have hK9:Kp g7 W w9:=hKb.grown hgrow (fun k hk=>by rw[HVS.out];exact(hG2.lo hk).1)
       have hY9:=hYb.grown hgrow hpg
       have hT9:=hT9.widenU (S':=fun b=>vs<=b/\b<w9.heap.size) (fun k h1 h2=>⟨h1.1,h2⟩)
       have hv9:v9.ownBlock≠some g7:=fun e=>by have:=(hT9.lo e).1;omega
       obtain⟨M2,hM2⟩:∃M2,L++[(q7,K1)]=M2:=⟨_,rfl⟩
       rw[hM2]at hT9 HSD;clear hM2;obtain⟨y0,y1,f0,f1⟩:=hY9.two
       have zy7:=hY9.set 0 v9
       have zza:Gw PkE 63 vs (fun b=>vs<=b/\b<(w9.setCell ⟨g7,0,none⟩ v9).heap.size) (w9.setCell ⟨g7,0,none⟩ v9) v9 M2:=by
        refine hT9.stay (by simp[World.setCell]) (fun kk h1 _ h3=>⟨⟨h1.1,by simp[World.setCell];exact h3⟩,Below.heap_setCell _ _ _ _ (fun e=>by have h4:kk=g7:=e;have h5:vs<=kk:=h1.1;omega)⟩) (fun k hk=>Below.heap_setCell _ _ _ _ (fun e=>hv9 (by rw[hk];exact congrArg some e)))
       have zl3:Kp g7 W (w9.setCell ⟨g7,0,none⟩ v9):=hK9.setCell 0 _
       obtain⟨a9,c9,e9,_,_⟩:=hT9.slice
       have zuu:Hid (_):=zy7
       have HT10:Hid (_):=zza
       have HK10:Hid (_):=zl3
       clear hgrow hown hG2 zba hbs hll hKb hYb hpg hY9 hv9 hT9 hK9 zy7 zza zl3 HMV z0 z1;subst e9;go_wp2
       go_roundw
       case rel=>exact⟨k+1,_,M2,by omega,by go_num,by rw[HAK.out];exact congrArg (Value.int .i64) (by omega),zuu.out,HT10.out,HSD,HK10.out⟩
       case measure=>simp[intOf];omega
  . obtain rfl:k=cs.length:=by omega
    have g1:¬(cs.length:Int)<(cs.length:Int):=by omega
    rw[HFC.out];obtain⟨a5,c5,rfl,-,hb5⟩:=hG.slice
    have HLC:Hid (L.map Prod.snd=(List.range cs.length).map (reC cs nx ny)/\(L.map Prod.fst).Nodup):=⟨by rw[HLL.out.1,zng],HLL.out.2⟩
    clear HLL
    obtain⟨w1,rfl⟩:∃x,x=wr:=⟨_,rfl⟩
    have HB5:Hid (∀b o,a5=some ⟨b,o,none⟩->vs<=b/\b<w1.heap.size):=hb5
    have HK1:Hid (Kp g7 W w1):=hKp
    have HB1:Hid (Below w.heap.size w w1):=hBw
    have hX1:=HX1.out.kp hKp (by omega)
    have HX61:Hid (Bk 57 w1 (w.heap.size+1) [.slice none 0 0,.slice none 0 0]):=HX6.out.kp hKp (by omega)
    obtain⟨nc5,hnc5⟩:∃n,L.length=n:=⟨_,rfl⟩
    have HNC5:Hid (L.length=nc5):=hnc5
    rw[hnc5]at hY hG
    have HG5:Hid (Gw PkE 63 vs (fun b=>vs<=b/\b<w1.heap.size) w1 (.slice a5 nc5 c5) L):=hG
    have HYY:Hid (Bk 57 w1 g7 [.slice a5 nc5 c5,.slice none 0 0]):=hY
    obtain⟨p0,p1,_⟩:=hX1.two;clear hG hb5 hY hKp hX1 hnc5;go_wp2;clear p0 p1
    go_loopw [8,59] (fun at_ i wr=>∃(r:Nat) (pv:Value),r<=ps.length/\i=.int .i64 r/\at_=.int .i64 ((N+r:Nat):Int)/\Bk 57 wr g7 [.slice a5 nc5 c5,pv]/\Gw PaE 54 w1.heap.size (fun _=>False) wr pv (((List.range ps.length).map (reA N ps nx ny)).take r)/\Kp g7 w1 wr) (fun _ i _=>ps.length-(intOf i).toNat)
    case atStart=>exact⟨0,.slice none 0 0,Nat.zero_le _,rfl,rfl,HYY.out,Gw.nil _ _ _ _ _,Kp.refl _ _⟩
    case round =>
     obtain⟨r,pv,hr,rfl,rfl,hYc,hV,hKr⟩:=hrel;obtain⟨a7,c7,rfl,zpr,hb7⟩:=hV.slice
     have hws:=hKr.size
     have hBu:Below w.heap.size w wr:=HB1.out.trans (hKr.below HB1.out.size (by omega))
     obtain⟨at0,zw9⟩:∃n,N+r=n:=⟨_,rfl⟩
     by_cases hrn:r<ps.length
     . obtain⟨b2,o2,eb,hb2,hpw,e0,e1,e2⟩:=HP.out.pa hBu r hrn
       subst eb
       have HMP:Hid (_):=zll (reA N ps nx ny) hrn
       have HRA:Hid (reA N ps nx ny r=⟨(ps.getD r Pa.none).g,nx.getD (N+r) 0,ny.getD (N+r) 0⟩):=rfl
       rw[HRA.out,zw9]at HMP
       have HAT:Hid (N+(r+1)=at0+1):=by show _=_;omega
       rw[zw9]
       have hax:at0<nx.length:=by have:=HLX.out.1;omega
       have hay:at0<ny.length:=by have:=HLX.out.2;omega
       obtain⟨bx,ox,ex,hbx0,s1⟩:=HX.out.at hBu at0 hax
       subst ex
       obtain⟨bz,oz,ez,hbz0,s2⟩:=HY.out.at hBu at0 hay
       subst ez
       have hzx:=HX.out.i64 hax
       have hzy:=HY.out.i64 hay
       generalize nx.getD at0 0=zx at *
       generalize ny.getD at0 0=zy at *
       generalize ps.getD r Pa.none=q at *
       obtain⟨gl,x,y⟩:=q;obtain⟨hgi,hxi,hyi⟩:=hpw;dsimp only at e0 e1 e2 HMP hgi hxi hyi
       have hl7:(((List.range ps.length).map (reA N ps nx ny)).take r).length+[(⟨gl,zx,zy⟩:Pa)].length<=1000000:=by rw[List.length_take,zdc];simp;omega
       generalize ((List.range ps.length).map (reA N ps nx ny)).take r=K1 at *
       have i3:(0:Int)<=(r:Int):=by omega
       have i4:(r:Int)<(ps.length:Int):=by omega
       have i5:(0:Int)<=(at0:Int):=by omega
       have i6:(at0:Int)<(nx.length:Int):=by omega
       have i7:(at0:Int)<(ny.length:Int):=by omega
       obtain⟨V,hV0,X0,hb0⟩:∃V,V=wr.alloc (.cells #[.int .i64 gl,.int .i64 x,.int .i64 y] 54)/\Bk 54 V wr.heap.size [.int .i64 gl,.int .i64 x,.int .i64 y]/\Below wr.heap.size wr V:=⟨_,rfl,Bk.new _ _ _,bl1 _⟩
       obtain⟨s0,q1,q2,_⟩:=X0.three
       have hwow:=HB1.out.size
       have hkw:=HK1.out.size
       replace s1:=(hb0.cell (p:=⟨bx,ox+at0,none⟩) (show bx<wr.heap.size by omega)).trans s1
       replace s2:=(hb0.cell (p:=⟨bz,oz+at0,none⟩) (show bz<wr.heap.size by omega)).trans s2
       have z2b:=hV
       have hVV:=hV.below hb0
       have hKZ:Kp g7 w1 V:=hKr.trans (Kp.of hb0)
       replace hYc:=hYc.below hb0;clear zw9 hV zpr hb7 hax hay hxi hyi
       go_upto_region 18 with fail
       rw[<-hV0];clear hV0 e0 e1 e2 q1 q2
       refine wp_region_held_drew (S:=fun w9=>w9.cell? ⟨wr.heap.size,0,none⟩=some (.int .i64 gl)/\w9.cell? ⟨bx,ox+at0,none⟩=some (.int .i64 zx)/\w9.cell? ⟨bz,oz+at0,none⟩=some (.int .i64 zy)) (by kernel_rfl) ?_ (fun hH=>?_)
       . (try dsimp only)
         go_keep
       have hsz0:=X0.lt
       have hdr:Below V.heap.size V V.drew:=Below.drew1
       generalize V.drew=Z at hdr hH ⊢
       have hszz:=hdr.size
       have hsz:wr.heap.size<Z.heap.size:=by omega
       have hbx:bx<Z.heap.size:=by omega
       have hbz:bz<Z.heap.size:=by omega
       replace s0:=(hdr.cell (p:=⟨wr.heap.size,0,none⟩) hsz0).trans s0
       replace s1:=(hdr.cell (p:=⟨bx,ox+at0,none⟩) (show bx<V.heap.size by omega)).trans s1
       replace s2:=(hdr.cell (p:=⟨bz,oz+at0,none⟩) (show bz<V.heap.size by omega)).trans s2
       replace hVV:=hVV.below hdr;replace hYc:=hYc.below hdr
       replace hKZ:=hKZ.trans (Kp.of hdr)
       clear hdr X0 hb0;refine hT 0 hH ?_;refine hT 2 hH ?_;refine hT 3 hH ?_;refine hT 4 hH ?_;refine hT 5 hH ?_;refine hT 6 hH ?_;refine hT 7 hH ?_;refine hT 8 hH ?_;refine hT 9 hH ?_;refine hT 10 hH ?_;refine hT 11 hH ?_;refine hT 12 hH ?_
       refine wpAnyH_ready (rs:=[1,13]) (by kernel_rfl) (by simp) (hCons (i:=1) rfl (by rfl) (fun K hK=>?_) (hCons (i:=13) rfl (by rfl) (fun K hK=>?_) AllReadyH.nil))
       . obtain⟨y0,y1,f0,f1⟩:=hYc.two
         go_simp
         refine hK.out _ _ ?_ (fun hH=>?_)
         . (try dsimp only)
           exact⟨s0,s1,s2⟩
         clear hK K
         try simp only[Act.put,pZ]
         clear y0 y1 f0 f1
         refine hCall (i:=13) rfl (by kernel_rfl) (by rfl) (fun K hK=>?_)
         go_simp
         obtain⟨V1,hV1,A1,hb1⟩:∃U,U=Z.alloc (.cells #[.int .i64 gl,.int .i64 zx,.int .i64 zy] 54)/\Bk 54 U Z.heap.size [.int .i64 gl,.int .i64 zx,.int .i64 zy]/\Below Z.heap.size Z U:=⟨_,rfl,Bk.new _ _ _,bl1 _⟩
         rw[<-hV1];clear hV1
         replace s0:=(hb1.cell (p:=⟨wr.heap.size,0,none⟩) hsz).trans s0
         replace s1:=(hb1.cell (p:=⟨bx,ox+at0,none⟩) hbx).trans s1
         replace s2:=(hb1.cell (p:=⟨bz,oz+at0,none⟩) hbz).trans s2
         replace hYc:=hYc.below hb1
         refine hK.out _ _ ?_ (fun hH=>?_)
         . (try dsimp only)
           exact⟨s0,s1,s2⟩
         clear hK K
         try simp only[Act.put,pZ]
         have hVb:=hVV.below hb1
         have zba:Gr PaE (fun k=>False/\(Value.slice a7 K1.length c7).ownBlock≠some k) V1 (some ⟨Z.heap.size,0,none⟩) 1 [⟨gl,zx,zy⟩]:=Gr.one (E:=PaE) (vs:=paC ⟨gl,zx,zy⟩) (zcf.2 ⟨rfl,hgi,hzx,hzy⟩) A1.lt (fun j hj=>A1.cell j hj)
         have hKb:Kp g7 w1 V1:=hKZ.trans (Kp.of hb1)
         have hbs:=hKb.size
         refine hCall (i:=14) rfl (by kernel_rfl) (by rfl) (fun K hK=>?_)
         refine zbh 55 54 Tryz.underlying55 zly rfl (by decide) (by decide) _ _ rfl w1.heap.size (fun _=>False) (.slice a7 K1.length c7) K1 rfl hVb ⟨Z.heap.size,0,none⟩ 1 1 [⟨gl,zx,zy⟩] rfl rfl zba hl7 hbs ?_
         intro v9 w9 hT9 hgrow _
         have hne:∀q,q<w1.heap.size\/q=wr.heap.size->some q≠(Value.slice a7 K1.length c7).ownBlock:=fun q hq e=>by
          have h1:=(z2b.lo e.symm)
          rcases hq with hq|hq <;> omega
         replace s0:=hgrow.cell s0 (hne wr.heap.size (.inr rfl))
         replace s1:=hgrow.cell s1 (hne bx (.inl (by omega)))
         replace s2:=hgrow.cell s2 (hne bz (.inl (by omega)))
         have hK9:Kp g7 w1 w9:=hKb.grown hgrow (fun k hk=>(hVb.lo hk).1)
         have hY9:=hYc.grown hgrow (fun e=>hne g7 (.inl (by omega)) e.symm)
         obtain⟨a9,c9,e9,-,-⟩:=hT9.slice
         obtain⟨nl,hnl⟩:∃n,(K1++[(⟨gl,zx,zy⟩:Pa)]).length=n:=⟨_,rfl⟩
         have HNL:Hid ((K1++[(⟨gl,zx,zy⟩:Pa)]).length=nl):=hnl
         rw[hnl]at e9;clear hnl;subst e9
         refine hK.out _ _ ?_ (fun hH=>?_)
         . (try dsimp only)
           exact⟨s0,s1,s2⟩
         clear hK K
         try simp only[Act.put,pZ]
         refine hT 15 hH ?_
         refine hCall (i:=16) rfl (by kernel_rfl) (by rfl) (fun K hK=>?_)
         obtain⟨y0,y1,f0,f1⟩:=hY9.two;go_simp
         have zy7:=hY9.set 1 (.slice a9 nl c9)
         have z4v:w9.heap.size=(w9.setCell ⟨g7,1,none⟩ (.slice a9 nl c9)).heap.size:=by simp[World.setCell]
         have zza:Gw PaE 54 w1.heap.size (fun _=>False) (w9.setCell ⟨g7,1,none⟩ (.slice a9 nl c9)) (.slice a9 nl c9) (K1++[⟨gl,zx,zy⟩]):=hT9.stay (by rw[<-z4v];exact Nat.le_refl _) (fun k h=>h.elim) (fun k hk=>Below.heap_setCell _ _ _ _ (fun e=>by have h2:=(hT9.lo hk).1;have h3:k=g7:=e;omega))
         have zl3:Kp g7 w1 (w9.setCell ⟨g7,1,none⟩ (.slice a9 nl c9)):=hK9.setCell 1 _
         replace s0:=(World.cell?_of_block (w:=w9) (a:=⟨wr.heap.size,0,none⟩) (Below.heap_setCell w9 ⟨g7,1,none⟩ (.slice a9 nl c9) wr.heap.size (by show wr.heap.size≠g7;omega))).trans s0
         replace s1:=(World.cell?_of_block (w:=w9) (a:=⟨bx,ox+at0,none⟩) (Below.heap_setCell w9 ⟨g7,1,none⟩ (.slice a9 nl c9) bx (by show bx≠g7;omega))).trans s1
         replace s2:=(World.cell?_of_block (w:=w9) (a:=⟨bz,oz+at0,none⟩) (Below.heap_setCell w9 ⟨g7,1,none⟩ (.slice a9 nl c9) bz (by show bz≠g7;omega))).trans s2
         clear y0 y1 f0 f1 hT9 hK9 hY9 z4v
         generalize w9.setCell ⟨g7,1,none⟩ (.slice a9 nl c9)=w10 at *
         refine hK.out _ _ ?_ (fun hH=>?_)
         . (try dsimp only)
           exact⟨s0,s1,s2⟩
         clear hK K
         try simp only[Act.put,pZ]
         refine wpAnyH_done (by kernel_rfl) ?_ _
         rw[<-HMP.out]at zza
         have zuu:Hid (Bk 57 w10 g7 [.slice a5 nc5 c5,.slice a9 nl c9]):=zy7
         clear hH hgrow hVb zba hbs hl7 HMP hKb s0 s1 s2 A1 hb1 hne z2b hVV zy7 hYc;go_wp2
         go_roundw
         case rel=>exact⟨r+1,_,by omega,by go_num,by rw[HAT.out];go_num,zuu.out,zza,zl3⟩
         case measure=>simp[intOf];omega
       . go_simp
         obtain⟨V1,hV1,A1,hb1⟩:∃U,U=Z.alloc (.cells #[.int .i64 gl,.int .i64 zx,.int .i64 zy] 54)/\Bk 54 U Z.heap.size [.int .i64 gl,.int .i64 zx,.int .i64 zy]/\Below Z.heap.size Z U:=⟨_,rfl,Bk.new _ _ _,bl1 _⟩
         rw[<-hV1];clear hV1
         replace s0:=(hb1.cell (p:=⟨wr.heap.size,0,none⟩) hsz).trans s0
         replace s1:=(hb1.cell (p:=⟨bx,ox+at0,none⟩) hbx).trans s1
         replace s2:=(hb1.cell (p:=⟨bz,oz+at0,none⟩) hbz).trans s2
         replace hYc:=hYc.below hb1
         refine hK.out _ _ ?_ (fun hH=>?_)
         . (try dsimp only)
           exact⟨s0,s1,s2⟩
         clear hK K
         try simp only[Act.put,pZ]
         refine hCall (i:=1) rfl (by kernel_rfl) (by rfl) (fun K hK=>?_)
         obtain⟨y0,y1,f0,f1⟩:=hYc.two;go_simp
         refine hK.out _ _ ?_ (fun hH=>?_)
         . (try dsimp only)
           exact⟨s0,s1,s2⟩
         clear hK K
         try simp only[Act.put,pZ]
         clear y0 y1 f0 f1
         have hVb:=hVV.below hb1
         have zba:Gr PaE (fun k=>False/\(Value.slice a7 K1.length c7).ownBlock≠some k) V1 (some ⟨Z.heap.size,0,none⟩) 1 [⟨gl,zx,zy⟩]:=Gr.one (E:=PaE) (vs:=paC ⟨gl,zx,zy⟩) (zcf.2 ⟨rfl,hgi,hzx,hzy⟩) A1.lt (fun j hj=>A1.cell j hj)
         have hKb:Kp g7 w1 V1:=hKZ.trans (Kp.of hb1)
         have hbs:=hKb.size
         refine hCall (i:=14) rfl (by kernel_rfl) (by rfl) (fun K hK=>?_)
         refine zbh 55 54 Tryz.underlying55 zly rfl (by decide) (by decide) _ _ rfl w1.heap.size (fun _=>False) (.slice a7 K1.length c7) K1 rfl hVb ⟨Z.heap.size,0,none⟩ 1 1 [⟨gl,zx,zy⟩] rfl rfl zba hl7 hbs ?_
         intro v9 w9 hT9 hgrow _
         have hne:∀q,q<w1.heap.size\/q=wr.heap.size->some q≠(Value.slice a7 K1.length c7).ownBlock:=fun q hq e=>by
          have h1:=(z2b.lo e.symm)
          rcases hq with hq|hq <;> omega
         replace s0:=hgrow.cell s0 (hne wr.heap.size (.inr rfl))
         replace s1:=hgrow.cell s1 (hne bx (.inl (by omega)))
         replace s2:=hgrow.cell s2 (hne bz (.inl (by omega)))
         have hK9:Kp g7 w1 w9:=hKb.grown hgrow (fun k hk=>(hVb.lo hk).1)
         have hY9:=hYc.grown hgrow (fun e=>hne g7 (.inl (by omega)) e.symm)
         obtain⟨a9,c9,e9,-,-⟩:=hT9.slice
         obtain⟨nl,hnl⟩:∃n,(K1++[(⟨gl,zx,zy⟩:Pa)]).length=n:=⟨_,rfl⟩
         have HNL:Hid ((K1++[(⟨gl,zx,zy⟩:Pa)]).length=nl):=hnl
         rw[hnl]at e9;clear hnl;subst e9
         refine hK.out _ _ ?_ (fun hH=>?_)
         . (try dsimp only)
           exact⟨s0,s1,s2⟩
         clear hK K
         try simp only[Act.put,pZ]
         refine hT 15 hH ?_
         refine hCall (i:=16) rfl (by kernel_rfl) (by rfl) (fun K hK=>?_)
         obtain⟨y0,y1,f0,f1⟩:=hY9.two;go_simp
         have zy7:=hY9.set 1 (.slice a9 nl c9)
         have z4v:w9.heap.size=(w9.setCell ⟨g7,1,none⟩ (.slice a9 nl c9)).heap.size:=by simp[World.setCell]
         have zza:Gw PaE 54 w1.heap.size (fun _=>False) (w9.setCell ⟨g7,1,none⟩ (.slice a9 nl c9)) (.slice a9 nl c9) (K1++[⟨gl,zx,zy⟩]):=hT9.stay (by rw[<-z4v];exact Nat.le_refl _) (fun k h=>h.elim) (fun k hk=>Below.heap_setCell _ _ _ _ (fun e=>by have h2:=(hT9.lo hk).1;have h3:k=g7:=e;omega))
         have zl3:Kp g7 w1 (w9.setCell ⟨g7,1,none⟩ (.slice a9 nl c9)):=hK9.setCell 1 _
         replace s0:=(World.cell?_of_block (w:=w9) (a:=⟨wr.heap.size,0,none⟩) (Below.heap_setCell w9 ⟨g7,1,none⟩ (.slice a9 nl c9) wr.heap.size (by show wr.heap.size≠g7;omega))).trans s0
         replace s1:=(World.cell?_of_block (w:=w9) (a:=⟨bx,ox+at0,none⟩) (Below.heap_setCell w9 ⟨g7,1,none⟩ (.slice a9 nl c9) bx (by show bx≠g7;omega))).trans s1
         replace s2:=(World.cell?_of_block (w:=w9) (a:=⟨bz,oz+at0,none⟩) (Below.heap_setCell w9 ⟨g7,1,none⟩ (.slice a9 nl c9) bz (by show bz≠g7;omega))).trans s2
         clear y0 y1 f0 f1 hT9 hK9 hY9 z4v
         generalize w9.setCell ⟨g7,1,none⟩ (.slice a9 nl c9)=w10 at *
         refine hK.out _ _ ?_ (fun hH=>?_)
         . (try dsimp only)
           exact⟨s0,s1,s2⟩
         clear hK K
         try simp only[Act.put,pZ]
         refine wpAnyH_done (by kernel_rfl) ?_ _
         rw[<-HMP.out]at zza
         have zuu:Hid (Bk 57 w10 g7 [.slice a5 nc5 c5,.slice a9 nl c9]):=zy7
         clear hH hgrow hVb zba hbs hl7 HMP hKb s0 s1 s2 A1 hb1 hne z2b hVV zy7 hYc;go_wp2
         go_roundw
         case rel=>exact⟨r+1,_,by omega,by go_num,by rw[HAT.out];go_num,zuu.out,zza,zl3⟩
         case measure=>simp[intOf];omega
     . obtain rfl:r=ps.length:=by omega
       have g2:¬(ps.length:Int)<(ps.length:Int):=by omega
       rw[zng]at hV hYc
       obtain⟨np,hnp⟩:∃n,((List.range ps.length).map (reA N ps nx ny)).length=n:=⟨_,rfl⟩
       have HNP:Hid (((List.range ps.length).map (reA N ps nx ny)).length=np):=hnp
       rw[hnp]at hYc hV;obtain⟨y0,y1,_⟩:=hYc.two
       have hX6:=HX61.out.kp hKr (by omega)
       have hsl:=hX6.lt
       obtain⟨z0,z1,f0,f1⟩:=hX6.two
       have A:=hX6.set2U (.slice a5 nc5 c5) (.slice a7 np c7)
       have hkw:=HK1.out.size
       have hgc:Gw PkE 63 (w.heap.size+3) (fun k=>w.heap.size+3<=k) ((wr.setCell ⟨w.heap.size+1,0,none⟩ (.slice a5 nc5 c5)).setCell ⟨w.heap.size+1,1,none⟩ (.slice a7 np c7)) (.slice a5 nc5 c5) L:=(HG5.out.stay (by rw[zbi];exact hws) (fun k hk _ hl=>⟨by have:=hk.1;omega,(zac _ _ (by have:=hk.1;omega)).trans (hKr.block hl (by have:=hk.1;omega))⟩) (fun k hk=>(zac _ _ (by have:=(HG5.out.lo hk).1;omega)).trans (hKr.block (HG5.out.lo hk).2 (by have:=(HG5.out.lo hk).1;omega)))).low (by omega)
       have hgp:Gw PaE 54 (w.heap.size+3) (fun _=>False) ((wr.setCell ⟨w.heap.size+1,0,none⟩ (.slice a5 nc5 c5)).setCell ⟨w.heap.size+1,1,none⟩ (.slice a7 np c7)) (.slice a7 np c7) ((List.range ps.length).map (reA N ps nx ny)):=(hV.stay (by rw[zbi];exact Nat.le_refl _) (fun k hk=>hk.elim) (fun k hk=>zac _ _ (by have:=(hV.lo hk).1;omega))).low (by omega)
       have hbU:Below w.heap.size w ((wr.setCell ⟨w.heap.size+1,0,none⟩ (.slice a5 nc5 c5)).setCell ⟨w.heap.size+1,1,none⟩ (.slice a7 np c7)):=(hBu.setCell (p:=⟨w.heap.size+1,0,none⟩) (by show _<=w.heap.size+1;omega) _).setCell (p:=⟨w.heap.size+1,1,none⟩) (by show _<=w.heap.size+1;omega) _
       have HGC:Hid (_):=hgc
       have HGP:Hid (∀z:Nat,z=np->Gw PaE 54 (w.heap.size+3) (fun _=>False) ((wr.setCell ⟨w.heap.size+1,0,none⟩ (.slice a5 nc5 c5)).setCell ⟨w.heap.size+1,1,none⟩ (.slice a7 np c7)) (.slice a7 z c7) ((List.range ps.length).map (reA N ps nx ny))):=fun z e=>by rw[e];exact hgp
       have HBU:Hid (_):=hbU
       have HCE:Hid (nc5=cs.length):=by
        show _=_
        have h1:=congrArg List.length HLC.out.1
        rw[List.length_map,zdc]at h1;rw[<-HNC5.out,h1]
       have HPE:Hid (np=ps.length):=by show _=_;rw[<-HNP.out,zdc]
       clear hgc hgp hbU hV zpr hb7 hnp zw9;go_wp2
       refine bodyPost_ret (v:=.agg #[.slice a5 nc5 c5,.slice a7 np c7]) (by obtain⟨r0,r1,_⟩:=A.two;simp[results,Tryz.results120,go_sem,r0,r1]) rfl ⟨a5,c5,a7,c7,by rw[HCE.out,HPE.out],L,by rw[<-HCE.out];exact HGC.out,HLC.out.1,HLC.out.2,HGP.out ps.length HPE.out.symm,HBU.out⟩
