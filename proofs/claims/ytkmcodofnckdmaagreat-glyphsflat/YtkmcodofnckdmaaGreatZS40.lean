import Derived.Test.YtkmcodofnckdmaaGreatZS39
set_option maxHeartbeats 16000000
set_option maxRecDepth 100000
set_option linter.unusedSimpArgs false
set_option linter.unusedVariables false
namespace Go.Proofs.YtkmcodofnckdmaaGreat
open Go.RowKit Go.Maps
theorem zn8(S:Nat->Prop)(a:Option Addr)(ca:Nat)(b:Option Addr)(cb:Nat)(o:Ol)(S2:Nat->Prop)(la:Option Addr)(lc:Nat)(l:List Tu)(ga:Option Addr)(gc:Nat)(cz:List Int)(w:World)(hc:Gr PnE.row S w a ca o.cs)(hp:Gr PaE S w b cb o.ps)(hl:Gr TuE S2 w la lc l)(hg:Ri w ga gc cz)(hfl:o.cs.flatten.length<=100000)(hpl:o.ps.length<=100000) :
 Calls Tryz.prog 39 #[.agg #[.slice a o.cs.length ca,.slice b o.ps.length cb],.slice la l.length lc,.slice ga cz.length gc] w fun e w'=>∃a1 c1 a2 c2,e=.returned (.tuple #[.agg #[.slice a1 (atO o l cz).cs.length c1,.slice a2 (atO o l cz).ps.length c2],.int .i64 (atE o l cz)])/\Gw PnE.row 63 w.heap.size (fun k=>w.heap.size<=k) w' (.slice a1 (atO o l cz).cs.length c1) (atO o l cz).cs/\Gw PaE 54 w.heap.size (fun _=>False) w' (.slice a2 (atO o l cz).ps.length c2) (atO o l cz).ps/\((∀b o,a1=some ⟨b,o,none⟩->w.heap.size<=b)/\∀b o,a2=some ⟨b,o,none⟩->w.heap.size<=b)/\Below w.heap.size w w':=by
 obtain⟨W,hW,X1,X6,hbW⟩:∃W,W=(w.alloc (.cells #[.slice a o.cs.length ca,.slice b o.ps.length cb] 57)).alloc (.cells #[.slice none 0 0,.slice none 0 0] 57)/\Bk 57 W w.heap.size [.slice a o.cs.length ca,.slice b o.ps.length cb]/\Bk 57 W (w.heap.size+1) [.slice none 0 0,.slice none 0 0]/\Below w.heap.size w W :=
  ⟨_,rfl,(Bk.new _ _ [.slice a o.cs.length ca,.slice b o.ps.length cb]).below (al1 _),Bk.new1 _ _ _ [.slice none 0 0,.slice none 0 0],bl2 _ _⟩
 replace hc:=hc.below hbW;replace hp:=hp.below hbW;replace hl:=hl.below hbW;replace hg:=hg.below hbW;obtain⟨p0,p1,_⟩:=X1.two
 have hex:=zjj S a ca b cb o S2 la lc l ga gc cz W hc hp hl hg hfl hpl
 have HNO:Hid (∀(E:Int) (U:World),atO o l cz=Ol.none/\atE o l cz=E->Bk 57 U (w.heap.size+1) [.slice none 0 0,.slice none 0 0]->Below w.heap.size w U->∃a1 c1 a2 c2,(Ending.returned (.tuple #[.agg #[.slice none 0 0,.slice none 0 0],.int .i64 E]))=.returned (.tuple #[.agg #[.slice a1 (atO o l cz).cs.length c1,.slice a2 (atO o l cz).ps.length c2],.int .i64 (atE o l cz)])/\Gw PnE.row 63 w.heap.size (fun k=>w.heap.size<=k) ((U.setCell ⟨w.heap.size+1,0,none⟩ (.slice none 0 0)).setCell ⟨w.heap.size+1,1,none⟩ (.slice none 0 0)) (.slice a1 (atO o l cz).cs.length c1) (atO o l cz).cs/\Gw PaE 54 w.heap.size (fun _=>False) ((U.setCell ⟨w.heap.size+1,0,none⟩ (.slice none 0 0)).setCell ⟨w.heap.size+1,1,none⟩ (.slice none 0 0)) (.slice a2 (atO o l cz).ps.length c2) (atO o l cz).ps/\((∀b o,a1=some ⟨b,o,none⟩->w.heap.size<=b)/\∀b o,a2=some ⟨b,o,none⟩->w.heap.size<=b)/\Below w.heap.size w ((U.setCell ⟨w.heap.size+1,0,none⟩ (.slice none 0 0)).setCell ⟨w.heap.size+1,1,none⟩ (.slice none 0 0))):=by
  intro E U h hX hb
  rw[h.1,h.2]
  exact⟨none,0,none,0,rfl,Gw.nil _ _ _ _ _,Gw.nil _ _ _ _ _,⟨(fun b o e=>by cases e),(fun b o e=>by cases e)⟩,(hb.setCell (p:=⟨w.heap.size+1,0,none⟩) (by show _<=w.heap.size+1;omega) _).setCell (p:=⟨w.heap.size+1,1,none⟩) (by show _<=w.heap.size+1;omega) _⟩
 have HGO:Hid (atO o l cz=reO o ((exL Pn.x Pa.dx Tu.dx o l cz).map rnN) ((exL Pn.y Pa.dy Tu.dy o l cz).map rnN)/\atE o l cz=0->∀(U:World) a1 c1 a2 c2,Gw PnE.row 63 w.heap.size (fun k=>w.heap.size<=k) U (.slice a1 (reO o ((exL Pn.x Pa.dx Tu.dx o l cz).map rnN) ((exL Pn.y Pa.dy Tu.dy o l cz).map rnN)).cs.length c1) (reO o ((exL Pn.x Pa.dx Tu.dx o l cz).map rnN) ((exL Pn.y Pa.dy Tu.dy o l cz).map rnN)).cs->Gw PaE 54 w.heap.size (fun _=>False) U (.slice a2 (reO o ((exL Pn.x Pa.dx Tu.dx o l cz).map rnN) ((exL Pn.y Pa.dy Tu.dy o l cz).map rnN)).ps.length c2) (reO o ((exL Pn.x Pa.dx Tu.dx o l cz).map rnN) ((exL Pn.y Pa.dy Tu.dy o l cz).map rnN)).ps->(((∀b o,a1=some ⟨b,o,none⟩->w.heap.size<=b)/\∀b o,a2=some ⟨b,o,none⟩->w.heap.size<=b))->Below w.heap.size w U->∃a1' c1' a2' c2',(Ending.returned (.tuple #[.agg #[.slice a1 (reO o ((exL Pn.x Pa.dx Tu.dx o l cz).map rnN) ((exL Pn.y Pa.dy Tu.dy o l cz).map rnN)).cs.length c1,.slice a2 (reO o ((exL Pn.x Pa.dx Tu.dx o l cz).map rnN) ((exL Pn.y Pa.dy Tu.dy o l cz).map rnN)).ps.length c2],.int .i64 0]))=.returned (.tuple #[.agg #[.slice a1' (atO o l cz).cs.length c1',.slice a2' (atO o l cz).ps.length c2'],.int .i64 (atE o l cz)])/\Gw PnE.row 63 w.heap.size (fun k=>w.heap.size<=k) U (.slice a1' (atO o l cz).cs.length c1') (atO o l cz).cs/\Gw PaE 54 w.heap.size (fun _=>False) U (.slice a2' (atO o l cz).ps.length c2') (atO o l cz).ps/\((∀b o,a1'=some ⟨b,o,none⟩->w.heap.size<=b)/\∀b o,a2'=some ⟨b,o,none⟩->w.heap.size<=b)/\Below w.heap.size w U):=by
  intro h U a1 c1 a2 c2 k1 k2 kl k3
  rw[h.1,h.2]
  exact⟨a1,c1,a2,c2,rfl,k1,k2,kl,k3⟩
 have HFO:=fun(h:foT o l (cz.length:Int)=true)=>zcv.1 h
 cases hfo:foT o l (cz.length:Int) with
 | false =>
  rw[zfl hfo,zfl hfo,znf hfo]at hex
  have HF:Hid (_):=at_1 hfo
  clear hfo HFO HGO
  go_enter Tryz.func39,Tryz.ntmps39
  go_upto_region 1 with fail
  rw[<-hW];clear hW
  go_wp2_with fail
  refine hex.mono ?_
  rintro e m1 ⟨a1,c1,a2,c2,rfl,hz1,hz2,hb1⟩;replace X6:=X6.below hb1
  replace hbW:=hbW.trans (hb1.mono hbW.size)
  have zay:=HNO.out 1 m1 HF.out X6 hbW
  have A:=X6.set2U (.slice none 0 0) (.slice none 0 0)
  obtain⟨z0,z1,f0,f1⟩:=X6.two
  have hlt:=X6.lt
  clear hb1 hex hz1 hz2 HNO HF;go_wp2
  exact bodyPost_ret (v:=.tuple #[.agg #[.slice none 0 0,.slice none 0 0],.int .i64 1]) (by obtain⟨r0,r1,_⟩:=A.two;simp[results,Tryz.results39,go_sem,r0,r1]) rfl zay
 | true =>
 rw[zdi hfo,zdi hfo,ziv hfo]at hex
 obtain⟨hF1,hF2,hF3,hF4⟩:=HFO hfo
 have hFO:=zb5.1 hF1
 have HOL:Hid (o.cs.flatten.length<=80/\o.ps.length<=6/\o.cs.length<=10):=⟨hFO.2.2.2.2.1,hFO.2.2.1,hFO.2.1⟩
 have hcn:=zgy hF1
 have HPN:Hid (0<o.ps.length->o.cs.flatten.length=0):=fun h=>by
  rcases hFO.1 with h1|h1
  . rw[List.length_eq_zero_iff.1 h1];rfl
  . omega
 have HLX:Hid ((exL Pn.x Pa.dx Tu.dx o l cz).length=cntO o):=zb1 _ _ _ _ _ _
 have HLY:Hid ((exL Pn.y Pa.dy Tu.dy o l cz).length=cntO o):=zb1 _ _ _ _ _ _
 have HA2:Hid (rnB (exL Pn.x Pa.dx Tu.dx o l cz)=false->_):=at_2 hfo
 have HA3:Hid (rnB (exL Pn.x Pa.dx Tu.dx o l cz)=true->rnB (exL Pn.y Pa.dy Tu.dy o l cz)=false->_):=at_3 hfo
 have HA4:Hid (rnB (exL Pn.x Pa.dx Tu.dx o l cz)=true->rnB (exL Pn.y Pa.dy Tu.dy o l cz)=true->_):=at_4 hfo
 clear HFO hFO hF1 hF2 hF3 hF4 hfo
 generalize exL Pn.x Pa.dx Tu.dx o l cz=EX at *
 generalize exL Pn.y Pa.dy Tu.dy o l cz=EY at *
 go_enter Tryz.func39,Tryz.ntmps39
 go_upto_region 1 with fail
 rw[<-hW];clear hW
 go_wp2_with fail
 refine hex.mono ?_
 rintro e m1 ⟨a1,c1,a2,c2,rfl,hz1,hz2,hb1⟩;replace X6:=X6.below hb1;replace X1:=X1.below hb1;replace hc:=hc.below hb1;replace hp:=hp.below hb1
 replace hbW:=hbW.trans (hb1.mono hbW.size)
 clear hb1 hex p0 p1 hl hg
 obtain⟨n,hn⟩:∃n,cntO o=n:=⟨_,rfl⟩
 have HNN:Hid (cntO o=n):=hn
 rw[hn]at HLX HLY hcn;rw[HLX.out,HLY.out]
 have HZ1:Hid (Rz m1 a1 c1 900 EX):=hz1.1.1
 have HZ2:Hid (Rz m1 a2 c2 900 EY):=hz2.1.1
 have HC:Hid (Gr PnE.row S m1 a ca o.cs):=hc
 have HP:Hid (Gr PaE S m1 b cb o.ps):=hp
 have HX1:Hid (Bk 57 m1 w.heap.size [.slice a o.cs.length ca,.slice b o.ps.length cb]):=X1
 have HX6:Hid (Bk 57 m1 (w.heap.size+1) [.slice none 0 0,.slice none 0 0]):=X6
 have HBW:Hid (Below w.heap.size w m1):=hbW
 have HA5:Hid (rnB EY=false->atO o l cz=Ol.none/\atE o l cz=4):=fun h=>by
  cases hx:rnB EX with
  | false=>exact HA2.out hx
  | true=>exact HA3.out hx h
 clear hc hp X1 X6 hbW hz1 hz2 hn HA3;go_wp2
 go_loopw [11,12,13] (fun vx vy i wr=>∃k:Nat,k<=n/\i=.int .i64 k/\Fam El.int 3 m1.heap.size wr [vx,vy] [(EX.take k).map rnN,(EY.take k).map rnN]/\(∀j,j<k->fldE (EX.getD j 0+1/2).floor=0/\fldE (EY.getD j 0+1/2).floor=0)/\Below m1.heap.size m1 wr) (fun _ _ i _=>n-(intOf i).toNat)
 case atStart=>exact⟨0,Nat.zero_le _,rfl,Fam.two _ _ _ _,(fun j hj=>absurd hj (Nat.not_lt_zero j)),Below.refl _ _⟩
 case round =>
  obtain⟨k,hk,rfl,fam,hok,hB⟩:=hrel
  have HOK:Hid (∀j,j<k->fldE (EX.getD j 0+1/2).floor=0/\fldE (EY.getD j 0+1/2).floor=0):=hok
  clear hok
  by_cases hkn:k<n
  . obtain⟨b1,o1,x0,x1,x2,ea,hb1,C0,C1,C2,hFx⟩:=HZ1.out.at (Below.refl _ _) k (by rw[HLX.out];exact hkn)
    subst ea;obtain⟨xz,xa,xb,xc,xd,xe,xf,e9⟩:=hFx.cells3'
    simp only[Value.agg.injEq,Array.mk.injEq,List.cons.injEq,and_true]at e9
    obtain⟨rfl,rfl,rfl⟩:=e9
    obtain⟨b2,o2,x0,x1,x2,eb,hb2,D0,D1,D2,hFy⟩:=HZ2.out.at (Below.refl _ _) k (by rw[HLY.out];exact hkn)
    subst eb;obtain⟨yz,ya,yb,yc,yd,ye,yf,e9⟩:=hFy.cells3'
    simp only[Value.agg.injEq,Array.mk.injEq,List.cons.injEq,and_true]at e9
    obtain⟨rfl,rfl,rfl⟩:=e9
    have c0:=(hB.cell (p:=⟨b1,o1+k*3,none⟩) hb1).trans C0
    have c1:=(hB.cell (p:=⟨b1,o1+k*3+1,none⟩) hb1).trans C1
    have c2:=(hB.cell (p:=⟨b1,o1+k*3+2,none⟩) hb1).trans C2
    have i1:(0:Int)<=(k:Int):=by omega
    have i2:(k:Int)<(n:Int):=by omega
    have hf1:=ze5 900 (EX.getD k 0) _ _ (hFx.below hB).ct (by decide) (by decide)
    obtain⟨ex,hex⟩:∃z,fldE (EX.getD k 0+1/2).floor=z:=⟨_,rfl⟩
    obtain⟨zx,hzx⟩:∃z,fldN (EX.getD k 0+1/2).floor=z:=⟨_,rfl⟩
    obtain⟨ey,hey⟩:∃z,fldE (EY.getD k 0+1/2).floor=z:=⟨_,rfl⟩
    obtain⟨zy,hzy⟩:∃z,fldN (EY.getD k 0+1/2).floor=z:=⟨_,rfl⟩
    have HEE:Hid ((fldE (EX.getD k 0+1/2).floor=ex/\fldN (EX.getD k 0+1/2).floor=zx)/\fldE (EY.getD k 0+1/2).floor=ey/\fldN (EY.getD k 0+1/2).floor=zy):=⟨⟨hex,hzx⟩,hey,hzy⟩
    rw[hex,hzx]at hf1;clear hex hzx hey hzy C0 C1 C2
    go_wp2_with fail
    refine hf1.mono ?_
    rintro e q1 ⟨rfl,hbc⟩
    replace hB:=hB.trans (hbc.mono hB.size)
    replace fam:=fam.below hbc;clear hbc c0 c1 c2 hf1 hFx
    have c0:=(hB.cell (p:=⟨b2,o2+k*3,none⟩) hb2).trans D0
    have c1:=(hB.cell (p:=⟨b2,o2+k*3+1,none⟩) hb2).trans D1
    have c2:=(hB.cell (p:=⟨b2,o2+k*3+2,none⟩) hb2).trans D2
    have hf1:=ze5 900 (EY.getD k 0) _ _ (hFy.below hB).ct (by decide) (by decide)
    rw[HEE.out.2.1,HEE.out.2.2]at hf1
    go_wp2_with fail
    refine hf1.mono ?_
    rintro e q2 ⟨rfl,hbc⟩
    replace hB:=hB.trans (hbc.mono hB.size)
    replace fam:=fam.below hbc;clear hbc c0 c1 c2 hf1 hFy D0 D1 D2
    have hx4:ex=0\/ex=4:=by rw[<-HEE.out.1.1];exact ziq _
    have hy4:ey=0\/ey=4:=by rw[<-HEE.out.2.1];exact ziq _
    rcases hx4 with hx4|hx4
    rotate_left
    . have HF:Hid (atO o l cz=Ol.none/\atE o l cz=4):=HA2.out (zpx (by rw[HLX.out];exact hkn) (by rw[HEE.out.1.1,hx4];decide))
      rw[hx4]
      have hX6:=HX6.out.below hB
      have zay:=HNO.out 4 _ HF.out hX6 (HBW.out.trans (hB.mono HBW.out.size))
      have A:=hX6.set2U (.slice none 0 0) (.slice none 0 0)
      obtain⟨z0,z1,f0,f1⟩:=hX6.two
      have hlt:=hX6.lt
      clear hB fam HF;go_wp2
      exact bodyPost_ret (v:=.tuple #[.agg #[.slice none 0 0,.slice none 0 0],.int .i64 4]) (by obtain⟨r0,r1,_⟩:=A.two;simp[results,Tryz.results39,go_sem,r0,r1]) rfl zay
    rcases hy4 with hy4|hy4
    rotate_left
    . have HF:Hid (atO o l cz=Ol.none/\atE o l cz=4):=HA5.out (zpx (by rw[HLY.out];exact hkn) (by rw[HEE.out.2.1,hy4];decide))
      rw[hx4,hy4]
      have hX6:=HX6.out.below hB
      have zay:=HNO.out 4 _ HF.out hX6 (HBW.out.trans (hB.mono HBW.out.size))
      have A:=hX6.set2U (.slice none 0 0) (.slice none 0 0)
      obtain⟨z0,z1,f0,f1⟩:=hX6.two
      have hlt:=hX6.lt
      clear hB fam HF;go_wp2
      exact bodyPost_ret (v:=.tuple #[.agg #[.slice none 0 0,.slice none 0 0],.int .i64 4]) (by obtain⟨r0,r1,_⟩:=A.two;simp[results,Tryz.results39,go_sem,r0,r1]) rfl zay
    rw[hx4,hy4]
    have hz1:I64 zx:=by have:=zh5 (EX.getD k 0);unfold rnN at this;rw[HEE.out.1.2]at this;unfold I64;omega
    have hz2:I64 zy:=by have:=zh5 (EY.getD k 0);unfold rnN at this;rw[HEE.out.2.2]at this;unfold I64;omega
    have HSX:Hid ((EX.take (k+1)).map rnN=(EX.take k).map rnN++[zx]):=by show _=_;rw[zcx (d:=(0:Rat)) (by rw[HLX.out];exact hkn),show rnN (EX.getD k 0)=zx from HEE.out.1.2]
    have HSY:Hid ((EY.take (k+1)).map rnN=(EY.take k).map rnN++[zy]):=by show _=_;rw[zcx (d:=(0:Rat)) (by rw[HLY.out];exact hkn),show rnN (EY.getD k 0)=zy from HEE.out.2.2]
    have zj4:((EX.take k).map rnN).length+1<=1000000:=by rw[List.length_map,List.length_take];omega
    have zhn:((EY.take k).map rnN).length+1<=1000000:=by rw[List.length_map,List.length_take];omega
    have zdl:Hid (∀j,j<k+1->fldE (EX.getD j 0+1/2).floor=0/\fldE (EY.getD j 0+1/2).floor=0):=fun j hj=>by
     by_cases e:j=k
     . subst e;exact⟨HEE.out.1.1.trans hx4,HEE.out.2.1.trans hy4⟩
     . exact HOK.out j (by omega)
    clear hx4 hy4 HEE
    generalize (EX.take k).map rnN=PX at *
    generalize (EY.take k).map rnN=PY at *
    obtain⟨V1,hV1,c1,zg7,zue⟩:∃V,V=q2.alloc (.cells #[.int .i64 zx] 3)/\V.cell? ⟨q2.heap.size,0,none⟩=some (.int .i64 zx)/\Below q2.heap.size q2 V/\q2.heap.size<V.heap.size:=⟨_,rfl,cell_of_row _ _ 0 _ _ (0,0) (heap_alloc_new _ _),bl1 _,by simp⟩
    have famv1:=fam.below zg7
    have hown1:Gw El.int 3 m1.heap.size (fun _=>False) V1 u11 PX:=famv1.row 0 (by simp)
    have zgn:m1.heap.size<=V1.heap.size:=Nat.le_trans hB.size zg7.size
    have zui:Below m1.heap.size m1 V1:=hB.trans (zg7.mono hB.size)
    go_wp2_with (at_builtin;rw[<-hV1];refine zao rfl _ _ rfl m1.heap.size u11 PX rfl hown1 q2.heap.size zx rfl zue c1 hz1 zj4 zgn ?_)
    intro v1 y1 hT1 hg1 ho1
    rw[<-hV1]at hg1
    rw[show q2.heap.size+1=V1.heap.size by rw[hV1];simp]at ho1
    replace hB:Below m1.heap.size m1 y1:=zui.grown hg1 zgn (fun g hg=>(hown1.lo hg).1)
    replace fam:Fam El.int 3 m1.heap.size y1 [v1,u12] [(PX++[zx]),PY]:=famv1.grow 0 (by simp) hT1 hg1 ho1
    clear hV1 c1 zue famv1 zgn zui hT1 zj4
    obtain⟨V2,hV2,c2,zqt,zud⟩:∃V,V=y1.alloc (.cells #[.int .i64 zy] 3)/\V.cell? ⟨y1.heap.size,0,none⟩=some (.int .i64 zy)/\Below y1.heap.size y1 V/\y1.heap.size<V.heap.size:=⟨_,rfl,cell_of_row _ _ 0 _ _ (0,0) (heap_alloc_new _ _),bl1 _,by simp⟩
    have famv2:=fam.below zqt
    have hown2:Gw El.int 3 m1.heap.size (fun _=>False) V2 u12 PY:=famv2.row 1 (by simp)
    have zgm:m1.heap.size<=V2.heap.size:=Nat.le_trans hB.size zqt.size
    have zsa:Below m1.heap.size m1 V2:=hB.trans (zqt.mono hB.size)
    go_wp2_with (at_builtin;rw[<-hV2];refine zao rfl _ _ rfl m1.heap.size u12 PY rfl hown2 y1.heap.size zy rfl zud c2 hz2 zhn zgm ?_)
    intro v2 y2 hT2 hg2 ho2
    rw[<-hV2]at hg2
    rw[show y1.heap.size+1=V2.heap.size by rw[hV2];simp]at ho2
    replace hB:Below m1.heap.size m1 y2:=zsa.grown hg2 zgm (fun g hg=>(hown2.lo hg).1)
    replace fam:Fam El.int 3 m1.heap.size y2 [v1,v2] [(PX++[zx]),(PY++[zy])]:=famv2.grow 1 (by simp) hT2 hg2 ho2
    clear hV2 c2 zud famv2 zgm zsa hT2 zhn
    have HFM:Hid (Fam El.int 3 m1.heap.size y2 [v1,v2] [(EX.take (k+1)).map rnN,(EY.take (k+1)).map rnN]):=by
     rw[HSX.out,HSY.out]
     exact fam
    have HB2:Hid (Below m1.heap.size m1 y2):=hB
    clear fam hB HSX HSY;go_wp2
    go_roundw
    case rel=>exact⟨k+1,by omega,by go_num,HFM.out,zdl.out,HB2.out⟩
    case measure=>simp[intOf];omega
  . obtain rfl:k=n:=by omega
    have g4:¬(k:Int)<(k:Int):=by omega
    have hbx:rnB EX=true:=zk1 (fun j hj=>(HOK.out j (by rw[HLX.out]at hj;exact hj)).1)
    have hby:rnB EY=true:=zk1 (fun j hj=>(HOK.out j (by rw[HLY.out]at hj;exact hj)).2)
    have HG4:Hid (_):=HGO.out (HA4.out hbx hby)
    rw[List.take_of_length_le (by rw[HLX.out];exact Nat.le_refl _),List.take_of_length_le (by rw[HLY.out];exact Nat.le_refl _)]at fam
    have HL2:Hid ((EX.map rnN).length=k/\(EY.map rnN).length=k):=by rw[List.length_map,List.length_map];exact⟨HLX.out,HLY.out⟩
    clear hbx hby HA2 HA4 HA5 HNO HGO HOK HZ1 HZ2 HLX HLY
    generalize EX.map rnN=nx at *
    generalize EY.map rnN=ny at *
    have hx0:Gi m1.heap.size wr u11 nx:=fam.row 0 (by simp)
    have hy0:Gi m1.heap.size wr u12 ny:=fam.row 1 (by simp)
    obtain⟨xa,xc,rfl,hx,-⟩:=hx0.slice;obtain⟨ya,yc,rfl,hy,-⟩:=hy0.slice;clear hx0 hy0 fam
    obtain⟨m2,rfl⟩:∃m,m=wr:=⟨_,rfl⟩
    have HX:Hid (Ri m2 xa xc nx):=hx
    have HY:Hid (Ri m2 ya yc ny):=hy
    have HBM:Hid (Below w.heap.size w m2):=HBW.out.trans (hB.mono HBW.out.size)
    have HC2:Hid (Gr PnE.row S m2 a ca o.cs):=HC.out.below hB
    have HP2:Hid (Gr PaE S m2 b cb o.ps):=HP.out.below hB
    have hX1:=HX1.out.below hB
    have hX6:=HX6.out.below hB
    have hm2:w.heap.size+1<m2.heap.size:=hX6.lt
    have kx:=hx.lenB
    have ky:=hy.lenB
    clear hx hy hB HC HP HX1 HX6 HBW
    obtain⟨W,hW,X7,hbW⟩:∃W,W=m2.alloc (.cells #[.slice none 0 0,.slice none 0 0] 57)/\Bk 57 W m2.heap.size [.slice none 0 0,.slice none 0 0]/\Below m2.heap.size m2 W:=⟨_,rfl,Bk.new _ _ _,bl1 _⟩
    have hWs:W.heap.size=m2.heap.size+1:=by rw[hW];simp
    have HX1:Hid (Bk 57 m2 w.heap.size [.slice a o.cs.length ca,.slice b o.ps.length cb]):=hX1
    have HX6:Hid (Bk 57 W (w.heap.size+1) [.slice none 0 0,.slice none 0 0]):=hX6.below hbW
    have HBW:Hid (Below m2.heap.size m2 W):=hbW
    have HLX:Hid (nx.length=o.ps.length+o.cs.flatten.length/\ny.length=o.ps.length+o.cs.flatten.length):=by
     have h1:=HL2.out
     rw[<-HNN.out]at h1
     exact h1
    obtain⟨vs,hvs⟩:∃n,W.heap.size=n:=⟨_,rfl⟩
    have HVS:Hid (W.heap.size=vs):=hvs
    have hvs1:vs<=m2.heap.size+1:=by omega
    have hvs2:m2.heap.size+1<=vs:=by omega
    have HRO:Hid ((reO o nx ny).cs=(List.range o.cs.length).map (reC o.cs nx ny)/\(reO o nx ny).ps=(List.range o.ps.length).map (reA o.cs.flatten.length o.ps nx ny)):=⟨rfl,rfl⟩
    generalize reO o nx ny=ro at *
    have hol3:=HOL.out
    obtain⟨cs,ps⟩:=o
    dsimp only at *
    have HFC:Hid (ofC cs cs.length=cs.flatten.length):=zie cs
    have HOF:Hid (∀k,ofC cs k<=cs.flatten.length):=fun k=>zhi cs k
    obtain⟨N,hN⟩:∃n,cs.flatten.length=n:=⟨_,rfl⟩
    rw[hN]at HFC HOF HLX HRO HPN hol3
    obtain⟨g7,hg7⟩:∃g,m2.heap.size=g:=⟨_,rfl⟩
    have HX7:Hid (Bk 57 W g7 [.slice none 0 0,.slice none 0 0]):=by show Bk _ _ _ _;rw[<-hg7];exact X7
    clear X7 hbW hX1 hX6 hWs hvs hN HL2 HNN HOL
    have kc:=HC2.out.lenB
    have kp:=HP2.out.lenB
    go_upto_region 15 with fail
    rw[<-hW];clear hW
    try rw[hg7]
    have hgm1:g7<=m2.heap.size:=by omega
    have hgm2:m2.heap.size<=g7:=by omega
    clear hg7
    obtain⟨p0,p1,_⟩:=(HX1.out.below HBW.out).two
    go_wp2;clear p0 p1
    go_loopw [19,20] (fun at_ i wr=>∃(k:Nat) (pv:Value),k<=cs.length/\i=.int .i64 k/\at_=.int .i64 (ofC cs k:Int)/\Bk 57 wr g7 [pv,.slice none 0 0]/\Gw PnE.row 63 vs (fun b=>vs<=b/\b<wr.heap.size) wr pv (((List.range cs.length).map (reC cs nx ny)).take k)/\Kp g7 W wr) (fun _ i _=>cs.length-(intOf i).toNat)
    case atStart=>exact⟨0,.slice none 0 0,Nat.zero_le _,rfl,rfl,HX7.out,Gw.nil _ _ _ _ _,Kp.refl _ _⟩
    case round =>
     obtain⟨k,pv,hk,rfl,rfl,hY,hG,hKp⟩:=hrel
     have hvl:vs<=wr.heap.size:=by rw[<-HVS.out];exact hKp.size
     have hBw:Below m2.heap.size m2 wr:=HBW.out.trans (hKp.below HBW.out.size (by omega))
     obtain⟨p0,p1,_⟩:=(HX1.out.below hBw).two
     by_cases hkn:k<cs.length
     . obtain⟨b1,o1,a1,c1,ea,hb1,hcd,zk9⟩:=HC2.out.rwAt k hkn
       subst ea
       have hst:=zcr hkn
       have hol1:=HOF.out (k+1)
       have HMV:Hid (_):=ze8 (reC cs nx ny) hkn
       have HRC:Hid (reC cs nx ny k=(List.range (cs.getD k []).length).map (reP cs nx ny k)):=rfl
       have HRP:Hid (∀j,reP cs nx ny k j=⟨nx.getD (ofC cs k+j) 0,ny.getD (ofC cs k+j) 0,((cs.getD k []).getD j Pn.none).on⟩):=fun j=>rfl
       obtain⟨c,hc⟩:∃c,cs.getD k []=c:=⟨_,rfl⟩
       rw[hc]at zk9 hst HRC HRP
       simp only[hc]at hcd
       rw[HRC.out]at HMV
       have HCD:Hid (∀wr,Below m2.heap.size m2 wr->wr.cell? ⟨b1,o1+k,none⟩=some (.slice a1 c.length c1)):=hcd
       have hcb:c.length<=400:=by omega
       have zw3:Hid (Gr PnE S m2 a1 c1 c):=zk9
       obtain⟨ak,hak⟩:∃n,ofC cs k=n:=⟨_,rfl⟩
       rw[hak]at hst HRP ⊢
       have HAK:Hid (ofC cs (k+1)=ak+c.length):=hst
       have ztg:ak+c.length<=N:=by omega
       have hll:(((List.range cs.length).map (reC cs nx ny)).take k).length+1<=1000000:=by rw[List.length_take,zce];omega
       generalize ((List.range cs.length).map (reC cs nx ny)).take k=ML at *
       have i1:(0:Int)<=(k:Int):=by omega
       have i2:(k:Int)<(cs.length:Int):=by omega
       have HGW:Hid (Gw PnE.row 63 vs (fun b=>vs<=b/\b<wr.heap.size) wr pv ML):=hG
       have HYY:Hid (Bk 57 wr g7 [pv,.slice none 0 0]):=hY
       have HKO:Hid (Kp g7 W wr):=hKp
       have HBO:Hid (Below m2.heap.size m2 wr):=hBw
       obtain⟨wo,rfl⟩:∃wo,wo=wr:=⟨_,rfl⟩
       have hI0:Gw PnE 65 wo.heap.size (fun _=>False) wo (.slice none 0 0) (((List.range c.length).map (reP cs nx ny k)).take 0):=Gw.nil _ _ _ _ _
       have zj8:Below wo.heap.size wo wo:=Below.refl _ _
       clear hc hak hcd hG hY hKp zk9 hst hol1;go_wp2;clear p0 p1
       go_loopw [19,21,22] (fun at_ v i wr=>∃r:Nat,r<=c.length/\i=.int .i64 r/\at_=.int .i64 ((ak+r:Nat):Int)/\Gw PnE 65 wo.heap.size (fun _=>False) wr v (((List.range c.length).map (reP cs nx ny k)).take r)/\Below wo.heap.size wo wr) (fun _ _ i _=>c.length-(intOf i).toNat)
       case atStart=>exact⟨0,Nat.zero_le _,rfl,rfl,hI0,zj8⟩
       case round =>
        clear hI0 zj8;obtain⟨r,hr,rfl,rfl,hV,hBo⟩:=hrel;obtain⟨a7,c7,rfl,zdy,hb7⟩:=hV.slice
        have hBu:=HBO.out.trans (hBo.mono HBO.out.size)
        obtain⟨p0,p1,_⟩:=(HX1.out.below hBu).two
        have d0:=HCD.out _ hBu
        obtain⟨at0,zmw⟩:∃n,ak+r=n:=⟨_,rfl⟩
        by_cases hrn:r<c.length
        . obtain⟨b2,o2,eb,hb2,⟨w0,w1⟩,-,-,N4⟩:=zw3.out.pn (Below.refl _ _) r hrn
          subst eb
          have HMP:Hid (_):=ze8 (reP cs nx ny k) hrn
          rw[HRP.out r,zmw]at HMP
          have HAT:Hid (ak+(r+1)=at0+1):=by show _=_;omega
          rw[zmw]
          have hax:at0<nx.length:=by have:=HLX.out.1;omega
          have hay:at0<ny.length:=by have:=HLX.out.2;omega
          obtain⟨bx,ox,ex,zld,N0⟩:=HX.out.at (Below.refl _ _) at0 hax
          subst ex
          obtain⟨bz,oz,ez,zlc,N1⟩:=HY.out.at (Below.refl _ _) at0 hay
          subst ez
          have hzx:=HX.out.i64 hax
          have hzy:=HY.out.i64 hay
          obtain⟨N2,_,_⟩:=HX1.out.two
          have N3:=HCD.out _ (Below.refl _ _)
          have hwb:w.heap.size<m2.heap.size:=by omega
          generalize nx.getD at0 0=zx at *
          generalize ny.getD at0 0=zy at *
          generalize c.getD r Pn.none=q at *
          obtain⟨x,y,on⟩:=q;dsimp only at w0 w1 N4 HMP
          have hl7:(((List.range c.length).map (reP cs nx ny k)).take r).length+[(⟨zx,zy,on⟩:Pn)].length<=1000000:=by rw[List.length_take,zce];simp;omega
          generalize ((List.range c.length).map (reP cs nx ny k)).take r=K1 at *
          have i3:(0:Int)<=(r:Int):=by omega
          have i4:(r:Int)<(c.length:Int):=by omega
          have i5:(0:Int)<=(at0:Int):=by omega
          have i6:(at0:Int)<(nx.length:Int):=by omega
          have i7:(at0:Int)<(ny.length:Int):=by omega
          clear zmw zdy hb7 w0 w1 hax hay
          have s0:=(hBu.cell (p:=⟨bx,ox+at0,none⟩) zld).trans N0
          have s1:=(hBu.cell (p:=⟨bz,oz+at0,none⟩) zlc).trans N1
          have s2:=(hBu.cell (p:=⟨w.heap.size,0,none⟩) hwb).trans N2
          have s3:=(hBu.cell (p:=⟨b1,o1+k,none⟩) hb1).trans N3
          have s4:=(hBu.cell (p:=⟨b2,o2+r*3+2,none⟩) hb2).trans N4
          go_upto_region 23 with fail
          refine wp_region_held_drew (S:=fun w9=>w9.cell? ⟨bx,ox+at0,none⟩=some (.int .i64 zx)/\w9.cell? ⟨bz,oz+at0,none⟩=some (.int .i64 zy)/\w9.cell? ⟨w.heap.size,0,none⟩=some (.slice (some ⟨b1,o1,none⟩) cs.length ca)/\w9.cell? ⟨b1,o1+k,none⟩=some (.slice (some ⟨b2,o2,none⟩) c.length c1)/\w9.cell? ⟨b2,o2+r*3+2,none⟩=some (.bool on)) (by kernel_rfl) ?_ (fun hH=>?_)
          . (try dsimp only)
            go_keep
          clear s0 s1 s2 s3 s4
          have hdr:Below wr.heap.size wr wr.drew:=Below.drew1
          generalize wr.drew=Z at hdr hH ⊢
          have hVV:=hV.below hdr
          have hBZ:Below wo.heap.size wo Z:=hBo.trans (hdr.mono hBo.size)
          clear hdr hV;refine hT 0 hH ?_;refine hT 1 hH ?_;refine hT 2 hH ?_;refine hT 3 hH ?_;refine hT 4 hH ?_;refine hT 5 hH ?_;refine hT 6 hH ?_;refine hT 7 hH ?_;refine hT 8 hH ?_;refine hT 9 hH ?_;refine hT 10 hH ?_;refine hT 11 hH ?_;refine hT 12 hH ?_
          refine hT 13 hH ?_;refine hT 14 hH ?_;refine hT 15 hH ?_;refine hT 16 hH ?_;refine hT 17 hH ?_;refine hT 18 hH ?_
          refine hCall (i:=19) rfl (by kernel_rfl) (by rfl) (fun K hK=>?_)
          go_simp
          obtain⟨V1,hV1,A1,hbv⟩:∃U,U=Z.alloc (.cells #[.int .i64 zx,.int .i64 zy,.bool on] 65)/\Bk 65 U Z.heap.size [.int .i64 zx,.int .i64 zy,.bool on]/\Below Z.heap.size Z U:=⟨_,rfl,Bk.new _ _ _,bl1 _⟩
          rw[<-hV1];clear hV1
          have hVb:=hVV.below hbv
          have zbj:Gr PnE (fun k=>False/\(Value.slice a7 K1.length c7).ownBlock≠some k) V1 (some ⟨Z.heap.size,0,none⟩) 1 [⟨zx,zy,on⟩]:=Gr.one (E:=PnE) (vs:=pnC ⟨zx,zy,on⟩) (zcw.2 ⟨rfl,hzx,hzy⟩) A1.lt (fun j hj=>A1.cell j hj)
          have hBb:=hBZ.trans (hbv.mono hBZ.size)
          have hbs:=hBb.size
          have hMb:=HBO.out.trans (hBb.mono HBO.out.size)
          have s0:=(hMb.cell (p:=⟨bx,ox+at0,none⟩) zld).trans N0
          have s1:=(hMb.cell (p:=⟨bz,oz+at0,none⟩) zlc).trans N1
          have s2:=(hMb.cell (p:=⟨w.heap.size,0,none⟩) hwb).trans N2
          have s3:=(hMb.cell (p:=⟨b1,o1+k,none⟩) hb1).trans N3
          have s4:=(hMb.cell (p:=⟨b2,o2+r*3+2,none⟩) hb2).trans N4
          refine hK.out _ _ ?_ (fun hH=>?_)
          . (try dsimp only)
            exact⟨s0,s1,s2,s3,s4⟩
          clear hK K s0 s1 s2 s3 s4
          try simp only[Act.put,pZ]
          refine hCall (i:=20) rfl (by kernel_rfl) (by rfl) (fun K hK=>?_)
          refine zbw 63 65 Tryz.underlying63 zc3 rfl (by decide) (by decide) _ _ rfl wo.heap.size (fun _=>False) (.slice a7 K1.length c7) K1 rfl hVb ⟨Z.heap.size,0,none⟩ 1 1 [⟨zx,zy,on⟩] rfl rfl zbj hl7 hbs ?_
          intro v9 w9 hT9 hgrow _
          have hB9:Below wo.heap.size wo w9:=hBb.grown hgrow hbs (fun k hk=>(hVb.lo hk).1)
          have hM9:=HBO.out.trans (hB9.mono HBO.out.size)
          have s0:=(hM9.cell (p:=⟨bx,ox+at0,none⟩) zld).trans N0
          have s1:=(hM9.cell (p:=⟨bz,oz+at0,none⟩) zlc).trans N1
          have s2:=(hM9.cell (p:=⟨w.heap.size,0,none⟩) hwb).trans N2
          have s3:=(hM9.cell (p:=⟨b1,o1+k,none⟩) hb1).trans N3
          have s4:=(hM9.cell (p:=⟨b2,o2+r*3+2,none⟩) hb2).trans N4
          refine hK.out _ _ ?_ (fun hH=>?_)
          . (try dsimp only)
            exact⟨s0,s1,s2,s3,s4⟩
          clear hK K s0 s1 s2 s3 s4
          try simp only[Act.put,pZ]
          refine hT 21 hH ?_
          refine wpAnyH_done (by kernel_rfl) ?_ _
          rw[<-HMP.out]at hT9;clear hH hgrow hVb zbj hbs hl7 HMP hBb A1 hbv hVV hMb hM9;go_wp2
          go_roundw
          case rel=>exact⟨r+1,by omega,by go_num,by rw[HAT.out];go_num,hT9,hB9⟩
          case measure=>simp[intOf];omega
        . obtain rfl:r=c.length:=by omega
          rw[zfh]at hV zdy
          have g1:¬(c.length:Int)<(c.length:Int):=by omega
          have hk1:(((List.range c.length).map (reP cs nx ny k)).take c.length).length=((List.range c.length).map (reP cs nx ny k)).length:=by rw[zfh]
          rw[hk1]
          have zv3:((List.range c.length).map (reP cs nx ny k)).length<=140737488351232:=by rw[zce];omega
          clear hk1
          generalize (List.range c.length).map (reP cs nx ny k)=K1 at *
          have hYr:=HYY.out.below hBo
          obtain⟨z0,z1,_⟩:=hYr.two
          have bp:=bl1 (w:=wr) (.cells #[.slice a7 K1.length c7] 63)
          have hG1:=(HGW.out.below hBo).below bp
          have hG2:Gw PnE.row 63 vs (fun b=>vs<=b/\b<(wr.alloc (.cells #[.slice a7 K1.length c7] 63)).heap.size) (wr.alloc (.cells #[.slice a7 K1.length c7] 63)) pv ML:=hG1.widenU (fun k h1 h2=>⟨h1.1,h2⟩)
          have hVb:=hV.below bp
          have zvz:=zdy.below bp
          have zla:PnE.row.rep (fun k=>(vs<=k/\k<(wr.alloc (.cells #[.slice a7 K1.length c7] 63)).heap.size)/\pv.ownBlock≠some k) (wr.alloc (.cells #[.slice a7 K1.length c7] 63)) [.slice a7 K1.length c7] K1:=by
           refine⟨a7,c7,rfl,fun b o e hne=>?_,zvz.anyP,zv3⟩
           have hbb:=hb7 b o e
           have hsz2:=bp.size
           refine⟨⟨by omega,by omega⟩,fun e2=>?_⟩
           exact hG2.ne hVb (by decide) e2 (by rw[e];rfl)
          have hN:=Bk.new 63 wr [.slice a7 K1.length c7]
          have zbj:=Gr.one (E:=PnE.row) zla hN.lt (fun jj hjj=>by
           obtain rfl:jj=0:=by have h1:jj<1:=hjj;omega
           exact hN.cell 0 (by simp))
          have hKb:Kp g7 W (wr.alloc (.cells #[.slice a7 K1.length c7] 63)):=(HKO.out.trans (Kp.of hBo)).trans (Kp.of bp)
          have hbs:vs<=(wr.alloc (.cells #[.slice a7 K1.length c7] 63)).heap.size:=Nat.le_trans hvl (Nat.le_trans hBo.size bp.size)
          have hYb:=hYr.below bp
          have hpg:pv.ownBlock≠some g7:=fun e=>by have:=(HGW.out.lo e).1;omega
          obtain⟨apv,cpv,epv,_,_⟩:=hG2.slice;subst epv;clear hV zdy hb7 hG1 hVb zvz zla hN bp hYr hBo hBu zmw
          go_wp2_with (at_builtin;refine zal 37 63 Tryz.underlying37 zdt rfl Nat.one_pos (by decide) rfl _ _ rfl vs _ _ ML rfl hG2 (some ⟨wr.heap.size,0,none⟩) 1 1 [K1] rfl rfl zbj hll hbs ?_)
          intro v9 w9 hT9 hgrow hown
          have hK9:Kp g7 W w9:=hKb.grown hgrow (fun k hk=>by rw[HVS.out];exact(hG2.lo hk).1)
          have hY9:=hYb.grown hgrow hpg
          have hT9:=hT9.widenU (S':=fun b=>vs<=b/\b<w9.heap.size) (fun k h1 h2=>⟨h1.1,h2⟩)
          have hv9:v9.ownBlock≠some g7:=fun e=>by have:=(hT9.lo e).1;omega
          rw[<-HMV.out]at hT9
          obtain⟨M2,hM2⟩:∃M2,((List.range cs.length).map (reC cs nx ny)).take (k+1)=M2:=⟨_,rfl⟩
          have HM2:Hid (((List.range cs.length).map (reC cs nx ny)).take (k+1)=M2):=hM2
          rw[hM2]at hT9;clear hM2;obtain⟨y0,y1,f0,f1⟩:=hY9.two
          have zj5:=hY9.set 0 v9
          have zim:Gw PnE.row 63 vs (fun b=>vs<=b/\b<(w9.setCell ⟨g7,0,none⟩ v9).heap.size) (w9.setCell ⟨g7,0,none⟩ v9) v9 M2:=by
           refine hT9.stay (by simp[World.setCell]) (fun kk h1 _ h3=>⟨⟨h1.1,by simp[World.setCell];exact h3⟩,Below.heap_setCell _ _ _ _ (fun e=>by have h4:kk=g7:=e;have h5:vs<=kk:=h1.1;omega)⟩) (fun k hk=>Below.heap_setCell _ _ _ _ (fun e=>hv9 (by rw[hk];exact congrArg some e)))
          have zj6:Kp g7 W (w9.setCell ⟨g7,0,none⟩ v9):=hK9.setCell 0 _
          obtain⟨a9,c9,e9,_,_⟩:=hT9.slice
          have zr7:Hid (_):=zj5
          have zw2:Hid (_):=zim
          have zw6:Hid (_):=zj6
          clear hgrow hown hG2 zbj hbs hll hKb hYb hpg hY9 hv9 hT9 hK9 zj5 zim zj6 HMV z0 z1 p0 p1 d0;subst e9;go_wp2
          go_roundw
          case rel=>exact⟨k+1,_,by omega,by go_num,by rw[HAK.out];exact congrArg (Value.int .i64) (by omega),zr7.out,by rw[HM2.out];exact zw2.out,zw6.out⟩
          case measure=>simp[intOf];omega
     . obtain rfl:k=cs.length:=by omega
       have g1:¬(cs.length:Int)<(cs.length:Int):=by omega
       rw[zfh]at hG;rw[HFC.out];obtain⟨a5,c5,rfl,-,hb5⟩:=hG.slice
       obtain⟨w1,rfl⟩:∃x,x=wr:=⟨_,rfl⟩
       have HB5:Hid (∀b o,a5=some ⟨b,o,none⟩->vs<=b/\b<w1.heap.size):=hb5
       have HK1:Hid (Kp g7 W w1):=hKp
       have HM1:Hid (Below m2.heap.size m2 w1):=hBw
       have HX61:Hid (Bk 57 w1 (w.heap.size+1) [.slice none 0 0,.slice none 0 0]):=HX6.out.kp hKp (by omega)
       obtain⟨nc5,zvx⟩:∃n,((List.range cs.length).map (reC cs nx ny)).length=n:=⟨_,rfl⟩
       have HNC5:Hid (((List.range cs.length).map (reC cs nx ny)).length=nc5):=zvx
       rw[zvx]at hY hG
       have HG5:Hid (Gw PnE.row 63 vs (fun b=>vs<=b/\b<w1.heap.size) w1 (.slice a5 nc5 c5) ((List.range cs.length).map (reC cs nx ny))):=hG
       have HYY:Hid (Bk 57 w1 g7 [.slice a5 nc5 c5,.slice none 0 0]):=hY
       have hw1:vs<=w1.heap.size:=hvl
       clear hG hb5 hY hKp zvx hvl;go_wp2;clear p0 p1
       go_loopw [23] (fun i wr=>∃(r:Nat) (pv:Value),r<=ps.length/\i=.int .i64 r/\Bk 57 wr g7 [.slice a5 nc5 c5,pv]/\Gw PaE 54 w1.heap.size (fun _=>False) wr pv (((List.range ps.length).map (reA N ps nx ny)).take r)/\Kp g7 w1 wr) (fun i _=>ps.length-(intOf i).toNat)
       case atStart=>exact⟨0,.slice none 0 0,Nat.zero_le _,rfl,HYY.out,Gw.nil _ _ _ _ _,Kp.refl _ _⟩
       case round =>
        obtain⟨r,pv,hr,rfl,hYc,hV,hKr⟩:=hrel;obtain⟨a7,c7,rfl,zdy,hb7⟩:=hV.slice
        have hws:=hKr.size
        have hBu:Below m2.heap.size m2 wr:=HM1.out.trans (hKr.below HM1.out.size (by omega))
        obtain⟨p0,p1,_⟩:=(HX1.out.below hBu).two
        by_cases hrn:r<ps.length
        . obtain⟨b2,o2,eb,hb2,hpw,N1,-,-⟩:=HP2.out.pa (Below.refl _ _) r hrn
          subst eb
          have HMP:Hid (_):=ze8 (reA N ps nx ny) hrn
          have HRA:Hid (reA N ps nx ny r=⟨(ps.getD r Pa.none).g,nx.getD (N+r) 0,ny.getD (N+r) 0⟩):=rfl
          have hN0:N=0:=HPN.out (by omega)
          rw[HRA.out,show N+r=r by omega]at HMP
          clear hN0
          have hax:r<nx.length:=by have:=HLX.out.1;omega
          have hay:r<ny.length:=by have:=HLX.out.2;omega
          obtain⟨bx,ox,ex,zld,N2⟩:=HX.out.at (Below.refl _ _) r hax
          subst ex
          obtain⟨bz,oz,ez,zlc,N3⟩:=HY.out.at (Below.refl _ _) r hay
          subst ez
          have hzx:=HX.out.i64 hax
          have hzy:=HY.out.i64 hay
          obtain⟨_,N0,_⟩:=HX1.out.two
          have hwb:w.heap.size<m2.heap.size:=by omega
          generalize nx.getD r 0=zx at *
          generalize ny.getD r 0=zy at *
          generalize ps.getD r Pa.none=q at *
          obtain⟨gl,x,y⟩:=q;obtain⟨hgi,hxi,hyi⟩:=hpw;dsimp only at N1 HMP hgi hxi hyi
          have hl7:(((List.range ps.length).map (reA N ps nx ny)).take r).length+[(⟨gl,zx,zy⟩:Pa)].length<=1000000:=by rw[List.length_take,zce];simp;omega
          generalize ((List.range ps.length).map (reA N ps nx ny)).take r=K1 at *
          have i3:(0:Int)<=(r:Int):=by omega
          have i4:(r:Int)<(ps.length:Int):=by omega
          have i6:(r:Int)<(nx.length:Int):=by omega
          have i7:(r:Int)<(ny.length:Int):=by omega
          clear zdy hb7 hax hay hxi hyi
          have s0:=(hBu.cell (p:=⟨w.heap.size,1,none⟩) hwb).trans N0
          have s1:=(hBu.cell (p:=⟨b2,o2+r*3,none⟩) hb2).trans N1
          have s2:=(hBu.cell (p:=⟨bx,ox+r,none⟩) zld).trans N2
          have s3:=(hBu.cell (p:=⟨bz,oz+r,none⟩) zlc).trans N3
          go_upto_region 29 with fail
          refine wp_region_held_drew (S:=fun w9=>w9.cell? ⟨w.heap.size,1,none⟩=some (.slice (some ⟨b2,o2,none⟩) ps.length cb)/\w9.cell? ⟨b2,o2+r*3,none⟩=some (.int .i64 gl)/\w9.cell? ⟨bx,ox+r,none⟩=some (.int .i64 zx)/\w9.cell? ⟨bz,oz+r,none⟩=some (.int .i64 zy)) (by kernel_rfl) ?_ (fun hH=>?_)
          . (try dsimp only)
            go_keep
          clear s0 s1 s2 s3
          have hdr:Below wr.heap.size wr wr.drew:=Below.drew1
          generalize wr.drew=Z at hdr hH ⊢
          have zoz:=hV
          have hVV:=hV.below hdr
          replace hYc:=hYc.below hdr
          have hKZ:Kp g7 w1 Z:=hKr.trans (Kp.of hdr)
          clear hdr hV hKr;refine hT 0 hH ?_;refine hT 2 hH ?_;refine hT 3 hH ?_;refine hT 4 hH ?_;refine hT 5 hH ?_;refine hT 6 hH ?_;refine hT 7 hH ?_;refine hT 8 hH ?_;refine hT 9 hH ?_;refine hT 10 hH ?_;refine hT 11 hH ?_;refine hT 12 hH ?_;refine hT 13 hH ?_
          refine hT 14 hH ?_;refine hT 15 hH ?_;refine hT 16 hH ?_
          refine wpAnyH_ready (rs:=[1,17]) (by kernel_rfl) (by simp) (hCons (i:=1) rfl (by rfl) (fun K hK=>?_) (hCons (i:=17) rfl (by rfl) (fun K hK=>?_) AllReadyH.nil))
          . obtain⟨y0,y1,f0,f1⟩:=hYc.two
            go_simp
            have hMz:=HM1.out.trans (hKZ.below HM1.out.size (by omega))
            have s0:=(hMz.cell (p:=⟨w.heap.size,1,none⟩) hwb).trans N0
            have s1:=(hMz.cell (p:=⟨b2,o2+r*3,none⟩) hb2).trans N1
            have s2:=(hMz.cell (p:=⟨bx,ox+r,none⟩) zld).trans N2
            have s3:=(hMz.cell (p:=⟨bz,oz+r,none⟩) zlc).trans N3
            refine hK.out _ _ ?_ (fun hH=>?_)
            . (try dsimp only)
              exact⟨s0,s1,s2,s3⟩
            clear hK K s0 s1 s2 s3
            try simp only[Act.put,pZ]
            clear y0 y1 f0 f1 hMz
            refine hCall (i:=17) rfl (by kernel_rfl) (by rfl) (fun K hK=>?_)
            go_simp
            obtain⟨V1,hV1,A1,hbv⟩:∃U,U=Z.alloc (.cells #[.int .i64 gl,.int .i64 zx,.int .i64 zy] 54)/\Bk 54 U Z.heap.size [.int .i64 gl,.int .i64 zx,.int .i64 zy]/\Below Z.heap.size Z U:=⟨_,rfl,Bk.new _ _ _,bl1 _⟩
            rw[<-hV1];clear hV1;replace hYc:=hYc.below hbv
            have hVb:=hVV.below hbv
            have zbj:Gr PaE (fun k=>False/\(Value.slice a7 K1.length c7).ownBlock≠some k) V1 (some ⟨Z.heap.size,0,none⟩) 1 [⟨gl,zx,zy⟩]:=Gr.one (E:=PaE) (vs:=paC ⟨gl,zx,zy⟩) (zdk.2 ⟨rfl,hgi,hzx,hzy⟩) A1.lt (fun j hj=>A1.cell j hj)
            replace hKZ:=hKZ.trans (Kp.of hbv)
            have hbs:=hKZ.size
            have hMv:=HM1.out.trans (hKZ.below HM1.out.size (by omega))
            have s0:=(hMv.cell (p:=⟨w.heap.size,1,none⟩) hwb).trans N0
            have s1:=(hMv.cell (p:=⟨b2,o2+r*3,none⟩) hb2).trans N1
            have s2:=(hMv.cell (p:=⟨bx,ox+r,none⟩) zld).trans N2
            have s3:=(hMv.cell (p:=⟨bz,oz+r,none⟩) zlc).trans N3
            refine hK.out _ _ ?_ (fun hH=>?_)
            . (try dsimp only)
              exact⟨s0,s1,s2,s3⟩
            clear hK K s0 s1 s2 s3
            try simp only[Act.put,pZ]
            clear hMv
            refine hCall (i:=18) rfl (by kernel_rfl) (by rfl) (fun K hK=>?_)
            refine zbw 55 54 Tryz.underlying55 zil rfl (by decide) (by decide) _ _ rfl w1.heap.size (fun _=>False) (.slice a7 K1.length c7) K1 rfl hVb ⟨Z.heap.size,0,none⟩ 1 1 [⟨gl,zx,zy⟩] rfl rfl zbj hl7 hbs ?_
            intro v9 w9 hT9 hgrow _
            have hne:∀q,q<w1.heap.size->some q≠(Value.slice a7 K1.length c7).ownBlock:=fun q hq e=>by have h1:=(zoz.lo e.symm);omega
            have hK9:Kp g7 w1 w9:=hKZ.grown hgrow (fun k hk=>(hVb.lo hk).1)
            have hY9:=hYc.grown hgrow (fun e=>hne g7 (by omega) e.symm)
            have hM9:=HM1.out.trans (hK9.below HM1.out.size (by omega))
            obtain⟨a9,c9,e9,-,-⟩:=hT9.slice
            obtain⟨nl,hnl⟩:∃n,(K1++[(⟨gl,zx,zy⟩:Pa)]).length=n:=⟨_,rfl⟩
            rw[hnl]at e9;clear hnl;subst e9
            have s0:=(hM9.cell (p:=⟨w.heap.size,1,none⟩) hwb).trans N0
            have s1:=(hM9.cell (p:=⟨b2,o2+r*3,none⟩) hb2).trans N1
            have s2:=(hM9.cell (p:=⟨bx,ox+r,none⟩) zld).trans N2
            have s3:=(hM9.cell (p:=⟨bz,oz+r,none⟩) zlc).trans N3
            refine hK.out _ _ ?_ (fun hH=>?_)
            . (try dsimp only)
              exact⟨s0,s1,s2,s3⟩
            clear hK K s0 s1 s2 s3
            try simp only[Act.put,pZ]
            refine hT 19 hH ?_
            refine hCall (i:=20) rfl (by kernel_rfl) (by rfl) (fun K hK=>?_)
            obtain⟨y0,y1,f0,f1⟩:=hY9.two;go_simp
            have zj5:=hY9.set 1 (.slice a9 nl c9)
            have zqs:w9.heap.size=(w9.setCell ⟨g7,1,none⟩ (.slice a9 nl c9)).heap.size:=by simp[World.setCell]
            have zim:Gw PaE 54 w1.heap.size (fun _=>False) (w9.setCell ⟨g7,1,none⟩ (.slice a9 nl c9)) (.slice a9 nl c9) (K1++[⟨gl,zx,zy⟩]):=hT9.stay (by rw[<-zqs];exact Nat.le_refl _) (fun k h=>h.elim) (fun k hk=>Below.heap_setCell _ _ _ _ (fun e=>by have h2:=(hT9.lo hk).1;have h3:k=g7:=e;omega))
            have zj6:Kp g7 w1 (w9.setCell ⟨g7,1,none⟩ (.slice a9 nl c9)):=hK9.setCell 1 _
            have zqw:=HM1.out.trans (zj6.below HM1.out.size (by omega))
            clear y0 y1 f0 f1 hT9 hK9 hY9 zqs hM9
            generalize w9.setCell ⟨g7,1,none⟩ (.slice a9 nl c9)=w10 at *
            have s0:=(zqw.cell (p:=⟨w.heap.size,1,none⟩) hwb).trans N0
            have s1:=(zqw.cell (p:=⟨b2,o2+r*3,none⟩) hb2).trans N1
            have s2:=(zqw.cell (p:=⟨bx,ox+r,none⟩) zld).trans N2
            have s3:=(zqw.cell (p:=⟨bz,oz+r,none⟩) zlc).trans N3
            refine hK.out _ _ ?_ (fun hH=>?_)
            . (try dsimp only)
              exact⟨s0,s1,s2,s3⟩
            clear hK K s0 s1 s2 s3
            try simp only[Act.put,pZ]
            refine wpAnyH_done (by kernel_rfl) ?_ _
            rw[<-HMP.out]at zim
            have zr7:Hid (Bk 57 w10 g7 [.slice a5 nc5 c5,.slice a9 nl c9]):=zj5
            have zw2:Hid (_):=zim
            have zw6:Hid (Kp g7 w1 w10):=zj6
            clear hH hgrow hVb zbj hbs hl7 HMP A1 hbv hne zoz hVV zj5 hYc zqw zim zj6;go_wp2
            go_roundw
            case rel=>exact⟨r+1,.slice a9 nl c9,by omega,by go_num,zr7.out,zw2.out,zw6.out⟩
            case measure=>simp[intOf];omega
          . go_simp
            obtain⟨V1,hV1,A1,hbv⟩:∃U,U=Z.alloc (.cells #[.int .i64 gl,.int .i64 zx,.int .i64 zy] 54)/\Bk 54 U Z.heap.size [.int .i64 gl,.int .i64 zx,.int .i64 zy]/\Below Z.heap.size Z U:=⟨_,rfl,Bk.new _ _ _,bl1 _⟩
            rw[<-hV1];clear hV1;replace hYc:=hYc.below hbv
            have hVb:=hVV.below hbv
            have zbj:Gr PaE (fun k=>False/\(Value.slice a7 K1.length c7).ownBlock≠some k) V1 (some ⟨Z.heap.size,0,none⟩) 1 [⟨gl,zx,zy⟩]:=Gr.one (E:=PaE) (vs:=paC ⟨gl,zx,zy⟩) (zdk.2 ⟨rfl,hgi,hzx,hzy⟩) A1.lt (fun j hj=>A1.cell j hj)
            replace hKZ:=hKZ.trans (Kp.of hbv)
            have hbs:=hKZ.size
            have hMv:=HM1.out.trans (hKZ.below HM1.out.size (by omega))
            have s0:=(hMv.cell (p:=⟨w.heap.size,1,none⟩) hwb).trans N0
            have s1:=(hMv.cell (p:=⟨b2,o2+r*3,none⟩) hb2).trans N1
            have s2:=(hMv.cell (p:=⟨bx,ox+r,none⟩) zld).trans N2
            have s3:=(hMv.cell (p:=⟨bz,oz+r,none⟩) zlc).trans N3
            refine hK.out _ _ ?_ (fun hH=>?_)
            . (try dsimp only)
              exact⟨s0,s1,s2,s3⟩
            clear hK K s0 s1 s2 s3
            try simp only[Act.put,pZ]
            clear hMv
            refine hCall (i:=1) rfl (by kernel_rfl) (by rfl) (fun K hK=>?_)
            obtain⟨y0,y1,f0,f1⟩:=hYc.two;go_simp
            have hMz:=HM1.out.trans (hKZ.below HM1.out.size (by omega))
            have s0:=(hMz.cell (p:=⟨w.heap.size,1,none⟩) hwb).trans N0
            have s1:=(hMz.cell (p:=⟨b2,o2+r*3,none⟩) hb2).trans N1
            have s2:=(hMz.cell (p:=⟨bx,ox+r,none⟩) zld).trans N2
            have s3:=(hMz.cell (p:=⟨bz,oz+r,none⟩) zlc).trans N3
            refine hK.out _ _ ?_ (fun hH=>?_)
            . (try dsimp only)
              exact⟨s0,s1,s2,s3⟩
            clear hK K s0 s1 s2 s3
            try simp only[Act.put,pZ]
            clear y0 y1 f0 f1 hMz
            refine hCall (i:=18) rfl (by kernel_rfl) (by rfl) (fun K hK=>?_)
            refine zbw 55 54 Tryz.underlying55 zil rfl (by decide) (by decide) _ _ rfl w1.heap.size (fun _=>False) (.slice a7 K1.length c7) K1 rfl hVb ⟨Z.heap.size,0,none⟩ 1 1 [⟨gl,zx,zy⟩] rfl rfl zbj hl7 hbs ?_
            intro v9 w9 hT9 hgrow _
            have hne:∀q,q<w1.heap.size->some q≠(Value.slice a7 K1.length c7).ownBlock:=fun q hq e=>by have h1:=(zoz.lo e.symm);omega
            have hK9:Kp g7 w1 w9:=hKZ.grown hgrow (fun k hk=>(hVb.lo hk).1)
            have hY9:=hYc.grown hgrow (fun e=>hne g7 (by omega) e.symm)
            have hM9:=HM1.out.trans (hK9.below HM1.out.size (by omega))
            obtain⟨a9,c9,e9,-,-⟩:=hT9.slice
            obtain⟨nl,hnl⟩:∃n,(K1++[(⟨gl,zx,zy⟩:Pa)]).length=n:=⟨_,rfl⟩
            rw[hnl]at e9;clear hnl;subst e9
            have s0:=(hM9.cell (p:=⟨w.heap.size,1,none⟩) hwb).trans N0
            have s1:=(hM9.cell (p:=⟨b2,o2+r*3,none⟩) hb2).trans N1
            have s2:=(hM9.cell (p:=⟨bx,ox+r,none⟩) zld).trans N2
            have s3:=(hM9.cell (p:=⟨bz,oz+r,none⟩) zlc).trans N3
            refine hK.out _ _ ?_ (fun hH=>?_)
            . (try dsimp only)
              exact⟨s0,s1,s2,s3⟩
            clear hK K s0 s1 s2 s3
            try simp only[Act.put,pZ]
            refine hT 19 hH ?_
            refine hCall (i:=20) rfl (by kernel_rfl) (by rfl) (fun K hK=>?_)
            obtain⟨y0,y1,f0,f1⟩:=hY9.two;go_simp
            have zj5:=hY9.set 1 (.slice a9 nl c9)
            have zqs:w9.heap.size=(w9.setCell ⟨g7,1,none⟩ (.slice a9 nl c9)).heap.size:=by simp[World.setCell]
            have zim:Gw PaE 54 w1.heap.size (fun _=>False) (w9.setCell ⟨g7,1,none⟩ (.slice a9 nl c9)) (.slice a9 nl c9) (K1++[⟨gl,zx,zy⟩]):=hT9.stay (by rw[<-zqs];exact Nat.le_refl _) (fun k h=>h.elim) (fun k hk=>Below.heap_setCell _ _ _ _ (fun e=>by have h2:=(hT9.lo hk).1;have h3:k=g7:=e;omega))
            have zj6:Kp g7 w1 (w9.setCell ⟨g7,1,none⟩ (.slice a9 nl c9)):=hK9.setCell 1 _
            have zqw:=HM1.out.trans (zj6.below HM1.out.size (by omega))
            clear y0 y1 f0 f1 hT9 hK9 hY9 zqs hM9
            generalize w9.setCell ⟨g7,1,none⟩ (.slice a9 nl c9)=w10 at *
            have s0:=(zqw.cell (p:=⟨w.heap.size,1,none⟩) hwb).trans N0
            have s1:=(zqw.cell (p:=⟨b2,o2+r*3,none⟩) hb2).trans N1
            have s2:=(zqw.cell (p:=⟨bx,ox+r,none⟩) zld).trans N2
            have s3:=(zqw.cell (p:=⟨bz,oz+r,none⟩) zlc).trans N3
            refine hK.out _ _ ?_ (fun hH=>?_)
            . (try dsimp only)
              exact⟨s0,s1,s2,s3⟩
            clear hK K s0 s1 s2 s3
            try simp only[Act.put,pZ]
            refine wpAnyH_done (by kernel_rfl) ?_ _
            rw[<-HMP.out]at zim
            have zr7:Hid (Bk 57 w10 g7 [.slice a5 nc5 c5,.slice a9 nl c9]):=zj5
            have zw2:Hid (_):=zim
            have zw6:Hid (Kp g7 w1 w10):=zj6
            clear hH hgrow hVb zbj hbs hl7 HMP A1 hbv hne zoz hVV zj5 hYc zqw zim zj6;go_wp2
            go_roundw
            case rel=>exact⟨r+1,.slice a9 nl c9,by omega,by go_num,zr7.out,zw2.out,zw6.out⟩
            case measure=>simp[intOf];omega
        . obtain rfl:r=ps.length:=by omega
          have g2:¬(ps.length:Int)<(ps.length:Int):=by omega
          rw[zfh]at hV hYc
          obtain⟨np,hnp⟩:∃n,((List.range ps.length).map (reA N ps nx ny)).length=n:=⟨_,rfl⟩
          have HNP:Hid (((List.range ps.length).map (reA N ps nx ny)).length=np):=hnp
          rw[hnp]at hYc hV;obtain⟨y0,y1,_⟩:=hYc.two
          have hX6:=HX61.out.kp hKr (by omega)
          have hsl:=hX6.lt
          obtain⟨z0,z1,f0,f1⟩:=hX6.two
          have A:=hX6.set2U (.slice a5 nc5 c5) (.slice a7 np c7)
          have hgc:Gw PnE.row 63 w.heap.size (fun k=>w.heap.size<=k) ((wr.setCell ⟨w.heap.size+1,0,none⟩ (.slice a5 nc5 c5)).setCell ⟨w.heap.size+1,1,none⟩ (.slice a7 np c7)) (.slice a5 nc5 c5) ((List.range cs.length).map (reC cs nx ny)):=(HG5.out.stay (by rw[zax];exact hws) (fun k hk _ hl=>⟨by have:=hk.1;omega,(zad _ _ (by have:=hk.1;omega)).trans (hKr.block hl (by have:=hk.1;omega))⟩) (fun k hk=>(zad _ _ (by have:=(HG5.out.lo hk).1;omega)).trans (hKr.block (HG5.out.lo hk).2 (by have:=(HG5.out.lo hk).1;omega)))).low (by omega)
          have hgp:Gw PaE 54 w.heap.size (fun _=>False) ((wr.setCell ⟨w.heap.size+1,0,none⟩ (.slice a5 nc5 c5)).setCell ⟨w.heap.size+1,1,none⟩ (.slice a7 np c7)) (.slice a7 np c7) ((List.range ps.length).map (reA N ps nx ny)):=(hV.stay (by rw[zax];exact Nat.le_refl _) (fun k hk=>hk.elim) (fun k hk=>zad _ _ (by have:=(hV.lo hk).1;omega))).low (by omega)
          have hbU:Below w.heap.size w ((wr.setCell ⟨w.heap.size+1,0,none⟩ (.slice a5 nc5 c5)).setCell ⟨w.heap.size+1,1,none⟩ (.slice a7 np c7)):=((HBM.out.trans (hBu.mono HBM.out.size)).setCell (p:=⟨w.heap.size+1,0,none⟩) (by show _<=w.heap.size+1;omega) _).setCell (p:=⟨w.heap.size+1,1,none⟩) (by show _<=w.heap.size+1;omega) _
          rw[<-HRO.out.1]at hgc;rw[<-HRO.out.2]at hgp
          rw[show nc5=ro.cs.length by rw[HRO.out.1];exact HNC5.out.symm,show np=ro.ps.length by rw[HRO.out.2];exact HNP.out.symm]at hgc hgp hbU
          have zay:=HG4.out _ a5 c5 a7 c7 hgc hgp ⟨(fun b o e=>by have:=(HB5.out b o e).1;omega),(fun b o e=>by have:=(hb7 b o e).1;omega)⟩ hbU
          rw[show ro.cs.length=nc5 by rw[HRO.out.1];exact HNC5.out,show ro.ps.length=np by rw[HRO.out.2];exact HNP.out]at zay
          have HFI:Hid (_):=zay
          clear hgc hgp hbU hV zdy hb7 hnp zay HG4;go_wp2
          exact bodyPost_ret (v:=.tuple #[.agg #[.slice a5 nc5 c5,.slice a7 np c7],.int .i64 0]) (by obtain⟨r0,r1,_⟩:=A.two;simp[results,Tryz.results39,go_sem,r0,r1]) rfl HFI.out
