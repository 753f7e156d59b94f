import Derived.Test.YtgbhidcokobmmaaGreatDoorZG26
import Derived.Test.YtgbhidcokobmmaaGreatDoorZG28
set_option maxHeartbeats 8000000
set_option maxRecDepth 100000
set_option linter.unusedSimpArgs false
set_option linter.unusedVariables false
namespace Go.Proofs.YtgbhidcokobmmaaGreatDoor
open Go.RowKit Go.Maps
theorem ze2(S:Nat->Prop)(d:FoD)(x:Fo)(bd:List (List (Int×Int)))(c:Option Addr)(cc:Nat)(cs:List Int)(t:ByteArray)(o:Option Addr)(oc:Nat)(on:List ByteArray)(c2:Option Addr)(k2:Nat)(ds:List Int)(w:World)(h:FoR S w d x)(hX:FoX S w d x bd)(hc:Gr El.int S w c cc cs)(ho:Gr El.str S w o oc on)(hts:t.size<=maxLen)(hd:Gr El.int S w c2 k2 ds)(hT:Spn w) :
 Calls Tryz.prog 6 #[fV d x,.agg #[.slice c cs.length cc,.string t,.slice o on.length oc],.slice c2 ds.length k2] w fun e w'=>e=.returned (.bool true)/\Below w.heap.size w w':=by
 have kcs:=hc.lenB
 have kos:=ho.lenB
 have ktt:t.size<=9223372036854775807:=by unfold maxLen at hts;exact hts
 have ebl:=hX.bl
 obtain⟨xa,xl,xc,ba,bl,bc,ga,gc,ma,mc,la,lc,ta,tl,tc,da,dl,dc,ra,rc,ka,kc,fa,fc,sa,sc⟩:=d;dsimp only at ebl;subst ebl
 dsimp only[fV]
 have kds:=hd.lenB
 have HFR:Hid (∀U,Below w.heap.size w U->FoR S U ⟨xa,xl,xc,ba,bd.length,bc,ga,gc,ma,mc,la,lc,ta,tl,tc,da,dl,dc,ra,rc,ka,kc,fa,fc,sa,sc⟩ x):=fun U hU=>h.below hU
 have HCS:Hid (∀U,Below w.heap.size w U->Gr El.int S U c cc cs):=fun U hU=>hc.below hU
 have HDS:Hid (∀U,Below w.heap.size w U->Gr El.int S U c2 k2 ds):=fun U hU=>hd.below hU
 have HOS:Hid (∀U,Below w.heap.size w U->Gr El.str S U o oc on):=fun U hU=>ho.below hU
 have HTS:Hid (∀U,Below w.heap.size w U->Spn U):=fun U hU=>hT.below hU
 clear hd
 have HAW:Hid (∀U,Below w.heap.size w U->Calls Tryz.prog 8 #[] U fun e w'=>e=.returned (.bool true)/\Below U.heap.size U w'):=fun U hU=>zcu U (hT.below hU)
 have HFE:Hid (∀U,Below w.heap.size w U->Calls Tryz.prog 9 #[.agg #[.slice xa xl xc,.slice ba bd.length bc,.slice ga x.s.rg.length gc,.slice ma x.s.rw.length mc,.slice la x.gl.length lc,.slice ta tl tc,.slice da dl dc,.slice ra x.rn.length rc,.slice ka x.lk.length kc,.slice fa x.ft.length fc,.slice sa x.sw.length sc],.agg #[.slice c cs.length cc,.string t,.slice o on.length oc]] U fun e w'=>zd1 (FoB x/\cs.length<=20/\t.size<=500/\on.length<=50) e/\Below U.heap.size U w'):=fun U hU=>zev S ⟨xa,xl,xc,ba,bd.length,bc,ga,gc,ma,mc,la,lc,ta,tl,tc,da,dl,dc,ra,rc,ka,kc,fa,fc,sa,sc⟩ x bd c cc cs t o oc on U (h.below hU) (hX.below hU) kcs kos ktt
 obtain⟨W,hW,XW,XA,hbW⟩:∃W,W=(w.alloc (.cells #[.slice xa xl xc,.slice ba bd.length bc,.slice ga x.s.rg.length gc,.slice ma x.s.rw.length mc,.slice la x.gl.length lc,.slice ta tl tc,.slice da dl dc,.slice ra x.rn.length rc,.slice ka x.lk.length kc,.slice fa x.ft.length fc,.slice sa x.sw.length sc] 36)).alloc (.cells #[.slice c cs.length cc,.string t,.slice o on.length oc] 40)/\Bk 36 W w.heap.size [.slice xa xl xc,.slice ba bd.length bc,.slice ga x.s.rg.length gc,.slice ma x.s.rw.length mc,.slice la x.gl.length lc,.slice ta tl tc,.slice da dl dc,.slice ra x.rn.length rc,.slice ka x.lk.length kc,.slice fa x.ft.length fc,.slice sa x.sw.length sc]/\Bk 40 W (w.heap.size+1) [.slice c cs.length cc,.string t,.slice o on.length oc]/\Below w.heap.size w W:=by
  obtain⟨h1,h2,h3⟩:=new2B w 36 40 [.slice xa xl xc,.slice ba bd.length bc,.slice ga x.s.rg.length gc,.slice ma x.s.rw.length mc,.slice la x.gl.length lc,.slice ta tl tc,.slice da dl dc,.slice ra x.rn.length rc,.slice ka x.lk.length kc,.slice fa x.ft.length fc,.slice sa x.sw.length sc] [.slice c cs.length cc,.string t,.slice o on.length oc]
  exact⟨_,rfl,h1,h2,h3⟩
 have haw:=HAW.out W hbW
 have HXW:Hid (Bk 36 W w.heap.size _):=XW
 have HXA:Hid (Bk 40 W (w.heap.size+1) _):=XA
 clear h hX hc ho hts hT XW XA
 go_enter Tryz.func6,Tryz.ntmps6
 go_upto_region 1 with fail
 rw[<-hW];clear hW
 go_wp2_with fail
 refine haw.mono ?_
 rintro e y1 ⟨rfl,hb⟩
 have hb1:=hbW.trans (hb.mono hbW.size)
 have X1:=HXW.out.below hb
 have A1:=HXA.out.below hb
 have hfe:=HFE.out y1 hb1
 clear haw hb HXW HXA HFE;obtain⟨x0,x1,x2,x3,x4,x5,x6,x7,x8,x9,x10⟩:=X1.elevenH;obtain⟨z0,z1,z2,-⟩:=A1.three
 go_wp2_with fail
 refine hfe.mono ?_
 rintro e y2 ⟨hbo,hb⟩;obtain⟨qf,rfl,hqf⟩:=hbo.out
 have hb2:=hb1.trans (hb.mono hb1.size)
 have X2:=X1.below hb
 have A2:=A1.below hb
 clear hfe hb hbo X1 A1 x0 x1 x2 x3 x4 x5 x6 x7 x8 x9 x10 z0 z1 z2
 cases qf with
 | false =>
  have zae:=hb2
  clear hqf X2 A2
  go_wp2_with fail
  refine(HAW.out _ zae).mono ?_
  rintro e uz ⟨rfl,hbz⟩
  replace zae:=zae.trans (hbz.mono zae.size)
  clear hbz
  go_wp2_with fail
  go_ret
  exact⟨rfl,zae⟩
 | true =>
 obtain⟨hFB,hcs,ht5,hon⟩:=hqf rfl
 clear hqf hb1 hbW
 by_cases f0:20<ds.length
 . have d0:decide ((20:Int)<(ds.length:Int))=true:=decide_eq_true (by omega)
   have d0n:decide (20<ds.length)=true:=decide_eq_true f0
   have zae:=hb2
   clear X2 A2 f0
   go_wp2_with fail
   refine(HAW.out _ zae).mono ?_
   rintro e uz ⟨rfl,hbz⟩
   replace zae:=zae.trans (hbz.mono zae.size)
   clear hbz
   go_wp2_with fail
   go_ret
   exact⟨rfl,zae⟩
 have d0:decide ((20:Int)<(ds.length:Int))=false:=decide_eq_false (by omega)
 have d0n:decide (20<ds.length)=false:=decide_eq_false f0
 have HX2:Hid (Bk 36 y2 w.heap.size _):=X2
 have HA2:Hid (Bk 40 y2 (w.heap.size+1) _):=A2
 obtain⟨x0,x1,x2,x3,x4,x5,x6,x7,x8,x9,x10⟩:=X2.elevenH
 obtain⟨gG,hgG⟩:∃g,y2.heap.size=g:=⟨_,rfl⟩
 obtain⟨V,hV,XV,hbV⟩:∃V,V=y2.alloc (.cells #[.slice xa xl xc,.slice ba bd.length bc,.slice ga x.s.rg.length gc,.slice ma x.s.rw.length mc,.slice la x.gl.length lc,.slice ta tl tc,.slice da dl dc,.slice ra x.rn.length rc,.slice ka x.lk.length kc,.slice fa x.ft.length fc,.slice sa x.sw.length sc] 36)/\Bk 36 V y2.heap.size [.slice xa xl xc,.slice ba bd.length bc,.slice ga x.s.rg.length gc,.slice ma x.s.rw.length mc,.slice la x.gl.length lc,.slice ta tl tc,.slice da dl dc,.slice ra x.rn.length rc,.slice ka x.lk.length kc,.slice fa x.ft.length fc,.slice sa x.sw.length sc]/\Below y2.heap.size y2 V:=⟨_,rfl,Bk.new _ _ _,bl1 _⟩
 clear X2 A2 HAW
 go_upto_region 4 with fail
 clear d0 d0n f0;rw[<-hV];clear hV;rw[hgG]at XV
 have HGG:Hid (y2.heap.size=gG):=hgG
 have HFX:Hid (∀U,Below y2.heap.size y2 U->U.cell? ⟨w.heap.size,2,none⟩=some (.slice ga x.s.rg.length gc)/\U.cell? ⟨w.heap.size,3,none⟩=some (.slice ma x.s.rw.length mc)):=fun U hU=>by
  obtain⟨-,-,q2,q3,-⟩:=(HX2.out.below hU).elevenH
  exact⟨q2,q3⟩
 have HFA:Hid (∀U,Below y2.heap.size y2 U->U.cell? ⟨w.heap.size+1,0,none⟩=some (.slice c cs.length cc)/\U.cell? ⟨w.heap.size+1,1,none⟩=some (.string t)/\U.cell? ⟨w.heap.size+1,2,none⟩=some (.slice o on.length oc)):=fun U hU=>by
  obtain⟨q0,q1,q2,-⟩:=(HA2.out.below hU).three
  exact⟨q0,q1,q2⟩
 have hlt0:w.heap.size<gG:=by have:=HX2.out.lt;have:=HGG.out;omega
 clear hgG HX2 HA2 x0 x1 x2 x3 x4 x5 x6 x7 x8 x9 x10
 obtain⟨x2,x3⟩:=HFX.out V hbV
 have f2:=XV.fz 2
 have f3:=XV.fz 3
 obtain⟨U,hU,XG,hkU⟩:∃U,U=(V.setCell ⟨gG,2,none⟩ (.slice ga x.s.rg.length gc)).setCell ⟨gG,3,none⟩ (.slice none 0 0)/\Bk 36 U gG [.slice xa xl xc,.slice ba bd.length bc,.slice ga x.s.rg.length gc,.slice none 0 0,.slice la x.gl.length lc,.slice ta tl tc,.slice da dl dc,.slice ra x.rn.length rc,.slice ka x.lk.length kc,.slice fa x.ft.length fc,.slice sa x.sw.length sc]/\Kp gG V U:=⟨_,rfl,(XV.set 2 _).set 3 _,((Kp.refl gG V).setCell 2 _).setCell 3 _⟩
 have hbU:Below y2.heap.size y2 U:=hbV.trans (hkU.below hbV.size (by rw[HGG.out];exact Nat.le_refl _))
 have hU0:=XG.lt
 have HXG:Hid (Bk 36 U gG _):=XG
 have HBU:Hid (Below y2.heap.size y2 U):=hbU
 clear hkU hbV XG;obtain⟨-,-,v2,v3,-⟩:=XV.elevenH;clear XV
 go_wp2_with fail
 rw[<-hU];clear hU f2 f3 x2 x3 v2 v3
 obtain⟨N,hN⟩:∃N,x.s.rw.length=N:=⟨_,rfl⟩
 obtain⟨n,hn⟩:∃n,x.s.rg.length=n:=⟨_,rfl⟩
 have HNN:Hid (x.s.rw.length=N/\x.s.rg.length=n):=⟨hN,hn⟩
 have hN2:N<=2000:=by rw[<-hN];exact hFB.rw
 have hn2:n<=20:=by rw[<-hn];exact hFB.rg
 have HRQ:Hid (Rq (gG+1) U (.slice none 0 0) (List.replicate 0 (List.replicate n 0))):=Rq.nil _ _
 rw[hn]at HXG;rw[hn,hN]at HFX;rw[hn,hN];clear hn hN
 have zvo:∀Y:World,∃u2,(Instr.makeSlice 37 (.int .i64 (n:Int)) (.int .i64 (n:Int))).run Tryz.prog Y=.ok (.slice (some ⟨Y.heap.size,0,none⟩) n n) u2/\Gi Y.heap.size u2 (.slice (some ⟨Y.heap.size,0,none⟩) n n) (List.replicate n 0)/\Below Y.heap.size Y u2:=fun Y=>by
  obtain⟨i0,hi0,hz0,hz1,hz2⟩:=info_parts zin
  obtain⟨u2,hmk,hown,hgrow⟩:=run_makeSlice_full Y Y.heap.size 37 3 i0 _ 1 Tryz.underlying37 hi0 hz0 hz1 .i64 .i64 n (by omega) (by rw[hz2];omega) (by unfold maxLen;omega) (Nat.le_refl _)
  exact⟨u2,hmk,Gw.zeros (E:=El.int) hown rfl (by decide) (El.int_rep.2 ⟨rfl,by decide,by decide⟩),(Below.refl _ _).grown hgrow (Nat.le_refl _) (fun k hk=>by cases hk)⟩
 have HMK:Hid (_):=zvo
 clear zvo
 go_loopw [8] (fun i wr=>∃(k:Nat) (a9:Option Addr) (c9:Nat),k<=N/\i=.int .i64 k/\Hid (Bk 36 wr gG [.slice xa xl xc,.slice ba bd.length bc,.slice ga n gc,.slice a9 k c9,.slice la x.gl.length lc,.slice ta tl tc,.slice da dl dc,.slice ra x.rn.length rc,.slice ka x.lk.length kc,.slice fa x.ft.length fc,.slice sa x.sw.length sc])/\Hid (Rq (gG+1) wr (.slice a9 k c9) (List.replicate k (List.replicate n 0)))/\Below y2.heap.size y2 wr) (fun i _=>N-(intOf i).toNat)
 case atStart=>exact⟨0,none,0,Nat.zero_le _,rfl,HXG.out,HRQ.out,HBU.out⟩
 case round =>
  clear HXG HRQ HBU hbU hU0 U;obtain⟨k,a9,c9,hk,rfl,HXG,HRQ,hB⟩:=hrel
  obtain⟨x2,x3⟩:=HFX.out wr hB
  by_cases hkn:k<N
  . have hXG:=HXG.out
    have hRQ:=HRQ.out
    have HLO:Hid (∀q,(Value.slice a9 k c9).ownBlock=some q->gG+1<=q/\q<wr.heap.size):=fun q hq=>HRQ.out.lo hq
    have i1:(0:Int)<=(k:Int):=by omega
    have i2:(k:Int)<(N:Int):=by omega
    clear HXG HRQ
    go_upto_region 8 with fail
    have zvo:=HMK.out
    refine wp_region_held_drew (S:=fun u=>u.cell? ⟨w.heap.size,2,none⟩=some (.slice ga n gc)/\u.cell? ⟨w.heap.size,3,none⟩=some (.slice ma N mc)) (by kernel_rfl) ⟨x2,x3⟩ (fun hH=>?_)
    have zn1:Below wr.heap.size wr wr.drew:=Below.drew1
    have zt1:=hB.trans (zn1.mono hB.size)
    have hlw:gG<wr.heap.size:=hXG.lt
    replace hXG:=hXG.below zn1;replace hRQ:=hRQ.below zn1
    generalize wr.drew=Z0 at zt1 zn1 hXG hRQ hH ⊢
    clear x2 x3 hB HMK HFA HFR HCS HDS HOS HTS;refine hT 0 hH ?_;refine hT 1 hH ?_;refine hT 3 hH ?_;refine hT 4 hH ?_;refine hT 5 hH ?_;refine hT 6 hH ?_
    refine wpAnyH_ready (rs:=[2,7]) (by kernel_rfl) (by simp) (hCons (i:=2) rfl (by rfl) (fun K hK=>?_) (hCons (i:=7) rfl (by rfl) (fun K hK=>?_) AllReadyH.nil))
    . obtain⟨-,-,-,g3,-⟩:=hXG.elevenH
      go_simp
      refine hK.out _ _ (HFX.out Z0 zt1) (fun hH=>?_)
      clear hK K g3
      try simp only[Act.put,pZ]
      refine hCall (i:=7) rfl (by kernel_rfl) (by rfl) (fun K hK=>?_)
      obtain⟨Z1,hmk,hMG,hbb⟩:=zvo Z0
      have zn3:=zt1.trans (hbb.mono zt1.size)
      have hsz:wr.heap.size<=Z0.heap.size:=zn1.size
      have zsf:=zn1.trans (hbb.mono zn1.size)
      replace hXG:=hXG.below hbb;replace hRQ:=hRQ.below hbb;go_simp
      refine hK.out _ _ (HFX.out Z1 zn3) (fun hH=>?_)
      clear hK K hbb hmk
      try simp only[Act.put,pZ]
      obtain⟨gM,hgM⟩:∃g,Z0.heap.size=g:=⟨_,rfl⟩
      rw[hgM]at hMG hsz ⊢;clear hgM
      refine hCall (i:=8) rfl (by kernel_rfl) (by rfl) (fun K hK=>?_)
      obtain⟨Z2,hYe,hBS,hbb⟩:∃Y,Y=Z1.alloc (.cells #[.slice (some ⟨gM,0,none⟩) n n] 37)/\Bk 37 Y Z1.heap.size [.slice (some ⟨gM,0,none⟩) n n]/\Below Z1.heap.size Z1 Y:=⟨_,rfl,Bk.new _ _ _,bl1 _⟩
      have zki:=zn3.trans (hbb.mono zn3.size)
      have hwz2:=zsf.trans (hbb.mono zsf.size)
      replace hXG:=hXG.below hbb;replace hRQ:=hRQ.below hbb;replace hMG:=hMG.below hbb;go_simp;rw[<-hYe];clear hYe
      refine hK.out _ _ (HFX.out Z2 zki) (fun hH=>?_)
      clear hK K hbb
      try simp only[Act.put,pZ]
      obtain⟨gB,hgB⟩:∃g,Z1.heap.size=g:=⟨_,rfl⟩
      rw[hgB]at hBS ⊢;clear hgB
      refine hCall (i:=9) rfl (by kernel_rfl) (by rfl) (fun K hK=>?_)
      obtain⟨aM,cM,eM,hri,-⟩:=hMG.slice;injection eM with eM1 eM2 eM3;subst eM1 eM3;clear eM2
      refine zb3 _ _ rfl (gG+1) _ _ rfl hRQ gB (some ⟨gM,0,none⟩) n (List.replicate n 0) rfl (by rw[List.length_replicate];exact hBS.cell 0 (by simp)) hri (fun b9 o9 e9 _=>by
       cases e9
       exact⟨fun e2=>by have:=HLO.out _ e2;omega,by omega⟩) (by rw[List.length_replicate];omega) (by have:=hXG.lt;omega) ?_
      intro v9 w9 hT9 hgrow
      have hX9:=hXG.grown hgrow (fun e2=>by have:=HLO.out _ e2;omega)
      have hb9:Below y2.heap.size y2 w9:=zki.grown hgrow zki.size (fun q9 hq9=>by have:=HLO.out _ hq9;have:=HGG.out;omega)
      rw[<-List.replicate_succ']at hT9;obtain⟨a5,c5,rfl,-⟩:=hT9.slice;rw[List.length_replicate]at hT9 ⊢
      refine hK.out _ _ (HFX.out w9 hb9) (fun hH=>?_)
      clear hK K hXG hRQ hMG hBS hri hgrow
      try simp only[Act.put,pZ]
      refine hT 10 hH ?_;refine hT 11 hH ?_
      refine hCall (i:=12) rfl (by kernel_rfl) (by rfl) (fun K hK=>?_)
      obtain⟨-,-,-,g3,-⟩:=hX9.elevenH
      have f3:=hX9.fz 3
      go_simp
      have kk:Kp gG w9 (w9.setCell ⟨gG,3,none⟩ (.slice a5 (k+1) c5)):=(Kp.refl gG w9).setCell 3 _
      have zqj:Below y2.heap.size y2 (w9.setCell ⟨gG,3,none⟩ (.slice a5 (k+1) c5)):=hb9.trans (kk.below hb9.size (by rw[HGG.out];exact Nat.le_refl _))
      have zwr:Hid (Bk 36 (w9.setCell ⟨gG,3,none⟩ (.slice a5 (k+1) c5)) gG [.slice xa xl xc,.slice ba bd.length bc,.slice ga n gc,.slice a5 (k+1) c5,.slice la x.gl.length lc,.slice ta tl tc,.slice da dl dc,.slice ra x.rn.length rc,.slice ka x.lk.length kc,.slice fa x.ft.length fc,.slice sa x.sw.length sc]):=hX9.set 3 _
      have zwu:Hid (Rq (gG+1) (w9.setCell ⟨gG,3,none⟩ (.slice a5 (k+1) c5)) (.slice a5 (k+1) c5) (List.replicate (k+1) (List.replicate n 0))):=hT9.other (Nat.lt_succ_self _) kk.size (fun b9 hq9 hne=>kk.block hq9 hne)
      refine hK.out _ _ (HFX.out _ zqj) (fun hH=>?_)
      clear hK K hX9 hT9 g3 f3 kk
      try simp only[Act.put,pZ]
      refine wpAnyH_done (by kernel_rfl) ?_ _
      clear hH;go_wp2
      go_roundw
      case rel=>exact⟨k+1,a5,c5,by omega,by go_num,zwr,zwu,zqj⟩
      case measure=>simp[intOf];omega
    . obtain⟨Z1,hmk,hMG,hbb⟩:=zvo Z0
      have zn3:=zt1.trans (hbb.mono zt1.size)
      have hsz:wr.heap.size<=Z0.heap.size:=zn1.size
      have zsf:=zn1.trans (hbb.mono zn1.size)
      replace hXG:=hXG.below hbb;replace hRQ:=hRQ.below hbb;go_simp
      refine hK.out _ _ (HFX.out Z1 zn3) (fun hH=>?_)
      clear hK K hbb hmk
      try simp only[Act.put,pZ]
      obtain⟨gM,hgM⟩:∃g,Z0.heap.size=g:=⟨_,rfl⟩
      rw[hgM]at hMG hsz ⊢;clear hgM
      refine wpAnyH_ready (rs:=[2,8]) (by kernel_rfl) (by simp) (hCons (i:=2) rfl (by rfl) (fun K hK=>?_) (hCons (i:=8) rfl (by rfl) (fun K hK=>?_) AllReadyH.nil))
      . obtain⟨-,-,-,g3,-⟩:=hXG.elevenH
        go_simp
        refine hK.out _ _ (HFX.out Z1 zn3) (fun hH=>?_)
        clear hK K g3
        try simp only[Act.put,pZ]
        refine hCall (i:=8) rfl (by kernel_rfl) (by rfl) (fun K hK=>?_)
        obtain⟨Z2,hYe,hBS,hbb⟩:∃Y,Y=Z1.alloc (.cells #[.slice (some ⟨gM,0,none⟩) n n] 37)/\Bk 37 Y Z1.heap.size [.slice (some ⟨gM,0,none⟩) n n]/\Below Z1.heap.size Z1 Y:=⟨_,rfl,Bk.new _ _ _,bl1 _⟩
        have zki:=zn3.trans (hbb.mono zn3.size)
        have hwz2:=zsf.trans (hbb.mono zsf.size)
        replace hXG:=hXG.below hbb;replace hRQ:=hRQ.below hbb;replace hMG:=hMG.below hbb;go_simp;rw[<-hYe];clear hYe
        refine hK.out _ _ (HFX.out Z2 zki) (fun hH=>?_)
        clear hK K hbb
        try simp only[Act.put,pZ]
        obtain⟨gB,hgB⟩:∃g,Z1.heap.size=g:=⟨_,rfl⟩
        rw[hgB]at hBS ⊢;clear hgB
        refine hCall (i:=9) rfl (by kernel_rfl) (by rfl) (fun K hK=>?_)
        obtain⟨aM,cM,eM,hri,-⟩:=hMG.slice;injection eM with eM1 eM2 eM3;subst eM1 eM3;clear eM2
        refine zb3 _ _ rfl (gG+1) _ _ rfl hRQ gB (some ⟨gM,0,none⟩) n (List.replicate n 0) rfl (by rw[List.length_replicate];exact hBS.cell 0 (by simp)) hri (fun b9 o9 e9 _=>by
         cases e9
         exact⟨fun e2=>by have:=HLO.out _ e2;omega,by omega⟩) (by rw[List.length_replicate];omega) (by have:=hXG.lt;omega) ?_
        intro v9 w9 hT9 hgrow
        have hX9:=hXG.grown hgrow (fun e2=>by have:=HLO.out _ e2;omega)
        have hb9:Below y2.heap.size y2 w9:=zki.grown hgrow zki.size (fun q9 hq9=>by have:=HLO.out _ hq9;have:=HGG.out;omega)
        rw[<-List.replicate_succ']at hT9;obtain⟨a5,c5,rfl,-⟩:=hT9.slice;rw[List.length_replicate]at hT9 ⊢
        refine hK.out _ _ (HFX.out w9 hb9) (fun hH=>?_)
        clear hK K hXG hRQ hMG hBS hri hgrow
        try simp only[Act.put,pZ]
        refine hT 10 hH ?_;refine hT 11 hH ?_
        refine hCall (i:=12) rfl (by kernel_rfl) (by rfl) (fun K hK=>?_)
        obtain⟨-,-,-,g3,-⟩:=hX9.elevenH
        have f3:=hX9.fz 3
        go_simp
        have kk:Kp gG w9 (w9.setCell ⟨gG,3,none⟩ (.slice a5 (k+1) c5)):=(Kp.refl gG w9).setCell 3 _
        have zqj:Below y2.heap.size y2 (w9.setCell ⟨gG,3,none⟩ (.slice a5 (k+1) c5)):=hb9.trans (kk.below hb9.size (by rw[HGG.out];exact Nat.le_refl _))
        have zwr:Hid (Bk 36 (w9.setCell ⟨gG,3,none⟩ (.slice a5 (k+1) c5)) gG [.slice xa xl xc,.slice ba bd.length bc,.slice ga n gc,.slice a5 (k+1) c5,.slice la x.gl.length lc,.slice ta tl tc,.slice da dl dc,.slice ra x.rn.length rc,.slice ka x.lk.length kc,.slice fa x.ft.length fc,.slice sa x.sw.length sc]):=hX9.set 3 _
        have zwu:Hid (Rq (gG+1) (w9.setCell ⟨gG,3,none⟩ (.slice a5 (k+1) c5)) (.slice a5 (k+1) c5) (List.replicate (k+1) (List.replicate n 0))):=hT9.other (Nat.lt_succ_self _) kk.size (fun b9 hq9 hne=>kk.block hq9 hne)
        refine hK.out _ _ (HFX.out _ zqj) (fun hH=>?_)
        clear hK K hX9 hT9 g3 f3 kk
        try simp only[Act.put,pZ]
        refine wpAnyH_done (by kernel_rfl) ?_ _
        clear hH;go_wp2
        go_roundw
        case rel=>exact⟨k+1,a5,c5,by omega,by go_num,zwr,zwu,zqj⟩
        case measure=>simp[intOf];omega
      . obtain⟨Z2,hYe,hBS,hbb⟩:∃Y,Y=Z1.alloc (.cells #[.slice (some ⟨gM,0,none⟩) n n] 37)/\Bk 37 Y Z1.heap.size [.slice (some ⟨gM,0,none⟩) n n]/\Below Z1.heap.size Z1 Y:=⟨_,rfl,Bk.new _ _ _,bl1 _⟩
        have zki:=zn3.trans (hbb.mono zn3.size)
        have hwz2:=zsf.trans (hbb.mono zsf.size)
        replace hXG:=hXG.below hbb;replace hRQ:=hRQ.below hbb;replace hMG:=hMG.below hbb;go_simp;rw[<-hYe];clear hYe
        refine hK.out _ _ (HFX.out Z2 zki) (fun hH=>?_)
        clear hK K hbb
        try simp only[Act.put,pZ]
        obtain⟨gB,hgB⟩:∃g,Z1.heap.size=g:=⟨_,rfl⟩
        rw[hgB]at hBS ⊢;clear hgB
        refine hCall (i:=2) rfl (by kernel_rfl) (by rfl) (fun K hK=>?_)
        obtain⟨-,-,-,g3,-⟩:=hXG.elevenH;go_simp
        refine hK.out _ _ (HFX.out Z2 zki) (fun hH=>?_)
        clear hK K g3
        try simp only[Act.put,pZ]
        refine hCall (i:=9) rfl (by kernel_rfl) (by rfl) (fun K hK=>?_)
        obtain⟨aM,cM,eM,hri,-⟩:=hMG.slice;injection eM with eM1 eM2 eM3;subst eM1 eM3;clear eM2
        refine zb3 _ _ rfl (gG+1) _ _ rfl hRQ gB (some ⟨gM,0,none⟩) n (List.replicate n 0) rfl (by rw[List.length_replicate];exact hBS.cell 0 (by simp)) hri (fun b9 o9 e9 _=>by
         cases e9
         exact⟨fun e2=>by have:=HLO.out _ e2;omega,by omega⟩) (by rw[List.length_replicate];omega) (by have:=hXG.lt;omega) ?_
        intro v9 w9 hT9 hgrow
        have hX9:=hXG.grown hgrow (fun e2=>by have:=HLO.out _ e2;omega)
        have hb9:Below y2.heap.size y2 w9:=zki.grown hgrow zki.size (fun q9 hq9=>by have:=HLO.out _ hq9;have:=HGG.out;omega)
        rw[<-List.replicate_succ']at hT9;obtain⟨a5,c5,rfl,-⟩:=hT9.slice;rw[List.length_replicate]at hT9 ⊢
        refine hK.out _ _ (HFX.out w9 hb9) (fun hH=>?_)
        clear hK K hXG hRQ hMG hBS hri hgrow
        try simp only[Act.put,pZ]
        refine hT 10 hH ?_;refine hT 11 hH ?_
        refine hCall (i:=12) rfl (by kernel_rfl) (by rfl) (fun K hK=>?_)
        obtain⟨-,-,-,g3,-⟩:=hX9.elevenH
        have f3:=hX9.fz 3
        go_simp
        have kk:Kp gG w9 (w9.setCell ⟨gG,3,none⟩ (.slice a5 (k+1) c5)):=(Kp.refl gG w9).setCell 3 _
        have zqj:Below y2.heap.size y2 (w9.setCell ⟨gG,3,none⟩ (.slice a5 (k+1) c5)):=hb9.trans (kk.below hb9.size (by rw[HGG.out];exact Nat.le_refl _))
        have zwr:Hid (Bk 36 (w9.setCell ⟨gG,3,none⟩ (.slice a5 (k+1) c5)) gG [.slice xa xl xc,.slice ba bd.length bc,.slice ga n gc,.slice a5 (k+1) c5,.slice la x.gl.length lc,.slice ta tl tc,.slice da dl dc,.slice ra x.rn.length rc,.slice ka x.lk.length kc,.slice fa x.ft.length fc,.slice sa x.sw.length sc]):=hX9.set 3 _
        have zwu:Hid (Rq (gG+1) (w9.setCell ⟨gG,3,none⟩ (.slice a5 (k+1) c5)) (.slice a5 (k+1) c5) (List.replicate (k+1) (List.replicate n 0))):=hT9.other (Nat.lt_succ_self _) kk.size (fun b9 hq9 hne=>kk.block hq9 hne)
        refine hK.out _ _ (HFX.out _ zqj) (fun hH=>?_)
        clear hK K hX9 hT9 g3 f3 kk
        try simp only[Act.put,pZ]
        refine wpAnyH_done (by kernel_rfl) ?_ _
        clear hH;go_wp2
        go_roundw
        case rel=>exact⟨k+1,a5,c5,by omega,by go_num,zwr,zwu,zqj⟩
        case measure=>simp[intOf];omega
  . have hkN:k=N:=by omega
    subst hkN
    have hrii:Rii wr a9 c9 (List.replicate k (List.replicate n 0)):=by
     obtain⟨a7,c7,e7,h7⟩:=HRQ.out.slice;injection e7 with e8 e9 e10;subst e8 e10
     exact h7
    obtain⟨m,hm⟩:∃m,List.replicate k (List.replicate n (0:Int))=m:=⟨_,rfl⟩
    have hml:m.length=k:=by rw[<-hm,List.length_replicate]
    have HMZ:Hid (∀r∈m,∀z∈r,z=0):=fun r hr z hz=>by
     rw[<-hm]at hr;rw[List.eq_of_mem_replicate hr]at hz
     exact List.eq_of_mem_replicate hz
    rw[hm]at hrii
    have hBw:=hb2.trans (hB.mono hb2.size)
    have HFN:Hid (∀Y,Below wr.heap.size wr Y->FoR S Y ⟨xa,xl,xc,ba,bd.length,bc,ga,gc,a9,c9,la,lc,ta,tl,tc,da,dl,dc,ra,rc,ka,kc,fa,fc,sa,sc⟩ ⟨x.gl,⟨x.s.rg,m⟩,x.rn,x.lk,x.ft,x.sw⟩):=fun Y hY=>by
     have h9:=HFR.out Y (hBw.trans (hY.mono hBw.size))
     exact⟨h9.hg,hrii.below hY,h9.hl,h9.hr,h9.hk,h9.hf,h9.hs⟩
    have hFBN:FoB ⟨x.gl,⟨x.s.rg,m⟩,x.rn,x.lk,x.ft,x.sw⟩:=⟨hFB.gl,hFB.rg,hFB.r8,by show m.length<=2000;omega,hFB.fw,hFB.no⟩
    have HS1:Hid (∀Y,Below wr.heap.size wr Y->Calls Tryz.prog 12 #[.agg #[.slice xa xl xc,.slice ba bd.length bc,.slice ga n gc,.slice a9 k c9,.slice la x.gl.length lc,.slice ta tl tc,.slice da dl dc,.slice ra x.rn.length rc,.slice ka x.lk.length kc,.slice fa x.ft.length fc,.slice sa x.sw.length sc],.slice c cs.length cc,.string t,.slice o on.length oc] Y fun e w'=>PaA (plP ⟨x.gl,⟨x.s.rg,m⟩,x.rn,x.lk,x.ft,x.sw⟩ cs (sb t) on) Y.heap.size w' e/\Below Y.heap.size Y w'):=fun Y hY=>by
     have hYw:=hBw.trans (hY.mono hBw.size)
     have h9:=zbk S _ _ c cc cs t o oc on Y (HFN.out Y hY) hFBN (HCS.out Y hYw) (HOS.out Y hYw) (by omega) (HTS.out Y hYw)
     dsimp only[fV]at h9
     rw[hml,HNN.out.2]at h9
     exact h9
    have HS2:Hid (∀Y,Below wr.heap.size wr Y->Calls Tryz.prog 12 #[.agg #[.slice xa xl xc,.slice ba bd.length bc,.slice ga n gc,.slice a9 k c9,.slice la x.gl.length lc,.slice ta tl tc,.slice da dl dc,.slice ra x.rn.length rc,.slice ka x.lk.length kc,.slice fa x.ft.length fc,.slice sa x.sw.length sc],.slice c2 ds.length k2,.string t,.slice o on.length oc] Y fun e w'=>PaA (plP ⟨x.gl,⟨x.s.rg,m⟩,x.rn,x.lk,x.ft,x.sw⟩ ds (sb t) on) Y.heap.size w' e/\Below Y.heap.size Y w'):=fun Y hY=>by
     have hYw:=hBw.trans (hY.mono hBw.size)
     have h9:=zbk S _ _ c2 k2 ds t o oc on Y (HFN.out Y hY) hFBN (HDS.out Y hYw) (HOS.out Y hYw) (by omega) (HTS.out Y hYw)
     dsimp only[fV]at h9
     rw[hml,HNN.out.2]at h9
     exact h9
    have HC1:Hid (∀Y,Below wr.heap.size wr Y->Calls Tryz.prog 22 #[.slice fa x.ft.length fc,.slice sa x.sw.length sc,.slice c cs.length cc,.slice o on.length oc] Y fun e w'=>RowF (chFt x.ft x.sw cs on) Y.heap.size w' e/\Below Y.heap.size Y w'):=fun Y hY=>by
     have hYw:=hBw.trans (hY.mono hBw.size)
     have h9:=HFR.out Y hYw
     exact zct S fa fc x.ft sa sc x.sw c cc cs o oc on Y h9.hf h9.hs (HCS.out Y hYw) (HOS.out Y hYw) hFB.f1 hFB.f2 (by have:=hFB.f3;omega)
    have HC2:Hid (∀Y,Below wr.heap.size wr Y->Calls Tryz.prog 22 #[.slice fa x.ft.length fc,.slice sa x.sw.length sc,.slice c2 ds.length k2,.slice o on.length oc] Y fun e w'=>RowF (chFt x.ft x.sw ds on) Y.heap.size w' e/\Below Y.heap.size Y w'):=fun Y hY=>by
     have hYw:=hBw.trans (hY.mono hBw.size)
     have h9:=HFR.out Y hYw
     exact zct S fa fc x.ft sa sc x.sw c2 k2 ds o oc on Y h9.hf h9.hs (HDS.out Y hYw) (HOS.out Y hYw) hFB.f1 hFB.f2 (by have:=hFB.f3;omega)
    have HEQ:Hid (chFt x.ft x.sw cs on=chFt x.ft x.sw ds on->plP ⟨x.gl,⟨x.s.rg,m⟩,x.rn,x.lk,x.ft,x.sw⟩ cs (sb t) on=plP ⟨x.gl,⟨x.s.rg,m⟩,x.rn,x.lk,x.ft,x.sw⟩ ds (sb t) on):=fun he=>zlf (x:=⟨x.gl,⟨x.s.rg,m⟩,x.rn,x.lk,x.ft,x.sw⟩) HMZ.out he
    generalize plP ⟨x.gl,⟨x.s.rg,m⟩,x.rn,x.lk,x.ft,x.sw⟩ cs (sb t) on=P1 at HS1 HEQ
    generalize plP ⟨x.gl,⟨x.s.rg,m⟩,x.rn,x.lk,x.ft,x.sw⟩ ds (sb t) on=P2 at HS2 HEQ
    have HXGk:Hid (Bk 36 wr gG _):=HXG.out
    have HAG:Hid (∀Y,Below wr.heap.size wr Y->(Y.cell? ⟨gG,9,none⟩=some (.slice fa x.ft.length fc)/\Y.cell? ⟨gG,10,none⟩=some (.slice sa x.sw.length sc))/\Y.cell? ⟨w.heap.size+1,0,none⟩=some (.slice c cs.length cc)/\Y.cell? ⟨w.heap.size+1,2,none⟩=some (.slice o on.length oc)):=fun Y hY=>by
     obtain⟨q0,q1,q2⟩:=HFA.out Y (hB.trans (hY.mono hB.size))
     obtain⟨-,-,-,-,-,-,-,-,-,q9,q10⟩:=(HXG.out.below hY).elevenH
     exact⟨⟨q9,q10⟩,q0,q2⟩
    have g4:¬(k:Int)<(k:Int):=by omega
    clear hrii hm HMZ HFR HCS HDS HOS HTS HFN hFBN hFB HRQ HXG HMK HNN
    go_upto_region 9 with fail
    clear x2 x3
    refine wp_region_held_drew (S:=fun Y=>(Y.cell? ⟨gG,9,none⟩=some (.slice fa x.ft.length fc)/\Y.cell? ⟨gG,10,none⟩=some (.slice sa x.sw.length sc))/\Y.cell? ⟨w.heap.size+1,0,none⟩=some (.slice c cs.length cc)/\Y.cell? ⟨w.heap.size+1,2,none⟩=some (.slice o on.length oc)) (by kernel_rfl) (HAG.out _ Below.drew1) (fun hH=>?_)
    have hdr:Below wr.heap.size wr wr.drew:=Below.drew1
    generalize wr.drew=Z at hdr hH ⊢
    refine hT 0 hH ?_;refine hT 1 hH ?_;refine hT 2 hH ?_;refine hT 3 hH ?_;refine hT 4 hH ?_;refine hT 5 hH ?_;refine hT 6 hH ?_;refine hT 7 hH ?_;refine hT 9 hH ?_;refine hT 10 hH ?_;refine hT 11 hH ?_;refine hT 12 hH ?_;refine hT 13 hH ?_;refine hT 14 hH ?_
    refine hT 15 hH ?_
    refine hCall (i:=8) rfl (by kernel_rfl) (by rfl) (fun K hK=>?_)
    go_simp
    refine(HC1.out Z hdr).mono ?_
    rintro e v1 ⟨hr,hc⟩;obtain⟨v,rfl,hG⟩:=hr.out;obtain⟨oa,od,rfl,R1,-⟩:=hG.slice
    have hd1:=hdr.trans (hc.mono hdr.size)
    clear hr hG hc hH hdr
    go_wp2_with fail
    refine hK.out _ _ (HAG.out _ hd1) (fun hH=>?_)
    clear hK K
    try simp only[Act.put,pZ]
    refine hCall (i:=16) rfl (by kernel_rfl) (by rfl) (fun K hK=>?_)
    go_simp
    refine(HC2.out v1 hd1).mono ?_
    rintro e v2 ⟨hr,hc⟩;obtain⟨v,rfl,hG⟩:=hr.out;obtain⟨ob,oe,rfl,R2,-⟩:=hG.slice;replace R1:=R1.below hc
    have hd2:=hd1.trans (hc.mono hd1.size)
    clear hr hG hc hH hd1
    go_wp2_with fail
    refine hK.out _ _ (HAG.out _ hd2) (fun hH=>?_)
    clear hK K
    try simp only[Act.put,pZ]
    have hsa:=zje oa ob od oe (chFt x.ft x.sw cs on) (chFt x.ft x.sw ds on) v2 R1 R2
    clear R1 R2 HC1 HC2
    refine hCall (i:=17) rfl (by kernel_rfl) (by rfl) (fun K hK=>?_)
    go_simp
    refine hsa.mono ?_
    rintro e v3 ⟨hr,hc⟩;obtain⟨q,rfl,hq⟩:=hr.out
    have HQ:Hid (_):=hq
    have hd3:=hd2.trans (hc.mono hd2.size)
    clear hr hc hH hd2 hsa hq
    go_wp2_with fail
    refine hK.out _ _ (HAG.out _ hd3) (fun hH=>?_)
    clear hK K
    try simp only[Act.put,pZ]
    have hB3:=hB.trans (hd3.mono hB.size)
    have hBw3:=hBw.trans (hd3.mono hBw.size)
    cases q with
    | false =>
     refine hT 18 hH ?_
     refine wpAnyH_done (by kernel_rfl) ?_ _
     clear hH HQ
     go_wp2_with fail
     go_ret
     exact⟨rfl,hBw3⟩
    | true =>
     refine hT 18 hH ?_
     refine wpAnyH_done (by kernel_rfl) ?_ _
     have he:=HEQ.out (HQ.out rfl)
     rw[<-he]at HS2
     have X3:=HXGk.out.below hd3
     obtain⟨z0,z1,z2⟩:=HFA.out v3 hB3
     obtain⟨x0,x1,x2,x3,x4,x5,x6,x7,x8,x9,x10⟩:=X3.elevenH
     have hcl:=HS1.out v3 hd3
     clear hH HQ HEQ he
     go_wp2_with fail
     refine hcl.mono ?_
     rintro e v4 ⟨hr,hb⟩;obtain⟨v,rfl,hG⟩:=hr.out;obtain⟨pa,pc,rfl,H1,-⟩:=hG.slice
     have hd4:=hd3.trans (hb.mono hd3.size)
     have hB4:=hB.trans (hd4.mono hB.size)
     clear hcl hr hG hb HS1 X3 x0 x1 x2 x3 x4 x5 x6 x7 x8 x9 x10 z0 z1 z2
     have X4:=HXGk.out.below hd4
     obtain⟨z0,z1,z2⟩:=HFA.out v4 hB4
     obtain⟨x0,x1,x2,x3,x4,x5,x6,x7,x8,x9,x10⟩:=X4.elevenH
     have hcl:=HS2.out v4 hd4
     have HP1:Hid (Gr PdE (fun _=>False) v4 pa pc P1.2):=H1
     clear H1
     go_wp2_with fail
     refine hcl.mono ?_
     rintro e v5 ⟨hr,hb⟩;obtain⟨v,rfl,hG⟩:=hr.out;obtain⟨qa,qc,rfl,H2,-⟩:=hG.slice
     have hd5:=hd4.trans (hb.mono hd4.size)
     have hBw5:=hBw.trans (hd5.mono hBw.size)
     have hsm:=zjd _ _ pa pc qa qc P1.2 v5 (HP1.out.below hb) H2
     clear hcl hr hG hb HS2 X4 HP1 H2 x0 x1 x2 x3 x4 x5 x6 x7 x8 x9 x10 z0 z1 z2
     generalize P1.2.length=n1 at hsm ⊢
     generalize P1.1=e1 at ⊢
     have gE:(e1==e1)=true:=beq_self_eq_true e1
     go_wp2_with fail
     refine hsm.mono ?_
     rintro e v6 ⟨rfl,hb⟩
     have zae:=hBw5.trans (hb.mono hBw5.size)
     clear hsm hb
     go_wp2_with fail
     go_ret
     exact⟨rfl,zae⟩
