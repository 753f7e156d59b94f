import Derived.Test.YtgbhidcokobmmaaGreatDoorZG27
set_option maxHeartbeats 8000000
set_option maxRecDepth 100000
set_option linter.unusedSimpArgs false
set_option linter.unusedVariables false
namespace Go.Proofs.YtgbhidcokobmmaaGreatDoor
open Go.RowKit Go.Maps
theorem zlh{x:Fo}{cs:List Int}{t:List Nat}(h:shB x=true)(h2:100<(mpC x.rn t).length):plP x cs t []=(3,[]):=by
 have h3:=zik (cs:=cs) (on:=[]) h h2
 have h4:=zd6 (x:=x) (cs:=cs) (t:=t) (on:=[]) (by rw[h3];decide)
 rw[h4,h3]
theorem ze3(S:Nat->Prop)(d:FoD)(x:Fo)(bd:List (List (Int×Int)))(c:Option Addr)(cc:Nat)(cs:List Int)(t:ByteArray)(o:Option Addr)(oc:Nat)(on:List ByteArray)(w:World)(h:FoR S w d x)(hX:FoX S w d x bd)(hc:Gr El.int S w c cc cs)(ho:Gr El.str S w o oc on)(hts:t.size<=maxLen)(hT:Spn w) :
 Calls Tryz.prog 4 #[fV d x,.agg #[.slice c cs.length cc,.string t,.slice o on.length oc]] w fun e w'=>e=.returned (.bool true)/\Below w.heap.size w w':=by
 have kcs:=hc.lenB
 have kos:=ho.lenB
 have ktt:t.size<=9223372036854775807:=by unfold maxLen at hts;exact hts
 have ebl:=hX.bl
 obtain⟨xa,xl,xc,ba,bl,bc,ga,gc,ma,mc,la,lc,ta,tl,tc,da,dl,dc,ra,rc,ka,kc,fa,fc,sa,sc⟩:=d;dsimp only at ebl;subst ebl
 dsimp only[fV]
 have HMP:Hid (FoB x->t.size<=500->∀U,Below w.heap.size w U->Calls Tryz.prog 20 #[.slice ra x.rn.length rc,.string t] U fun e w'=>(∃v,e=.returned v/\Io U.heap.size w' v (mpC x.rn (sb t)))/\Below U.heap.size U w'):=fun hB ht U hU=>(zoc S ra rc x.rn t U (h.hr.below hU) (by omega) hB.no).mono (fun e w' ⟨v,h1,h2,h3⟩=>⟨⟨v,h1,h2⟩,h3⟩)
 have HRO:Hid (∀b r,I64 b->I64 r->FoB x->∀U,Below w.heap.size w U->Calls Tryz.prog 21 #[.agg #[.slice ga x.s.rg.length gc,.slice ma x.s.rw.length mc],.agg #[.int .i64 b,.int .i64 r],.slice c cs.length cc] U fun e w'=>e=.returned (.tuple #[.int .i64 (roN x.s b r cs),.int .i64 (roE x.s b r cs)])/\Below U.heap.size U w'):=fun b r hb hr hB U hU=>zcb ga gc ma mc x.s b r c cc cs U (h.hg.below hU) (h.hm.below hU) (hc.ri.below hU) hb hr hB.g40 hB.r8
 have HGL:Hid (Gr GlE S w la lc x.gl):=h.hl
 have HAW:Hid (∀U,Below w.heap.size w U->Calls Tryz.prog 8 #[] U fun e w'=>e=.returned (.bool true)/\Below U.heap.size U w'):=fun U hU=>zcu U (hT.below hU)
 have HFE:Hid (∀U,Below w.heap.size w U->Calls Tryz.prog 9 #[.agg #[.slice xa xl xc,.slice ba bd.length bc,.slice ga x.s.rg.length gc,.slice ma x.s.rw.length mc,.slice la x.gl.length lc,.slice ta tl tc,.slice da dl dc,.slice ra x.rn.length rc,.slice ka x.lk.length kc,.slice fa x.ft.length fc,.slice sa x.sw.length sc],.agg #[.slice c cs.length cc,.string t,.slice o on.length oc]] U fun e w'=>zd1 (FoB x/\cs.length<=20/\t.size<=500/\on.length<=50) e/\Below U.heap.size U w'):=fun U hU=>zev S ⟨xa,xl,xc,ba,bd.length,bc,ga,gc,ma,mc,la,lc,ta,tl,tc,da,dl,dc,ra,rc,ka,kc,fa,fc,sa,sc⟩ x bd c cc cs t o oc on U (h.below hU) (hX.below hU) kcs kos ktt
 have HSN:Hid (FoB x->t.size<=500->∀U,Below w.heap.size w U->Calls Tryz.prog 12 #[.agg #[.slice xa xl xc,.slice ba bd.length bc,.slice ga x.s.rg.length gc,.slice ma x.s.rw.length mc,.slice la x.gl.length lc,.slice ta tl tc,.slice da dl dc,.slice ra x.rn.length rc,.slice ka x.lk.length kc,.slice fa x.ft.length fc,.slice sa x.sw.length sc],.slice c cs.length cc,.string t,.slice none 0 0] U fun e w'=>PaA (plP x cs (sb t) []) U.heap.size w' e/\Below U.heap.size U w'):=fun hB ht U hU=>zbk S ⟨xa,xl,xc,ba,bd.length,bc,ga,gc,ma,mc,la,lc,ta,tl,tc,da,dl,dc,ra,rc,ka,kc,fa,fc,sa,sc⟩ x c cc cs t none 0 [] U (h.below hU) hB (hc.below hU) (Gr.nil _ _ _ _ _ (Nat.zero_le _) (fun _=>rfl)) (by omega) (hT.below hU)
 have HSS:Hid (FoB x->∀U,Below w.heap.size w U->Calls Tryz.prog 16 #[.agg #[.slice xa xl xc,.slice ba bd.length bc,.slice ga x.s.rg.length gc,.slice ma x.s.rw.length mc,.slice la x.gl.length lc,.slice ta tl tc,.slice da dl dc,.slice ra x.rn.length rc,.slice ka x.lk.length kc,.slice fa x.ft.length fc,.slice sa x.sw.length sc]] U fun e w'=>e=.returned (.bool (shB x))/\Below U.heap.size U w'):=fun hB U hU=>zdw S ⟨xa,xl,xc,ba,bd.length,bc,ga,gc,ma,mc,la,lc,ta,tl,tc,da,dl,dc,ra,rc,ka,kc,fa,fc,sa,sc⟩ x U (h.below hU) hB (hT.below hU)
 obtain⟨W,hW,XW,XA,hbW⟩:∃W,W=(w.alloc (.cells #[.slice xa xl xc,.slice ba bd.length bc,.slice ga x.s.rg.length gc,.slice ma x.s.rw.length mc,.slice la x.gl.length lc,.slice ta tl tc,.slice da dl dc,.slice ra x.rn.length rc,.slice ka x.lk.length kc,.slice fa x.ft.length fc,.slice sa x.sw.length sc] 36)).alloc (.cells #[.slice c cs.length cc,.string t,.slice o on.length oc] 40)/\Bk 36 W w.heap.size [.slice xa xl xc,.slice ba bd.length bc,.slice ga x.s.rg.length gc,.slice ma x.s.rw.length mc,.slice la x.gl.length lc,.slice ta tl tc,.slice da dl dc,.slice ra x.rn.length rc,.slice ka x.lk.length kc,.slice fa x.ft.length fc,.slice sa x.sw.length sc]/\Bk 40 W (w.heap.size+1) [.slice c cs.length cc,.string t,.slice o on.length oc]/\Below w.heap.size w W:=by
  obtain⟨h1,h2,h3⟩:=new2B w 36 40 [.slice xa xl xc,.slice ba bd.length bc,.slice ga x.s.rg.length gc,.slice ma x.s.rw.length mc,.slice la x.gl.length lc,.slice ta tl tc,.slice da dl dc,.slice ra x.rn.length rc,.slice ka x.lk.length kc,.slice fa x.ft.length fc,.slice sa x.sw.length sc] [.slice c cs.length cc,.string t,.slice o on.length oc]
  exact⟨_,rfl,h1,h2,h3⟩
 have haw:=HAW.out W hbW
 have HXW:Hid (Bk 36 W w.heap.size _):=XW
 have HXA:Hid (Bk 40 W (w.heap.size+1) _):=XA
 clear h hX hc ho hts hT XW XA
 go_enter Tryz.func4,Tryz.ntmps4
 go_upto_region 1 with fail
 rw[<-hW];clear hW
 go_wp2_with fail
 refine haw.mono ?_
 rintro e y1 ⟨rfl,hb⟩
 have hb1:=hbW.trans (hb.mono hbW.size)
 have X1:=HXW.out.below hb
 have A1:=HXA.out.below hb
 have hfe:=HFE.out y1 hb1
 clear haw hb HXW HXA HFE;obtain⟨x0,x1,x2,x3,x4,x5,x6,x7,x8,x9,x10⟩:=X1.elevenH;obtain⟨z0,z1,z2,-⟩:=A1.three
 go_wp2_with fail
 refine hfe.mono ?_
 rintro e y2 ⟨hbo,hb⟩;obtain⟨qf,rfl,hqf⟩:=hbo.out
 have hb2:=hb1.trans (hb.mono hb1.size)
 have X2:=X1.below hb
 have A2:=A1.below hb
 clear hfe hb hbo X1 A1 x0 x1 x2 x3 x4 x5 x6 x7 x8 x9 x10 z0 z1 z2
 cases qf with
 | false =>
  have zae:=hb2
  clear hqf X2 A2
  go_wp2_with fail
  refine(HAW.out _ zae).mono ?_
  rintro e uz ⟨rfl,hbz⟩
  replace zae:=zae.trans (hbz.mono zae.size)
  clear hbz
  go_wp2_with fail
  go_ret
  exact⟨rfl,zae⟩
 | true =>
 obtain⟨hFB,hcs,ht5,hon⟩:=hqf rfl
 clear hqf hb1 hbW
 obtain⟨sh,hS⟩:∃s,shB x=s:=⟨_,rfl⟩
 have hss:=HSS.out hFB y2 hb2
 rw[hS]at hss
 have HSH:Hid (shB x=sh):=hS
 clear hS HSS
 have hcl:=hss
 obtain⟨x0,x1,x2,x3,x4,x5,x6,x7,x8,x9,x10⟩:=X2.elevenH;obtain⟨z0,z1,z2,-⟩:=A2.three
 go_wp2_with fail
 refine hcl.mono ?_
 rintro e y3 ⟨rfl,hb⟩
 have hb3:=hb2.trans (hb.mono hb2.size)
 have X3:=X2.below hb
 have A3:=A2.below hb
 clear hcl X2 A2 x0 x1 x2 x3 x4 x5 x6 x7 x8 x9 x10 z0 z1 z2;clear hss
 cases sh with
 | false =>
  have zae:=hb3
  clear X3 A3
  go_wp2_with fail
  refine(HAW.out _ zae).mono ?_
  rintro e uz ⟨rfl,hbz⟩
  replace zae:=zae.trans (hbz.mono zae.size)
  clear hbz
  go_wp2_with fail
  go_ret
  exact⟨rfl,zae⟩
 | true =>
 have hcl:=HSN.out hFB ht5 y3 hb3
 obtain⟨x0,x1,x2,x3,x4,x5,x6,x7,x8,x9,x10⟩:=X3.elevenH;obtain⟨z0,z1,z2,-⟩:=A3.three
 go_wp2_with fail
 refine hcl.mono ?_
 rintro e y4 ⟨hr,hb⟩;obtain⟨v4,rfl,hG⟩:=hr.out;obtain⟨pa,pc,rfl,hgr,-⟩:=hG.slice
 have HP4:Hid (Gr PdE (fun _=>False) y4 pa pc (plP x cs (sb t) []).2):=hgr
 clear hr hG hgr HSN
 have hb4:=hb3.trans (hb.mono hb3.size)
 have X4:=X3.below hb
 have A4:=A3.below hb
 clear hcl X3 A3 x0 x1 x2 x3 x4 x5 x6 x7 x8 x9 x10 z0 z1 z2
 have hcl:=HMP.out hFB ht5 y4 hb4
 obtain⟨x0,x1,x2,x3,x4,x5,x6,x7,x8,x9,x10⟩:=X4.elevenH;obtain⟨z0,z1,z2,-⟩:=A4.three
 go_wp2_with fail
 refine hcl.mono ?_
 rintro e y5 ⟨⟨v5,rfl,hIo⟩,hb⟩
 obtain⟨ma2,mc2,rfl,hL⟩:=hIo.grL (S:=fun _=>True)
 have HM5:Hid (Gr El.int (fun _=>True) y5 ma2 mc2 (mpC x.rn (sb t))):=hL
 have HP5:Hid (Gr PdE (fun _=>False) y5 pa pc (plP x cs (sb t) []).2):=HP4.out.below hb
 clear hIo hL HP4 HMP
 have hb5:=hb4.trans (hb.mono hb4.size)
 have X5:=X4.below hb
 have A5:=A4.below hb
 clear hcl X4 A4 x0 x1 x2 x3 x4 x5 x6 x7 x8 x9 x10 z0 z1 z2
 have HPL:Hid (100<(mpC x.rn (sb t)).length->plP x cs (sb t) []=(3,[])):=zlh HSH.out
 have HPO:Hid (¬100<(mpC x.rn (sb t)).length->plP x cs (sb t) []=_):=zlg HSH.out
 generalize mpC x.rn (sb t)=M at HPL HPO HM5 ⊢
 have HPP:Hid (plP x cs (sb t) []=plP x cs (sb t) []):=rfl
 generalize plP x cs (sb t) []=PP at HPL HPO HP5 ⊢
 obtain⟨E,P⟩:=PP
 dsimp only at HP5 ⊢
 have kM:=HM5.out.lenB
 have kP:=HP5.out.lenB
 clear HAW HPP hcs hon
 by_cases hM:100<M.length
 . have hpe:=HPL.out hM
   injection hpe with e1 e2;subst e1 e2
   have d0:decide ((100:Int)<(M.length:Int))=true:=decide_eq_true (by omega)
   have d0n:decide (100<M.length)=true:=decide_eq_true hM
   clear hM HPL HPO
   go_wp2_with fail
   go_ret
   exact⟨rfl,hb5⟩
 have hpe:=HPO.out hM
 have d0:decide ((100:Int)<(M.length:Int))=false:=decide_eq_false (by omega)
 have d0n:decide (100<M.length)=false:=decide_eq_false hM
 by_cases hA:avF x.gl x.s cs M=0
 rotate_left
 . rw[if_neg hA]at hpe
   injection hpe with e1 e2;subst e1 e2
   have hor:=zwg x.gl x.s cs M
   generalize avF x.gl x.s cs M=A at hor hA ⊢
   clear HPL HPO
   rcases hor with h9|h9|h9|h9
   . exact absurd h9 hA
   all_goals
    subst h9;clear hM hA
    go_wp2_with fail
    go_ret
    exact⟨rfl,hb5⟩
 rw[if_pos hA]at hpe;injection hpe with e1 e2
 have hPl:P.length=M.length:=by rw[e2,zca]
 have HPA:Hid (∀k,k<M.length->P.getD k Pd.none=⟨M.getD k 0,0,0,avN x.gl x.s (M.getD k 0) cs⟩):=fun k hk=>by rw[e2,zmh hk,zwe hk]
 have HOK:Hid (∀k,k<M.length->avE x.gl x.s (M.getD k 0) cs=0):=zth hA
 subst e1;clear hA e2 HPL HPO
 have g9:((P.length:Int) != (M.length:Int))=false:=by rw[hPl];simp
 have HFB:Hid (FoB x):=hFB
 clear hFB
 have HX5:Hid (Bk 36 y5 w.heap.size _):=X5
 have HA5:Hid (Bk 40 y5 (w.heap.size+1) _):=A5
 clear X5 A5
 go_wp2_with fail
 have HPN:Hid (P.length=M.length):=hPl
 clear d0 d0n g9 hM hPl
 go_loopw [8] (fun i wr=>∃k:Nat,k<=P.length/\i=.int .i64 k/\Below y5.heap.size y5 wr) (fun i _=>P.length-(intOf i).toNat)
 case atStart=>exact⟨0,Nat.zero_le _,rfl,Below.refl _ _⟩
 case round =>
  obtain⟨k,hk,rfl,hB⟩:=hrel
  have hBw:=hb5.trans (hB.mono hb5.size)
  by_cases hkn:k<P.length
  . have hPl:=HPN.out
    obtain⟨q,hq,hql,hqn,hqe⟩:=av_ok (HOK.out k (by omega))
    have hpk:=HPA.out k (by omega)
    rw[hqn]at hpk
    obtain⟨b,off,ea,hb0,hw4,d0,d1,d2,d3⟩:=HP5.out.pd hB k hkn
    obtain⟨b2,o2,e2,hq3,d4⟩:=HM5.out.ri.at hB k (by omega)
    obtain⟨b3,o3,ca3,cc3,pa3,pc3,ta3,tc3,e3,hq4,hGC,g0,g1,g2,g3,g4,g5⟩:=HGL.out.gl hBw q hql
    have hro:=HRO.out (x.gl.getD q Gl.none).ab (x.gl.getD q Gl.none).ar hGC.2.2.2.1 hGC.2.2.2.2 HFB.out
    rw[hpk]at d0 d1 d2 d3;dsimp only at d0 d1 d2 d3;rw[hq]at d0 d4
    generalize (x.gl.getD q Gl.none).ab=ab at *
    generalize (x.gl.getD q Gl.none).ar=ar at *
    rw[hqe]at hro
    generalize roN x.s ab ar cs=n at *
    subst ea e2 e3
    have i1:(0:Int)<=(k:Int):=by omega
    have i2:(k:Int)<(P.length:Int):=by omega
    have i3:(k:Int)<(M.length:Int):=by omega
    have i4:(0:Int)<=(q:Int):=by omega
    have i5:(q:Int)<(x.gl.length:Int):=by omega
    have zsj:b<wr.heap.size:=Nat.lt_of_lt_of_le hb0 hB.size
    have hlt2:b2<wr.heap.size:=Nat.lt_of_lt_of_le hq3 hB.size
    have HRO2:Hid (∀U,Below w.heap.size w U->Calls Tryz.prog 21 #[.agg #[.slice ga x.s.rg.length gc,.slice ma x.s.rw.length mc],.agg #[.int .i64 ab,.int .i64 ar],.slice c cs.length cc] U fun e w'=>e=.returned (.tuple #[.int .i64 n,.int .i64 0])/\Below U.heap.size U w'):=hro
    have hXr:=HX5.out.below hB
    have hAr:=HA5.out.below hB
    clear hPl hw4 hGC g0 g1 g2 g5 hro hpk hqn hqe hq hb0 hq3;obtain⟨-,-,x2,x3,x4,-,-,-,-,-,-⟩:=hXr.elevenH;obtain⟨z0,-,-,-⟩:=hAr.three
    have HC1:Hid (∀U,Below wr.heap.size wr U->U.cell? ⟨b,off+k*4,none⟩=some (.int .i64 (q:Int))/\U.cell? ⟨b,off+k*4+1,none⟩=some (.int .i64 0)/\U.cell? ⟨b,off+k*4+2,none⟩=some (.int .i64 0)/\U.cell? ⟨b,off+k*4+3,none⟩=some (.int .i64 n)/\U.cell? ⟨b2,o2+k,none⟩=some (.int .i64 (q:Int))):=fun U hU =>
     ⟨(hU.cell (p:=⟨b,off+k*4,none⟩) zsj).trans d0,(hU.cell (p:=⟨b,off+k*4+1,none⟩) zsj).trans d1,(hU.cell (p:=⟨b,off+k*4+2,none⟩) zsj).trans d2,(hU.cell (p:=⟨b,off+k*4+3,none⟩) zsj).trans d3,(hU.cell (p:=⟨b2,o2+k,none⟩) hlt2).trans d4⟩
    have HXr:Hid (Bk 36 wr w.heap.size _):=hXr
    have HAr:Hid (Bk 40 wr (w.heap.size+1) _):=hAr
    have hlt3:b3<wr.heap.size:=Nat.lt_of_lt_of_le hq4 hBw.size
    have HC2:Hid (∀U,Below wr.heap.size wr U->(U.cell? ⟨b3,o3+q*6+3,none⟩=some (.int .i64 ab)/\U.cell? ⟨b3,o3+q*6+4,none⟩=some (.int .i64 ar))/\U.cell? ⟨w.heap.size,2,none⟩=some (.slice ga x.s.rg.length gc)/\U.cell? ⟨w.heap.size,3,none⟩=some (.slice ma x.s.rw.length mc)/\U.cell? ⟨w.heap.size,4,none⟩=some (.slice (some ⟨b3,o3,none⟩) x.gl.length lc)/\U.cell? ⟨w.heap.size+1,0,none⟩=some (.slice c cs.length cc)/\U.cell? ⟨b2,o2+k,none⟩=some (.int .i64 (q:Int))):=fun U hU =>
     ⟨⟨(hU.cell (p:=⟨b3,o3+q*6+3,none⟩) hlt3).trans g3,(hU.cell (p:=⟨b3,o3+q*6+4,none⟩) hlt3).trans g4⟩,(hU.cell (p:=⟨w.heap.size,2,none⟩) HXr.out.lt).trans x2,(hU.cell (p:=⟨w.heap.size,3,none⟩) HXr.out.lt).trans x3,(hU.cell (p:=⟨w.heap.size,4,none⟩) HXr.out.lt).trans x4,(hU.cell (p:=⟨w.heap.size+1,0,none⟩) HAr.out.lt).trans z0,(hU.cell (p:=⟨b2,o2+k,none⟩) hlt2).trans d4⟩
    clear hXr hAr x2 x3 x4 z0 d0 d1 d2 d3 d4 g3 g4 zsj hlt2 hlt3 hq4
    go_upto_region 14 with fail
    refine wp_region_held_drew (S:=fun U=>(U.cell? ⟨b3,o3+q*6+3,none⟩=some (.int .i64 ab)/\U.cell? ⟨b3,o3+q*6+4,none⟩=some (.int .i64 ar))/\U.cell? ⟨w.heap.size,2,none⟩=some (.slice ga x.s.rg.length gc)/\U.cell? ⟨w.heap.size,3,none⟩=some (.slice ma x.s.rw.length mc)/\U.cell? ⟨w.heap.size,4,none⟩=some (.slice (some ⟨b3,o3,none⟩) x.gl.length lc)/\U.cell? ⟨w.heap.size+1,0,none⟩=some (.slice c cs.length cc)/\U.cell? ⟨b2,o2+k,none⟩=some (.int .i64 (q:Int))) (by kernel_rfl) (HC2.out _ Below.drew1) (fun hH=>?_)
    have hdr:Below wr.heap.size wr wr.drew:=Below.drew1
    generalize wr.drew=Z at hdr hH ⊢
    refine hT 0 hH ?_;refine hT 1 hH ?_;refine hT 2 hH ?_;refine hT 3 hH ?_;refine hT 4 hH ?_;refine hT 5 hH ?_;refine hT 6 hH ?_;refine hT 7 hH ?_;refine hT 8 hH ?_;refine hT 9 hH ?_;refine hT 10 hH ?_;refine hT 11 hH ?_;refine hT 12 hH ?_
    refine hCall (i:=13) rfl (by kernel_rfl) (by rfl) (fun K hK=>?_)
    go_simp
    refine(HRO2.out Z (hBw.trans (hdr.mono hBw.size))).mono ?_
    rintro e v1 ⟨rfl,hc⟩
    have hd1:=hdr.trans (hc.mono hdr.size)
    clear hc hH hdr
    go_wp2_with fail
    refine hK.out _ _ (HC2.out _ hd1) (fun hH=>?_)
    clear hK K
    try simp only[Act.put,pZ]
    refine hT 14 hH ?_;refine hT 15 hH ?_;refine hT 16 hH ?_;refine hT 17 hH ?_;refine hT 18 hH ?_
    refine wpAnyH_done (by kernel_rfl) ?_ _
    have hB1:=hB.trans (hd1.mono hB.size)
    clear hH
    go_upto_region 15 with fail
    refine wp_region_held_drew (S:=fun U=>U.cell? ⟨b,off+k*4,none⟩=some (.int .i64 (q:Int))/\U.cell? ⟨b,off+k*4+1,none⟩=some (.int .i64 0)/\U.cell? ⟨b,off+k*4+2,none⟩=some (.int .i64 0)/\U.cell? ⟨b,off+k*4+3,none⟩=some (.int .i64 n)/\U.cell? ⟨b2,o2+k,none⟩=some (.int .i64 (q:Int))) (by kernel_rfl) (HC1.out _ (hd1.trans (Below.drew1.mono hd1.size))) (fun hH=>?_)
    have hdr:Below v1.heap.size v1 v1.drew:=Below.drew1
    generalize v1.drew=Z2 at hdr hH ⊢
    have hBZ:=hB1.trans (hdr.mono hB1.size)
    clear hdr hd1 hB1;refine hT 0 hH ?_;refine hT 1 hH ?_;refine hT 2 hH ?_;refine hT 3 hH ?_;refine hT 4 hH ?_;refine hT 5 hH ?_;refine hT 6 hH ?_;refine hT 7 hH ?_;refine hT 8 hH ?_;refine hT 9 hH ?_;refine hT 10 hH ?_;refine hT 11 hH ?_;refine hT 12 hH ?_
    refine hTake (i:=13) (v:=.bool false) rfl (by kernel_rfl) (by kernel_rfl) (by kernel_rfl) (fun _ _ _ h=>h) (Or.inl ⟨by rfl,?y10⟩) hH ?r10
    case y10 =>
     intro w9 hSw
     (try dsimp only at hSw)
     go_simp
    try simp only[Act.put,pZ]
    refine hT 14 hH ?_
    refine wpAnyH_done (by kernel_rfl) ?_ _
    clear hH;go_wp2
    go_roundw
    case rel=>exact⟨k+1,by omega,by go_num,hBZ⟩
    case measure=>simp[intOf];omega
  . obtain rfl:k=P.length:=by omega
    have g4:¬(P.length:Int)<(P.length:Int):=by omega
    go_wp2_with fail
    go_ret
    exact⟨rfl,hBw⟩
