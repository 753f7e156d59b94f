import Derived.Test.YtgbhidcokobmmaaGreatDoorZG26
set_option maxHeartbeats 8000000
set_option maxRecDepth 100000
set_option linter.unusedSimpArgs false
set_option linter.unusedVariables false
namespace Go.Proofs.YtgbhidcokobmmaaGreatDoor
open Go.RowKit Go.Maps
theorem zeh(S:Nat->Prop)(d:FoD)(x:Fo)(bd:List (List (Int×Int)))(c:Option Addr)(cc:Nat)(cs:List Int)(t:ByteArray)(o:Option Addr)(oc:Nat)(on:List ByteArray)(w:World)(h:FoR S w d x)(hX:FoX S w d x bd)(hc:Gr El.int S w c cc cs)(ho:Gr El.str S w o oc on)(hts:t.size<=maxLen)(hT:Spn w) :
 Calls Tryz.prog 5 #[fV d x,.agg #[.slice c cs.length cc,.string t,.slice o on.length oc]] w fun e w'=>e=.returned (.bool true)/\Below w.heap.size w w':=by
 have kcs:=hc.lenB
 have kos:=ho.lenB
 have ktt:t.size<=9223372036854775807:=by unfold maxLen at hts;exact hts
 have ebl:=hX.bl
 obtain⟨xa,xl,xc,ba,bl,bc,ga,gc,ma,mc,la,lc,ta,tl,tc,da,dl,dc,ra,rc,ka,kc,fa,fc,sa,sc⟩:=d;dsimp only at ebl;subst ebl
 dsimp only[fV]
 have HAW:Hid (∀U,Below w.heap.size w U->Calls Tryz.prog 8 #[] U fun e w'=>e=.returned (.bool true)/\Below U.heap.size U w'):=fun U hU=>zcu U (hT.below hU)
 have HFE:Hid (∀U,Below w.heap.size w U->Calls Tryz.prog 9 #[.agg #[.slice xa xl xc,.slice ba bd.length bc,.slice ga x.s.rg.length gc,.slice ma x.s.rw.length mc,.slice la x.gl.length lc,.slice ta tl tc,.slice da dl dc,.slice ra x.rn.length rc,.slice ka x.lk.length kc,.slice fa x.ft.length fc,.slice sa x.sw.length sc],.agg #[.slice c cs.length cc,.string t,.slice o on.length oc]] U fun e w'=>zd1 (FoB x/\cs.length<=20/\t.size<=500/\on.length<=50) e/\Below U.heap.size U w'):=fun U hU=>zev S ⟨xa,xl,xc,ba,bd.length,bc,ga,gc,ma,mc,la,lc,ta,tl,tc,da,dl,dc,ra,rc,ka,kc,fa,fc,sa,sc⟩ x bd c cc cs t o oc on U (h.below hU) (hX.below hU) kcs kos ktt
 have HLN:Hid (FoB x->t.size<=500->∀U,Below w.heap.size w U->Calls Tryz.prog 10 #[.agg #[.slice xa xl xc,.slice ba bd.length bc,.slice ga x.s.rg.length gc,.slice ma x.s.rw.length mc,.slice la x.gl.length lc,.slice ta tl tc,.slice da dl dc,.slice ra x.rn.length rc,.slice ka x.lk.length kc,.slice fa x.ft.length fc,.slice sa x.sw.length sc],.slice c cs.length cc,.string t,.slice o on.length oc] U fun e w'=>LnR (lnP x cs (sb t) on) w' e/\Below U.heap.size U w'):=fun hB ht U hU=>zfb S ⟨xa,xl,xc,ba,bd.length,bc,ga,gc,ma,mc,la,lc,ta,tl,tc,da,dl,dc,ra,rc,ka,kc,fa,fc,sa,sc⟩ x c cc cs t o oc on U (h.below hU) hB (hc.below hU) (ho.below hU) (by omega) (hT.below hU)
 have HSP:Hid (FoB x->t.size<=500->∀U,Below w.heap.size w U->Calls Tryz.prog 12 #[.agg #[.slice xa xl xc,.slice ba bd.length bc,.slice ga x.s.rg.length gc,.slice ma x.s.rw.length mc,.slice la x.gl.length lc,.slice ta tl tc,.slice da dl dc,.slice ra x.rn.length rc,.slice ka x.lk.length kc,.slice fa x.ft.length fc,.slice sa x.sw.length sc],.slice c cs.length cc,.string t,.slice o on.length oc] U fun e w'=>PaA (plP x cs (sb t) on) U.heap.size w' e/\Below U.heap.size U w'):=fun hB ht U hU=>zbk S ⟨xa,xl,xc,ba,bd.length,bc,ga,gc,ma,mc,la,lc,ta,tl,tc,da,dl,dc,ra,rc,ka,kc,fa,fc,sa,sc⟩ x c cc cs t o oc on U (h.below hU) hB (hc.below hU) (ho.below hU) (by omega) (hT.below hU)
 obtain⟨W,hW,XW,XA,hbW⟩:∃W,W=(w.alloc (.cells #[.slice xa xl xc,.slice ba bd.length bc,.slice ga x.s.rg.length gc,.slice ma x.s.rw.length mc,.slice la x.gl.length lc,.slice ta tl tc,.slice da dl dc,.slice ra x.rn.length rc,.slice ka x.lk.length kc,.slice fa x.ft.length fc,.slice sa x.sw.length sc] 36)).alloc (.cells #[.slice c cs.length cc,.string t,.slice o on.length oc] 40)/\Bk 36 W w.heap.size [.slice xa xl xc,.slice ba bd.length bc,.slice ga x.s.rg.length gc,.slice ma x.s.rw.length mc,.slice la x.gl.length lc,.slice ta tl tc,.slice da dl dc,.slice ra x.rn.length rc,.slice ka x.lk.length kc,.slice fa x.ft.length fc,.slice sa x.sw.length sc]/\Bk 40 W (w.heap.size+1) [.slice c cs.length cc,.string t,.slice o on.length oc]/\Below w.heap.size w W:=by
  obtain⟨h1,h2,h3⟩:=new2B w 36 40 [.slice xa xl xc,.slice ba bd.length bc,.slice ga x.s.rg.length gc,.slice ma x.s.rw.length mc,.slice la x.gl.length lc,.slice ta tl tc,.slice da dl dc,.slice ra x.rn.length rc,.slice ka x.lk.length kc,.slice fa x.ft.length fc,.slice sa x.sw.length sc] [.slice c cs.length cc,.string t,.slice o on.length oc]
  exact⟨_,rfl,h1,h2,h3⟩
 have haw:=HAW.out W hbW
 have HXW:Hid (Bk 36 W w.heap.size _):=XW
 have HXA:Hid (Bk 40 W (w.heap.size+1) _):=XA
 clear h hX hc ho hts hT XW XA
 go_enter Tryz.func5,Tryz.ntmps5
 go_upto_region 1 with fail
 rw[<-hW];clear hW
 go_wp2_with fail
 refine haw.mono ?_
 rintro e y1 ⟨rfl,hb⟩
 have hb1:=hbW.trans (hb.mono hbW.size)
 have X1:=HXW.out.below hb
 have A1:=HXA.out.below hb
 have hfe:=HFE.out y1 hb1
 clear haw hb HXW HXA HFE;obtain⟨x0,x1,x2,x3,x4,x5,x6,x7,x8,x9,x10⟩:=X1.elevenH;obtain⟨z0,z1,z2,-⟩:=A1.three
 go_wp2_with fail
 refine hfe.mono ?_
 rintro e y2 ⟨hbo,hb⟩;obtain⟨qf,rfl,hqf⟩:=hbo.out
 have hb2:=hb1.trans (hb.mono hb1.size)
 have X2:=X1.below hb
 have A2:=A1.below hb
 clear hfe hb hbo X1 A1 x0 x1 x2 x3 x4 x5 x6 x7 x8 x9 x10 z0 z1 z2
 cases qf with
 | false =>
  have zae:=hb2
  clear hqf X2 A2
  go_wp2_with fail
  refine(HAW.out _ zae).mono ?_
  rintro e uz ⟨rfl,hbz⟩
  replace zae:=zae.trans (hbz.mono zae.size)
  clear hbz
  go_wp2_with fail
  go_ret
  exact⟨rfl,zae⟩
 | true =>
 obtain⟨hFB,hcs,ht5,hon⟩:=hqf rfl
 clear hqf hb1 hbW
 have HKP:Hid ((lnP x cs (sb t) on).1=0->(plP x cs (sb t) on).1=0->(plP x cs (sb t) on).2.length=(lnP x cs (sb t) on).2.length/\naL (plP x cs (sb t) on).2=(lnP x cs (sb t) on).2):=zoo
 have HKB:Hid ((plP x cs (sb t) on).1≠0->(plP x cs (sb t) on).2=[]):=zrf
 have HKL:Hid ((lnP x cs (sb t) on).1≠0->plP x cs (sb t) on=((lnP x cs (sb t) on).1,[])):=zd6
 have hcl:=HLN.out hFB ht5 y2 hb2
 obtain⟨x0,x1,x2,x3,x4,x5,x6,x7,x8,x9,x10⟩:=X2.elevenH;obtain⟨z0,z1,z2,-⟩:=A2.three
 go_wp2_with fail
 refine hcl.mono ?_
 rintro e y3 ⟨hr,hb⟩;obtain⟨va,vc,rfl,hG⟩:=hr.out
 have HL3:Hid (Gr El.int (fun _=>True) y3 va vc (lnP x cs (sb t) on).2):=hG
 clear hr hG
 have hb3:=hb2.trans (hb.mono hb2.size)
 have X3:=X2.below hb
 have A3:=A2.below hb
 clear hcl X2 A2 x0 x1 x2 x3 x4 x5 x6 x7 x8 x9 x10 z0 z1 z2
 have hcl:=HSP.out hFB ht5 y3 hb3
 obtain⟨x0,x1,x2,x3,x4,x5,x6,x7,x8,x9,x10⟩:=X3.elevenH;obtain⟨z0,z1,z2,-⟩:=A3.three
 go_wp2_with fail
 refine hcl.mono ?_
 rintro e y4 ⟨hr,hb⟩;obtain⟨v4,rfl,hG⟩:=hr.out;obtain⟨pa,pc,rfl,hgr,-⟩:=hG.slice
 have HP4:Hid (Gr PdE (fun _=>False) y4 pa pc (plP x cs (sb t) on).2):=hgr
 have HL4:Hid (Gr El.int (fun _=>True) y4 va vc (lnP x cs (sb t) on).2):=HL3.out.below hb
 clear hr hG hgr HL3
 have hb4:=hb3.trans (hb.mono hb3.size)
 have X4:=X3.below hb
 have A4:=A3.below hb
 clear hcl X3 A3 x0 x1 x2 x3 x4 x5 x6 x7 x8 x9 x10 z0 z1 z2;clear HLN HSP HAW hFB hcs hon
 generalize plP x cs (sb t) on=PP at HKP HKB HKL HP4 ⊢
 generalize lnP x cs (sb t) on=LL at HKP HKL HL4 ⊢
 obtain⟨E,L⟩:=LL;obtain⟨F,P⟩:=PP
 dsimp only at HL4 HP4 ⊢
 have kL:=HL4.out.lenB
 have kP:=HP4.out.lenB
 by_cases h0:E=0
 rotate_left
 . have hpe:=HKL.out h0
   injection hpe with e1 e2;dsimp only at e1;subst e1 e2
   have g1:(F != 0)=true:=bne_iff_ne.2 h0
   have g2:(F==F)=true:=beq_self_eq_true F
   clear HKP HKB HKL h0
   go_wp2_with fail
   go_ret
   exact⟨rfl,hb4⟩
 subst h0
 by_cases h0:F=0
 rotate_left
 . have hpe:P=[]:=HKB.out h0
   subst hpe
   have g1:(F != 0)=true:=bne_iff_ne.2 h0
   clear HKP HKB HKL h0
   go_wp2_with fail
   go_ret
   exact⟨rfl,hb4⟩
 subst h0
 obtain⟨hln,hna⟩:=HKP.out rfl rfl
 dsimp only at hln hna
 have HAT:Hid (∀k,k<P.length->(P.getD k Pd.none).g=L.getD k 0):=fun k hk=>by rw[<-zl5,hna]
 have HLN:Hid (P.length=L.length):=hln
 clear HKP HKB HKL hna
 go_wp2_with fail
 go_loopw [9] (fun i wr=>∃k:Nat,k<=P.length/\i=.int .i64 k/\Below y4.heap.size y4 wr) (fun i _=>P.length-(intOf i).toNat)
 case atStart=>exact⟨0,Nat.zero_le _,rfl,Below.refl _ _⟩
 case round =>
  obtain⟨k,hk,rfl,hB⟩:=hrel
  have hBw:=hb4.trans (hB.mono hb4.size)
  by_cases hkn:k<P.length
  . obtain⟨b,off,ea,hb0,hw4,d0,d1,d2,d3⟩:=HP4.out.pd hB k hkn
    obtain⟨b2,o2,e2,hq3,d4⟩:=HL4.out.ri.at hB k (by omega)
    have hz:=HAT.out k hkn
    rw[hz]at d0
    generalize L.getD k 0=z at d0 d4 hz
    subst ea e2
    have i1:(0:Int)<=(k:Int):=by omega
    have i2:(k:Int)<(P.length:Int):=by omega
    have i3:(k:Int)<(L.length:Int):=by omega
    have g1:(z != z)=false:=by simp
    have zsj:b<wr.heap.size:=Nat.lt_of_lt_of_le hb0 hB.size
    have hlt2:b2<wr.heap.size:=Nat.lt_of_lt_of_le hq3 hB.size
    clear hw4 hz d1 d2 d3
    go_upto_region 12 with fail
    refine wp_region_held_drew (S:=fun u=>u.cell? ⟨b,off+k*4,none⟩=some (.int .i64 z)/\u.cell? ⟨b2,o2+k,none⟩=some (.int .i64 z)) (by kernel_rfl) ⟨d0,d4⟩ (fun hH=>?_)
    have hdr:Below wr.heap.size wr wr.drew:=Below.drew1
    generalize wr.drew=Z at hdr hH ⊢
    have hBZ:=hB.trans (hdr.mono hB.size)
    clear d0 d4 hdr;refine hT 0 hH ?_;refine hT 1 hH ?_;refine hT 2 hH ?_;refine hT 3 hH ?_;refine hT 4 hH ?_;refine hT 5 hH ?_;refine hT 6 hH ?_;refine hT 7 hH ?_;refine hT 8 hH ?_;refine hT 9 hH ?_
    refine wpAnyH_done (by kernel_rfl) ?_ _
    clear hH;go_wp2
    go_roundw
    case rel=>exact⟨k+1,by omega,by go_num,hBZ⟩
    case measure=>simp[intOf];omega
  . obtain rfl:k=P.length:=by omega
    have g4:¬(P.length:Int)<(P.length:Int):=by omega
    have g5:((P.length:Int)==(L.length:Int))=true:=by rw[hln];simp
    go_wp2_with fail
    go_ret
    exact⟨rfl,hBw⟩
