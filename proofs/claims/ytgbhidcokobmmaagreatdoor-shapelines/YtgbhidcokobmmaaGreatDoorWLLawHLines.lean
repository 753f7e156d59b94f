import Derived.Test.YtgbhidcokobmmaaGreatDoorZL35
set_option maxHeartbeats 8000000
set_option maxRecDepth 100000
set_option linter.unusedSimpArgs false
set_option linter.unusedVariables false
namespace Go.Proofs.YtgbhidcokobmmaaGreatDoor
open Go.RowKit Go.Maps
theorem zf5(S:Nat->Prop)(d:FoD)(x:Fo)(bd:List (List (Int×Int)))(c:Option Addr)(cc:Nat)(cs:List Int)(t:ByteArray)(o:Option Addr)(oc:Nat)(on:List ByteArray)(w:World)(h:FoR S w d x)(hX:FoX S w d x bd)(hc:Gr El.int S w c cc cs)(ho:Gr El.str S w o oc on)(hts:t.size<=maxLen)(hT:Spn w) :
 Calls Tryz.prog 3 #[fV d x,.agg #[.slice c cs.length cc,.string t,.slice o on.length oc]] w fun e w'=>e=.returned (.bool true)/\Below w.heap.size w w':=by
 have kcs:=hc.lenB
 have kos:=ho.lenB
 have ktt:t.size<=9223372036854775807:=by unfold maxLen at hts;exact hts
 have ebl:=hX.bl
 obtain⟨xa,xl,xc,ba,bl,bc,ga,gc,ma,mc,la,lc,ta,tl,tc,da,dl,dc,ra,rc,ka,kc,fa,fc,sa,sc⟩:=d;dsimp only at ebl;subst ebl
 dsimp only[fV]
 have HRL:Hid (FoB x->t.size<=500->∀U,Below w.heap.size w U->Calls Tryz.prog 11 #[.agg #[.slice xa xl xc,.slice ba bd.length bc,.slice ga x.s.rg.length gc,.slice ma x.s.rw.length mc,.slice la x.gl.length lc,.slice ta tl tc,.slice da dl dc,.slice ra x.rn.length rc,.slice ka x.lk.length kc,.slice fa x.ft.length fc,.slice sa x.sw.length sc],.slice c cs.length cc,.string t,.slice o on.length oc] U fun e w'=>LnR (lnP x cs (sb t) on) w' e/\Below U.heap.size U w'):=fun hB ht U hU=>zge S ⟨xa,xl,xc,ba,bd.length,bc,ga,gc,ma,mc,la,lc,ta,tl,tc,da,dl,dc,ra,rc,ka,kc,fa,fc,sa,sc⟩ x c cc cs t o oc on U (h.below hU) hB (hc.below hU) (ho.below hU) (by omega)
 have HRS:Hid (FoB x->t.size<=500->∀U,Below w.heap.size w U->Calls Tryz.prog 13 #[.agg #[.slice xa xl xc,.slice ba bd.length bc,.slice ga x.s.rg.length gc,.slice ma x.s.rw.length mc,.slice la x.gl.length lc,.slice ta tl tc,.slice da dl dc,.slice ra x.rn.length rc,.slice ka x.lk.length kc,.slice fa x.ft.length fc,.slice sa x.sw.length sc],.slice c cs.length cc,.string t,.slice o on.length oc] U fun e w'=>PaS (plP x cs (sb t) on) w' e/\Below U.heap.size U w'):=fun hB ht U hU=>zjf S ⟨xa,xl,xc,ba,bd.length,bc,ga,gc,ma,mc,la,lc,ta,tl,tc,da,dl,dc,ra,rc,ka,kc,fa,fc,sa,sc⟩ x c cc cs t o oc on U (h.below hU) hB (hc.below hU) (ho.below hU) (by omega)
 have HRR:Hid (FoB x->∀U,Below w.heap.size w U->Calls Tryz.prog 17 #[.agg #[.slice xa xl xc,.slice ba bd.length bc,.slice ga x.s.rg.length gc,.slice ma x.s.rw.length mc,.slice la x.gl.length lc,.slice ta tl tc,.slice da dl dc,.slice ra x.rn.length rc,.slice ka x.lk.length kc,.slice fa x.ft.length fc,.slice sa x.sw.length sc]] U fun e w'=>e=.returned (.bool (shB x))/\Below U.heap.size U w'):=fun hB U hU=>zem S ⟨xa,xl,xc,ba,bd.length,bc,ga,gc,ma,mc,la,lc,ta,tl,tc,da,dl,dc,ra,rc,ka,kc,fa,fc,sa,sc⟩ x U (h.below hU) hB
 have HAW:Hid (∀U,Below w.heap.size w U->Calls Tryz.prog 8 #[] U fun e w'=>e=.returned (.bool true)/\Below U.heap.size U w'):=fun U hU=>zkv U (hT.below hU)
 have HFE:Hid (∀U,Below w.heap.size w U->Calls Tryz.prog 9 #[.agg #[.slice xa xl xc,.slice ba bd.length bc,.slice ga x.s.rg.length gc,.slice ma x.s.rw.length mc,.slice la x.gl.length lc,.slice ta tl tc,.slice da dl dc,.slice ra x.rn.length rc,.slice ka x.lk.length kc,.slice fa x.ft.length fc,.slice sa x.sw.length sc],.agg #[.slice c cs.length cc,.string t,.slice o on.length oc]] U fun e w'=>zgw (FoB x/\cs.length<=20/\t.size<=500/\on.length<=50) e/\Below U.heap.size U w'):=fun U hU=>zq1 S ⟨xa,xl,xc,ba,bd.length,bc,ga,gc,ma,mc,la,lc,ta,tl,tc,da,dl,dc,ra,rc,ka,kc,fa,fc,sa,sc⟩ x bd c cc cs t o oc on U (h.below hU) (hX.below hU) kcs kos ktt
 have HLN:Hid (FoB x->t.size<=500->∀U,Below w.heap.size w U->Calls Tryz.prog 10 #[.agg #[.slice xa xl xc,.slice ba bd.length bc,.slice ga x.s.rg.length gc,.slice ma x.s.rw.length mc,.slice la x.gl.length lc,.slice ta tl tc,.slice da dl dc,.slice ra x.rn.length rc,.slice ka x.lk.length kc,.slice fa x.ft.length fc,.slice sa x.sw.length sc],.slice c cs.length cc,.string t,.slice o on.length oc] U fun e w'=>LnR (lnP x cs (sb t) on) w' e/\Below U.heap.size U w'):=fun hB ht U hU=>zgo S ⟨xa,xl,xc,ba,bd.length,bc,ga,gc,ma,mc,la,lc,ta,tl,tc,da,dl,dc,ra,rc,ka,kc,fa,fc,sa,sc⟩ x c cc cs t o oc on U (h.below hU) hB (hc.below hU) (ho.below hU) (by omega) (hT.below hU)
 have HSP:Hid (FoB x->t.size<=500->∀U,Below w.heap.size w U->Calls Tryz.prog 12 #[.agg #[.slice xa xl xc,.slice ba bd.length bc,.slice ga x.s.rg.length gc,.slice ma x.s.rw.length mc,.slice la x.gl.length lc,.slice ta tl tc,.slice da dl dc,.slice ra x.rn.length rc,.slice ka x.lk.length kc,.slice fa x.ft.length fc,.slice sa x.sw.length sc],.slice c cs.length cc,.string t,.slice o on.length oc] U fun e w'=>PaA (plP x cs (sb t) on) U.heap.size w' e/\Below U.heap.size U w'):=fun hB ht U hU=>zf0 S ⟨xa,xl,xc,ba,bd.length,bc,ga,gc,ma,mc,la,lc,ta,tl,tc,da,dl,dc,ra,rc,ka,kc,fa,fc,sa,sc⟩ x c cc cs t o oc on U (h.below hU) hB (hc.below hU) (ho.below hU) (by omega) (hT.below hU)
 have HSS:Hid (FoB x->∀U,Below w.heap.size w U->Calls Tryz.prog 16 #[.agg #[.slice xa xl xc,.slice ba bd.length bc,.slice ga x.s.rg.length gc,.slice ma x.s.rw.length mc,.slice la x.gl.length lc,.slice ta tl tc,.slice da dl dc,.slice ra x.rn.length rc,.slice ka x.lk.length kc,.slice fa x.ft.length fc,.slice sa x.sw.length sc]] U fun e w'=>e=.returned (.bool (shB x))/\Below U.heap.size U w'):=fun hB U hU=>zes S ⟨xa,xl,xc,ba,bd.length,bc,ga,gc,ma,mc,la,lc,ta,tl,tc,da,dl,dc,ra,rc,ka,kc,fa,fc,sa,sc⟩ x U (h.below hU) hB (hT.below hU)
 obtain⟨W,hW,XW,XA,hbW⟩:∃W,W=(w.alloc (.cells #[.slice xa xl xc,.slice ba bd.length bc,.slice ga x.s.rg.length gc,.slice ma x.s.rw.length mc,.slice la x.gl.length lc,.slice ta tl tc,.slice da dl dc,.slice ra x.rn.length rc,.slice ka x.lk.length kc,.slice fa x.ft.length fc,.slice sa x.sw.length sc] 36)).alloc (.cells #[.slice c cs.length cc,.string t,.slice o on.length oc] 40)/\Bk 36 W w.heap.size [.slice xa xl xc,.slice ba bd.length bc,.slice ga x.s.rg.length gc,.slice ma x.s.rw.length mc,.slice la x.gl.length lc,.slice ta tl tc,.slice da dl dc,.slice ra x.rn.length rc,.slice ka x.lk.length kc,.slice fa x.ft.length fc,.slice sa x.sw.length sc]/\Bk 40 W (w.heap.size+1) [.slice c cs.length cc,.string t,.slice o on.length oc]/\Below w.heap.size w W:=by
  obtain⟨h1,h2,h3⟩:=new2B w 36 40 [.slice xa xl xc,.slice ba bd.length bc,.slice ga x.s.rg.length gc,.slice ma x.s.rw.length mc,.slice la x.gl.length lc,.slice ta tl tc,.slice da dl dc,.slice ra x.rn.length rc,.slice ka x.lk.length kc,.slice fa x.ft.length fc,.slice sa x.sw.length sc] [.slice c cs.length cc,.string t,.slice o on.length oc]
  exact⟨_,rfl,h1,h2,h3⟩
 have haw:=HAW.out W hbW
 have HXW:Hid (Bk 36 W w.heap.size _):=XW
 have HXA:Hid (Bk 40 W (w.heap.size+1) _):=XA
 clear h hX hc ho hts hT XW XA
 go_enter Tryz.func3,Tryz.ntmps3
 go_upto_region 1 with fail
 rw[<-hW];clear hW
 go_wp2_with fail
 refine haw.mono ?_
 rintro e y1 ⟨rfl,hb⟩
 have hb1:=hbW.trans (hb.mono hbW.size)
 have X1:=HXW.out.below hb
 have A1:=HXA.out.below hb
 have hfe:=HFE.out y1 hb1
 clear haw hb HXW HXA HFE;obtain⟨x0,x1,x2,x3,x4,x5,x6,x7,x8,x9,x10⟩:=X1.elevenH;obtain⟨z0,z1,z2,-⟩:=A1.three
 go_wp2_with fail
 refine hfe.mono ?_
 rintro e y2 ⟨hbo,hb⟩;obtain⟨qf,rfl,hqf⟩:=hbo.out
 have hb2:=hb1.trans (hb.mono hb1.size)
 have X2:=X1.below hb
 have A2:=A1.below hb
 clear hfe hb hbo X1 A1 x0 x1 x2 x3 x4 x5 x6 x7 x8 x9 x10 z0 z1 z2
 cases qf with
 | false =>
  have zaf:=hb2
  clear hqf X2 A2
  go_wp2_with fail
  refine(HAW.out _ zaf).mono ?_
  rintro e uz ⟨rfl,hbz⟩
  replace zaf:=zaf.trans (hbz.mono zaf.size)
  clear hbz
  go_wp2_with fail
  go_ret
  exact⟨rfl,zaf⟩
 | true =>
 obtain⟨hFB,hcs,ht5,hon⟩:=hqf rfl
 clear hqf hb1 hbW
 have hcl:=HLN.out hFB ht5 y2 hb2
 obtain⟨x0,x1,x2,x3,x4,x5,x6,x7,x8,x9,x10⟩:=X2.elevenH;obtain⟨z0,z1,z2,-⟩:=A2.three
 go_wp2_with fail
 refine hcl.mono ?_
 rintro e y3 ⟨hr,hb⟩;obtain⟨va,vc,rfl,hG⟩:=hr.out
 have HL3:Hid (Gr El.int (fun _=>True) y3 va vc (lnP x cs (sb t) on).2):=hG
 clear hr hG HLN
 have hb3:=hb2.trans (hb.mono hb2.size)
 have X3:=X2.below hb
 have A3:=A2.below hb
 clear hcl X2 A2 x0 x1 x2 x3 x4 x5 x6 x7 x8 x9 x10 z0 z1 z2
 have hcl:=HRL.out hFB ht5 y3 hb3
 obtain⟨x0,x1,x2,x3,x4,x5,x6,x7,x8,x9,x10⟩:=X3.elevenH;obtain⟨z0,z1,z2,-⟩:=A3.three
 go_wp2_with fail
 refine hcl.mono ?_
 rintro e y4 ⟨hr,hb⟩;obtain⟨vb,vd,rfl,hG⟩:=hr.out
 have HR4:Hid (Gr El.int (fun _=>True) y4 vb vd (lnP x cs (sb t) on).2):=hG
 have HL4:Hid (Gr El.int (fun _=>True) y4 va vc (lnP x cs (sb t) on).2):=HL3.out.below hb
 clear hr hG HL3 HRL
 have hb4:=hb3.trans (hb.mono hb3.size)
 have X4:=X3.below hb
 have A4:=A3.below hb
 clear hcl X3 A3 x0 x1 x2 x3 x4 x5 x6 x7 x8 x9 x10 z0 z1 z2
 have hcl:=HSP.out hFB ht5 y4 hb4
 obtain⟨x0,x1,x2,x3,x4,x5,x6,x7,x8,x9,x10⟩:=X4.elevenH;obtain⟨z0,z1,z2,-⟩:=A4.three
 go_wp2_with fail
 refine hcl.mono ?_
 rintro e y5 ⟨hr,hb⟩;obtain⟨v5,rfl,hG⟩:=hr.out;obtain⟨pa,pc,rfl,hgr,-⟩:=hG.slice
 have HP5:Hid (Gr PdE (fun _=>False) y5 pa pc (plP x cs (sb t) on).2):=hgr
 have HR5:Hid (Gr El.int (fun _=>True) y5 vb vd (lnP x cs (sb t) on).2):=HR4.out.below hb
 have HL5:Hid (Gr El.int (fun _=>True) y5 va vc (lnP x cs (sb t) on).2):=HL4.out.below hb
 clear hr hG hgr HL4 HR4 HSP
 have hb5:=hb4.trans (hb.mono hb4.size)
 have X5:=X4.below hb
 have A5:=A4.below hb
 clear hcl X4 A4 x0 x1 x2 x3 x4 x5 x6 x7 x8 x9 x10 z0 z1 z2
 have hcl:=HRS.out hFB ht5 y5 hb5
 obtain⟨x0,x1,x2,x3,x4,x5,x6,x7,x8,x9,x10⟩:=X5.elevenH;obtain⟨z0,z1,z2,-⟩:=A5.three
 go_wp2_with fail
 refine hcl.mono ?_
 rintro e y6 ⟨hr,hb⟩;obtain⟨qa,qc,rfl,hgr⟩:=hr.out
 have HQ6:Hid (Gr PdE (fun _=>False) y6 qa qc (plP x cs (sb t) on).2):=hgr
 have HP6:Hid (Gr PdE (fun _=>False) y6 pa pc (plP x cs (sb t) on).2):=HP5.out.below hb
 have HR6:Hid (Gr El.int (fun _=>True) y6 vb vd (lnP x cs (sb t) on).2):=HR5.out.below hb
 have HL6:Hid (Gr El.int (fun _=>True) y6 va vc (lnP x cs (sb t) on).2):=HL5.out.below hb
 clear hr hgr HL5 HR5 HP5 HRS
 have hb6:=hb5.trans (hb.mono hb5.size)
 have X6:=X5.below hb
 have A6:=A5.below hb
 clear hcl X5 A5 x0 x1 x2 x3 x4 x5 x6 x7 x8 x9 x10 z0 z1 z2
 have HC1:Hid (_):=HSS.out hFB
 have HC2:Hid (_):=HRR.out hFB
 clear HAW hFB hcs hon HSS HRR
 generalize shB x=sh at HC1 HC2
 have hsi:=fun U hU=>zmq va vb vc vd (lnP x cs (sb t) on).2 U (HL6.out.ri.below hU) (HR6.out.ri.below hU)
 have hsp:=fun U hU=>zmp _ _ pa pc qa qc (plP x cs (sb t) on).2 U (HP6.out.below hU) (HQ6.out.below hU)
 have hw1:=fun U hU=>zfz _ pa pc (plP x cs (sb t) on).2 U (HP6.out.below hU)
 have hw2:=fun U hU=>zjb _ qa qc (plP x cs (sb t) on).2 U (HQ6.out.below hU)
 clear HL6 HR6 HP6 HQ6
 generalize wiP (plP x cs (sb t) on).2=y0 at hw1 hw2
 generalize (plP x cs (sb t) on).2.length=n2 at hsp hw1 hw2 ⊢
 generalize (lnP x cs (sb t) on).2.length=n1 at hsi ⊢
 generalize (plP x cs (sb t) on).1=E2 at ⊢
 generalize (lnP x cs (sb t) on).1=E1 at ⊢
 have HS1:Hid (_):=hsi
 have HS2:Hid (_):=hsp
 have HW1:Hid (_):=hw1
 have HW2:Hid (_):=hw2
 have gE1:(E1==E1)=true:=beq_self_eq_true E1
 have gE2:(E2==E2)=true:=beq_self_eq_true E2
 have gSH:(sh==sh)=true:=beq_self_eq_true sh
 have gY0:(y0==y0)=true:=beq_self_eq_true y0
 clear hsi hsp hw1 hw2 A6
 go_upto_region 7 with fail
 refine wp_region_held_drew (S:=fun u=>u.cell? ⟨w.heap.size,0,none⟩=some (.slice xa xl xc)/\u.cell? ⟨w.heap.size,1,none⟩=some (.slice ba bd.length bc)/\u.cell? ⟨w.heap.size,2,none⟩=some (.slice ga x.s.rg.length gc)/\u.cell? ⟨w.heap.size,3,none⟩=some (.slice ma x.s.rw.length mc)/\u.cell? ⟨w.heap.size,4,none⟩=some (.slice la x.gl.length lc)/\u.cell? ⟨w.heap.size,5,none⟩=some (.slice ta tl tc)/\u.cell? ⟨w.heap.size,6,none⟩=some (.slice da dl dc)/\u.cell? ⟨w.heap.size,7,none⟩=some (.slice ra x.rn.length rc)/\u.cell? ⟨w.heap.size,8,none⟩=some (.slice ka x.lk.length kc)/\u.cell? ⟨w.heap.size,9,none⟩=some (.slice fa x.ft.length fc)/\u.cell? ⟨w.heap.size,10,none⟩=some (.slice sa x.sw.length sc)) (by kernel_rfl) X6.elevenH (fun hH=>?_)
 have hdZ:Below y6.heap.size y6 y6.drew:=Below.drew1
 have XZ:=X6.below hdZ
 generalize y6.drew=Z at hdZ XZ hH ⊢
 clear X6;refine hT 0 hH ?_;refine hT 1 hH ?_;refine hT 2 hH ?_;refine hT 3 hH ?_;refine hT 4 hH ?_;refine hT 5 hH ?_
 refine hCall (i:=6) rfl (by kernel_rfl) (by rfl) (fun K hK=>?_)
 go_simp
 refine(HS1.out Z hdZ).mono ?_
 rintro e v1 ⟨rfl,hc⟩
 have hdv1:=hdZ.trans (hc.mono hdZ.size)
 have X1:=XZ.below hc
 clear hc hH
 go_wp2_with fail
 refine hK.out _ _ X1.elevenH (fun hH=>?_)
 clear hK K
 try simp only[Act.put,pZ]
 refine hT 7 hH ?_;refine hT 8 hH ?_;refine hT 9 hH ?_;refine hT 10 hH ?_;refine hT 11 hH ?_;refine hT 12 hH ?_;refine hT 13 hH ?_;refine hT 14 hH ?_;refine hT 15 hH ?_
 refine hCall (i:=16) rfl (by kernel_rfl) (by rfl) (fun K hK=>?_)
 go_simp
 refine(HS2.out v1 hdv1).mono ?_
 rintro e v2 ⟨rfl,hc⟩
 have hdv2:=hdv1.trans (hc.mono hdv1.size)
 have X2:=X1.below hc
 clear hc hH
 go_wp2_with fail
 refine hK.out _ _ X2.elevenH (fun hH=>?_)
 clear hK K
 try simp only[Act.put,pZ]
 refine hT 17 hH ?_;refine hT 18 hH ?_;refine hT 19 hH ?_;refine hT 21 hH ?_
 refine hCall (i:=20) rfl (by kernel_rfl) (by rfl) (fun K hK=>?_)
 go_simp
 refine(HC1.out v2 (hb6.trans (hdv2.mono hb6.size))).mono ?_
 rintro e v3 ⟨rfl,hc⟩
 have hdv3:=hdv2.trans (hc.mono hdv2.size)
 have X3:=X2.below hc
 clear hc hH
 go_wp2_with fail
 refine hK.out _ _ X3.elevenH (fun hH=>?_)
 clear hK K
 try simp only[Act.put,pZ]
 refine hCall (i:=22) rfl (by kernel_rfl) (by rfl) (fun K hK=>?_)
 go_simp
 refine(HC2.out v3 (hb6.trans (hdv3.mono hb6.size))).mono ?_
 rintro e v4 ⟨rfl,hc⟩
 have hdv4:=hdv3.trans (hc.mono hdv3.size)
 have X4:=X3.below hc
 clear hc hH
 go_wp2_with fail
 refine hK.out _ _ X4.elevenH (fun hH=>?_)
 clear hK K
 try simp only[Act.put,pZ]
 refine hT 23 hH ?_;refine hT 24 hH ?_;refine hT 25 hH ?_;refine hT 26 hH ?_;refine hT 28 hH ?_
 refine hCall (i:=27) rfl (by kernel_rfl) (by rfl) (fun K hK=>?_)
 go_simp
 refine(HW1.out v4 hdv4).mono ?_
 rintro e v5 ⟨rfl,hc⟩
 have hdv5:=hdv4.trans (hc.mono hdv4.size)
 have X5:=X4.below hc
 clear hc hH
 go_wp2_with fail
 refine hK.out _ _ X5.elevenH (fun hH=>?_)
 clear hK K
 try simp only[Act.put,pZ]
 refine hCall (i:=29) rfl (by kernel_rfl) (by rfl) (fun K hK=>?_)
 go_simp
 refine(HW2.out v5 hdv5).mono ?_
 rintro e v6 ⟨rfl,hc⟩
 have hdv6:=hdv5.trans (hc.mono hdv5.size)
 have X7:=X5.below hc
 clear hc hH
 go_wp2_with fail
 refine hK.out _ _ X7.elevenH (fun hH=>?_)
 clear hK K
 try simp only[Act.put,pZ]
 refine hT 30 hH ?_;refine hT 31 hH ?_;refine hT 32 hH ?_
 refine wpAnyH_done (by kernel_rfl) ?_ _
 have zaf:=hb6.trans (hdv6.mono hb6.size)
 clear hH;go_wp2
 go_ret
 exact⟨rfl,zaf⟩
