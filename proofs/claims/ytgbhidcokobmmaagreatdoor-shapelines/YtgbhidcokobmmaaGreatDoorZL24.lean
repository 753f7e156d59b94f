import Derived.Test.YtgbhidcokobmmaaGreatDoorZL23
set_option maxHeartbeats 16000000
set_option maxRecDepth 100000
set_option linter.unusedSimpArgs false
set_option linter.unusedVariables false
namespace Go.Proofs.YtgbhidcokobmmaaGreatDoor
open Go.RowKit Go.Maps
def otV(ms:List Bool)(kd:Int)(sk:Bool)(L:List Int)(i:Nat)(A:List Int):Int :=
 if kd=7 then bkQ ms L (i:Int)else (match meQ ms L sk (i:Int) A with | none=>-1 | some m=>m.getD (m.length-1) 0)
def otB(ms:List Bool)(kd:Int)(sk:Bool)(L:List Int)(i:Nat)(A:List Int):Bool :=
 if kd=7 then (((!decide (bkQ ms L (i:Int)=-1)&&mkB ms (L.getD i 0))&&decide (L.getD (bkQ ms L (i:Int)).toNat 0=A.getD 0 0))&&decide (L.getD i 0=A.getD 1 0))else meB ms L sk (i:Int) A
theorem ap_ot{ms:List Bool}{kd:Int}{sk:Bool}{L:List Int}{i:Nat}{A:List Int}(hi:i<L.length)(hA:A.length=inN kd)(hk:kd=5\/kd=6\/kd=7) :
 apN ms kd sk L i A=if otB ms kd sk L i A then some (if kd=6 then otV ms kd sk L i A else (i:Int)+1,if kd=7 then otV ms kd sk L i A else 0)else none:=by
 rcases hk with rfl|rfl|rfl
 . obtain⟨g,rfl⟩:∃g,A=[g]:=by
     match A,hA with
     | [g],_=>exact⟨g,rfl⟩
   have hp:plB L (i:Int)=true:=zal.2 ⟨by omega,by omega⟩
   have e1:apN ms 5 sk L i [g]=if g=L.getD i 0 then some ((i:Int)+1,0)else none:=by unfold apN;rw[if_pos rfl];rfl
   have e2:otB ms 5 sk L i [g]=meB ms L sk (i:Int) [g]:=by unfold otB;rw[if_neg (by decide)]
   have e3:meQ ms L sk (i:Int) [g]=if L.getD i 0=g then some [(i:Int)]else none:=by
    show(if plB L (i:Int)=true/\L.getD (i:Int).toNat 0=g then (meF ms L sk (i:Int) []).map (fun l=>(i:Int)::l)else none)=_
    rw[hp,Int.toNat_natCast]
    by_cases hg:L.getD i 0=g
    . rw[if_pos ⟨rfl,hg⟩,if_pos hg];rfl
    . rw[if_neg (fun h=>hg h.2),if_neg hg]
   rw[e1,e2]
   unfold meB
   rw[e3]
   by_cases hg:g=L.getD i 0
   . rw[if_pos hg,if_pos (show L.getD i 0=g from hg.symm)];rfl
   . rw[if_neg hg,if_neg (show ¬L.getD i 0=g from fun h=>hg h.symm)];rfl
 . have e1:apN ms 6 sk L i A=(meQ ms L sk (i:Int) A).map (fun m=>(m.getD 1 0,0)):=by unfold apN;rw[if_neg (by decide),if_pos rfl]
   have e2:otB ms 6 sk L i A=meB ms L sk (i:Int) A:=by unfold otB;rw[if_neg (by decide)]
   have e3:otV ms 6 sk L i A=(match meQ ms L sk (i:Int) A with | none=>-1 | some m=>m.getD (m.length-1) 0):=by unfold otV;rw[if_neg (by decide)]
   rw[e1,e2,e3]
   unfold meB
   cases hm:meQ ms L sk (i:Int) A with
   | none=>rfl
   | some m =>
    have hl:=(me_r hm).len
    rw[hA]at hl
    have e:m.length-1=1:=by rw[hl];rfl
    show some (m.getD 1 0,(0:Int))=some (m.getD (m.length-1) 0,0)
    rw[e]
 . have e2:otB ms 7 sk L i A=(((!decide (bkQ ms L (i:Int)=-1)&&mkB ms (L.getD i 0))&&decide (L.getD (bkQ ms L (i:Int)).toNat 0=A.getD 0 0))&&decide (L.getD i 0=A.getD 1 0)):=by unfold otB;rw[if_pos rfl]
   have e3:otV ms 7 sk L i A=bkQ ms L (i:Int):=by unfold otV;rw[if_pos rfl]
   rw[e2,e3]
   by_cases h:mkB ms (L.getD i 0)=true/\A.getD 1 0=L.getD i 0/\bkQ ms L (i:Int)≠-1/\A.getD 0 0=L.getD (bkQ ms L (i:Int)).toNat 0
   . have e1:apN ms 7 sk L i A=some ((i:Int)+1,bkQ ms L (i:Int)):=by unfold apN;rw[if_neg (show ¬(7:Int)=5 by decide),if_neg (show ¬(7:Int)=6 by decide),if_pos h]
     rw[e1,h.1,decide_eq_false h.2.2.1,decide_eq_true h.2.2.2.symm,decide_eq_true h.2.1.symm]
     rfl
   . have e1:apN ms 7 sk L i A=none:=by unfold apN;rw[if_neg (show ¬(7:Int)=5 by decide),if_neg (show ¬(7:Int)=6 by decide),if_neg h]
     rw[e1]
     symm
     apply if_neg
     intro h2
     simp only[Bool.and_eq_true,Bool.not_eq_true',decide_eq_true_iff,decide_eq_false_iff_not]at h2
     exact h ⟨h2.1.1.2,h2.2.symm,h2.1.1.1,h2.1.2.symm⟩
theorem zsh{ms:List Bool}{kd:Int}{sk:Bool}{L:List Int}{i:Nat}{A:List Int}(hi:i<L.length)(h:otB ms kd sk L i A=true)(h7:kd=7):∃b:Nat,otV ms kd sk L i A=(b:Int)/\b<i:=by
 subst h7
 unfold otB at h
 unfold otV
 rw[if_pos rfl]at h ⊢
 simp only[Bool.and_eq_true,Bool.not_eq_true',decide_eq_true_iff,decide_eq_false_iff_not]at h
 rcases bk_lt (ms:=ms) hi with e|e
 . exact absurd e h.1.1.1
 . exact e
theorem zo7(S:Nat->Prop)(ga:Option Addr)(gc:Nat)(ma:Option Addr)(mc:Nat)(s:Sr)(ka:Option Addr)(kc:Nat)(ms:List Bool)(pa:Option Addr)(pc:Nat)(cs:List Int)(la:Option Addr)(pn lc:Nat)(na:Option Addr)(nc:Nat)(L:List Int)(kd:Int)(sk:Bool)(ra:Option Addr)(rn rc:Nat)(a1:Option Addr)(c1:Nat)(a2:Option Addr)(c2:Nat)(inn out:List Int)(ap lk x1 x2 y1 y2 w1 w2:Int)(i:Nat)(w:World)
    (hm:Gr El.bool S w ka kc ms) (hL:Ri w na nc L) (hA:Ri w a1 c1 inn) (hi:i<L.length) (hAl:inn.length=inN kd) (hk:kd=5\/kd=6\/kd=7) :
    Calls Tryz.prog 129 #[.agg #[.slice ga s.rg.length gc,.slice ma s.rw.length mc,.slice ka ms.length kc,.slice pa cs.length pc,.slice la pn lc,.slice na L.length nc],.agg #[.int .i64 kd,.bool sk,.slice ra rn rc],.agg #[.slice a1 inn.length c1,.slice a2 out.length c2,.int .i64 ap,.int .i64 lk,.int .i64 x1,.int .i64 x2,.int .i64 y1,.int .i64 y2,.int .i64 w1,.int .i64 w2],.int .i64 (i:Int)] w fun e w'=>e=.returned (.tuple #[.int .i64 (otV ms kd sk L i inn),.bool (otB ms kd sk L i inn)])/\Below w.heap.size w w':=by
 have kl:=hL.lenB
 have hm2:inn.length<=2:=by rw[hAl];unfold inN;split <;> omega
 obtain⟨W,hW⟩:∃W,W=((w.alloc (.cells #[.slice ga s.rg.length gc,.slice ma s.rw.length mc,.slice ka ms.length kc,.slice pa cs.length pc,.slice la pn lc,.slice na L.length nc] 119)).alloc (.cells #[.int .i64 kd,.bool sk,.slice ra rn rc] 123)).alloc (.cells #[.slice a1 inn.length c1,.slice a2 out.length c2,.int .i64 ap,.int .i64 lk,.int .i64 x1,.int .i64 x2,.int .i64 y1,.int .i64 y2,.int .i64 w1,.int .i64 w2] 131):=⟨_,rfl⟩
 obtain⟨X1,X2,X3,hbW⟩:=new3B w 119 123 131 [.slice ga s.rg.length gc,.slice ma s.rw.length mc,.slice ka ms.length kc,.slice pa cs.length pc,.slice la pn lc,.slice na L.length nc] [.int .i64 kd,.bool sk,.slice ra rn rc] (ruV a1 c1 a2 c2 ⟨inn,out,ap,lk,(x1,x2),(y1,y2),(w1,w2)⟩) W hW
 obtain⟨m0,m1,m2,m3,m4,m5⟩:=X1.six21;obtain⟨x0,x1',x2',-⟩:=X2.three;obtain⟨q0,-⟩:=X3.ru;dsimp only at q0
 have hmW:=hm.below hbW
 have hLW:=hL.below hbW
 have hAW:=hA.below hbW
 have hI:I64 (i:Int):=⟨by omega,by omega⟩
 by_cases h7:kd=7
 rotate_left
 . have g7:(kd==7)=false:=beq_eq_false_iff_ne.2 h7
   have HV:Hid (otV ms kd sk L i inn=(match meQ ms L sk (i:Int) inn with | none=>-1 | some m=>m.getD (m.length-1) 0)/\otB ms kd sk L i inn=meB ms L sk (i:Int) inn):=by
    unfold otV otB
    rw[if_neg h7,if_neg h7]
    exact⟨rfl,rfl⟩
   generalize otV ms kd sk L i inn=OV at HV ⊢
   generalize otB ms kd sk L i inn=OB at HV ⊢
   have hme:=zi8 S na nc L ka kc ms (i:Int) a1 c1 inn sk W hLW hmW hI hAW (by omega)
   clear h7 hk hAl hm hL hA hmW hLW hAW X1 X2 X3
   go_enter Tryz.func129,Tryz.ntmps129
   go_upto_region 1 with fail
   rw[<-hW];clear hW
   go_wp2_with fail
   refine hme.mono ?_
   rintro e u ⟨⟨v,rfl,hv⟩,hb⟩
   have hbU:=hbW.trans (hb.mono hbW.size)
   obtain⟨va,vc,rfl,hvr⟩:=hv.slice;clear hme hv hb m0 m1 m2 m3 m4 m5 x0 x1' x2' q0
   cases hq:meQ ms L sk (i:Int) inn with
   | none =>
    have e1:meB ms L sk (i:Int) inn=false:=by unfold meB;rw[hq];rfl
    have HF:Hid (OV=-1/\OB=false):=⟨by rw[HV.out.1,hq],by rw[HV.out.2,e1]⟩
    rw[e1];clear HV hq e1 hvr;go_wp2
    go_ret2
    exact⟨by rw[HF.out.1,HF.out.2];rfl,hbU⟩
   | some m =>
    have e1:meB ms L sk (i:Int) inn=true:=by unfold meB;rw[hq];rfl
    have e2:meL ms L sk (i:Int) inn=m:=by unfold meL;rw[hq];rfl
    have HF:Hid (OV=m.getD (m.length-1) 0/\OB=true):=⟨by rw[HV.out.1,hq],by rw[HV.out.2,e1]⟩
    have zdf:=(me_r hq).pos
    rw[e1,e2];rw[e2]at hvr
    obtain⟨b,o,rfl,hbl,c0⟩:=hvr.at (Below.refl _ _) (m.length-1) (by omega)
    have kml:=hvr.lenB
    obtain⟨n,hn⟩:∃n,m.length=n+1:=⟨m.length-1,by omega⟩
    obtain⟨z,hz⟩:∃z,m.getD (m.length-1) 0=z:=⟨_,rfl⟩
    have HF:Hid (OV=z/\OB=true):=by rw[<-hz];exact HF.out
    rw[hz,hn]at c0
    rw[show n+1-1=n from rfl]at c0
    rw[hn]at kml ⊢
    have i1:(((n+1:Nat):Int)-1)=(n:Int):=by omega
    have i2:(0:Int)<=(n:Int):=by omega
    have i3:(n:Int)<((n+1:Nat):Int):=by omega
    clear HV hq e1 e2 hvr hn hz zdf;go_wp2
    go_ret2
    exact⟨by rw[HF.out.1,HF.out.2];rfl,hbU⟩
 subst h7
 have hl2:inn.length=2:=hAl
 have HV:Hid (otV ms 7 sk L i inn=bkQ ms L (i:Int)/\otB ms 7 sk L i inn=(((!decide (bkQ ms L (i:Int)=-1)&&mkB ms (L.getD i 0))&&decide (L.getD (bkQ ms L (i:Int)).toNat 0=inn.getD 0 0))&&decide (L.getD i 0=inn.getD 1 0))):=by
  unfold otV otB
  rw[if_pos rfl,if_pos rfl]
  exact⟨rfl,rfl⟩
 generalize otV ms 7 sk L i inn=OV at HV ⊢
 generalize otB ms 7 sk L i inn=OB at HV ⊢
 have hbk:=zrc S na nc L ka kc ms (i:Int) W hLW hmW hI
 have HBN:Hid (bkQ ms L (i:Int)=-1\/∃b:Nat,bkQ ms L (i:Int)=(b:Int)/\b<i):=bk_lt hi
 have HM:Hid (Gr El.bool S W ka kc ms):=hmW
 have HL:Hid (Ri W na nc L):=hLW
 have HA:Hid (Ri W a1 c1 inn):=hAW
 have HX:Hid (Bk 119 W w.heap.size [.slice ga s.rg.length gc,.slice ma s.rw.length mc,.slice ka ms.length kc,.slice pa cs.length pc,.slice la pn lc,.slice na L.length nc]/\Bk 131 W (w.heap.size+2) (ruV a1 c1 a2 c2 ⟨inn,out,ap,lk,(x1,x2),(y1,y2),(w1,w2)⟩)):=⟨X1,X3⟩
 clear hk hm hL hA hmW hLW hAW X1 X2 X3;clear hAl
 have HL2:Hid (inn.length=2):=hl2
 clear hl2 hm2
 go_enter Tryz.func129,Tryz.ntmps129
 go_upto_region 1 with fail
 rw[<-hW];clear hW
 go_wp2_with fail
 refine hbk.mono ?_
 rintro e u ⟨rfl,hb⟩
 have hbU:=hbW.trans (hb.mono hbW.size)
 have hX1:=HX.out.1.below hb
 have hX3:=HX.out.2.below hb
 clear hbk m0 m1 m2 m3 m4 m5 x0 x1' x2' q0
 go_upto_region 4 with fail
 obtain⟨ib,io,rfl,hib,e0⟩:=HL.out.at hb i hi
 have hLz:I64 (L.getD i 0):=HL.out.i64 hi
 obtain⟨jb,jo,rfl,hjb,f0⟩:=HA.out.at hb 0 (by rw[HL2.out];omega)
 obtain⟨jb2,jo2,ej,-,f1⟩:=HA.out.at hb 1 (by rw[HL2.out];omega)
 injection ej with ej;injection ej with ej1 ej2;subst ej1 ej2
 have j5:(0:Int)<(inn.length:Int):=by have:=HL2.out;omega
 have j6:(1:Int)<(inn.length:Int):=by have:=HL2.out;omega
 have j5n:0<inn.length:=by have:=HL2.out;omega
 have j6n:1<inn.length:=by have:=HL2.out;omega
 generalize inn.getD 0 0=g0 at *
 generalize inn.getD 1 0=g1 at *
 replace f0:u.cell? ⟨jb,jo,none⟩=some (.int .i64 g0):=f0
 replace f1:u.cell? ⟨jb,jo+1,none⟩=some (.int .i64 g1):=f1
 clear HL2;obtain⟨-,-,-,-,-,m5⟩:=hX1.six21;obtain⟨q0,-⟩:=hX3.ru;dsimp only at q0
 have i1:(0:Int)<=(i:Int):=by omega
 have i2:(i:Int)<(L.length:Int):=by omega
 have HDR:Hid (Below u.heap.size u u.drew):=(Below.refl _ _).drew
 have HLT:Hid (w.heap.size<u.heap.size/\w.heap.size+2<u.heap.size/\ib<u.heap.size/\jb<u.heap.size):=⟨hX1.lt,hX3.lt,Nat.lt_of_lt_of_le hib hb.size,Nat.lt_of_lt_of_le hjb hb.size⟩
 have HMk:Hid (∀Z,Below u.heap.size u Z->Calls Tryz.prog 122 #[.slice ka ms.length kc,.int .i64 (L.getD i 0)] Z fun e w'=>e=.returned (.bool (mkB ms (L.getD i 0)))/\Below Z.heap.size Z w'):=fun Z hZ=>zcy S ka kc ms _ Z ((HM.out.below hb).below hZ) hLz
 have HCB:Hid (∀b:Nat,b<i->u.cell? ⟨ib,io+b,none⟩=some (.int .i64 (L.getD b 0))):=fun b hbi=>by
  obtain⟨b1,o1,e1,_,d⟩:=HL.out.at hb b (by omega)
  injection e1 with e1;injection e1 with e1 e2;subst e1 e2
  exact d
 clear hX1 hX3 hib hjb hb
 rcases HBN.out with hB|⟨b,hB,hbi⟩
 . rw[hB]at HV ⊢
   have HF:Hid (OV=-1/\OB=false):=⟨HV.out.1,HV.out.2⟩
   clear HV HBN hB
   have hdr:=HDR.out
   refine wp_region_held_drew (S:=fun _=>True) (by kernel_rfl) trivial (fun hH=>?_)
   generalize u.drew=Z at hdr ⊢
   have zaf:=hbU.trans (hdr.mono hbU.size)
   refine hT 0 hH ?_;refine hT 1 hH ?_;refine hT 2 hH ?_;refine hT 3 hH ?_;refine hN 4 hH ?_;refine hN 5 hH ?_;refine hN 6 hH ?_;refine hN 7 hH ?_;refine hN 8 hH ?_;refine hN 9 hH ?_;refine hN 10 hH ?_;refine hT 11 hH ?_;refine hT 12 hH ?_;refine hN 13 hH ?_
   refine hN 14 hH ?_;refine hN 15 hH ?_;refine hN 16 hH ?_;refine hN 17 hH ?_;refine hN 18 hH ?_;refine hN 19 hH ?_;refine hN 20 hH ?_;refine hN 21 hH ?_;refine hN 22 hH ?_;refine hT 23 hH ?_;refine hT 24 hH ?_;refine hN 25 hH ?_;refine hN 26 hH ?_
   refine hN 27 hH ?_;refine hN 28 hH ?_;refine hN 29 hH ?_;refine hN 30 hH ?_;refine hN 31 hH ?_;refine hN 32 hH ?_;refine hN 33 hH ?_;refine hN 34 hH ?_;refine hT 35 hH ?_;refine hT 36 hH ?_;refine hT 37 hH ?_
   refine wpAnyH_done (by kernel_rfl) ?_ _
   clear hH;go_wp2
   go_ret2
   exact⟨by rw[HF.out.1,HF.out.2];rfl,zaf⟩
 . have hcb:=HCB.out b hbi
   have hmk:=HMk.out
   have gb:((b:Int) != -1)=true:=bne_iff_ne.2 (by omega)
   have HF1:Hid (OV=(b:Int)):=by rw[<-hB];exact HV.out.1
   have HF2:Hid (OB=((mkB ms (L.getD i 0)&&decide (L.getD b 0=g0))&&decide (L.getD i 0=g1))):=by
    show _=_
    rw[HV.out.2,hB,decide_eq_false (show ¬(b:Int)=-1 by omega),Int.toNat_natCast]
    rfl
   rw[hB]
   have i3:(0:Int)<=(b:Int):=by omega
   have i4:(b:Int)<(L.length:Int):=by omega
   generalize mkB ms (L.getD i 0)=mk at hmk HF2
   generalize L.getD i 0=zi at *
   generalize L.getD b 0=zb at *
   have hdr:=HDR.out
   obtain⟨l0,l1,l2,l3⟩:=HLT.out;clear HV HBN HCB HDR hB HMk
   refine wp_region_held_drew (S:=fun v=>v.cell? ⟨w.heap.size,5,none⟩=some (.slice (some ⟨ib,io,none⟩) L.length nc)/\v.cell? ⟨ib,io+i,none⟩=some (.int .i64 zi)/\v.cell? ⟨ib,io+b,none⟩=some (.int .i64 zb)/\v.cell? ⟨w.heap.size+2,0,none⟩=some (.slice (some ⟨jb,jo,none⟩) inn.length c1)/\v.cell? ⟨jb,jo,none⟩=some (.int .i64 g0)/\v.cell? ⟨jb,jo+1,none⟩=some (.int .i64 g1)) (by kernel_rfl) ⟨m5,e0,hcb,q0,f0,f1⟩ (fun hH=>?_)
   generalize u.drew=Z at hdr hH ⊢
   have hbZ:=hbU.trans (hdr.mono hbU.size)
   refine hT 0 hH ?_;refine hT 1 hH ?_;refine hT 2 hH ?_;refine hT 3 hH ?_;refine hT 4 hH ?_;refine hT 5 hH ?_;refine hT 6 hH ?_;refine hT 7 hH ?_;refine hT 8 hH ?_;refine hT 9 hH ?_
   refine hCall (i:=10) rfl (by kernel_rfl) (by rfl) (fun K hK=>?_)
   go_simp
   refine(hmk Z hdr).mono ?_
   rintro e u2 ⟨rfl,hb2⟩
   have hU2:=hdr.trans (hb2.mono hdr.size)
   have zaf:=hbU.trans (hU2.mono hbU.size)
   clear hmk
   go_wp2_with fail
   refine hK.out _ _ ⟨(hU2.cell (p:=⟨w.heap.size,5,none⟩) l0).trans m5,(hU2.cell (p:=⟨ib,io+i,none⟩) l2).trans e0,(hU2.cell (p:=⟨ib,io+b,none⟩) l2).trans hcb,(hU2.cell (p:=⟨w.heap.size+2,0,none⟩) l1).trans q0,(hU2.cell (p:=⟨jb,jo,none⟩) l3).trans f0,(hU2.cell (p:=⟨jb,jo+1,none⟩) l3).trans f1⟩ (fun hH=>?_)
   clear hK K
   try simp only[Act.put,pZ]
   clear m5 e0 hcb q0 f0 f1
   cases mk with
   | false =>
    have HF:Hid (OV=(b:Int)/\OB=false):=⟨HF1.out,HF2.out⟩
    refine hT 11 hH ?_;refine hT 12 hH ?_;refine hN 13 hH ?_;refine hN 14 hH ?_;refine hN 15 hH ?_;refine hN 16 hH ?_;refine hN 17 hH ?_;refine hN 18 hH ?_;refine hN 19 hH ?_;refine hN 20 hH ?_;refine hN 21 hH ?_;refine hN 22 hH ?_;refine hT 23 hH ?_
    refine hT 24 hH ?_;refine hN 25 hH ?_;refine hN 26 hH ?_;refine hN 27 hH ?_;refine hN 28 hH ?_;refine hN 29 hH ?_;refine hN 30 hH ?_;refine hN 31 hH ?_;refine hN 32 hH ?_;refine hN 33 hH ?_;refine hN 34 hH ?_;refine hT 35 hH ?_;refine hT 36 hH ?_
    refine hT 37 hH ?_
    refine wpAnyH_done (by kernel_rfl) ?_ _
    clear hH;go_wp2
    go_ret2
    exact⟨by rw[HF.out.1,HF.out.2];rfl,zaf⟩
   | true =>
    rw[Bool.true_and]at HF2
    by_cases hz:zb=g0
    rotate_left
    . have HF:Hid (OV=(b:Int)/\OB=false):=⟨HF1.out,by rw[HF2.out,decide_eq_false hz];rfl⟩
      have gz:(zb==g0)=false:=beq_eq_false_iff_ne.2 hz
      refine hT 11 hH ?_;refine hT 12 hH ?_;refine hT 13 hH ?_;refine hT 14 hH ?_;refine hT 15 hH ?_;refine hT 16 hH ?_;refine hT 17 hH ?_;refine hT 18 hH ?_;refine hT 19 hH ?_;refine hT 20 hH ?_;refine hT 21 hH ?_;refine hT 22 hH ?_;refine hT 23 hH ?_
      refine hT 24 hH ?_;refine hN 25 hH ?_;refine hN 26 hH ?_;refine hN 27 hH ?_;refine hN 28 hH ?_;refine hN 29 hH ?_;refine hN 30 hH ?_;refine hN 31 hH ?_;refine hN 32 hH ?_;refine hN 33 hH ?_;refine hN 34 hH ?_;refine hT 35 hH ?_;refine hT 36 hH ?_
      refine hT 37 hH ?_
      refine wpAnyH_done (by kernel_rfl) ?_ _
      clear hH;go_wp2
      go_ret2
      exact⟨by rw[HF.out.1,HF.out.2];rfl,zaf⟩
    . have gz:(zb==g0)=true:=beq_iff_eq.2 hz
      have HF3:Hid (OB=decide (zi=g1)):=by show _=_;rw[HF2.out,decide_eq_true hz,Bool.true_and]
      obtain⟨t,ht⟩:∃t,(zi==g1)=t:=⟨_,rfl⟩
      have HF:Hid (OV=(b:Int)/\OB=t):=⟨HF1.out,by rw[HF3.out,<-ht];rfl⟩
      clear hz;refine hT 11 hH ?_;refine hT 12 hH ?_;refine hT 13 hH ?_;refine hT 14 hH ?_;refine hT 15 hH ?_;refine hT 16 hH ?_;refine hT 17 hH ?_;refine hT 18 hH ?_;refine hT 19 hH ?_;refine hT 20 hH ?_;refine hT 21 hH ?_;refine hT 22 hH ?_;refine hT 23 hH ?_
      refine hT 24 hH ?_;refine hT 25 hH ?_;refine hT 26 hH ?_;refine hT 27 hH ?_;refine hT 28 hH ?_;refine hT 29 hH ?_;refine hT 30 hH ?_;refine hT 31 hH ?_;refine hT 32 hH ?_;refine hT 33 hH ?_;refine hT 34 hH ?_;refine hT 35 hH ?_;refine hT 36 hH ?_
      refine hT 37 hH ?_
      refine wpAnyH_done (by kernel_rfl) ?_ _
      clear hH;go_wp2
      go_ret2
      exact⟨by rw[HF.out.1,HF.out.2];rfl,zaf⟩
theorem zpp{kd:Int}(h:kd≠7){P:List Pd}{i b:Nat}{dx dy w:Int}:mvPJ kd P i b dx dy w=⟨(P.getD i Pd.none).g,w6 ((P.getD i Pd.none).x+dx),w6 ((P.getD i Pd.none).y+dy),w6 ((P.getD i Pd.none).a+w)⟩:=by unfold mvPJ;rw[if_neg h,if_neg h]
theorem zyc{P:List Pd}{i b:Nat}{dx dy:Int}(ha:I64 (P.getD i Pd.none).a):mvPJ 7 P i b dx dy 0=⟨(P.getD i Pd.none).g,w6 ((P.getD b Pd.none).x+dx-adS P b (i-b)),w6 ((P.getD b Pd.none).y+dy),(P.getD i Pd.none).a⟩:=by
 unfold mvPJ
 rw[if_pos rfl,if_pos rfl,Int.add_zero,w6_id ha.1 ha.2,show(P.getD b Pd.none).x-adS P b (i-b)+dx=(P.getD b Pd.none).x+dx-adS P b (i-b) by omega]
def onR(ro re:Int×Int->Int)(kd:Int)(P:List Pd)(i:Nat):Option (Ru×Int×Int)->Option (List Pd×Int)
 | none=>some (P,(i:Int)+1)
 | some (r,nx,b)=>if re r.x=0/\re r.y=0/\re r.w=0 then some (P.set i (mvPJ kd P i b.toNat (ro r.x) (ro r.y) (ro r.w)),nx)else none
theorem zt9{ro re:Int×Int->Int}{ms:List Bool}{x:Lk}{P:List Pd}{i:Nat}:onP ro re ms x P i=if x.sk&&mkB ms ((naL P).getD i 0)then some (P,(i:Int)+1)else onR ro re x.kd P i (fsR ms x.kd x.sk (naL P) i x.rs):=by
 unfold onP onR
 split
 . rfl
 . cases fsR ms x.kd x.sk (naL P) i x.rs <;> rfl
theorem zvv{re:Int×Int->Int}{r:Ru}(h:nmE re r=0):re r.x=0/\re r.y=0/\re r.w=0:=by
 unfold nmE at h
 split at h
 . next h1 =>
   split at h
   . next h2=>exact⟨h1,h2,h⟩
   . next h2=>exact absurd h h2
 . next h1=>exact absurd h h1
theorem zvw{re:Int×Int->Int}{r:Ru}(h:nmE re r≠0)(hx:re r.x=0\/re r.x=4)(hy:re r.y=0\/re r.y=4)(hw:re r.w=0\/re r.w=4):nmE re r=4/\¬(re r.x=0/\re r.y=0/\re r.w=0):=by
 refine⟨?_,fun⟨h1,h2,h3⟩=>h (by unfold nmE;rw[if_pos h1,if_pos h2];exact h3)⟩
 unfold nmE at h ⊢
 split
 . next h1 =>
   rw[if_pos h1]at h
   split
   . next h2=>rw[if_pos h2]at h;rcases hw with e | e;exact absurd e h;exact e
   . next h2=>rcases hy with e | e;exact absurd e h2;exact e
 . next h1=>rcases hx with e | e;exact absurd e h1;exact e
structure DoM(O:Option (List Pd×Int))(base lb lc n:Nat)(w w':World)(e:Ending):Prop where
 ok:∀Q nx,O=some (Q,nx)->e=.returned (.tuple #[.int .i64 nx,.int .i64 0])/\Ln base w' (.slice (some ⟨lb,0,none⟩) n lc) Q
 no:O=none->e=.returned (.tuple #[.int .i64 0,.int .i64 4])
 kp:Kp lb w w'
theorem DoM.yes{O:Option (List Pd×Int)}{base lb lc n:Nat}{w w':World}{Q:List Pd}{nx:Int}(h:O=some (Q,nx))(hl:Ln base w' (.slice (some ⟨lb,0,none⟩) n lc) Q)(hk:Kp lb w w'):DoM O base lb lc n w w' (.returned (.tuple #[.int .i64 nx,.int .i64 0])) :=
 ⟨(fun Q2 n2 h2=>by rw[h]at h2;injection h2 with h2;injection h2 with h2 h3;subst h2 h3;exact⟨rfl,hl⟩),(fun h2=>by rw[h]at h2;cases h2),hk⟩
theorem DoM.bad{O:Option (List Pd×Int)}{base lb lc n:Nat}{w w':World}(h:O=none)(hk:Kp lb w w'):DoM O base lb lc n w w' (.returned (.tuple #[.int .i64 0,.int .i64 4])) :=
 ⟨(fun Q2 n2 h2=>by rw[h]at h2;cases h2),(fun _=>rfl),hk⟩
theorem zv4(Sm Sk:Nat->Prop)(ga:Option Addr)(gc:Nat)(ma:Option Addr)(mc:Nat)(s:Sr)(ka:Option Addr)(kc:Nat)(ms:List Bool)(pa:Option Addr)(pc:Nat)(cs:List Int)(lb lc:Nat)(P:List Pd)(na:Option Addr)(nc:Nat)(kd:Int)(sk:Bool)(ra:Option Addr)(rc:Nat)(rs:List Ru)(base i:Nat)(w:World)
    (hg:Tzz w ga gc s.rg) (hrw:Rii w ma mc s.rw) (hm:Gr El.bool Sm w ka kc ms) (hp:Ri w pa pc cs) (h40:s.rg.length<=40) (h8:∀l∈s.rg,l.length<=8)
    (hL:Ln base w (.slice (some ⟨lb,0,none⟩) P.length lc) P) (hN:Ri w na nc (naL P)) (hr:Gr RuE Sk w ra rc rs) (hk:kd=5\/kd=6\/kd=7) (hF:∀r∈rs,PrF (fiS s) kd sk r) (hi:i<P.length) :
    Calls Tryz.prog 96 #[.agg #[.slice ga s.rg.length gc,.slice ma s.rw.length mc,.slice ka ms.length kc,.slice pa cs.length pc,.slice (some ⟨lb,0,none⟩) P.length lc,.slice na P.length nc],.agg #[.int .i64 kd,.bool sk,.slice ra rs.length rc],.int .i64 (i:Int)] w fun e w'=>DoM (onP (rO s cs) (rE s cs) ms ⟨kd,sk,rs⟩ P i) base lb lc P.length w w' e:=by
 have hlb:lb<w.heap.size:=(Ln.lo hL (g:=lb) rfl).2
 have hnl:(naL P).length=P.length:=zce P
 have kl:=hN.lenB
 rw[hnl]at kl
 have HD:Hid (onP (rO s cs) (rE s cs) ms ⟨kd,sk,rs⟩ P i=if sk&&mkB ms ((naL P).getD i 0)then some (P,(i:Int)+1)else onR (rO s cs) (rE s cs) kd P i (fsR ms kd sk (naL P) i rs)):=zt9
 generalize onP (rO s cs) (rE s cs) ms ⟨kd,sk,rs⟩ P i=O at HD ⊢
 obtain⟨W,hW⟩:∃W,W=(w.alloc (.cells #[.slice ga s.rg.length gc,.slice ma s.rw.length mc,.slice ka ms.length kc,.slice pa cs.length pc,.slice (some ⟨lb,0,none⟩) P.length lc,.slice na P.length nc] 119)).alloc (.cells #[.int .i64 kd,.bool sk,.slice ra rs.length rc] 123):=⟨_,rfl⟩
 obtain⟨X1,X2,hbW⟩:Bk 119 W w.heap.size [.slice ga s.rg.length gc,.slice ma s.rw.length mc,.slice ka ms.length kc,.slice pa cs.length pc,.slice (some ⟨lb,0,none⟩) P.length lc,.slice na P.length nc]/\Bk 123 W (w.heap.size+1) [.int .i64 kd,.bool sk,.slice ra rs.length rc]/\Below w.heap.size w W:=by
  rw[hW]
  exact new2B w 119 123 [.slice ga s.rg.length gc,.slice ma s.rw.length mc,.slice ka ms.length kc,.slice pa cs.length pc,.slice (some ⟨lb,0,none⟩) P.length lc,.slice na P.length nc] [.int .i64 kd,.bool sk,.slice ra rs.length rc]
 have HX:Hid (Bk 119 W w.heap.size [.slice ga s.rg.length gc,.slice ma s.rw.length mc,.slice ka ms.length kc,.slice pa cs.length pc,.slice (some ⟨lb,0,none⟩) P.length lc,.slice na P.length nc]/\Bk 123 W (w.heap.size+1) [.int .i64 kd,.bool sk,.slice ra rs.length rc]):=⟨X1,X2⟩
 have HBW:Hid (Below w.heap.size w W):=hbW
 have HG:Hid (Tzz W ga gc s.rg):=hg.below hbW
 have HRW:Hid (Rii W ma mc s.rw):=hrw.below hbW
 have HM:Hid (Gr El.bool Sm W ka kc ms):=hm.below hbW
 have HP:Hid (Ri W pa pc cs):=hp.below hbW
 have HLN:Hid (Ln base W (.slice (some ⟨lb,0,none⟩) P.length lc) P):=hL.below hbW
 have HN:Hid (Ri W na nc (naL P)):=hN.below hbW
 have HR:Hid (Gr RuE Sk W ra rc rs):=hr.below hbW
 have HF:Hid (∀r∈rs,PrF (fiS s) kd sk r):=hF
 have HKW:Hid (Kp lb w W):=Kp.of hbW
 have hkr:=hr.lenB
 obtain⟨nb,no,ena,hnb,c0⟩:=hN.at hbW i (by rw[hnl];exact hi)
 subst ena
 have hNi:I64 ((naL P).getD i 0):=hN.i64 (by rw[hnl];exact hi)
 have HMK:Hid (∀Z,Below W.heap.size W Z->Calls Tryz.prog 122 #[.slice ka ms.length kc,.int .i64 ((naL P).getD i 0)] Z fun e w'=>e=.returned (.bool (mkB ms ((naL P).getD i 0)))/\Below Z.heap.size Z w'):=fun Z hZ=>zcy Sm ka kc ms _ Z (HM.out.below hZ) hNi
 generalize (naL P).getD i 0=z at *
 have hnbW:nb<W.heap.size:=Nat.lt_of_lt_of_le hnb hbW.size
 have i1:(0:Int)<=(i:Int):=by omega
 have i2:(i:Int)<(P.length:Int):=by omega
 have HNL:Hid ((naL P).length=P.length):=hnl
 clear hg hrw hm hp hL hN hr hF hbW hNi hnl X1 X2
 go_enter Tryz.func96,Tryz.ntmps96
 go_upto_region 1 with fail
 rw[<-hW];clear hW
 go_cut [26]from 14 to 26 (fun v wx=>v=.bool (sk&&mkB ms z)/\Below W.heap.size W wx)
 case first =>
  obtain⟨m0,m1,m2,m3,m4,m5⟩:=HX.out.1.six21;obtain⟨x0,x1,x2,-⟩:=HX.out.2.three
  have lt0:w.heap.size<W.heap.size:=HX.out.1.lt
  have lt1:w.heap.size+1<W.heap.size:=HX.out.2.lt
  have hmk:=HMK.out
  refine wp_region_held_drew (S:=fun u=>u.cell? ⟨w.heap.size+1,1,none⟩=some (.bool sk)/\u.cell? ⟨w.heap.size,2,none⟩=some (.slice ka ms.length kc)/\u.cell? ⟨w.heap.size,5,none⟩=some (.slice (some ⟨nb,no,none⟩) P.length nc)/\u.cell? ⟨nb,no+i,none⟩=some (.int .i64 z)) (by kernel_rfl) ⟨x1,m2,m5,c0⟩ (fun hH=>?_)
  have hdr:Below W.heap.size W W.drew:=(Below.refl _ _).drew
  generalize W.drew=Z at hdr hH ⊢
  clear HD HX HBW HG HRW HM HP HLN HN HR HF HKW HMK HNL;refine hT 0 hH ?_;refine hT 1 hH ?_;refine hT 2 hH ?_
  cases sk with
  | false =>
   refine hN 3 hH ?_;refine hN 4 hH ?_;refine hN 5 hH ?_;refine hN 6 hH ?_;refine hN 7 hH ?_;refine hN 8 hH ?_;refine hN 9 hH ?_;refine hN 10 hH ?_;refine hN 11 hH ?_;refine hT 12 hH ?_
   refine wpAnyH_done (by kernel_rfl) ?_ _
   clear hmk m0 m1 m2 m3 m4 m5 x0 x1 x2 c0 hH;go_wp2
   go_meet
   exact⟨rfl,hdr⟩
  | true =>
   have hmz:=hmk Z hdr
   clear hmk
   obtain⟨q,hq⟩:∃q,mkB ms z=q:=⟨_,rfl⟩
   rw[hq]at hmz
   have HQ:Hid (mkB ms z=q):=hq
   clear hq;refine hT 3 hH ?_;refine hT 4 hH ?_;refine hT 5 hH ?_;refine hT 6 hH ?_;refine hT 7 hH ?_;refine hT 8 hH ?_;refine hT 9 hH ?_;refine hT 10 hH ?_
   refine hCall (i:=11) rfl (by kernel_rfl) (by rfl) (fun K hK=>?_)
   go_simp
   refine hmz.mono ?_
   rintro e u ⟨rfl,hbu⟩
   have hUu:=hdr.trans (hbu.mono hdr.size)
   clear hmz
   go_wp2_with fail
   refine hK.out _ _ ⟨(hUu.cell (p:=⟨w.heap.size+1,1,none⟩) lt1).trans x1,(hUu.cell (p:=⟨w.heap.size,2,none⟩) lt0).trans m2,(hUu.cell (p:=⟨w.heap.size,5,none⟩) lt0).trans m5,(hUu.cell (p:=⟨nb,no+i,none⟩) hnbW).trans c0⟩ (fun hH=>?_)
   clear hK K
   try simp only[Act.put,pZ]
   refine hT 12 hH ?_
   refine wpAnyH_done (by kernel_rfl) ?_ _
   clear m0 m1 m2 m3 m4 m5 x0 x1 x2 c0 hH;go_wp2
   go_meet
   exact⟨by rw[HQ.out,Bool.true_and],hUu⟩
 case rest =>
  obtain⟨rfl,hBc⟩:=hcut
  obtain⟨bq,hq⟩:∃bq,(sk&&mkB ms z)=bq:=⟨_,rfl⟩
  rw[hq]at HD ⊢;clear hq c0 HMK
  cases bq with
  | true =>
   have HV:Hid (DoM O base lb lc P.length w wc (.returned (.tuple #[.int .i64 ((i:Int)+1),.int .i64 0]))):=DoM.yes (by rw[HD.out,if_pos rfl]) (HLN.out.below hBc) (HKW.out.trans (Kp.of hBc))
   clear HD;go_wp2
   go_ret2
   exact HV.out
  | false =>
  have HD2:Hid (O=onR (rO s cs) (rE s cs) kd P i (fsR ms kd sk (naL P) i (rs.drop 0))):=by show _=_;rw[HD.out,if_neg (by decide)];rfl
  clear HD
  obtain⟨x0,x1,x2,-⟩:=(HX.out.2.below hBc).three
  go_wp2;clear x0 x1 x2
  go_loopw [32] (fun v wr=>∃r:Nat,r<=rs.length/\v=.int .i64 r/\Hid (O=onR (rO s cs) (rE s cs) kd P i (fsR ms kd sk (naL P) i (rs.drop r)))/\Below W.heap.size W wr) (fun v _=>rs.length-(intOf v).toNat)
  case atStart=>exact⟨0,Nat.zero_le _,rfl,HD2,hBc⟩
  case round =>
   clear HD2 hBc;obtain⟨r,hr,rfl,HDR,hB⟩:=hrel
   by_cases hrn:r<rs.length
   rotate_left
   . have HV:Hid (DoM O base lb lc P.length w wr (.returned (.tuple #[.int .i64 ((i:Int)+1),.int .i64 0]))):=DoM.yes (by rw[HDR.out,show r=rs.length by omega,zqq];rfl) (HLN.out.below hB) (HKW.out.trans (Kp.of hB))
     have g4:¬(r:Int)<(rs.length:Int):=by omega
     clear HDR;go_wp2
     go_ret2
     exact HV.out
   . obtain⟨rb,ro,a1,c1,a2,c2,er,hrb,hI,hin,hou,k0,k1,k2,k3,k4,k5,k6,k7,k8,k9⟩:=HR.out.ru10 hB r hrn
     have HFX:Hid (PrF (fiS s) kd sk (rs.getD r Ru.none)):=HF.out _ (by rw[List.getD_eq_getElem?_getD,List.getElem?_eq_getElem hrn];exact List.getElem_mem hrn)
     have HSK:Hid (apN ms kd sk (naL P) i (rs.getD r Ru.none).inn=none->O=onR (rO s cs) (rE s cs) kd P i (fsR ms kd sk (naL P) i (rs.drop (r+1)))):=fun h=>by rw[HDR.out,zl3 hrn h]
     have HMT:Hid (∀p,apN ms kd sk (naL P) i (rs.getD r Ru.none).inn=some p->O=onR (rO s cs) (rE s cs) kd P i (some (rs.getD r Ru.none,p))):=fun p h=>by rw[HDR.out,zqp hrn h]
     obtain⟨x,hx⟩:∃x,rs.getD r Ru.none=x:=⟨_,rfl⟩
     rw[hx]at hI hin hou k0 k1 k2 k3 k4 k5 k6 k7 k8 k9 HFX HSK HMT;clear hx HDR;obtain⟨inn,out,ap,lk,⟨x1,x2⟩,⟨y1,y2⟩,⟨w1,w2⟩⟩:=x;dsimp only at k0 k1 k2 k3 k4 k5 k6 k7 k8 k9 hin hou HSK HMT;obtain⟨f1,f2,f34,f56,f78⟩:=hI;dsimp only at f1 f2 f34 f56 f78
     have HAP:Hid (apN ms kd sk (naL P) i inn=if otB ms kd sk (naL P) i inn then some (if kd=6 then otV ms kd sk (naL P) i inn else (i:Int)+1,if kd=7 then otV ms kd sk (naL P) i inn else 0)else none):=ap_ot (by rw[HNL.out];exact hi) HFX.out.inn hk
     have zu4:Hid (otB ms kd sk (naL P) i inn=true->kd=7->∃b:Nat,otV ms kd sk (naL P) i inn=(b:Int)/\b<i):=zsh (by rw[HNL.out];exact hi)
     subst er
     have i5:(0:Int)<=(r:Int):=by omega
     have i6:(r:Int)<(rs.length:Int):=by omega
     obtain⟨V,hV,XV,hbV⟩:∃V,V=wr.alloc (.cells #[.slice a1 inn.length c1,.slice a2 out.length c2,.int .i64 ap,.int .i64 lk,.int .i64 x1,.int .i64 x2,.int .i64 y1,.int .i64 y2,.int .i64 w1,.int .i64 w2] 131)/\Bk 131 V wr.heap.size (ruV a1 c1 a2 c2 ⟨inn,out,ap,lk,(x1,x2),(y1,y2),(w1,w2)⟩)/\Below wr.heap.size wr V:=⟨_,rfl,Bk.new _ _ (ruV a1 c1 a2 c2 ⟨inn,out,ap,lk,(x1,x2),(y1,y2),(w1,w2)⟩),bl1 _⟩
     have hWV:=hB.trans (hbV.mono hB.size)
     have hot:=zo7 Sm ga gc ma mc s ka kc ms pa pc cs (some ⟨lb,0,none⟩) P.length lc (some ⟨nb,no,none⟩) nc (naL P) kd sk (some ⟨rb,ro,none⟩) rs.length rc a1 c1 a2 c2 inn out ap lk x1 x2 y1 y2 w1 w2 i V (HM.out.below hWV) (HN.out.below hWV) (hin.below hbV).ri (by rw[HNL.out];exact hi) HFX.out.inn hk
     rw[HNL.out]at hot
     have hnu:=fun U (hU:Below W.heap.size W U)=>zj2 ga gc ma mc s ka kc ms pa pc cs (some ⟨lb,0,none⟩) P.length lc (some ⟨nb,no,none⟩) P.length nc a1 c1 a2 c2 inn out ap lk x1 x2 y1 y2 w1 w2 U (HG.out.below hU) (HRW.out.below hU) (HP.out.below hU) h40 h8 f34 f56 f78
     generalize otB ms kd sk (naL P) i inn=OB at hot HAP zu4
     generalize otV ms kd sk (naL P) i inn=OV at hot HAP zu4
     clear hin hou f34 f56 f78 f1 f2
     go_upto_region 6 with fail
     rw[<-hV];clear hV k0 k1 k2 k3 k4 k5 k6 k7 k8 k9 hbV hB
     obtain⟨m0,m1,m2,m3,m4,m5⟩:=(HX.out.1.below hWV).six21
     obtain⟨x0,xx1,xx2,-⟩:=(HX.out.2.below hWV).three
     obtain⟨q0,q1,q2,q3,q4,q5,q6,q7,q8,q9⟩:=XV.ru;dsimp only at q0 q1 q2 q3 q4 q5 q6 q7 q8 q9
     go_wp2_with fail
     refine hot.mono ?_
     rintro e u ⟨rfl,hb⟩
     have hWu:=hWV.trans (hb.mono hWV.size)
     replace XV:=XV.below hb;clear hot hb hWV m0 m1 m2 m3 m4 m5 x0 xx1 xx2 q0 q1 q2 q3 q4 q5 q6 q7 q8 q9
     cases OB with
     | false =>
      have HDN:Hid (O=onR (rO s cs) (rE s cs) kd P i (fsR ms kd sk (naL P) i (rs.drop (r+1)))):=HSK.out (by rw[HAP.out];rfl)
      clear HSK HMT HAP zu4 XV hnu HFX;go_wp2
      go_roundw
      case rel=>exact⟨r+1,by omega,by go_num,HDN,hWu⟩
      case measure=>simp[intOf];omega
     | true =>
     have HDO:Hid (O=onR (rO s cs) (rE s cs) kd P i (some (⟨inn,out,ap,lk,(x1,x2),(y1,y2),(w1,w2)⟩,if kd=6 then OV else (i:Int)+1,if kd=7 then OV else 0))):=HMT.out _ HAP.out
     have hn2:=hnu u hWu
     have hfx:rE s cs (x1,x2)=0\/rE s cs (x1,x2)=4:=zox HFX.out.fx
     have hfy:rE s cs (y1,y2)=0\/rE s cs (y1,y2)=4:=zox HFX.out.fy
     have hfw:rE s cs (w1,w2)=0\/rE s cs (w1,w2)=4:=zox HFX.out.fw
     have HAN:Hid (kd=7->rO s cs (w1,w2)=0):=fun h=>by
      have h1:=HFX.out.fw
      have h2:=(HFX.out.an h).2
      rw[h2]at h1
      have h3:((w1,w2):Int×Int)=(0,-1):=h2
      rw[h3]
      exact(zvk (s:=s) (cs:=cs) h1).1
     clear hnu HSK HMT HAP HFX
     obtain⟨m0,m1,m2,m3,m4,m5⟩:=(HX.out.1.below hWu).six21
     obtain⟨x0,xx1,xx2,-⟩:=(HX.out.2.below hWu).three
     obtain⟨q0,q1,q2,q3,q4,q5,q6,q7,q8,q9⟩:=XV.ru;dsimp only at q0 q1 q2 q3 q4 q5 q6 q7 q8 q9
     by_cases hNE:nmE (rE s cs) ⟨inn,out,ap,lk,(x1,x2),(y1,y2),(w1,w2)⟩=0
     rotate_left
     . obtain⟨h4,h5⟩:=zvw hNE hfx hfy hfw
       have e1:nmL (rO s cs) (rE s cs) ⟨inn,out,ap,lk,(x1,x2),(y1,y2),(w1,w2)⟩=[0,0,0]:=by unfold nmL;rw[if_neg hNE]
       rw[h4,e1]at hn2
       replace hn2:Calls _ _ _ _ (fun e w'=>e=.returned (.tuple #[.agg #[.int .i64 0,.int .i64 0,.int .i64 0],.int .i64 4])/\Below u.heap.size u w'):=hn2
       have HON:Hid (O=none):=by show _=_;rw[HDO.out];exact if_neg h5
       clear HDO hNE h4 h5 e1 hfx hfy hfw HAN zu4
       go_wp2_with fail
       refine hn2.mono ?_
       rintro e u2 ⟨rfl,hb⟩
       have hW2:=hWu.trans (hb.mono hWu.size)
       clear hn2 hb XV m0 m1 m2 m3 m4 m5 x0 xx1 xx2 q0 q1 q2 q3 q4 q5 q6 q7 q8 q9
       have HV:Hid (∀U,Below u2.heap.size u2 U->DoM O base lb lc P.length w U (.returned (.tuple #[.int .i64 0,.int .i64 4]))):=fun U hU=>DoM.bad HON.out (HKW.out.trans (Kp.of (hW2.trans (hU.mono hW2.size))))
       go_wp2
       go_ret2
       exact HV.out _ (bl1 _)
     obtain⟨z1,z2,z3⟩:=zvv hNE
     dsimp only at z1 z2 z3
     have e1:nmL (rO s cs) (rE s cs) ⟨inn,out,ap,lk,(x1,x2),(y1,y2),(w1,w2)⟩=[rO s cs (x1,x2),rO s cs (y1,y2),rO s cs (w1,w2)]:=by unfold nmL;rw[if_pos hNE]
     rw[hNE,e1]at hn2
     have HON:Hid (O=some (P.set i (mvPJ kd P i (if kd=7 then OV else 0).toNat (rO s cs (x1,x2)) (rO s cs (y1,y2)) (rO s cs (w1,w2))),if kd=6 then OV else (i:Int)+1)):=by show _=_;rw[HDO.out];exact if_pos ⟨z1,z2,z3⟩
     replace hn2:Calls _ _ _ _ (fun e w'=>e=.returned (.tuple #[.agg #[.int .i64 (rO s cs (x1,x2)),.int .i64 (rO s cs (y1,y2)),.int .i64 (rO s cs (w1,w2))],.int .i64 0])/\Below u.heap.size u w'):=hn2
     clear HDO hNE e1 hfx hfy hfw z1 z2 z3
     generalize rO s cs (x1,x2)=n0 at *
     generalize rO s cs (y1,y2)=n1 at *
     generalize rO s cs (w1,w2)=n2 at *
     go_wp2_with fail
     refine hn2.mono ?_
     rintro e u2 ⟨rfl,hb⟩
     have hW2:=hWu.trans (hb.mono hWu.size)
     clear hn2 hb XV m0 m1 m2 m3 m4 m5 x0 xx1 xx2 q0 q1 q2 q3 q4 q5 q6 q7 q8 q9 hWu
     obtain⟨U,hU,XN,hbU⟩:∃U,U=u2.alloc (.cells #[.int .i64 n0,.int .i64 n1,.int .i64 n2] 199)/\Bk 199 U u2.heap.size [.int .i64 n0,.int .i64 n1,.int .i64 n2]/\Below u2.heap.size u2 U:=⟨_,rfl,Bk.new _ _ _,bl1 _⟩
     have hWU:=hW2.trans (hbU.mono hW2.size)
     go_upto_region 9 with fail
     rw[<-hU];clear hU hbU hW2
     obtain⟨m0,m1,m2,m3,m4,m5⟩:=(HX.out.1.below hWU).six21
     obtain⟨x0,xx1,xx2,-⟩:=(HX.out.2.below hWU).three
     obtain⟨⟨c0,c1',c2'⟩,-⟩:=XN.three3
     have HLU:Hid (Ln base U (.slice (some ⟨lb,0,none⟩) P.length lc) P):=HLN.out.below hWU
     have HXU:Hid (Bk 123 U (w.heap.size+1) [.int .i64 kd,.bool sk,.slice (some ⟨rb,ro,none⟩) rs.length rc]):=HX.out.2.below hWU
     have HKU:Hid (Kp lb w U):=HKW.out.trans (Kp.of hWU)
     have hne:w.heap.size+1≠lb:=by omega
     have hcA:=fun b hb2=>zj4 ga gc ma mc s ka kc ms pa pc cs lb lc (some ⟨nb,no,none⟩) P.length nc P base i b n0 n1 n2 U HLU.out hi hb2 _ _ rfl rfl
     have hcM:=zpr ga gc ma mc s ka kc ms pa pc cs lb lc (some ⟨nb,no,none⟩) P.length nc P base i n0 n1 n2 U HLU.out hi _ rfl
     have hIa:I64 (P.getD i Pd.none).a:=((HLU.out).at hi).2.2.2.2.2.1.2.2.2
     rcases hk with rfl|rfl|rfl
     . have HON5:Hid (O=some (P.set i ⟨(P.getD i Pd.none).g,w6 ((P.getD i Pd.none).x+n0),w6 ((P.getD i Pd.none).y+n1),w6 ((P.getD i Pd.none).a+n2)⟩,(i:Int)+1)):=by have:=HON.out;rw[zpp (by decide)]at this;exact this
       clear HON hcA hIa HAN zu4
       go_wp2_with fail
       refine hcM.mono ?_
       rintro e u3 ⟨rfl,hL3,hK3⟩
       have X3:=HXU.out.kp hK3 hne
       clear hcM m0 m1 m2 m3 m4 m5 x0 xx1 xx2 c0 c1' c2' XN;obtain⟨x0,-⟩:=X3.three
       have HV:Hid (DoM O base lb lc P.length w u3 (.returned (.tuple #[.int .i64 ((i:Int)+1),.int .i64 0]))):=DoM.yes HON5.out hL3 (HKU.out.trans hK3)
       clear hL3 hK3 X3;go_wp2
       go_ret2
       exact HV.out
     . have HON6:Hid (O=some (P.set i ⟨(P.getD i Pd.none).g,w6 ((P.getD i Pd.none).x+n0),w6 ((P.getD i Pd.none).y+n1),w6 ((P.getD i Pd.none).a+n2)⟩,OV)):=by have:=HON.out;rw[zpp (by decide)]at this;exact this
       clear HON hcA hIa HAN zu4
       go_wp2_with fail
       refine hcM.mono ?_
       rintro e u3 ⟨rfl,hL3,hK3⟩
       have X3:=HXU.out.kp hK3 hne
       clear hcM m0 m1 m2 m3 m4 m5 x0 xx1 xx2 c0 c1' c2' XN;obtain⟨x0,-⟩:=X3.three
       have HV:Hid (DoM O base lb lc P.length w u3 (.returned (.tuple #[.int .i64 OV,.int .i64 0]))):=DoM.yes HON6.out hL3 (HKU.out.trans hK3)
       clear hL3 hK3 X3;go_wp2
       go_ret2
       exact HV.out
     . obtain⟨b,rfl,hbi⟩:=zu4.out (by first | rfl | trivial) (by first | rfl | trivial)
       have HON7:Hid (O=some (P.set i ⟨(P.getD i Pd.none).g,w6 ((P.getD b Pd.none).x+n0-adS P b (i-b)),w6 ((P.getD b Pd.none).y+n1),(P.getD i Pd.none).a⟩,(i:Int)+1)):=by
        have:=HON.out
        rw[HAN.out (by first | rfl | trivial),if_pos rfl,Int.toNat_natCast,zyc hIa]at this
        exact this
       have hcB:=hcA b hbi
       clear HON hcA hcM hIa HAN zu4
       go_wp2_with fail
       refine hcB.mono ?_
       rintro e u3 ⟨rfl,hL3,hK3⟩
       have X3:=HXU.out.kp hK3 hne
       clear hcB m0 m1 m2 m3 m4 m5 x0 xx1 xx2 c0 c1' c2' XN;obtain⟨x0,-⟩:=X3.three
       have HV:Hid (DoM O base lb lc P.length w u3 (.returned (.tuple #[.int .i64 ((i:Int)+1),.int .i64 0]))):=DoM.yes HON7.out hL3 (HKU.out.trans hK3)
       clear hL3 hK3 X3;go_wp2
       go_ret2
       exact HV.out
structure ThM(O:Option (List Pd))(base lb lc n:Nat)(w w':World)(e:Ending):Prop where
 ok:∀Q,O=some Q->e=.returned (.int .i64 0)/\Ln base w' (.slice (some ⟨lb,0,none⟩) n lc) Q
 no:O=none->e=.returned (.int .i64 4)
 kp:Kp lb w w'
theorem ThM.yes{O:Option (List Pd)}{base lb lc n:Nat}{w w':World}{Q:List Pd}(h:O=some Q)(hl:Ln base w' (.slice (some ⟨lb,0,none⟩) n lc) Q)(hk:Kp lb w w'):ThM O base lb lc n w w' (.returned (.int .i64 0)) :=
 ⟨(fun Q2 h2=>by rw[h]at h2;injection h2 with h2;subst h2;exact⟨rfl,hl⟩),(fun h2=>by rw[h]at h2;cases h2),hk⟩
theorem ThM.bad{O:Option (List Pd)}{base lb lc n:Nat}{w w':World}(h:O=none)(hk:Kp lb w w'):ThM O base lb lc n w w' (.returned (.int .i64 4)) :=
 ⟨(fun Q2 h2=>by rw[h]at h2;cases h2),(fun _=>rfl),hk⟩
def thQ(ro re:Int×Int->Int)(ms:List Bool)(x:Lk)(P:List Pd):Option (List Pd):=if mvB x.kd then ruQ ro re ms x P 0 else some P
theorem Gi.kpL{base base2:Nat}{w w':World}{v:Value}{L:List Int}{lb n c:Nat}{P:List Pd}(hG:Gi base2 w v L)(hL:Ln base w (.slice (some ⟨lb,0,none⟩) n c) P)(hk:Kp lb w w'):Gi base2 w' v L :=
 hG.stay hk.size (fun k hkk=>hk.block (hG.lo hkk).2 (fun e=>by
  subst e
  exact Gw.ne hL hG (by decide) (g:=k) rfl hkk))
theorem ziy(Sm Sk:Nat->Prop)(ga:Option Addr)(gc:Nat)(ma:Option Addr)(mc:Nat)(s:Sr)(ka:Option Addr)(kc:Nat)(ms:List Bool)(pa:Option Addr)(pc:Nat)(cs:List Int)(lb lc:Nat)(P:List Pd)(na:Option Addr)(nc:Nat)(kd:Int)(sk:Bool)(ra:Option Addr)(rc:Nat)(rs:List Ru)(base base2:Nat)(w0 w:World)
    (hg:Tzz w0 ga gc s.rg) (hrw:Rii w0 ma mc s.rw) (hm:Gr El.bool Sm w0 ka kc ms) (hp:Ri w0 pa pc cs) (h40:s.rg.length<=40) (h8:∀l∈s.rg,l.length<=8) (hr:Gr RuE Sk w0 ra rc rs)
    (hB0:Below w0.heap.size w0 w) (hlb:w0.heap.size<=lb) (hk64:I64 kd)
    (hL:Ln base w (.slice (some ⟨lb,0,none⟩) P.length lc) P) (hN:Gi base2 w (.slice na P.length nc) (naL P)) (hF:mvB kd=true->∀r∈rs,PrF (fiS s) kd sk r) :
    Calls Tryz.prog 65 #[.agg #[.slice ga s.rg.length gc,.slice ma s.rw.length mc,.slice ka ms.length kc,.slice pa cs.length pc,.slice (some ⟨lb,0,none⟩) P.length lc,.slice na P.length nc],.agg #[.int .i64 kd,.bool sk,.slice ra rs.length rc]] w fun e w'=>ThM (thQ (rO s cs) (rE s cs) ms ⟨kd,sk,rs⟩ P) base lb lc P.length w w' e:=by
 have hlw:lb<w.heap.size:=(Ln.lo hL (g:=lb) rfl).2
 obtain⟨a',c',ea,hgr,-⟩:=hL.slice
 have kl:=hgr.lenB
 clear ea hgr
 obtain⟨W,hW⟩:∃W,W=(w.alloc (.cells #[.slice ga s.rg.length gc,.slice ma s.rw.length mc,.slice ka ms.length kc,.slice pa cs.length pc,.slice (some ⟨lb,0,none⟩) P.length lc,.slice na P.length nc] 119)).alloc (.cells #[.int .i64 kd,.bool sk,.slice ra rs.length rc] 123):=⟨_,rfl⟩
 obtain⟨X1,X2,hbW⟩:Bk 119 W w.heap.size [.slice ga s.rg.length gc,.slice ma s.rw.length mc,.slice ka ms.length kc,.slice pa cs.length pc,.slice (some ⟨lb,0,none⟩) P.length lc,.slice na P.length nc]/\Bk 123 W (w.heap.size+1) [.int .i64 kd,.bool sk,.slice ra rs.length rc]/\Below w.heap.size w W:=by
  rw[hW]
  exact new2B w 119 123 [.slice ga s.rg.length gc,.slice ma s.rw.length mc,.slice ka ms.length kc,.slice pa cs.length pc,.slice (some ⟨lb,0,none⟩) P.length lc,.slice na P.length nc] [.int .i64 kd,.bool sk,.slice ra rs.length rc]
 have hmv:=zfo kd W hk64
 obtain⟨x0,x1,x2,-⟩:=X2.three
 have HLW:Hid (Ln base W (.slice (some ⟨lb,0,none⟩) P.length lc) P):=hL.below hbW
 have HNW:Hid (Gi base2 W (.slice na P.length nc) (naL P)):=hN.below hbW
 have HKW:Hid (Kp lb w W):=Kp.of hbW
 have HX:Hid (Bk 119 W w.heap.size [.slice ga s.rg.length gc,.slice ma s.rw.length mc,.slice ka ms.length kc,.slice pa cs.length pc,.slice (some ⟨lb,0,none⟩) P.length lc,.slice na P.length nc]/\Bk 123 W (w.heap.size+1) [.int .i64 kd,.bool sk,.slice ra rs.length rc]):=⟨X1,X2⟩
 have HOT:Hid (mvB kd=false->thQ (rO s cs) (rE s cs) ms ⟨kd,sk,rs⟩ P=some P):=fun h=>by unfold thQ;rw[if_neg (by rw[h];decide)]
 have HOY:Hid (mvB kd=true->thQ (rO s cs) (rE s cs) ms ⟨kd,sk,rs⟩ P=ruQ (rO s cs) (rE s cs) ms ⟨kd,sk,rs⟩ P 0):=fun h=>by unfold thQ;rw[if_pos h]
 generalize thQ (rO s cs) (rE s cs) ms ⟨kd,sk,rs⟩ P=O at HOT HOY ⊢
 have HDO:Hid (mvB kd=true->∀U (Q:List Pd),Below w0.heap.size w0 U->Ln base U (.slice (some ⟨lb,0,none⟩) P.length lc) Q->Gi base2 U (.slice na P.length nc) (naL P)->Q.length=P.length->naL Q=naL P->∀i:Nat,i<P.length ->
     Calls Tryz.prog 96 #[.agg #[.slice ga s.rg.length gc,.slice ma s.rw.length mc,.slice ka ms.length kc,.slice pa cs.length pc,.slice (some ⟨lb,0,none⟩) P.length lc,.slice na P.length nc],.agg #[.int .i64 kd,.bool sk,.slice ra rs.length rc],.int .i64 (i:Int)] U fun e w'=>DoM (onP (rO s cs) (rE s cs) ms ⟨kd,sk,rs⟩ Q i) base lb lc P.length U w' e):=fun hmv U Q hU hQ hG hql hqn i hi=>by
  obtain⟨ca,cc,ec,hci,-⟩:=hG.slice;injection ec with e1 e2 e3;subst e1 e3
  have:=zv4 Sm Sk ga gc ma mc s ka kc ms pa pc cs lb lc Q na nc kd sk ra rc rs base i U (hg.below hU) (hrw.below hU) (hm.below hU) (hp.below hU) h40 h8 (by rw[hql];exact hQ) (by rw[hqn];exact hci) (hr.below hU) (zhg.1 hmv) (hF hmv) (by omega)
  rw[hql]at this
  exact this
 have HIN:Hid (mvB kd=true->∀r∈rs,kd=6->r.inn.length=2):=fun h r hr h6=>by
  have:=(hF h r hr).inn
  rw[h6]at this
  exact this
 have HBZ:Hid (∀U,Kp lb W U->Below w0.heap.size w0 U):=fun U hU=>by
  have h1:=hbW.size
  have h2:=hB0.size
  exact(hB0.trans (hbW.mono h2)).trans (hU.below (by omega) hlb)
 clear hg hrw hm hp hr hL hN hF h8 hB0
 go_enter Tryz.func65,Tryz.ntmps65
 go_upto_region 1 with fail
 rw[<-hW];clear hW X1 X2 hbW
 cases hmk:mvB kd with
 | false =>
  rw[hmk]at hmv
  have HV:Hid (ThM O base lb lc P.length w W (.returned (.int .i64 0))):=ThM.yes (HOT.out hmk) HLW.out HKW.out
  clear HOT HOY HDO HIN HBZ hmk
  go_wp2_with fail
  refine hmv.mono ?_
  rintro e u ⟨rfl,rfl⟩;clear hmv;go_wp2
  go_ret
  exact HV.out
 | true =>
  rw[hmk]at hmv
  have HOR:Hid (O=ruQ (rO s cs) (rE s cs) ms ⟨kd,sk,rs⟩ P 0):=HOY.out hmk
  have zu5:=HDO.out hmk
  have HDO:Hid (∀U (Q:List Pd),Below w0.heap.size w0 U->Ln base U (.slice (some ⟨lb,0,none⟩) P.length lc) Q->Gi base2 U (.slice na P.length nc) (naL P)->Q.length=P.length->naL Q=naL P->∀i:Nat,i<P.length ->
   Calls Tryz.prog 96 #[.agg #[.slice ga s.rg.length gc,.slice ma s.rw.length mc,.slice ka ms.length kc,.slice pa cs.length pc,.slice (some ⟨lb,0,none⟩) P.length lc,.slice na P.length nc],.agg #[.int .i64 kd,.bool sk,.slice ra rs.length rc],.int .i64 (i:Int)] U fun e w'=>DoM (onP (rO s cs) (rE s cs) ms ⟨kd,sk,rs⟩ Q i) base lb lc P.length U w' e):=zu5
  have zxq:=HIN.out hmk
  have HIN:Hid (∀r∈rs,kd=6->r.inn.length=2):=zxq
  clear HOT HOY zu5 zxq hmk
  go_wp2_with fail
  refine hmv.mono ?_
  rintro e u ⟨rfl,rfl⟩;clear hmv x0 x1 x2;go_wp2
  go_loopw [5] (fun va wr=>∃(Q:List Pd) (i:Nat),va=.int .i64 (i:Int)/\i<=3*P.length+3/\Hid (O=ruQ (rO s cs) (rE s cs) ms ⟨kd,sk,rs⟩ Q (i:Int))/\Hid (Q.length=P.length/\naL Q=naL P)/\Hid (Ln base wr (.slice (some ⟨lb,0,none⟩) P.length lc) Q)/\Hid (Gi base2 wr (.slice na P.length nc) (naL P))/\Hid (Kp lb W wr)) (fun va _=>P.length-(intOf va).toNat)
  case atStart=>exact⟨P,0,rfl,by omega,HOR.out,⟨rfl,rfl⟩,HLW.out,HNW.out,Kp.refl _ _⟩
  case round =>
   clear HOR HLW HNW;obtain⟨Q,i,rfl,hi3,HOQ,HQQ,HL,HG,HK⟩:=hrel
   have hsz:=HX.out.1.lt
   have X1:=HX.out.1.kp HK.out (by omega)
   have X2:=HX.out.2.kp HK.out (by omega)
   obtain⟨m0,m1,m2,m3,m4,m5⟩:=X1.six21;obtain⟨x0,x1,x2,-⟩:=X2.three
   by_cases hin:i<P.length
   rotate_left
   . have HV:Hid (ThM O base lb lc P.length w wr (.returned (.int .i64 0))):=ThM.yes (by rw[HOQ.out];exact zjo (by omega) (by rw[HQQ.out.1];omega)) HL.out (HKW.out.trans HK.out)
     have g4:¬(i:Int)<(P.length:Int):=by omega
     clear HOQ HL HG HK X1 X2;go_wp2
     go_ret
     exact HV.out
   . have hdo:=HDO.out wr Q (HBZ.out wr HK.out) HL.out HG.out HQQ.out.1 HQQ.out.2 i hin
     have HBD:Hid (onP (rO s cs) (rE s cs) ms ⟨kd,sk,rs⟩ Q i=none->O=none):=fun h=>by rw[HOQ.out];exact zot (by rw[HQQ.out.1];exact hin) h
     have HON:Hid (∀R nx,onP (rO s cs) (rE s cs) ms ⟨kd,sk,rs⟩ Q i=some (R,nx)->O=ruQ (rO s cs) (rE s cs) ms ⟨kd,sk,rs⟩ R nx/\R.length=P.length/\naL R=naL P/\(i:Int)<nx/\nx<=(P.length:Int)+(i:Int)+1):=fun R nx h=>by
      obtain⟨h1,h2,h3,h4⟩:=zfm h HIN.out
      refine⟨by rw[HOQ.out];exact zt3 HIN.out (by rw[HQQ.out.1];exact hin) h,by rw[h1];exact HQQ.out.1,by rw[h2];exact HQQ.out.2,h3,?_⟩
      rw[HQQ.out.1]at h4
      exact h4
     generalize onP (rO s cs) (rE s cs) ms ⟨kd,sk,rs⟩ Q i=D at hdo HBD HON
     have g4:(i:Int)<(P.length:Int):=by omega
     cases D with
     | none =>
      have zgv:Hid (O=none):=HBD.out rfl
      clear HBD HON HOQ
      go_wp2_with fail
      refine hdo.mono ?_
      intro e u hd
      obtain rfl:=hd.no rfl
      have HV:Hid (ThM O base lb lc P.length w u (.returned (.int .i64 4))):=ThM.bad zgv.out ((HKW.out.trans HK.out).trans hd.kp)
      clear hdo hd HL HG HK X1 X2 m0 m1 m2 m3 m4 m5 x0 x1 x2;go_wp2
      go_ret
      exact HV.out
     | some q =>
      obtain⟨R,nx⟩:=q
      obtain⟨h1,h2,h3,h4,h5⟩:=HON.out R nx rfl
      obtain⟨j,rfl⟩:∃j:Nat,nx=(j:Int):=⟨nx.toNat,by omega⟩
      have HOR:Hid (O=ruQ (rO s cs) (rE s cs) ms ⟨kd,sk,rs⟩ R (j:Int)):=h1
      have HRR:Hid (R.length=P.length/\naL R=naL P):=⟨h2,h3⟩
      clear HBD HON HOQ h1 h2 h3
      go_wp2_with fail
      refine hdo.mono ?_
      intro e u hd
      obtain⟨rfl,hl⟩:=hd.ok _ _ rfl
      have HL2:Hid (Ln base u (.slice (some ⟨lb,0,none⟩) P.length lc) R):=hl
      have HG2:Hid (Gi base2 u (.slice na P.length nc) (naL P)):=HG.out.kpL HL.out hd.kp
      have HK2:Hid (Kp lb W u):=HK.out.trans hd.kp
      have i8:j<=3*P.length+3:=by omega
      have i9:i<j:=by omega
      clear hdo hd hl HL HG HK X1 X2 m0 m1 m2 m3 m4 m5 x0 x1 x2 h4 h5 g4;go_wp2
      go_roundw
      case rel=>exact⟨R,j,rfl,i8,HOR,HRR,HL2,HG2,HK2⟩
      case measure=>simp[intOf];omega
theorem zix(ga:Option Addr)(gc:Nat)(ma:Option Addr)(mc:Nat)(s:Sr)(ka:Option Addr)(kc:Nat)(ms:List Bool)(pa:Option Addr)(pc:Nat)(cs:List Int)(la:Option Addr)(lc:Nat)(na:Option Addr)(nn nc:Nat)(kd:Int)(sk:Bool)(ra:Option Addr)(rc:Nat)(rs:List Ru)(w:World)(hk64:I64 kd) :
 Calls Tryz.prog 65 #[.agg #[.slice ga s.rg.length gc,.slice ma s.rw.length mc,.slice ka ms.length kc,.slice pa cs.length pc,.slice la 0 lc,.slice na nn nc],.agg #[.int .i64 kd,.bool sk,.slice ra rs.length rc]] w fun e w'=>e=.returned (.int .i64 0)/\Below w.heap.size w w':=by
 obtain⟨W,hW⟩:∃W,W=(w.alloc (.cells #[.slice ga s.rg.length gc,.slice ma s.rw.length mc,.slice ka ms.length kc,.slice pa cs.length pc,.slice la 0 lc,.slice na nn nc] 119)).alloc (.cells #[.int .i64 kd,.bool sk,.slice ra rs.length rc] 123):=⟨_,rfl⟩
 obtain⟨X1,X2,hbW⟩:Bk 119 W w.heap.size [.slice ga s.rg.length gc,.slice ma s.rw.length mc,.slice ka ms.length kc,.slice pa cs.length pc,.slice la 0 lc,.slice na nn nc]/\Bk 123 W (w.heap.size+1) [.int .i64 kd,.bool sk,.slice ra rs.length rc]/\Below w.heap.size w W:=by
  rw[hW]
  exact new2B w 119 123 [.slice ga s.rg.length gc,.slice ma s.rw.length mc,.slice ka ms.length kc,.slice pa cs.length pc,.slice la 0 lc,.slice na nn nc] [.int .i64 kd,.bool sk,.slice ra rs.length rc]
 have hmv:=zfo kd W hk64
 obtain⟨x0,x1,x2,-⟩:=X2.three;obtain⟨m0,m1,m2,m3,m4,m5⟩:=X1.six21
 go_enter Tryz.func65,Tryz.ntmps65
 go_upto_region 1 with fail
 rw[<-hW];clear hW X1 X2
 cases hmk:mvB kd with
 | false =>
  rw[hmk]at hmv;clear hmk
  go_wp2_with fail
  refine hmv.mono ?_
  rintro e u ⟨rfl,rfl⟩;clear hmv;go_wp2
  go_ret
  exact⟨rfl,hbW⟩
 | true =>
  rw[hmk]at hmv;clear hmk
  go_wp2_with fail
  refine hmv.mono ?_
  rintro e u ⟨rfl,rfl⟩;clear hmv;go_wp2
  go_loopw [5] (fun va wr=>va=.int .i64 0/\wr=W) (fun va _=>0)
  case atStart=>exact⟨rfl,rfl⟩
  case round =>
   obtain⟨rfl,rfl⟩:=hrel;go_wp2
   go_ret
   exact⟨rfl,hbW⟩
theorem Gw.lowB{α:Type}{E:El α}{t:TypeId}{b b':Nat}{S:Nat->Prop}{w:World}{v:Value}{l:List α}(h:Gw E t b S w v l)(hb:b'<=b):Gw E t b' S w v l:=by
 obtain⟨vss,h1,h3,h4⟩:=h
 refine⟨vss,h1,⟨h3.1,?_⟩,h4⟩
 rcases h3.2 with h|⟨g,cap,cur,k1,k2,k3⟩
 . exact .inl h
 . exact .inr ⟨g,cap,cur,k1,Nat.le_trans hb k2,k3⟩
theorem Bk.setM{t:TypeId}{w:World}{g:Nat}{x y z u v r:Value}(h:Bk t w g [x,y,z,u,v,r])(x' y' z' u' v' r':Value):Bk t ((((((w.setCell ⟨g,0,none⟩ x').setCell ⟨g,1,none⟩ y').setCell ⟨g,2,none⟩ z').setCell ⟨g,3,none⟩ u').setCell ⟨g,4,none⟩ v').setCell ⟨g,5,none⟩ r') g [x',y',z',u',v',r']:=(((((h.set 0 x').set 1 y').set 2 z').set 3 u').set 4 v').set 5 r'
theorem Kp.setM{g:Nat}{a w:World}(h:Kp g a w)(x' y' z' u' v' r':Value):Kp g a ((((((w.setCell ⟨g,0,none⟩ x').setCell ⟨g,1,none⟩ y').setCell ⟨g,2,none⟩ z').setCell ⟨g,3,none⟩ u').setCell ⟨g,4,none⟩ v').setCell ⟨g,5,none⟩ r'):=(((((h.setCell 0 x').setCell 1 y').setCell 2 z').setCell 3 u').setCell 4 v').setCell 5 r'
theorem Bk.fz6{t:TypeId}{w:World}{g:Nat}{cs:List Value}(h:Bk t w g cs):w.frozen? ⟨g,0,none⟩=false/\w.frozen? ⟨g,1,none⟩=false/\w.frozen? ⟨g,2,none⟩=false/\w.frozen? ⟨g,3,none⟩=false/\w.frozen? ⟨g,4,none⟩=false/\w.frozen? ⟨g,5,none⟩=false:=⟨h.fz 0,h.fz 1,h.fz 2,h.fz 3,h.fz 4,h.fz 5⟩
theorem Ln.neB{base:Nat}{w:World}{v:Value}{P:List Pd}{t:TypeId}{g:Nat}{cs:List Value}(h:Ln base w v P)(hb:Bk t w g cs)(ht:t≠66):v.ownBlock≠some g:=by
 intro e
 obtain⟨cur,k⟩:=Gw.ty h e
 rw[hb]at k
 simp at k
 exact ht k.2
theorem Ln.kpB{base:Nat}{w w':World}{v:Value}{P:List Pd}{t:TypeId}{g:Nat}{cs:List Value}(h:Ln base w v P)(hb:Bk t w g cs)(ht:t≠66)(hk:Kp g w w'):Ln base w' v P :=
 Gw.stay h hk.size (fun _ hf=>hf.elim) (fun k hkk=>hk.block (h.lo hkk).2 (fun e=>h.neB hb ht (by rw[hkk,e])))
theorem Gi.kpB{base:Nat}{w w':World}{v:Value}{L:List Int}{t:TypeId}{g:Nat}{cs:List Value}(h:Gi base w v L)(hb:Bk t w g cs)(ht:t≠3)(hk:Kp g w w'):Gi base w' v L :=
 h.stay hk.size (fun k hkk=>hk.block (h.lo hkk).2 (fun e=>h.ne hb ht (by rw[hkk,e])))
theorem zk0{ro re:Int×Int->Int}{ms:List Bool}{l:List Lk}{ks:List Int}{P:List Pd}{r k:Nat}(hr:r<ks.length)(hk:ks.getD r 0=(k:Int))(hl:k<l.length)(h:thQ ro re ms (l.getD k Lk.none) P=none):alM ro re ms l (ks.drop r) P=(4,[]):=by
 unfold thQ at h
 split at h
 . next h1=>exact zw7 hr hk hl h1 h
 . cases h
theorem zkz{ro re:Int×Int->Int}{ms:List Bool}{l:List Lk}{ks:List Int}{P Q:List Pd}{r k:Nat}(hr:r<ks.length)(hk:ks.getD r 0=(k:Int))(hl:k<l.length)(h:thQ ro re ms (l.getD k Lk.none) P=some Q):alM ro re ms l (ks.drop r) P=alM ro re ms l (ks.drop (r+1)) Q:=by
 unfold thQ at h
 split at h
 . next h1=>exact zzq hr hk hl h1 h
 . next h1 =>
   injection h with h;rw[<-h]
   exact zrm hr hk hl (Bool.eq_false_iff.2 h1)
theorem zn6{fi:Int->Int->Bool}{ro re:Int×Int->Int}{ms:List Bool}{l:List Lk}{P Q:List Pd}{k:Nat}(hf:foM20 fi l 65536=true)(hl:k<l.length)(h:thQ ro re ms (l.getD k Lk.none) P=some Q):Q.length=P.length/\naL Q=naL P:=by
 unfold thQ at h
 split at h
 . next h1=>exact zvi (zwd hf hl h1) _ P Q 0 (Int.le_refl _) h
 . injection h with h
   rw[h]
   exact⟨rfl,rfl⟩
theorem zxr{ro re:Int×Int->Int}{ms:List Bool}{x:Lk}:thQ ro re ms x []=some []:=by
 unfold thQ
 split
 . exact zjo (Int.le_refl _) (by simp)
 . rfl
structure PaA(r:Int×List Pd)(base:Nat)(w':World)(e:Ending):Prop where
 out:∃v,e=.returned (.tuple #[v,.int .i64 r.1])/\Ln base w' v r.2
theorem PaA.nil{r:Int×List Pd}{base:Nat}{w':World}{z:Int}(h:r=(z,[])):PaA r base w' (.returned (.tuple #[.slice none 0 0,.int .i64 z])):=⟨_,by rw[h],by rw[h];exact Gw.nil _ _ _ _ _⟩
theorem PaA.yes{r:Int×List Pd}{base:Nat}{w':World}{Q:List Pd}{v:Value}(h:r=(0,Q))(hl:Ln base w' v Q):PaA r base w' (.returned (.tuple #[v,.int .i64 0])):=⟨v,by rw[h],by rw[h];exact hl⟩
def MvS(ga:Option Addr)(gc:Nat)(ma:Option Addr)(mc:Nat)(s:Sr)(ka:Option Addr)(kc:Nat)(ms:List Bool)(pa:Option Addr)(pc:Nat)(cs:List Int)(P:List Pd)(base:Nat)(v:Value)(wx:World):Prop :=
 ∃mb va vc na nc,v=.pointer (some ⟨mb,0,none⟩)/\base<=mb/\Bk 119 wx mb [.slice ga s.rg.length gc,.slice ma s.rw.length mc,.slice ka ms.length kc,.slice pa cs.length pc,.slice va P.length vc,.slice na P.length nc]/\Ln base wx (.slice va P.length vc) P/\Gi base wx (.slice na P.length nc) (naL P)
