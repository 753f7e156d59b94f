import Derived.Test.YtgbhidcokobmmaaGreatDoorZL24
set_option maxHeartbeats 16000000
set_option maxRecDepth 100000
set_option linter.unusedSimpArgs false
set_option linter.unusedVariables false
namespace Go.Proofs.YtgbhidcokobmmaaGreatDoor
open Go.RowKit Go.Maps
theorem zrf(Sl Sm Sp:Nat->Prop)(la:Option Addr)(lc:Nat)(l:List Lk)(xa:Option Addr)(xc:Nat)(ks:List Int)(ga:Option Addr)(gc:Nat)(ma:Option Addr)(mc:Nat)(s:Sr)(ka:Option Addr)(kc:Nat)(ms:List Bool)(pa:Option Addr)(pc:Nat)(cs:List Int)(qa:Option Addr)(qc:Nat)(P:List Pd)(w:World)
    (hl:Gr LkE Sl w la lc l) (hx:Ri w xa xc ks) (hg:Tzz w ga gc s.rg) (hrw:Rii w ma mc s.rw) (hm:Gr El.bool Sm w ka kc ms) (hp:Ri w pa pc cs) (h40:s.rg.length<=40) (h8:∀l∈s.rg,l.length<=8) (hP:Gr PdE Sp w qa qc P) (hPl:P.length<=1000) :
    Calls Tryz.prog 34 #[.slice la l.length lc,.slice xa ks.length xc,.agg #[.slice ga s.rg.length gc,.slice ma s.rw.length mc,.slice ka ms.length kc,.slice pa cs.length pc],.slice qa P.length qc] w fun e w'=>PaA (paEJ (fiS s) (rO s cs) (rE s cs) ms l ks P) w.heap.size w' e/\Below w.heap.size w w':=by
 have kP:=hP.lenB
 have kl:=hl.lenB
 have kx:=hx.lenB
 have k2:=hrw.lenB
 obtain⟨W,hW,X1,hbW⟩:∃W,W=w.alloc (.cells #[.slice ga s.rg.length gc,.slice ma s.rw.length mc,.slice ka ms.length kc,.slice pa cs.length pc] 82)/\Bk 82 W w.heap.size [.slice ga s.rg.length gc,.slice ma s.rw.length mc,.slice ka ms.length kc,.slice pa cs.length pc]/\Below w.heap.size w W:=⟨_,rfl,Bk.new _ _ _,bl1 _⟩
 obtain⟨x0,x1,x2,x3,-⟩:=X1.four
 have hfo:=zev Sl la lc l ga gc ma mc s 65536 W (hl.below hbW) k2 ⟨by decide,by decide⟩
 have HNF:Hid (foM20 (fiS s) l 65536=false->paEJ (fiS s) (rO s cs) (rE s cs) ms l ks P=(1,[])):=fun h=>by unfold paEJ;rw[if_neg (by rw[h];decide)]
 have HLG:Hid (foM20 (fiS s) l 65536=true->100<P.length->paEJ (fiS s) (rO s cs) (rE s cs) ms l ks P=(3,[])):=fun h h1=>by unfold paEJ;rw[if_pos h,if_pos h1]
 have HGO:Hid (foM20 (fiS s) l 65536=true->¬100<P.length->paEJ (fiS s) (rO s cs) (rE s cs) ms l ks P=alM (rO s cs) (rE s cs) ms l ks P):=fun h h1=>by unfold paEJ;rw[if_pos h,if_neg h1]
 have HFO:Hid (∀b,foM20 (fiS s) l 65536=b->foM20 (fiS s) l 65536=b):=fun _ h=>h
 generalize paEJ (fiS s) (rO s cs) (rE s cs) ms l ks P=PR at HNF HLG HGO ⊢
 have HL:Hid (Gr LkE Sl w la lc l):=hl
 have HXK:Hid (Ri w xa xc ks):=hx
 have HG:Hid (Tzz w ga gc s.rg):=hg
 have HRW:Hid (Rii w ma mc s.rw):=hrw
 have HM:Hid (Gr El.bool Sm w ka kc ms):=hm
 have HP:Hid (Ri w pa pc cs):=hp
 have HPP:Hid (Gr PdE Sp w qa qc P):=hP
 have HBW:Hid (Below w.heap.size w W):=hbW
 have HX1:Hid (Bk 82 W w.heap.size [.slice ga s.rg.length gc,.slice ma s.rw.length mc,.slice ka ms.length kc,.slice pa cs.length pc]):=X1
 clear hl hx hg hrw hm hp hP
 go_enter Tryz.func34,Tryz.ntmps34
 go_upto_region 1 with fail
 rw[<-hW];clear hW X1
 cases hfm:foM20 (fiS s) l 65536 with
 | false =>
  have HV:Hid (∀U,PaA PR w.heap.size U (.returned (.tuple #[.slice none 0 0,.int .i64 1]))):=fun U=>PaA.nil (HNF.out hfm)
  rw[hfm]at hfo;clear HNF HLG HGO HFO hfm HL HXK HG HRW HM HP HPP
  go_wp2_with fail
  refine hfo.mono ?_
  rintro e u ⟨rfl,hb⟩
  have zaf:=hbW.trans (hb.mono hbW.size)
  clear hfo hb;go_wp2
  go_ret2
  exact⟨HV.out _,zaf⟩
 | true =>
 have HFM:Hid (foM20 (fiS s) l 65536=true):=hfm
 rw[hfm]at hfo
 by_cases zhm:100<P.length
 . have HV:Hid (∀U,PaA PR w.heap.size U (.returned (.tuple #[.slice none 0 0,.int .i64 3]))):=fun U=>PaA.nil (HLG.out hfm zhm)
   have g1:(100:Int)<(P.length:Int):=by omega
   clear HNF HLG HGO HFO hfm HL HXK HG HRW HM HP HPP zhm
   go_wp2_with fail
   refine hfo.mono ?_
   rintro e u ⟨rfl,hb⟩
   have zaf:=hbW.trans (hb.mono hbW.size)
   clear hfo hb;go_wp2
   go_ret2
   exact⟨HV.out _,zaf⟩
 have HPR:Hid (PR=alM (rO s cs) (rE s cs) ms l ks P):=HGO.out hfm zhm
 have g1:¬(100:Int)<(P.length:Int):=by omega
 clear HNF HLG HGO HFO hfm zhm
 go_wp2_with fail
 refine hfo.mono ?_
 rintro e u ⟨rfl,hb⟩
 have hU:=hbW.trans (hb.mono hbW.size)
 have X1:=HX1.out.below hb
 clear hfo hb x0 x1 x2 x3 HX1 hbW HBW
 go_upto_region 5 with fail
 clear W
 obtain⟨W,hW9⟩:∃W,W=u:=⟨_,rfl⟩
 rw[<-hW9]at hU X1 ⊢;clear hW9 u;obtain⟨x0,x1,x2,x3,-⟩:=X1.four
 have HS0:Hid (w.heap.size<W.heap.size):=X1.lt
 have HSC:Hid (W.cell? ⟨w.heap.size,0,none⟩=some (.slice ga s.rg.length gc)/\W.cell? ⟨w.heap.size,1,none⟩=some (.slice ma s.rw.length mc)/\W.cell? ⟨w.heap.size,2,none⟩=some (.slice ka ms.length kc)/\W.cell? ⟨w.heap.size,3,none⟩=some (.slice pa cs.length pc)):=⟨x0,x1,x2,x3⟩
 have HBU:Hid (Below w.heap.size w W):=hU
 go_cut [10]from 24 to 29 (fun v wx=>MvS ga gc ma mc s ka kc ms pa pc cs P w.heap.size v wx/\Below W.heap.size W wx)
 case first =>
  have hcl:=fun Z (hZ:Below W.heap.size W Z)=>zkp Sp qa qc P Z ((HPP.out.below hU).below hZ) hPl
  have hgl:=fun Z (hZ:Below W.heap.size W Z)=>zi2 Sp qa qc P Z ((HPP.out.below hU).below hZ) hPl
  have hWs:w.heap.size<=W.heap.size:=hU.size
  refine wp_region_held_drew (S:=(fun u=>u.cell? ⟨w.heap.size,0,none⟩=some (.slice ga s.rg.length gc)/\u.cell? ⟨w.heap.size,1,none⟩=some (.slice ma s.rw.length mc)/\u.cell? ⟨w.heap.size,2,none⟩=some (.slice ka ms.length kc)/\u.cell? ⟨w.heap.size,3,none⟩=some (.slice pa cs.length pc))) (by kernel_rfl) ⟨x0,x1,x2,x3⟩ (fun hH=>?_)
  have hZ0:Below W.heap.size W W.drew:=(Below.refl _ _).drew
  generalize W.drew=Z0 at hZ0 hH ⊢
  clear HL HXK HG HRW HM HP HPP HFM HPR x0 x1 x2 x3 X1 hU HBU;refine hT 0 hH ?_;refine hT 1 hH ?_;refine hT 3 hH ?_
  refine wpAnyH_ready (rs:=[2,6]) (by kernel_rfl) (by simp) (hCons (i:=2) rfl (by rfl) (fun K hK=>?_) (hCons (i:=6) rfl (by rfl) (fun K hK=>?_) AllReadyH.nil))
  . go_simp
    refine(hcl Z0 hZ0).mono ?_
    rintro e Z1 ⟨⟨v,rfl,hv⟩,hb⟩;obtain⟨va,vc,rfl,-,-⟩:=hv.slice
    have hLn:Ln w.heap.size Z1 (.slice va P.length vc) P:=Gw.lowB hv (Nat.le_trans hWs hZ0.size)
    have hZ1:=hZ0.trans (hb.mono hZ0.size)
    go_wp2_with fail
    refine hK.out _ _ ⟨(hb.cell (p:=⟨w.heap.size,0,none⟩) (by show w.heap.size<_;have:=HS0.out;have:=hZ0.size;omega)).trans hH.1,(hb.cell (p:=⟨w.heap.size,1,none⟩) (by show w.heap.size<_;have:=HS0.out;have:=hZ0.size;omega)).trans hH.2.1,(hb.cell (p:=⟨w.heap.size,2,none⟩) (by show w.heap.size<_;have:=HS0.out;have:=hZ0.size;omega)).trans hH.2.2.1,(hb.cell (p:=⟨w.heap.size,3,none⟩) (by show w.heap.size<_;have:=HS0.out;have:=hZ0.size;omega)).trans hH.2.2.2⟩ (fun hH=>?_)
    clear hK K hv hb
    try simp only[Act.put,pZ]
    refine wpAnyH_ready (rs:=[4,6]) (by kernel_rfl) (by simp) (hCons (i:=4) rfl (by rfl) (fun K hK=>?_) (hCons (i:=6) rfl (by rfl) (fun K hK=>?_) AllReadyH.nil))
    . go_simp
      refine(hgl Z1 hZ1).mono ?_
      rintro e Z2 ⟨⟨v,rfl,hv⟩,hb⟩;obtain⟨na,nc,e9,-,-⟩:=hv.slice;rw[zce]at e9;subst e9
      have hGn:Gi w.heap.size Z2 (.slice na P.length nc) (naL P):=Gw.lowB hv (Nat.le_trans hWs hZ1.size)
      replace hLn:=hLn.below hb
      have hZ2:=hZ1.trans (hb.mono hZ1.size)
      go_wp2_with fail
      refine hK.out _ _ ⟨(hb.cell (p:=⟨w.heap.size,0,none⟩) (by show w.heap.size<_;have:=HS0.out;have:=hZ1.size;omega)).trans hH.1,(hb.cell (p:=⟨w.heap.size,1,none⟩) (by show w.heap.size<_;have:=HS0.out;have:=hZ1.size;omega)).trans hH.2.1,(hb.cell (p:=⟨w.heap.size,2,none⟩) (by show w.heap.size<_;have:=HS0.out;have:=hZ1.size;omega)).trans hH.2.2.1,(hb.cell (p:=⟨w.heap.size,3,none⟩) (by show w.heap.size<_;have:=HS0.out;have:=hZ1.size;omega)).trans hH.2.2.2⟩ (fun hH=>?_)
      clear hK K hv hb
      try simp only[Act.put,pZ]
      refine hT 5 hH ?_
      refine hCall (i:=6) rfl (by kernel_rfl) (by rfl) (fun K hK=>?_)
      go_simp
      obtain⟨Z3,hYe,hMv,hb⟩:∃Y,Y=Z2.alloc (.cells #[.slice none 0 0,.slice none 0 0,.slice none 0 0,.slice none 0 0,.slice none 0 0,.slice none 0 0] 119)/\Bk 119 Y Z2.heap.size [.slice none 0 0,.slice none 0 0,.slice none 0 0,.slice none 0 0,.slice none 0 0,.slice none 0 0]/\Below Z2.heap.size Z2 Y:=⟨_,rfl,Bk.new _ _ _,bl1 _⟩
      have hMw:W.heap.size<=Z2.heap.size:=hZ2.size
      replace hLn:=hLn.below hb;replace hGn:=hGn.below hb
      have hZ3:=hZ2.trans (hb.mono hZ2.size)
      rw[<-hYe];clear hYe
      refine hK.out _ _ ⟨(hb.cell (p:=⟨w.heap.size,0,none⟩) (by show w.heap.size<_;have:=HS0.out;have:=hZ2.size;omega)).trans hH.1,(hb.cell (p:=⟨w.heap.size,1,none⟩) (by show w.heap.size<_;have:=HS0.out;have:=hZ2.size;omega)).trans hH.2.1,(hb.cell (p:=⟨w.heap.size,2,none⟩) (by show w.heap.size<_;have:=HS0.out;have:=hZ2.size;omega)).trans hH.2.2.1,(hb.cell (p:=⟨w.heap.size,3,none⟩) (by show w.heap.size<_;have:=HS0.out;have:=hZ2.size;omega)).trans hH.2.2.2⟩ (fun hH=>?_)
      clear hK K hb
      try simp only[Act.put,pZ]
      obtain⟨mb,hmb⟩:∃mb,Z2.heap.size=mb:=⟨_,rfl⟩
      rw[hmb]at hMv hMw ⊢;clear hmb;obtain⟨m0,m1,m2,m3,m4,m5⟩:=hMv.six21;obtain⟨f0,f1,f2,f3,f4,f5⟩:=hMv.fz6
      have h6:=hMv.setM (.slice ga s.rg.length gc) (.slice ma s.rw.length mc) (.slice ka ms.length kc) (.slice pa cs.length pc) (.slice va P.length vc) (.slice na P.length nc)
      have k6:=(Kp.refl mb Z3).setM (.slice ga s.rg.length gc) (.slice ma s.rw.length mc) (.slice ka ms.length kc) (.slice pa cs.length pc) (.slice va P.length vc) (.slice na P.length nc)
      refine hCall (i:=7) rfl (by kernel_rfl) (by rfl) (fun K hK=>?_)
      go_simp
      have hb6:=k6.below (B:=W.heap.size) hZ3.size hMw
      have zaf:=hZ3.trans hb6
      refine hK.out _ _ ⟨(zaf.cell (p:=⟨w.heap.size,0,none⟩) HS0.out).trans HSC.out.1,(zaf.cell (p:=⟨w.heap.size,1,none⟩) HS0.out).trans HSC.out.2.1,(zaf.cell (p:=⟨w.heap.size,2,none⟩) HS0.out).trans HSC.out.2.2.1,(zaf.cell (p:=⟨w.heap.size,3,none⟩) HS0.out).trans HSC.out.2.2.2⟩ (fun hH=>?_)
      clear hK K
      try simp only[Act.put,pZ]
      refine wpAnyH_done (by kernel_rfl) ?_ _
      have HV:Hid (MvS ga gc ma mc s ka kc ms pa pc cs P w.heap.size (.pointer (some ⟨mb,0,none⟩)) _):=⟨mb,va,vc,na,nc,rfl,Nat.le_trans hWs hMw,h6,hLn.kpB hMv (by decide) k6,hGn.kpB hMv (by decide) k6⟩
      clear hH hLn hGn hMv m0 m1 m2 m3 m4 m5 f0 f1 f2 f3 f4 f5 h6 k6 hb6;go_wp2
      go_meet
      exact⟨HV.out,zaf⟩
    . go_simp
      obtain⟨Z2,hYe,hMv,hb⟩:∃Y,Y=Z1.alloc (.cells #[.slice none 0 0,.slice none 0 0,.slice none 0 0,.slice none 0 0,.slice none 0 0,.slice none 0 0] 119)/\Bk 119 Y Z1.heap.size [.slice none 0 0,.slice none 0 0,.slice none 0 0,.slice none 0 0,.slice none 0 0,.slice none 0 0]/\Below Z1.heap.size Z1 Y:=⟨_,rfl,Bk.new _ _ _,bl1 _⟩
      have hMw:W.heap.size<=Z1.heap.size:=hZ1.size
      replace hLn:=hLn.below hb
      have hZ2:=hZ1.trans (hb.mono hZ1.size)
      rw[<-hYe];clear hYe
      refine hK.out _ _ ⟨(hb.cell (p:=⟨w.heap.size,0,none⟩) (by show w.heap.size<_;have:=HS0.out;have:=hZ1.size;omega)).trans hH.1,(hb.cell (p:=⟨w.heap.size,1,none⟩) (by show w.heap.size<_;have:=HS0.out;have:=hZ1.size;omega)).trans hH.2.1,(hb.cell (p:=⟨w.heap.size,2,none⟩) (by show w.heap.size<_;have:=HS0.out;have:=hZ1.size;omega)).trans hH.2.2.1,(hb.cell (p:=⟨w.heap.size,3,none⟩) (by show w.heap.size<_;have:=HS0.out;have:=hZ1.size;omega)).trans hH.2.2.2⟩ (fun hH=>?_)
      clear hK K hb
      try simp only[Act.put,pZ]
      obtain⟨mb,hmb⟩:∃mb,Z1.heap.size=mb:=⟨_,rfl⟩
      rw[hmb]at hMv hMw ⊢;clear hmb
      refine hCall (i:=4) rfl (by kernel_rfl) (by rfl) (fun K hK=>?_)
      go_simp
      refine(hgl Z2 hZ2).mono ?_
      rintro e Z3 ⟨⟨v,rfl,hv⟩,hb⟩;obtain⟨na,nc,e9,-,-⟩:=hv.slice;rw[zce]at e9;subst e9
      have hGn:Gi w.heap.size Z3 (.slice na P.length nc) (naL P):=Gw.lowB hv (Nat.le_trans hWs hZ2.size)
      replace hLn:=hLn.below hb;replace hMv:=hMv.below hb
      have hZ3:=hZ2.trans (hb.mono hZ2.size)
      go_wp2_with fail
      refine hK.out _ _ ⟨(hb.cell (p:=⟨w.heap.size,0,none⟩) (by show w.heap.size<_;have:=HS0.out;have:=hZ2.size;omega)).trans hH.1,(hb.cell (p:=⟨w.heap.size,1,none⟩) (by show w.heap.size<_;have:=HS0.out;have:=hZ2.size;omega)).trans hH.2.1,(hb.cell (p:=⟨w.heap.size,2,none⟩) (by show w.heap.size<_;have:=HS0.out;have:=hZ2.size;omega)).trans hH.2.2.1,(hb.cell (p:=⟨w.heap.size,3,none⟩) (by show w.heap.size<_;have:=HS0.out;have:=hZ2.size;omega)).trans hH.2.2.2⟩ (fun hH=>?_)
      clear hK K hv hb
      try simp only[Act.put,pZ]
      refine hT 5 hH ?_;obtain⟨m0,m1,m2,m3,m4,m5⟩:=hMv.six21;obtain⟨f0,f1,f2,f3,f4,f5⟩:=hMv.fz6
      have h6:=hMv.setM (.slice ga s.rg.length gc) (.slice ma s.rw.length mc) (.slice ka ms.length kc) (.slice pa cs.length pc) (.slice va P.length vc) (.slice na P.length nc)
      have k6:=(Kp.refl mb Z3).setM (.slice ga s.rg.length gc) (.slice ma s.rw.length mc) (.slice ka ms.length kc) (.slice pa cs.length pc) (.slice va P.length vc) (.slice na P.length nc)
      refine hCall (i:=7) rfl (by kernel_rfl) (by rfl) (fun K hK=>?_)
      go_simp
      have hb6:=k6.below (B:=W.heap.size) hZ3.size hMw
      have zaf:=hZ3.trans hb6
      refine hK.out _ _ ⟨(zaf.cell (p:=⟨w.heap.size,0,none⟩) HS0.out).trans HSC.out.1,(zaf.cell (p:=⟨w.heap.size,1,none⟩) HS0.out).trans HSC.out.2.1,(zaf.cell (p:=⟨w.heap.size,2,none⟩) HS0.out).trans HSC.out.2.2.1,(zaf.cell (p:=⟨w.heap.size,3,none⟩) HS0.out).trans HSC.out.2.2.2⟩ (fun hH=>?_)
      clear hK K
      try simp only[Act.put,pZ]
      refine wpAnyH_done (by kernel_rfl) ?_ _
      have HV:Hid (MvS ga gc ma mc s ka kc ms pa pc cs P w.heap.size (.pointer (some ⟨mb,0,none⟩)) _):=⟨mb,va,vc,na,nc,rfl,Nat.le_trans hWs hMw,h6,hLn.kpB hMv (by decide) k6,hGn.kpB hMv (by decide) k6⟩
      clear hH hLn hGn hMv m0 m1 m2 m3 m4 m5 f0 f1 f2 f3 f4 f5 h6 k6 hb6;go_wp2
      go_meet
      exact⟨HV.out,zaf⟩
  . go_simp
    obtain⟨Z1,hYe,hMv,hb⟩:∃Y,Y=Z0.alloc (.cells #[.slice none 0 0,.slice none 0 0,.slice none 0 0,.slice none 0 0,.slice none 0 0,.slice none 0 0] 119)/\Bk 119 Y Z0.heap.size [.slice none 0 0,.slice none 0 0,.slice none 0 0,.slice none 0 0,.slice none 0 0,.slice none 0 0]/\Below Z0.heap.size Z0 Y:=⟨_,rfl,Bk.new _ _ _,bl1 _⟩
    have hMw:W.heap.size<=Z0.heap.size:=hZ0.size
    have hZ1:=hZ0.trans (hb.mono hZ0.size)
    rw[<-hYe];clear hYe
    refine hK.out _ _ ⟨(hb.cell (p:=⟨w.heap.size,0,none⟩) (by show w.heap.size<_;have:=HS0.out;have:=hZ0.size;omega)).trans hH.1,(hb.cell (p:=⟨w.heap.size,1,none⟩) (by show w.heap.size<_;have:=HS0.out;have:=hZ0.size;omega)).trans hH.2.1,(hb.cell (p:=⟨w.heap.size,2,none⟩) (by show w.heap.size<_;have:=HS0.out;have:=hZ0.size;omega)).trans hH.2.2.1,(hb.cell (p:=⟨w.heap.size,3,none⟩) (by show w.heap.size<_;have:=HS0.out;have:=hZ0.size;omega)).trans hH.2.2.2⟩ (fun hH=>?_)
    clear hK K hb
    try simp only[Act.put,pZ]
    obtain⟨mb,hmb⟩:∃mb,Z0.heap.size=mb:=⟨_,rfl⟩
    rw[hmb]at hMv hMw ⊢;clear hmb
    refine hCall (i:=2) rfl (by kernel_rfl) (by rfl) (fun K hK=>?_)
    go_simp
    refine(hcl Z1 hZ1).mono ?_
    rintro e Z2 ⟨⟨v,rfl,hv⟩,hb⟩;obtain⟨va,vc,rfl,-,-⟩:=hv.slice
    have hLn:Ln w.heap.size Z2 (.slice va P.length vc) P:=Gw.lowB hv (Nat.le_trans hWs hZ1.size)
    replace hMv:=hMv.below hb
    have hZ2:=hZ1.trans (hb.mono hZ1.size)
    go_wp2_with fail
    refine hK.out _ _ ⟨(hb.cell (p:=⟨w.heap.size,0,none⟩) (by show w.heap.size<_;have:=HS0.out;have:=hZ1.size;omega)).trans hH.1,(hb.cell (p:=⟨w.heap.size,1,none⟩) (by show w.heap.size<_;have:=HS0.out;have:=hZ1.size;omega)).trans hH.2.1,(hb.cell (p:=⟨w.heap.size,2,none⟩) (by show w.heap.size<_;have:=HS0.out;have:=hZ1.size;omega)).trans hH.2.2.1,(hb.cell (p:=⟨w.heap.size,3,none⟩) (by show w.heap.size<_;have:=HS0.out;have:=hZ1.size;omega)).trans hH.2.2.2⟩ (fun hH=>?_)
    clear hK K hv hb
    try simp only[Act.put,pZ]
    refine hCall (i:=4) rfl (by kernel_rfl) (by rfl) (fun K hK=>?_)
    go_simp
    refine(hgl Z2 hZ2).mono ?_
    rintro e Z3 ⟨⟨v,rfl,hv⟩,hb⟩;obtain⟨na,nc,e9,-,-⟩:=hv.slice;rw[zce]at e9;subst e9
    have hGn:Gi w.heap.size Z3 (.slice na P.length nc) (naL P):=Gw.lowB hv (Nat.le_trans hWs hZ2.size)
    replace hLn:=hLn.below hb;replace hMv:=hMv.below hb
    have hZ3:=hZ2.trans (hb.mono hZ2.size)
    go_wp2_with fail
    refine hK.out _ _ ⟨(hb.cell (p:=⟨w.heap.size,0,none⟩) (by show w.heap.size<_;have:=HS0.out;have:=hZ2.size;omega)).trans hH.1,(hb.cell (p:=⟨w.heap.size,1,none⟩) (by show w.heap.size<_;have:=HS0.out;have:=hZ2.size;omega)).trans hH.2.1,(hb.cell (p:=⟨w.heap.size,2,none⟩) (by show w.heap.size<_;have:=HS0.out;have:=hZ2.size;omega)).trans hH.2.2.1,(hb.cell (p:=⟨w.heap.size,3,none⟩) (by show w.heap.size<_;have:=HS0.out;have:=hZ2.size;omega)).trans hH.2.2.2⟩ (fun hH=>?_)
    clear hK K hv hb
    try simp only[Act.put,pZ]
    refine hT 5 hH ?_;obtain⟨m0,m1,m2,m3,m4,m5⟩:=hMv.six21;obtain⟨f0,f1,f2,f3,f4,f5⟩:=hMv.fz6
    have h6:=hMv.setM (.slice ga s.rg.length gc) (.slice ma s.rw.length mc) (.slice ka ms.length kc) (.slice pa cs.length pc) (.slice va P.length vc) (.slice na P.length nc)
    have k6:=(Kp.refl mb Z3).setM (.slice ga s.rg.length gc) (.slice ma s.rw.length mc) (.slice ka ms.length kc) (.slice pa cs.length pc) (.slice va P.length vc) (.slice na P.length nc)
    refine hCall (i:=7) rfl (by kernel_rfl) (by rfl) (fun K hK=>?_)
    go_simp
    have hb6:=k6.below (B:=W.heap.size) hZ3.size hMw
    have zaf:=hZ3.trans hb6
    refine hK.out _ _ ⟨(zaf.cell (p:=⟨w.heap.size,0,none⟩) HS0.out).trans HSC.out.1,(zaf.cell (p:=⟨w.heap.size,1,none⟩) HS0.out).trans HSC.out.2.1,(zaf.cell (p:=⟨w.heap.size,2,none⟩) HS0.out).trans HSC.out.2.2.1,(zaf.cell (p:=⟨w.heap.size,3,none⟩) HS0.out).trans HSC.out.2.2.2⟩ (fun hH=>?_)
    clear hK K
    try simp only[Act.put,pZ]
    refine wpAnyH_done (by kernel_rfl) ?_ _
    have HV:Hid (MvS ga gc ma mc s ka kc ms pa pc cs P w.heap.size (.pointer (some ⟨mb,0,none⟩)) _):=⟨mb,va,vc,na,nc,rfl,Nat.le_trans hWs hMw,h6,hLn.kpB hMv (by decide) k6,hGn.kpB hMv (by decide) k6⟩
    clear hH hLn hGn hMv m0 m1 m2 m3 m4 m5 f0 f1 f2 f3 f4 f5 h6 k6 hb6;go_wp2
    go_meet
    exact⟨HV.out,zaf⟩
 case rest =>
  obtain⟨⟨mb,va,vc,na,nc,rfl,hmb,hMb,hLn,hGn⟩,hBc⟩:=hcut
  have HBC:Hid (Below w.heap.size w wc):=hU.trans (hBc.mono hU.size)
  clear x0 x1 x2 x3 X1 hU hBc HS0 HSC HBU
  by_cases hP0:P=[]
  . subst hP0
    have e00:((0:Nat):Int)=0:=rfl
    have e01:decide ((100:Int)<0)=false:=rfl
    simp only[List.length_nil,e00,e01]
    clear e00 e01
    have HMb:Hid (Bk 119 wc mb [.slice ga s.rg.length gc,.slice ma s.rw.length mc,.slice ka ms.length kc,.slice pa cs.length pc,.slice va 0 vc,.slice na 0 nc]):=hMb
    have HLZ:Hid (Ln w.heap.size wc (.slice va 0 vc) []):=hLn
    clear hMb hLn hGn;go_wp2
    go_loopw [32] (fun v wr=>∃r:Nat,r<=ks.length/\v=.int .i64 r/\Hid (PR=alM (rO s cs) (rE s cs) ms l (ks.drop r) [])/\Below wc.heap.size wc wr) (fun v _=>ks.length-(intOf v).toNat)
    case atStart=>exact⟨0,Nat.zero_le _,rfl,HPR.out,Below.refl _ _⟩
    case round =>
     obtain⟨r,hr,rfl,HPQ,hB⟩:=hrel
     have hBw:=HBC.out.trans (hB.mono HBC.out.size)
     have hMr:=HMb.out.below hB
     by_cases hrn:r<ks.length
     rotate_left
     . have HV:Hid (PaA PR w.heap.size wr (.returned (.tuple #[.slice va 0 vc,.int .i64 0]))):=PaA.yes (by rw[HPQ.out,show r=ks.length by omega];exact zk1) (HLZ.out.below hB)
       have g4:¬(r:Int)<(ks.length:Int):=by omega
       obtain⟨m0,m1,m2,m3,m4,m5⟩:=hMr.six21;clear HPQ hMr;go_wp2
       go_ret2
       exact⟨HV.out,hBw⟩
     . obtain⟨jb,jo,rfl,hjb,c0⟩:=HXK.out.at hBw r hrn
       have hz:=HXK.out.i64 hrn
       have i1:(0:Int)<=(r:Int):=by omega
       have i2:(r:Int)<(ks.length:Int):=by omega
       by_cases h01:0<=ks.getD r 0/\ks.getD r 0<(l.length:Int)
       rotate_left
       . have HV:Hid (∀U,PaA PR w.heap.size U (.returned (.tuple #[.slice none 0 0,.int .i64 5]))):=fun U=>PaA.nil (by rw[HPQ.out];exact zhw hrn h01)
         obtain⟨z,hzz⟩:∃z,ks.getD r 0=z:=⟨_,rfl⟩
         rw[hzz]at c0 hz h01;clear HPQ hMr hzz
         by_cases h0:z<0
         . have d0:decide (z<0)=true:=decide_eq_true h0
           clear h0 h01;go_wp2
           go_ret2
           exact⟨HV.out _,hBw⟩
         . have d0:decide (z<0)=false:=decide_eq_false h0
           have d1:decide ((l.length:Int)<=z)=true:=decide_eq_true (by omega)
           clear h0 h01;go_wp2
           go_ret2
           exact⟨HV.out _,hBw⟩
       . obtain⟨k,hk⟩:∃k:Nat,ks.getD r 0=(k:Int):=⟨(ks.getD r 0).toNat,by omega⟩
         have hkl:k<l.length:=by omega
         rw[hk]at c0
         obtain⟨kb,ko,ra,rc,ela,hkd,hall⟩:=HL.out.lkAll k hkl
         have HBD:Hid (thQ (rO s cs) (rE s cs) ms (l.getD k Lk.none) []=none->PR=(4,[])):=fun h=>by rw[HPQ.out];exact zk0 hrn hk hkl h
         have HON:Hid (∀R,thQ (rO s cs) (rE s cs) ms (l.getD k Lk.none) []=some R->PR=alM (rO s cs) (rE s cs) ms l (ks.drop (r+1)) R/\R.length=[].length/\naL R=naL []):=fun R h=>⟨by rw[HPQ.out];exact zkz hrn hk hkl h,zn6 HFM.out hkl h⟩
         have HPM:Hid (mvB (l.getD k Lk.none).kd=true->∀q∈(l.getD k Lk.none).rs,PrF (fiS s) (l.getD k Lk.none).kd (l.getD k Lk.none).sk q):=fun h q hq=>zlk HFM.out hkl h hq
         obtain⟨x,hx⟩:∃x,l.getD k Lk.none=x:=⟨_,rfl⟩
         rw[hx]at hkd hall HBD HON HPM;clear hx HPQ hz;obtain⟨kd,sk,rs⟩:=x;dsimp only at hkd hall HPM;subst ela
         have i3:(0:Int)<=(k:Int):=by omega
         have i4:(k:Int)<(l.length:Int):=by omega
         have d0:decide ((k:Int)<0)=false:=decide_eq_false (by omega)
         have d1:decide ((l.length:Int)<=(k:Int))=false:=decide_eq_false (by omega)
         have d1n:decide (l.length<=k)=false:=decide_eq_false (by omega)
         clear h01 hk
         go_upto_region 11 with fail
         obtain⟨hRr,e0,e1,e2⟩:=hall wr hBw
         have hkb:=zcb e0
         obtain⟨m0,m1,m2,m3,m4,m5⟩:=hMr.six21
         have hRw:=(hall w (Below.refl _ _)).1
         have hkbw:kb<w.heap.size:=zcb (hall w (Below.refl _ _)).2.1
         clear hall hRr c0
         refine wp_region_held_drew (S:=(fun u=>(u.cell? ⟨mb,0,none⟩=some (.slice ga s.rg.length gc)/\u.cell? ⟨mb,1,none⟩=some (.slice ma s.rw.length mc)/\u.cell? ⟨mb,2,none⟩=some (.slice ka ms.length kc)/\u.cell? ⟨mb,3,none⟩=some (.slice pa cs.length pc)/\u.cell? ⟨mb,4,none⟩=some (.slice va 0 vc)/\u.cell? ⟨mb,5,none⟩=some (.slice na 0 nc))/\u.cell? ⟨kb,ko+k*3,none⟩=some (.int .i64 kd)/\u.cell? ⟨kb,ko+k*3+1,none⟩=some (.bool sk)/\u.cell? ⟨kb,ko+k*3+2,none⟩=some (.slice ra rs.length rc))) (by kernel_rfl) ⟨⟨m0,m1,m2,m3,m4,m5⟩,e0,e1,e2⟩ (fun hH=>?_)
         have hdr:Below wr.heap.size wr wr.drew:=(Below.refl _ _).drew
         have hBZ:=hBw.trans (hdr.mono hBw.size)
         have hMZ:=hMr.below hdr
         have hBZc:=hB.trans (hdr.mono hB.size)
         have hth:=zix ga gc ma mc s ka kc ms pa pc cs va vc na 0 nc kd sk ra rc rs wr.drew hkd
         have HRR:Hid (∃R,thQ (rO s cs) (rE s cs) ms ⟨kd,sk,rs⟩ []=some R/\R=[]):=⟨[],zxr,rfl⟩
         clear m0 m1 m2 m3 m4 m5 e0 e1 e2 hMr hdr hRw HPM
         generalize wr.drew=Z at hH hBZ hMZ hBZc hth ⊢
         refine hT 0 hH ?_;refine hT 1 hH ?_;refine hT 2 hH ?_;refine hT 3 hH ?_;refine hT 4 hH ?_
         refine hCall (i:=5) rfl (by kernel_rfl) (by rfl) (fun K hK=>?_)
         go_simp
         refine hth.mono ?_
         rintro e u ⟨rfl,hb⟩
         have hBu:=hBZ.trans (hb.mono hBZ.size)
         have hBuc:=hBZc.trans (hb.mono hBZc.size)
         have hMu:=hMZ.below hb
         obtain⟨m0,m1,m2,m3,m4,m5⟩:=hMu.six21
         have hcu:∀j v,Z.cell? ⟨kb,j,none⟩=some v->u.cell? ⟨kb,j,none⟩=some v:=fun j v h=>(hb.cell (p:=⟨kb,j,none⟩) (zcb h)).trans h
         clear hth
         go_wp2_with fail
         refine hK.out _ _ ⟨⟨m0,m1,m2,m3,m4,m5⟩,hcu _ _ hH.2.1,hcu _ _ hH.2.2.1,hcu _ _ hH.2.2.2⟩ (fun hH=>?_)
         clear hK K hcu hb
         try simp only[Act.put,pZ]
         refine hT 6 hH ?_
         refine wpAnyH_done (by kernel_rfl) ?_ _
         clear hH m0 m1 m2 m3 m4 m5 hMu hMZ hBZ hBZc;obtain⟨R,hR,rfl⟩:=HRR.out
         have HPN:Hid (PR=alM (rO s cs) (rE s cs) ms l (ks.drop (r+1)) []):=(HON.out _ hR).1
         clear HBD HON HRR hR;go_wp2
         go_roundw
         case rel=>exact⟨r+1,by omega,by go_num,HPN,hBuc⟩
         case measure=>simp[intOf];omega
  . obtain⟨lb,cap,ev,zuq,zwl,-,-,-,-⟩:=Gw.own hLn hP0
    injection ev with ev1 ev2 ev3;subst ev1 ev3
    have hne:mb≠lb:=fun e=>hLn.neB hMb (by decide) (by rw[e];rfl)
    have HMb:Hid (Bk 119 wc mb [.slice ga s.rg.length gc,.slice ma s.rw.length mc,.slice ka ms.length kc,.slice pa cs.length pc,.slice (some ⟨lb,0,none⟩) P.length vc,.slice na P.length nc]):=hMb
    have HLn:Hid (Ln w.heap.size wc (.slice (some ⟨lb,0,none⟩) P.length vc) P):=hLn
    have HGn:Hid (Gi w.heap.size wc (.slice na P.length nc) (naL P)):=hGn
    clear hMb hLn hGn hP0 ev2;go_wp2
    go_loopw [32] (fun v wr=>∃(r:Nat) (Q:List Pd),r<=ks.length/\v=.int .i64 r/\Hid (PR=alM (rO s cs) (rE s cs) ms l (ks.drop r) Q)/\Hid (Q.length=P.length/\naL Q=naL P)/\Hid (Ln w.heap.size wr (.slice (some ⟨lb,0,none⟩) P.length vc) Q)/\Hid (Gi w.heap.size wr (.slice na P.length nc) (naL P))/\Hid (Kp lb wc wr)) (fun v _=>ks.length-(intOf v).toNat)
    case atStart=>exact⟨0,P,Nat.zero_le _,rfl,HPR.out,⟨rfl,rfl⟩,HLn.out,HGn.out,Kp.refl _ _⟩
    case round =>
     obtain⟨r,Q,hr,rfl,HPQ,HQQ,HL2,HG2,HK2⟩:=hrel
     have hBw:=HBC.out.trans (HK2.out.below HBC.out.size zuq)
     have hMr:=HMb.out.kp HK2.out hne
     by_cases hrn:r<ks.length
     rotate_left
     . have HV:Hid (PaA PR w.heap.size wr (.returned (.tuple #[.slice (some ⟨lb,0,none⟩) P.length vc,.int .i64 0]))):=PaA.yes (by rw[HPQ.out,show r=ks.length by omega];exact zk1) HL2.out
       have g4:¬(r:Int)<(ks.length:Int):=by omega
       obtain⟨m0,m1,m2,m3,m4,m5⟩:=hMr.six21;clear HPQ hMr;go_wp2
       go_ret2
       exact⟨HV.out,hBw⟩
     . obtain⟨jb,jo,rfl,hjb,c0⟩:=HXK.out.at hBw r hrn
       have hz:=HXK.out.i64 hrn
       have i1:(0:Int)<=(r:Int):=by omega
       have i2:(r:Int)<(ks.length:Int):=by omega
       by_cases h01:0<=ks.getD r 0/\ks.getD r 0<(l.length:Int)
       rotate_left
       . have HV:Hid (∀U,PaA PR w.heap.size U (.returned (.tuple #[.slice none 0 0,.int .i64 5]))):=fun U=>PaA.nil (by rw[HPQ.out];exact zhw hrn h01)
         obtain⟨z,hzz⟩:∃z,ks.getD r 0=z:=⟨_,rfl⟩
         rw[hzz]at c0 hz h01;clear HPQ hMr hzz
         by_cases h0:z<0
         . have d0:decide (z<0)=true:=decide_eq_true h0
           clear h0 h01;go_wp2
           go_ret2
           exact⟨HV.out _,hBw⟩
         . have d0:decide (z<0)=false:=decide_eq_false h0
           have d1:decide ((l.length:Int)<=z)=true:=decide_eq_true (by omega)
           clear h0 h01;go_wp2
           go_ret2
           exact⟨HV.out _,hBw⟩
       . obtain⟨k,hk⟩:∃k:Nat,ks.getD r 0=(k:Int):=⟨(ks.getD r 0).toNat,by omega⟩
         have hkl:k<l.length:=by omega
         rw[hk]at c0
         obtain⟨kb,ko,ra,rc,ela,hkd,hall⟩:=HL.out.lkAll k hkl
         have HBD:Hid (thQ (rO s cs) (rE s cs) ms (l.getD k Lk.none) Q=none->PR=(4,[])):=fun h=>by rw[HPQ.out];exact zk0 hrn hk hkl h
         have HON:Hid (∀R,thQ (rO s cs) (rE s cs) ms (l.getD k Lk.none) Q=some R->PR=alM (rO s cs) (rE s cs) ms l (ks.drop (r+1)) R/\R.length=Q.length/\naL R=naL Q):=fun R h=>⟨by rw[HPQ.out];exact zkz hrn hk hkl h,zn6 HFM.out hkl h⟩
         have HPM:Hid (mvB (l.getD k Lk.none).kd=true->∀q∈(l.getD k Lk.none).rs,PrF (fiS s) (l.getD k Lk.none).kd (l.getD k Lk.none).sk q):=fun h q hq=>zlk HFM.out hkl h hq
         obtain⟨x,hx⟩:∃x,l.getD k Lk.none=x:=⟨_,rfl⟩
         rw[hx]at hkd hall HBD HON HPM;clear hx HPQ hz;obtain⟨kd,sk,rs⟩:=x;dsimp only at hkd hall HPM;subst ela
         have i3:(0:Int)<=(k:Int):=by omega
         have i4:(k:Int)<(l.length:Int):=by omega
         have d0:decide ((k:Int)<0)=false:=decide_eq_false (by omega)
         have d1:decide ((l.length:Int)<=(k:Int))=false:=decide_eq_false (by omega)
         have d1n:decide (l.length<=k)=false:=decide_eq_false (by omega)
         clear h01 hk
         go_upto_region 11 with fail
         obtain⟨hRr,e0,e1,e2⟩:=hall wr hBw
         have hkb:=zcb e0
         obtain⟨m0,m1,m2,m3,m4,m5⟩:=hMr.six21
         have hRw:=(hall w (Below.refl _ _)).1
         have hkbw:kb<w.heap.size:=zcb (hall w (Below.refl _ _)).2.1
         clear hall hRr c0
         refine wp_region_held_drew (S:=(fun u=>(u.cell? ⟨mb,0,none⟩=some (.slice ga s.rg.length gc)/\u.cell? ⟨mb,1,none⟩=some (.slice ma s.rw.length mc)/\u.cell? ⟨mb,2,none⟩=some (.slice ka ms.length kc)/\u.cell? ⟨mb,3,none⟩=some (.slice pa cs.length pc)/\u.cell? ⟨mb,4,none⟩=some (.slice (some ⟨lb,0,none⟩) P.length vc)/\u.cell? ⟨mb,5,none⟩=some (.slice na P.length nc))/\u.cell? ⟨kb,ko+k*3,none⟩=some (.int .i64 kd)/\u.cell? ⟨kb,ko+k*3+1,none⟩=some (.bool sk)/\u.cell? ⟨kb,ko+k*3+2,none⟩=some (.slice ra rs.length rc))) (by kernel_rfl) ⟨⟨m0,m1,m2,m3,m4,m5⟩,e0,e1,e2⟩ (fun hH=>?_)
         have hdr:Below wr.heap.size wr wr.drew:=(Below.refl _ _).drew
         have hBZ:=hBw.trans (hdr.mono hBw.size)
         have hMZ:=hMr.below hdr
         have hLZ:Ln w.heap.size wr.drew (.slice (some ⟨lb,0,none⟩) P.length vc) Q:=HL2.out.below hdr
         have hGZ:Gi w.heap.size wr.drew (.slice na P.length nc) (naL P):=HG2.out.below hdr
         have HKZ:Hid (Kp lb wc wr.drew):=HK2.out.trans (Kp.of hdr)
         have hth:=ziy Sm Sl ga gc ma mc s ka kc ms pa pc cs lb vc Q na nc kd sk ra rc rs w.heap.size w.heap.size w wr.drew HG.out HRW.out HM.out HP.out h40 h8 hRw hBZ zuq hkd (by rw[HQQ.out.1];exact hLZ) (by rw[HQQ.out.1,HQQ.out.2];exact hGZ) HPM.out
         rw[HQQ.out.1]at hth
         have HGZ:Hid (Gi w.heap.size wr.drew (.slice na P.length nc) (naL P)):=hGZ
         have HLZ:Hid (Ln w.heap.size wr.drew (.slice (some ⟨lb,0,none⟩) P.length vc) Q):=hLZ
         clear m0 m1 m2 m3 m4 m5 e0 e1 e2 hMr hdr hLZ hGZ hRw HPM HL2 HG2 HK2
         generalize wr.drew=Z at hH hBZ hMZ HKZ HGZ HLZ hth ⊢
         refine hT 0 hH ?_;refine hT 1 hH ?_;refine hT 2 hH ?_;refine hT 3 hH ?_;refine hT 4 hH ?_
         refine hCall (i:=5) rfl (by kernel_rfl) (by rfl) (fun K hK=>?_)
         go_simp
         refine hth.mono ?_
         intro e u hd
         have hKu:=hd.kp
         have HKu:Hid (Kp lb wc u):=HKZ.out.trans hKu
         have hMu:=hMZ.kp hKu hne
         obtain⟨m0,m1,m2,m3,m4,m5⟩:=hMu.six21
         have hcu:∀j v,Z.cell? ⟨kb,j,none⟩=some v->u.cell? ⟨kb,j,none⟩=some v:=fun j v h=>((hKu.below (B:=w.heap.size) hBZ.size zuq).cell (p:=⟨kb,j,none⟩) hkbw).trans h
         have HGu:Hid (Gi w.heap.size u (.slice na P.length nc) (naL P)):=HGZ.out.kpL HLZ.out hKu
         have HBu:Hid (Below w.heap.size w u):=hBZ.trans (hKu.below (B:=w.heap.size) hBZ.size zuq)
         clear hth
         cases hO:thQ (rO s cs) (rE s cs) ms ⟨kd,sk,rs⟩ Q with
         | none =>
          obtain rfl:=hd.no hO
          have HV:Hid (∀U,PaA PR w.heap.size U (.returned (.tuple #[.slice none 0 0,.int .i64 4]))):=fun U=>PaA.nil (HBD.out hO)
          clear HBD HON hO hd
          go_wp2_with fail
          refine hK.out _ _ ⟨⟨m0,m1,m2,m3,m4,m5⟩,hcu _ _ hH.2.1,hcu _ _ hH.2.2.1,hcu _ _ hH.2.2.2⟩ (fun hH=>?_)
          clear hK K hcu hKu
          try simp only[Act.put,pZ]
          refine hT 6 hH ?_
          refine wpAnyH_done (by kernel_rfl) ?_ _
          clear hH m0 m1 m2 m3 m4 m5 hMu hMZ HGu HKu HKZ HGZ HLZ;go_wp2
          go_ret2
          exact⟨HV.out _,HBu.out⟩
         | some R =>
          obtain⟨rfl,hl⟩:=hd.ok R hO
          obtain⟨h1,h2,h3⟩:=HON.out R hO
          have HPN:Hid (PR=alM (rO s cs) (rE s cs) ms l (ks.drop (r+1)) R):=h1
          have HRR:Hid (R.length=P.length/\naL R=naL P):=⟨by rw[h2];exact HQQ.out.1,by rw[h3];exact HQQ.out.2⟩
          have HLu:Hid (Ln w.heap.size u (.slice (some ⟨lb,0,none⟩) P.length vc) R):=hl
          clear HBD HON hO hd h1 h2 h3 hl
          go_wp2_with fail
          refine hK.out _ _ ⟨⟨m0,m1,m2,m3,m4,m5⟩,hcu _ _ hH.2.1,hcu _ _ hH.2.2.1,hcu _ _ hH.2.2.2⟩ (fun hH=>?_)
          clear hK K hcu hKu
          try simp only[Act.put,pZ]
          refine hT 6 hH ?_
          refine wpAnyH_done (by kernel_rfl) ?_ _
          clear hH m0 m1 m2 m3 m4 m5 hMu hMZ HKZ HGZ HLZ HBu;go_wp2
          go_roundw
          case rel=>exact⟨r+1,R,by omega,by go_num,HPN,HRR,HLu,HGu,HKu⟩
          case measure=>simp[intOf];omega
theorem Gm.neH{base:Nat}{w:World}{v:Value}{L:List Bool}{t:TypeId}{g:Nat}{cs:List Value}(h:Gw El.bool 4 base (fun _=>False) w v L)(hb:Bk t w g cs)(ht:t≠4):v.ownBlock≠some g:=by
 intro e
 obtain⟨cur,k⟩:=Gw.ty h e
 rw[hb]at k
 simp at k
 exact ht k.2
theorem Gm.kpH{base:Nat}{w w':World}{v:Value}{L:List Bool}{t:TypeId}{g:Nat}{cs:List Value}(h:Gw El.bool 4 base (fun _=>False) w v L)(hb:Bk t w g cs)(ht:t≠4)(hk:Kp g w w'):Gw El.bool 4 base (fun _=>False) w' v L :=
 Gw.stay h hk.size (fun _ hf=>hf.elim) (fun k hkk=>hk.block (h.lo hkk).2 (fun e=>Gm.neH h hb ht (by rw[hkk,e])))
def ScH(ga:Option Addr)(gc:Nat)(ma:Option Addr)(mc:Nat)(c:Option Addr)(cc:Nat)(x:Fo)(cs:List Int)(base:Nat)(v:Value)(wx:World):Prop :=
 ∃mb va vc,v=.pointer (some ⟨mb,0,none⟩)/\base<=mb/\Bk 82 wx mb [.slice ga x.s.rg.length gc,.slice ma x.s.rw.length mc,.slice va x.gl.length vc,.slice c cs.length cc]/\Gr El.bool (fun _=>False) wx va vc (mkG x.gl)
theorem zf0(S:Nat->Prop)(d:FoD)(x:Fo)(c:Option Addr)(cc:Nat)(cs:List Int)(t:ByteArray)(o:Option Addr)(oc:Nat)(on:List ByteArray)(w:World)(h:FoR S w d x)(hB:FoB x)(hc:Gr El.int S w c cc cs)(ho:Gr El.str S w o oc on)(ht:t.size<=100000)(hT:Spn w) :
 Calls Tryz.prog 12 #[fV d x,.slice c cs.length cc,.string t,.slice o on.length oc] w fun e w'=>PaA (plP x cs (sb t) on) w.heap.size w' e/\Below w.heap.size w w':=by
 have kg:x.gl.length<=40:=hB.gl
 obtain⟨xa,xl,xc,ba,bl,bc,ga,gc,ma,mc,la,lc,ta,tl,tc,da,dl,dc,ra,rc,ka,kc,fa,fc,sa,sc⟩:=d
 have HLN:Hid (∀U,Below w.heap.size w U->Calls Tryz.prog 10 #[.agg #[.slice xa xl xc,.slice ba bl bc,.slice ga x.s.rg.length gc,.slice ma x.s.rw.length mc,.slice la x.gl.length lc,.slice ta tl tc,.slice da dl dc,.slice ra x.rn.length rc,.slice ka x.lk.length kc,.slice fa x.ft.length fc,.slice sa x.sw.length sc],.slice c cs.length cc,.string t,.slice o on.length oc] U fun e w'=>LnR (lnP x cs (sb t) on) w' e/\Below U.heap.size U w'):=fun U hU=>zgo S ⟨xa,xl,xc,ba,bl,bc,ga,gc,ma,mc,la,lc,ta,tl,tc,da,dl,dc,ra,rc,ka,kc,fa,fc,sa,sc⟩ x c cc cs t o oc on U (h.below hU) hB (hc.below hU) (ho.below hU) ht (hT.below hU)
 have HCH:Hid (∀U,Below w.heap.size w U->Calls Tryz.prog 28 #[.agg #[.slice xa xl xc,.slice ba bl bc,.slice ga x.s.rg.length gc,.slice ma x.s.rw.length mc,.slice la x.gl.length lc,.slice ta tl tc,.slice da dl dc,.slice ra x.rn.length rc,.slice ka x.lk.length kc,.slice fa x.ft.length fc,.slice sa x.sw.length sc],.slice c cs.length cc,.slice o on.length oc] U fun e w'=>RowF (chFt x.ft x.sw cs on) U.heap.size w' e/\Below U.heap.size U w'):=fun U hU=>zex S ⟨xa,xl,xc,ba,bl,bc,ga,gc,ma,mc,la,lc,ta,tl,tc,da,dl,dc,ra,rc,ka,kc,fa,fc,sa,sc⟩ x c cc cs o oc on U (h.below hU) hB (hc.below hU) (ho.below hU)
 have HMK:Hid (∀U,Below w.heap.size w U->Calls Tryz.prog 29 #[.slice la x.gl.length lc] U fun e w'=>RowM (mkG x.gl) U.heap.size w' e/\Below U.heap.size U w'):=fun U hU=>zgm S la lc x.gl U (h.hl.below hU) (by omega)
 have HAD:Hid (∀U va vc L,Below w.heap.size w U->Ri U va vc L->L.length<=100->Calls Tryz.prog 33 #[.agg #[.slice xa xl xc,.slice ba bl bc,.slice ga x.s.rg.length gc,.slice ma x.s.rw.length mc,.slice la x.gl.length lc,.slice ta tl tc,.slice da dl dc,.slice ra x.rn.length rc,.slice ka x.lk.length kc,.slice fa x.ft.length fc,.slice sa x.sw.length sc],.slice c cs.length cc,.slice va L.length vc] U fun e w'=>AdV x cs L U.heap.size w' e/\Below U.heap.size U w'):=fun U va vc L hU hL hn=>zrg S ⟨xa,xl,xc,ba,bl,bc,ga,gc,ma,mc,la,lc,ta,tl,tc,da,dl,dc,ra,rc,ka,kc,fa,fc,sa,sc⟩ x c cc cs va vc L U (h.below hU) hB (hc.ri.below hU) hL hn
 have HAL:Hid (∀U xa xc ks va vc (Sp:Nat->Prop) qa qc P,Below w.heap.size w U->Ri U xa xc ks->Gr El.bool (fun _=>False) U va vc (mkG x.gl)->Gr PdE Sp U qa qc P->P.length<=1000->Calls Tryz.prog 34 #[.slice ka x.lk.length kc,.slice xa ks.length xc,.agg #[.slice ga x.s.rg.length gc,.slice ma x.s.rw.length mc,.slice va x.gl.length vc,.slice c cs.length cc],.slice qa P.length qc] U fun e w'=>PaA (paEJ (fiS x.s) (rO x.s cs) (rE x.s cs) (mkG x.gl) x.lk ks P) U.heap.size w' e/\Below U.heap.size U w'):=fun U xa xc ks va vc Sp qa qc P hU hk hm hP hn=>by
  have:=zrf S (fun _=>False) Sp ka kc x.lk xa xc ks ga gc ma mc x.s va vc (mkG x.gl) c cc cs qa qc P U (h.hk.below hU) hk (h.hg.below hU) (h.hm.below hU) hm (hc.ri.below hU) hB.g40 hB.r8 hP hn
  rw[zaw]at this
  exact this
 have HLE:Hid ((lnP x cs (sb t) on).2.length<=100):=zuh
 have HP1:Hid ((lnP x cs (sb t) on).1≠0->plP x cs (sb t) on=((lnP x cs (sb t) on).1,[])):=zlm
 have HP2:Hid ((lnP x cs (sb t) on).1=0->avF x.gl x.s cs (lnP x cs (sb t) on).2≠0->plP x cs (sb t) on=(avF x.gl x.s cs (lnP x cs (sb t) on).2,[])):=zo6
 have HP3:Hid ((lnP x cs (sb t) on).1=0->avF x.gl x.s cs (lnP x cs (sb t) on).2=0->plP x cs (sb t) on=_):=zo5
 obtain⟨W,hW,XW,hbW⟩:∃W,W=w.alloc (.cells #[.slice xa xl xc,.slice ba bl bc,.slice ga x.s.rg.length gc,.slice ma x.s.rw.length mc,.slice la x.gl.length lc,.slice ta tl tc,.slice da dl dc,.slice ra x.rn.length rc,.slice ka x.lk.length kc,.slice fa x.ft.length fc,.slice sa x.sw.length sc] 36)/\Bk 36 W w.heap.size [.slice xa xl xc,.slice ba bl bc,.slice ga x.s.rg.length gc,.slice ma x.s.rw.length mc,.slice la x.gl.length lc,.slice ta tl tc,.slice da dl dc,.slice ra x.rn.length rc,.slice ka x.lk.length kc,.slice fa x.ft.length fc,.slice sa x.sw.length sc]/\Below w.heap.size w W:=⟨_,rfl,Bk.new _ _ _,bl1 _⟩
 have hln:=HLN.out W hbW
 have XU:=XW
 obtain⟨x0,x1,x2,x3,x4,x5,x6,x7,x8,x9,x10⟩:=XU.elevenH;clear h hB hc ho hT HLN
 go_enter Tryz.func12,Tryz.ntmps12
 go_upto_region 1 with fail
 rw[<-hW];clear hW
 go_wp2_with fail
 refine hln.mono ?_
 rintro e u ⟨hr,hb⟩;obtain⟨va,vc,rfl,hG⟩:=hr.out
 have hb1:=hbW.trans (hb.mono hbW.size)
 replace XU:=XU.below hb;clear hln hb hr x0 x1 x2 x3 x4 x5 x6 x7 x8 x9 x10
 obtain⟨E,hE⟩:∃E,(lnP x cs (sb t) on).1=E:=⟨_,rfl⟩
 obtain⟨L,hL⟩:∃L,(lnP x cs (sb t) on).2=L:=⟨_,rfl⟩
 rw[hE]at HP1 HP2 HP3 ⊢;rw[hL]at HP2 HP3 HLE hG ⊢;clear hE hL
 by_cases h0:E=0
 rotate_left
 . have HV:Hid (plP x cs (sb t) on=(E,[])):=HP1.out h0
   have g1:(E != 0)=true:=bne_iff_ne.2 h0
   clear HP1 HP2 HP3 HAD HAL HCH HMK hG HLE h0;go_wp2
   go_ret2
   exact⟨PaA.nil HV.out,hb1⟩
 subst h0;clear HP1 XW
 have hle:=HLE.out
 have had:=HAD.out u va vc L hb1 hG.ri hle
 have HGL:Hid (Ri u va vc L):=hG.ri
 obtain⟨x0,x1,x2,x3,x4,x5,x6,x7,x8,x9,x10⟩:=XU.elevenH;clear hG
 go_wp2_with fail
 refine had.mono ?_
 rintro e u2 ⟨hr,hb⟩;obtain⟨v2,rfl,hG2⟩:=hr.out
 have hb2:=hb1.trans (hb.mono hb1.size)
 replace XU:=XU.below hb
 have zrv:Hid (Ri u2 va vc L):=HGL.out.below hb
 clear had hb hr HGL HAD hb1 x0 x1 x2 x3 x4 x5 x6 x7 x8 x9 x10
 obtain⟨A,hA⟩:∃A,avF x.gl x.s cs L=A:=⟨_,rfl⟩
 rw[hA]at HP2 HP3 hG2 ⊢;clear hA
 by_cases h0:A=0
 rotate_left
 . have HV:Hid (plP x cs (sb t) on=(A,[])):=HP2.out (by simp) h0
   have g1:(A != 0)=true:=bne_iff_ne.2 h0
   clear HP2 HP3 HAL HCH HMK hG2 HLE h0 zrv hle;go_wp2
   go_ret2
   exact⟨PaA.nil HV.out,hb2⟩
 subst h0;rw[if_pos rfl]at hG2
 have HV:Hid (plP x cs (sb t) on=_):=HP3.out (by simp) (by simp)
 obtain⟨ya,yc,rfl,R2,-⟩:=hG2.slice
 have HNN:Hid ((avL x.gl x.s cs L).length=L.length):=zeh _ _ _ _
 generalize avL x.gl x.s cs L=Y at HV R2 HNN
 have HGY:Hid (Ri u2 ya yc Y):=R2
 clear HP2 HP3 R2 hG2
 go_upto_region 7 with fail
 clear W hbW
 obtain⟨W,hW9⟩:∃W,W=u2:=⟨_,rfl⟩
 rw[<-hW9]at hb2 XU zrv HGY ⊢;clear hW9 u2
 have HXU:Hid (Bk 36 W w.heap.size _):=XU
 go_cut [13]from 35 to 41 (fun v wx=>ScH ga gc ma mc c cc x cs W.heap.size v wx/\Below W.heap.size W wx)
 case first =>
  clear HAL HCH HLE zrv HGY HV HNN hle
  refine wp_region_held_drew (S:=fun u=>u.cell? ⟨w.heap.size,0,none⟩=some (.slice xa xl xc)/\u.cell? ⟨w.heap.size,1,none⟩=some (.slice ba bl bc)/\u.cell? ⟨w.heap.size,2,none⟩=some (.slice ga x.s.rg.length gc)/\u.cell? ⟨w.heap.size,3,none⟩=some (.slice ma x.s.rw.length mc)/\u.cell? ⟨w.heap.size,4,none⟩=some (.slice la x.gl.length lc)/\u.cell? ⟨w.heap.size,5,none⟩=some (.slice ta tl tc)/\u.cell? ⟨w.heap.size,6,none⟩=some (.slice da dl dc)/\u.cell? ⟨w.heap.size,7,none⟩=some (.slice ra x.rn.length rc)/\u.cell? ⟨w.heap.size,8,none⟩=some (.slice ka x.lk.length kc)/\u.cell? ⟨w.heap.size,9,none⟩=some (.slice fa x.ft.length fc)/\u.cell? ⟨w.heap.size,10,none⟩=some (.slice sa x.sw.length sc)) (by kernel_rfl) XU.elevenH (fun hH=>?_)
  have hdr:Below W.heap.size W W.drew:=Below.drew1
  generalize W.drew=Z at hdr hH ⊢
  have hZ0:Below W.heap.size W Z:=hdr
  have X0:=XU.below hdr
  clear hdr XU;refine hT 0 hH ?_;refine hT 1 hH ?_;refine hT 2 hH ?_;refine hT 3 hH ?_;refine hT 5 hH ?_
  refine wpAnyH_ready (rs:=[4,7]) (by kernel_rfl) (by simp) (hCons (i:=4) rfl (by rfl) (fun K hK=>?_) (hCons (i:=7) rfl (by rfl) (fun K hK=>?_) AllReadyH.nil))
  . go_simp
    refine(HMK.out Z (hb2.trans (hZ0.mono hb2.size))).mono ?_
    rintro e Z1 ⟨hr,hb⟩;obtain⟨v6,rfl,hGm⟩:=hr.out;obtain⟨ma2,mc2,rfl,-,-⟩:=hGm.slice;rw[zaw];rw[zaw]at hGm
    have hZ1:=hZ0.trans (hb.mono hZ0.size)
    have X1:=X0.below hb
    go_wp2_with fail
    refine hK.out _ _ X1.elevenH (fun hH=>?_)
    clear hK K hb hr X0
    try simp only[Act.put,pZ]
    refine hT 6 hH ?_
    refine hCall (i:=7) rfl (by kernel_rfl) (by rfl) (fun K hK=>?_)
    go_simp
    obtain⟨Z2,hYe,hMv,hb⟩:∃Y,Y=Z1.alloc (.cells #[.slice none 0 0,.slice none 0 0,.slice none 0 0,.slice none 0 0] 82)/\Bk 82 Y Z1.heap.size [.slice none 0 0,.slice none 0 0,.slice none 0 0,.slice none 0 0]/\Below Z1.heap.size Z1 Y:=⟨_,rfl,Bk.new _ _ _,bl1 _⟩
    have hMw:W.heap.size<=Z1.heap.size:=hZ1.size
    have hZ2:=hZ1.trans (hb.mono hZ1.size)
    have X2:=X1.below hb
    replace hGm:=Gw.below hGm hb
    rw[<-hYe];clear hYe
    refine hK.out _ _ X2.elevenH (fun hH=>?_)
    clear hK K hb X1
    try simp only[Act.put,pZ]
    obtain⟨mb,hmb⟩:∃mb,Z1.heap.size=mb:=⟨_,rfl⟩
    rw[hmb]at hMv hMw ⊢;clear hmb;obtain⟨m0,m1,m2,m3,-⟩:=hMv.four
    have f0:=hMv.fz 0
    have f1:=hMv.fz 1
    have f2:=hMv.fz 2
    have f3:=hMv.fz 3
    have h4:Bk 82 ((((Z2.setCell ⟨mb,0,none⟩ (.slice ga x.s.rg.length gc)).setCell ⟨mb,1,none⟩ (.slice ma x.s.rw.length mc)).setCell ⟨mb,2,none⟩ (.slice ma2 x.gl.length mc2)).setCell ⟨mb,3,none⟩ (.slice c cs.length cc)) mb [.slice ga x.s.rg.length gc,.slice ma x.s.rw.length mc,.slice ma2 x.gl.length mc2,.slice c cs.length cc]:=(((hMv.set 0 _).set 1 _).set 2 _).set 3 _
    have k4:Kp mb Z2 ((((Z2.setCell ⟨mb,0,none⟩ (.slice ga x.s.rg.length gc)).setCell ⟨mb,1,none⟩ (.slice ma x.s.rw.length mc)).setCell ⟨mb,2,none⟩ (.slice ma2 x.gl.length mc2)).setCell ⟨mb,3,none⟩ (.slice c cs.length cc)):=((((Kp.refl mb Z2).setCell 0 _).setCell 1 _).setCell 2 _).setCell 3 _
    refine hCall (i:=8) rfl (by kernel_rfl) (by rfl) (fun K hK=>?_)
    go_simp
    have hb6:=k4.below (B:=W.heap.size) hZ2.size hMw
    have zaf:=hZ2.trans hb6
    refine hK.out _ _ (HXU.out.below zaf).elevenH (fun hH=>?_)
    clear hK K
    try simp only[Act.put,pZ]
    refine wpAnyH_done (by kernel_rfl) ?_ _
    have hGk:=Gm.kpH hGm hMv (by decide) k4
    obtain⟨a7,c7,e7,R7,-⟩:=hGk.slice;rw[zaw]at e7;injection e7 with e8 e9 e10;subst e8 e10
    have HSC:Hid (ScH ga gc ma mc c cc x cs W.heap.size (.pointer (some ⟨mb,0,none⟩)) _):=⟨mb,ma2,mc2,rfl,hMw,h4,R7⟩
    clear hH hGm hMv m0 m1 m2 m3 f0 f1 f2 f3 h4 k4 hb6 hGk R7 e9;go_wp2
    go_meet
    exact⟨HSC.out,zaf⟩
  . go_simp
    obtain⟨Z1,hYe,hMv,hb⟩:∃Y,Y=Z.alloc (.cells #[.slice none 0 0,.slice none 0 0,.slice none 0 0,.slice none 0 0] 82)/\Bk 82 Y Z.heap.size [.slice none 0 0,.slice none 0 0,.slice none 0 0,.slice none 0 0]/\Below Z.heap.size Z Y:=⟨_,rfl,Bk.new _ _ _,bl1 _⟩
    have hMw:W.heap.size<=Z.heap.size:=hZ0.size
    have hZ1:=hZ0.trans (hb.mono hZ0.size)
    have X1:=X0.below hb
    rw[<-hYe];clear hYe
    refine hK.out _ _ X1.elevenH (fun hH=>?_)
    clear hK K hb X0
    try simp only[Act.put,pZ]
    obtain⟨mb,hmb⟩:∃mb,Z.heap.size=mb:=⟨_,rfl⟩
    rw[hmb]at hMv hMw ⊢;clear hmb
    refine hCall (i:=4) rfl (by kernel_rfl) (by rfl) (fun K hK=>?_)
    go_simp
    refine(HMK.out Z1 (hb2.trans (hZ1.mono hb2.size))).mono ?_
    rintro e Z2 ⟨hr,hb⟩;obtain⟨v6,rfl,hGm⟩:=hr.out;obtain⟨ma2,mc2,rfl,-,-⟩:=hGm.slice;rw[zaw];rw[zaw]at hGm
    have hZ2:=hZ1.trans (hb.mono hZ1.size)
    have X2:=X1.below hb
    replace hMv:=hMv.below hb
    go_wp2_with fail
    refine hK.out _ _ X2.elevenH (fun hH=>?_)
    clear hK K hb hr X1
    try simp only[Act.put,pZ]
    refine hT 6 hH ?_;obtain⟨m0,m1,m2,m3,-⟩:=hMv.four
    have f0:=hMv.fz 0
    have f1:=hMv.fz 1
    have f2:=hMv.fz 2
    have f3:=hMv.fz 3
    have h4:Bk 82 ((((Z2.setCell ⟨mb,0,none⟩ (.slice ga x.s.rg.length gc)).setCell ⟨mb,1,none⟩ (.slice ma x.s.rw.length mc)).setCell ⟨mb,2,none⟩ (.slice ma2 x.gl.length mc2)).setCell ⟨mb,3,none⟩ (.slice c cs.length cc)) mb [.slice ga x.s.rg.length gc,.slice ma x.s.rw.length mc,.slice ma2 x.gl.length mc2,.slice c cs.length cc]:=(((hMv.set 0 _).set 1 _).set 2 _).set 3 _
    have k4:Kp mb Z2 ((((Z2.setCell ⟨mb,0,none⟩ (.slice ga x.s.rg.length gc)).setCell ⟨mb,1,none⟩ (.slice ma x.s.rw.length mc)).setCell ⟨mb,2,none⟩ (.slice ma2 x.gl.length mc2)).setCell ⟨mb,3,none⟩ (.slice c cs.length cc)):=((((Kp.refl mb Z2).setCell 0 _).setCell 1 _).setCell 2 _).setCell 3 _
    refine hCall (i:=8) rfl (by kernel_rfl) (by rfl) (fun K hK=>?_)
    go_simp
    have hb6:=k4.below (B:=W.heap.size) hZ2.size hMw
    have zaf:=hZ2.trans hb6
    refine hK.out _ _ (HXU.out.below zaf).elevenH (fun hH=>?_)
    clear hK K
    try simp only[Act.put,pZ]
    refine wpAnyH_done (by kernel_rfl) ?_ _
    have hGk:=Gm.kpH hGm hMv (by decide) k4
    obtain⟨a7,c7,e7,R7,-⟩:=hGk.slice;rw[zaw]at e7;injection e7 with e8 e9 e10;subst e8 e10
    have HSC:Hid (ScH ga gc ma mc c cc x cs W.heap.size (.pointer (some ⟨mb,0,none⟩)) _):=⟨mb,ma2,mc2,rfl,hMw,h4,R7⟩
    clear hH hGm hMv m0 m1 m2 m3 f0 f1 f2 f3 h4 k4 hb6 hGk R7 e9;go_wp2
    go_meet
    exact⟨HSC.out,zaf⟩
 case rest =>
  obtain⟨⟨mb,va3,vc3,rfl,hmb,hMb,hGm⟩,hBc⟩:=hcut
  have hbc:=hb2.trans (hBc.mono hb2.size)
  have XC:=XU.below hBc
  have HGM:Hid (Gr El.bool (fun _=>False) wc va3 vc3 (mkG x.gl)):=hGm
  have zzy:Hid (Ri wc va vc L):=zrv.out.below hBc
  have HGY3:Hid (Ri wc ya yc Y):=HGY.out.below hBc
  have HMB:Hid (Bk 82 wc mb _):=hMb
  clear hGm zrv HGY XU HXU HMK hMb
  go_upto_region 8 with fail
  refine wp_region_held_drew (S:=fun u=>(u.cell? ⟨w.heap.size,0,none⟩=some (.slice xa xl xc)/\u.cell? ⟨w.heap.size,1,none⟩=some (.slice ba bl bc)/\u.cell? ⟨w.heap.size,2,none⟩=some (.slice ga x.s.rg.length gc)/\u.cell? ⟨w.heap.size,3,none⟩=some (.slice ma x.s.rw.length mc)/\u.cell? ⟨w.heap.size,4,none⟩=some (.slice la x.gl.length lc)/\u.cell? ⟨w.heap.size,5,none⟩=some (.slice ta tl tc)/\u.cell? ⟨w.heap.size,6,none⟩=some (.slice da dl dc)/\u.cell? ⟨w.heap.size,7,none⟩=some (.slice ra x.rn.length rc)/\u.cell? ⟨w.heap.size,8,none⟩=some (.slice ka x.lk.length kc)/\u.cell? ⟨w.heap.size,9,none⟩=some (.slice fa x.ft.length fc)/\u.cell? ⟨w.heap.size,10,none⟩=some (.slice sa x.sw.length sc))/\u.cell? ⟨mb,0,none⟩=some (.slice ga x.s.rg.length gc)/\u.cell? ⟨mb,1,none⟩=some (.slice ma x.s.rw.length mc)/\u.cell? ⟨mb,2,none⟩=some (.slice va3 x.gl.length vc3)/\u.cell? ⟨mb,3,none⟩=some (.slice c cs.length cc)) (by kernel_rfl) ⟨XC.elevenH,HMB.out.fourH⟩ (fun hH=>?_)
  have hdr:Below wc.heap.size wc wc.drew:=Below.drew1
  generalize wc.drew=Z at hdr hH ⊢
  have hbz:=hbc.trans (hdr.mono hbc.size)
  have HXZ:Hid (Bk 36 wc w.heap.size _):=XC
  clear XC;refine hT 0 hH ?_;refine hT 1 hH ?_;refine hT 2 hH ?_;refine hT 3 hH ?_;refine hT 4 hH ?_;refine hT 6 hH ?_;refine hT 7 hH ?_;refine hT 8 hH ?_
  refine hCall (i:=5) rfl (by kernel_rfl) (by rfl) (fun K hK=>?_)
  go_simp
  refine(HCH.out Z hbz).mono ?_
  rintro e v1 ⟨hr1,hc1⟩;obtain⟨v5,rfl,hG1⟩:=hr1.out;obtain⟨ea,ec,rfl,R1,-⟩:=hG1.slice
  have hd1:=hdr.trans (hc1.mono hdr.size)
  have zi1:=hbc.trans (hd1.mono hbc.size)
  have HK1:Hid (Ri v1 ea ec (chFt x.ft x.sw cs on)):=R1
  generalize chFt x.ft x.sw cs on=C at HK1 HV
  clear hr1 hG1 R1 hc1 hH hbz HCH
  go_wp2_with fail
  refine hK.out _ _ ⟨(HXZ.out.below hd1).elevenH,(HMB.out.below hd1).fourH⟩ (fun hH=>?_)
  clear hK K
  try simp only[Act.put,pZ]
  have hly:=ztn va vc L ya yc Y v1 (zzy.out.below hd1) (HGY3.out.below hd1) (by omega)
  refine hCall (i:=9) rfl (by kernel_rfl) (by rfl) (fun K hK=>?_)
  go_simp
  refine hly.mono ?_
  rintro e v2 ⟨hr2,hc2⟩;obtain⟨v6,rfl,hG2⟩:=hr2.out;obtain⟨pa2,pc2,rfl,R2,-⟩:=hG2.slice;rw[zdd]
  have hd2:=hd1.trans (hc2.mono hd1.size)
  have zh3:=hbc.trans (hd2.mono hbc.size)
  have hal:=HAL.out v2 ea ec C va3 vc3 _ pa2 pc2 (laL L Y) zh3 (HK1.out.below hc2) (HGM.out.below hd2) R2 (by rw[zdd];omega)
  rw[<-HV.out,zdd]at hal;clear hly hr2 hG2 R2 hc2 hH HK1 HAL HV
  go_wp2_with fail
  refine hK.out _ _ ⟨(HXZ.out.below hd2).elevenH,(HMB.out.below hd2).fourH⟩ (fun hH=>?_)
  clear hK K
  try simp only[Act.put,pZ]
  refine hCall (i:=10) rfl (by kernel_rfl) (by rfl) (fun K hK=>?_)
  go_simp
  refine hal.mono ?_
  rintro e v3 ⟨hr3,hc3⟩
  have hd3:=hd2.trans (hc3.mono hd2.size)
  have zaf:=hbc.trans (hd3.mono hbc.size)
  obtain⟨v7,rfl,hG3⟩:=hr3.out
  have HG3:Hid (PaA (plP x cs (sb t) on) w.heap.size v3 (.returned (.tuple #[v7,.int .i64 (plP x cs (sb t) on).1]))):=⟨v7,rfl,Gw.lowB hG3 zh3.size⟩
  generalize (plP x cs (sb t) on).1=e3 at HG3 ⊢
  clear hal hr3 hG3 hc3 hH
  go_wp2_with fail
  refine hK.out _ _ ⟨(HXZ.out.below hd3).elevenH,(HMB.out.below hd3).fourH⟩ (fun hH=>?_)
  clear hK K
  try simp only[Act.put,pZ]
  refine hT 11 hH ?_;refine hT 12 hH ?_;refine hT 13 hH ?_;refine hT 14 hH ?_
  refine wpAnyH_done (by kernel_rfl) ?_ _
  clear hH;go_wp2
  go_ret2
  exact⟨HG3.out,zaf⟩
theorem zfz(S:Nat->Prop)(a:Option Addr)(ca:Nat)(P:List Pd)(w:World)(h:Gr PdE S w a ca P) :
 Calls Tryz.prog 18 #[.slice a P.length ca] w fun e w'=>e=.returned (.int .i64 (wiP P))/\Below w.heap.size w w':=by
 have kP:=h.lenB
 have HH:Hid (Gr PdE S w a ca P):=h
 have HI:Hid (∀k,k<P.length->I64 (P.getD k Pd.none).a):=fun k hk=>by
  obtain⟨b,off,ea,hb,hw4,-⟩:=h.pd (Below.refl _ _) k hk
  exact hw4.2.2.2
 clear h
 go_enter Tryz.func18,Tryz.ntmps18
 go_wp2
 go_loopw [3,8] (fun v i wr=>∃k:Nat,k<=P.length/\i=.int .i64 k/\v=.int .i64 (wiP (P.take k))/\Below w.heap.size w wr) (fun _ i _=>P.length-(intOf i).toNat)
 case atStart=>exact⟨0,Nat.zero_le _,rfl,rfl,Below.refl _ _⟩
 case round =>
  obtain⟨k,hk,rfl,rfl,hB⟩:=hrel
  by_cases hkn:k<P.length
  . obtain⟨b,off,ea,hb,hw4,d0,d1,d2,d3⟩:=HH.out.pd hB k hkn
    have HST:Hid (_):=@zk6 P k hkn
    obtain⟨p,hp⟩:∃p,P.getD k Pd.none=p:=⟨_,rfl⟩
    rw[hp]at hw4 d0 d1 d2 d3 HST;clear hp hw4;obtain⟨pg,px,py,pa⟩:=p;dsimp only at d0 d1 d2 d3 HST;subst ea
    have i1:(0:Int)<=(k:Int):=by omega
    have i2:(k:Int)<(P.length:Int):=by omega
    obtain⟨U,hU,XG,hbU⟩:∃U,U=wr.alloc (.cells #[.int .i64 pg,.int .i64 px,.int .i64 py,.int .i64 pa] 66)/\Bk 66 U wr.heap.size [.int .i64 pg,.int .i64 px,.int .i64 py,.int .i64 pa]/\Below wr.heap.size wr U:=⟨_,rfl,Bk.new _ _ _,bl1 _⟩
    have hBU:=hB.trans (hbU.mono hB.size)
    obtain⟨y0,y1,y2,y3,-⟩:=XG.four
    generalize wiP (P.take k)=z at HST ⊢
    go_upto_region 5 with fail
    rw[<-hU];clear hU d0 d1 d2 d3 XG hbU;go_wp2
    go_roundw
    case rel=>exact⟨k+1,by omega,by go_num,by rw[<-HST.out,<-w6_64],hBU⟩
    case measure=>simp[intOf];omega
  . obtain rfl:k=P.length:=by omega
    rw[List.take_length]
    have g4:¬(P.length:Int)<(P.length:Int):=by omega
    go_wp2
    go_ret
    exact⟨rfl,hB⟩
def foA:Fo:=⟨[⟨Ol.none,[],300,-1,false⟩,⟨Ol.none,[],300,-1,false⟩],⟨[],[]⟩,[⟨65,65,1⟩],[],[],[]⟩
theorem zzc:shB foA=true:=by decide +kernel
theorem zux:mpC foA.rn [65,65]=[1,1]:=by decide +kernel
theorem zzb:roN foA.s 300 (-1) []=300/\roE foA.s 300 (-1) []=0:=by
 have h:vaQ foA.s 300 (-1) []=((300:Int):Rat):=by
  unfold vaQ
  rw[zgp (by decide +kernel),Rat.add_zero]
 unfold roN roE
 rw[h]
 exact⟨by decide +kernel,by decide +kernel⟩
theorem zqw{g:Int}(h:g=1):avN foA.gl foA.s g []=300/\avE foA.gl foA.s g []=0:=by
 subst h
 exact zzb
theorem zzd:plP foA [] [65,65] []=(0,[⟨1,0,0,300⟩,⟨1,0,0,300⟩]):=by
 rw[zvs zzc (by rw[zux];decide),zux]
 have e1:avF foA.gl foA.s [] [1,1]=0:=by
  rw[avF,(zqw rfl).2,if_pos rfl,avF,(zqw rfl).2,if_pos rfl]
  rfl
 have e2:avL foA.gl foA.s [] [1,1]=[300,300]:=by
  show [avN foA.gl foA.s 1 [],avN foA.gl foA.s 1 []]=_
  rw[(zqw rfl).1]
 rw[e1,e2,if_pos rfl]
 rfl
theorem zza:wiP [⟨1,0,0,300⟩,⟨1,0,0,300⟩]=600:=by decide +kernel
