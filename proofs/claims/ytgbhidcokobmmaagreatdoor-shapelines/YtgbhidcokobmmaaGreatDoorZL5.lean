import Derived.Test.YtgbhidcokobmmaaGreatDoorZL4
set_option maxHeartbeats 8000000
set_option maxRecDepth 100000
set_option linter.unusedSimpArgs false
set_option linter.unusedVariables false
namespace Go.Proofs.YtgbhidcokobmmaaGreatDoor
open Go.RowKit Go.Maps
def Spn(w:World):Prop:=0<w.heap.size/\∀i,i<20->w.cell? ⟨0,i,none⟩=some (.int .i64 ((spN.getD i 0:Nat):Int))
theorem Spn.below{w w':World}(h:Spn w)(hb:Below w.heap.size w w'):Spn w':=⟨Nat.lt_of_lt_of_le h.1 hb.size,fun i hi=>(hb.cell (p:=⟨0,i,none⟩) h.1).trans (h.2 i hi)⟩
def lkB(l:List Lk)(g:Int)(x:Lk):Bool:=decide (x.rs.length<=40)&&x.rs.all (fun r=>ruB l x.kd r g)
theorem zuf{l:List Lk}{g:Int}{x:Lk}(h:puB x.kd=true):loB l g x=lkB l g x:=by unfold loB lkB;rw[h];rfl
theorem zp0{l:List Lk}{g:Int}{x:Lk}{k:Nat}(hk:k<x.rs.length)(hr:ruB l x.kd (x.rs.getD k Ru.none) g=false):lkB l g x=false:=by
 unfold lkB
 cases hf:x.rs.all (fun r=>ruB l x.kd r g) with
 | false=>rw[Bool.and_false]
 | true =>
  rw[List.all_eq_true]at hf
  have:=hf (x.rs.getD k Ru.none) (by rw[List.getD_eq_getElem?_getD,List.getElem?_eq_getElem hk];exact List.getElem_mem hk)
  rw[hr]at this
  cases this
theorem zpz{l:List Lk}{g:Int}{x:Lk}(hl:x.rs.length<=40)(h:∀k,k<x.rs.length->ruB l x.kd (x.rs.getD k Ru.none) g=true):lkB l g x=true:=by
 unfold lkB
 rw[decide_eq_true hl,Bool.true_and,List.all_eq_true]
 intro r hr
 obtain⟨k,hk,e⟩:=List.getElem_of_mem hr
 have:=h k hk
 rw[List.getD_eq_getElem?_getD,List.getElem?_eq_getElem hk,Option.getD_some,e]at this
 exact this
theorem zpu(S:Nat->Prop)(a:Option Addr)(ca:Nat)(l:List Lk)(kd:Nat)(sk:Bool)(ra:Option Addr)(rc:Nat)(rs:List Ru)(g:Int)(w:World)
    (hl:Gr LkE S w a ca l) (h1:1<=kd) (h4:kd<=4) (hr:Gr RuE S w ra rc rs) (hg:I64 g) (hT:Spn w) :
    Calls Tryz.prog 70 #[.slice a l.length ca,.agg #[.int .i64 kd,.bool sk,.slice ra rs.length rc],.int .i64 g] w fun e w' =>
     e=.returned (.bool (lkB l g ⟨(kd:Int),sk,rs⟩))/\Below w.heap.size w w':=by
 have kl:=hl.lenB
 have kr:=hr.lenB
 obtain⟨W,hW,X1,hbW⟩:∃W,W=w.alloc (.cells #[.int .i64 kd,.bool sk,.slice ra rs.length rc] 123)/\Bk 123 W w.heap.size [.int .i64 kd,.bool sk,.slice ra rs.length rc]/\Below w.heap.size w W:=⟨_,rfl,Bk.new _ _ _,bl1 _⟩
 obtain⟨x0,x1,x2,-⟩:=X1.three
 by_cases hn1:40<rs.length
 . have HF:Hid (lkB l g ⟨(kd:Int),sk,rs⟩=false):=by show _=_;unfold lkB;rw[decide_eq_false (show ¬rs.length<=40 by omega)];rfl
   have g2:(40:Int)<(rs.length:Int):=by omega
   clear hl hr hT X1 hn1
   go_enter Tryz.func70,Tryz.ntmps70
   go_upto_region 1 with fail
   rw[<-hW];clear hW;go_wp2
   go_ret
   exact⟨zaa HF.out.symm,hbW⟩
 have g2:¬(40:Int)<(rs.length:Int):=by omega
 have HL:Hid (Gr LkE S W a ca l):=hl.below hbW
 have HR:Hid (Gr RuE S W ra rc rs):=hr.below hbW
 have HT:Hid (Spn W):=hT.below hbW
 have HX1:Hid (Bk 123 W w.heap.size [.int .i64 kd,.bool sk,.slice ra rs.length rc]):=X1
 have HBW:Hid (Below w.heap.size w W):=hbW
 obtain⟨R,hR⟩:∃R,lkB l g ⟨(kd:Int),sk,rs⟩=R:=⟨_,rfl⟩
 have HBD:Hid (∀k,k<rs.length->ruB l (kd:Int) (rs.getD k Ru.none) g=false->R=false):=fun k hk h=>by rw[<-hR];exact zp0 (x:=⟨(kd:Int),sk,rs⟩) hk h
 have HYS:Hid ((∀k,k<rs.length->ruB l (kd:Int) (rs.getD k Ru.none) g=true)->R=true):=fun h=>by rw[<-hR];exact zpz (x:=⟨(kd:Int),sk,rs⟩) (show rs.length<=40 by omega) h
 rw[hR];clear hR hn1
 go_enter Tryz.func70,Tryz.ntmps70
 go_upto_region 1 with fail
 rw[<-hW];clear hW hl hr hT X1 hbW;go_wp2;clear g2 x0 x1 x2
 go_loopw [16] (fun i wr=>∃k:Nat,k<=rs.length/\i=.int .i64 k/\Hid (∀j,j<k->ruB l (kd:Int) (rs.getD j Ru.none) g=true)/\Below W.heap.size W wr) (fun i _=>rs.length-(intOf i).toNat)
 case atStart=>exact⟨0,Nat.zero_le _,rfl,(fun j hj=>by omega),Below.refl _ _⟩
 case round =>
  obtain⟨k,hk,rfl,HOK,hB⟩:=hrel
  have hBw:Below w.heap.size w wr:=HBW.out.trans (hB.mono HBW.out.size)
  by_cases hkn:k<rs.length
  . obtain⟨b,off,a1,c1,a2,c2,ea,hb1,hI,hin,hou,d0,d1,d2,d3,d4,d5,d6,d7,d8,d9⟩:=HR.out.ru10 hB k hkn
    obtain⟨r,hrr⟩:∃r,rs.getD k Ru.none=r:=⟨_,rfl⟩
    have HRR:Hid (rs.getD k Ru.none=r):=hrr
    rw[hrr]at hI hin hou d0 d1 d2 d3 d4 d5 d6 d7 d8 d9;clear hrr;obtain⟨inn,out,ap,lk,⟨x1,x2⟩,⟨y1,y2⟩,⟨w1,w2⟩⟩:=r;dsimp only at d0 d1 d2 d3 d4 d5 d6 d7 d8 d9 hin hou;obtain⟨j1,j2,⟨j3,j4⟩,⟨j5,j6⟩,j7,j8⟩:=hI;dsimp only at j1 j2 j3 j4 j5 j6 j7 j8
    have i1:(0:Int)<=(k:Int):=by omega
    have i2:(k:Int)<(rs.length:Int):=by omega
    subst ea
    obtain⟨U,hU,XG,hbU⟩:∃U,U=wr.alloc (.cells #[.slice a1 inn.length c1,.slice a2 out.length c2,.int .i64 ap,.int .i64 lk,.int .i64 x1,.int .i64 x2,.int .i64 y1,.int .i64 y2,.int .i64 w1,.int .i64 w2] 131)/\Bk 131 U wr.heap.size (ruV a1 c1 a2 c2 ⟨inn,out,ap,lk,(x1,x2),(y1,y2),(w1,w2)⟩)/\Below wr.heap.size wr U:=⟨_,rfl,Bk.new _ _ (ruV a1 c1 a2 c2 ⟨inn,out,ap,lk,(x1,x2),(y1,y2),(w1,w2)⟩),bl1 _⟩
    go_upto_region 6 with fail
    rw[<-hU]
    have hWU:=hB.trans (hbU.mono hB.size)
    have hwU:=hBw.trans (hbU.mono hBw.size)
    have hI2:=(hin.below hbU).ri
    have hO2:=(hou.below hbU).ri
    have kin:=hI2.lenB
    have HT2:Spn U:=HT.out.below hWU
    have HL2:Gr LkE S U a ca l:=HL.out.below hWU
    have y0:U.cell? ⟨w.heap.size,0,none⟩=some (.int .i64 kd):=by
     have:=(HX1.out.below hWU).three.1
     exact this
    obtain⟨q0,q1,q2,q3,q4,q5,q6,q7,q8,q9⟩:=XG.ru;dsimp only at q0 q1 q2 q3 q4 q5 q6 q7 q8 q9
    have s0:=HT2.2 (kd*4) (by omega)
    have s1:=HT2.2 (kd*4+1) (by omega)
    have s2:=HT2.2 (kd*4+2) (by omega)
    have s3:=HT2.2 (kd*4+3) (by omega)
    have HE:Hid (ruB l (kd:Int) ⟨inn,out,ap,lk,(x1,x2),(y1,y2),(w1,w2)⟩ g=(lsB (spN.getD (kd*4) 0) (spN.getD (kd*4+1) 0) (spN.getD (kd*4+2) 0) (spN.getD (kd*4+3) 0) ⟨inn,out,ap,lk,(x1,x2),(y1,y2),(w1,w2)⟩ g&&reB l (kd:Int) ⟨inn,out,ap,lk,(x1,x2),(y1,y2),(w1,w2)⟩)):=zxz h1 h4
    generalize spN.getD (kd*4) 0=p at s0 HE
    generalize spN.getD (kd*4+1) 0=q at s1 HE
    generalize spN.getD (kd*4+2) 0=s at s2 HE
    generalize spN.getD (kd*4+3) 0=t at s3 HE
    have hlf:=fun Z (hZ:Below U.heap.size U Z)=>zp1 p q s t a1 c1 a2 c2 inn out ap lk x1 x2 y1 y2 w1 w2 g Z (hI2.below hZ) (hO2.below hZ) hg (x1,x2) (y1,y2) (w1,w2)
    have hrf:=fun Z (hZ:Below U.heap.size U Z)=>zo0 S a ca l (kd:Int) a1 c1 a2 c2 inn out ap lk x1 x2 y1 y2 w1 w2 Z (HL2.below hZ) ⟨by omega,by omega⟩ j1 j2 kin
    generalize lsB p q s t ⟨inn,out,ap,lk,(x1,x2),(y1,y2),(w1,w2)⟩ g=A1 at hlf HE
    generalize reB l (kd:Int) ⟨inn,out,ap,lk,(x1,x2),(y1,y2),(w1,w2)⟩=A2 at hrf HE
    have zav:Hid (ruB l (kd:Int) ⟨inn,out,ap,lk,(x1,x2),(y1,y2),(w1,w2)⟩ g=false->R=false):=fun h=>HBD.out k hkn (by rw[HRR.out];exact h)
    have za9:Hid (ruB l (kd:Int) ⟨inn,out,ap,lk,(x1,x2),(y1,y2),(w1,w2)⟩ g=true->∀j,j<k+1->ruB l (kd:Int) (rs.getD j Ru.none) g=true):=fun h j hj=>by
     rcases Nat.lt_or_ge j k with h1|h1
     . exact HOK.out j h1
     . rw[show j=k by omega,HRR.out];exact h
    have HSU:Hid (Spn U/\Bk 123 U w.heap.size [.int .i64 kd,.bool sk,.slice (some ⟨b,off,none⟩) rs.length rc]/\Bk 131 U wr.heap.size (ruV a1 c1 a2 c2 ⟨inn,out,ap,lk,(x1,x2),(y1,y2),(w1,w2)⟩)):=⟨HT2,HX1.out.below hWU,XG⟩
    have hK4:kd<5:=by omega
    have i3:(0:Int)<=(kd:Int):=by omega
    have i4:(kd:Int)<5:=by omega
    have lb:w.heap.size<U.heap.size:=HSU.out.2.1.lt
    have lg:wr.heap.size<U.heap.size:=XG.lt
    have l0:0<U.heap.size:=HT2.1
    clear hU hin hou hI2 hO2 HT2 HL2 XG d0 d1 d2 d3 d4 d5 d6 d7 d8 d9 HRR HOK
    refine wp_region_held_drew (S:=fun u=>u.cell? ⟨w.heap.size,0,none⟩=some (.int .i64 kd)/\(u.cell? ⟨0,kd*4,none⟩=some (.int .i64 p)/\u.cell? ⟨0,kd*4+1,none⟩=some (.int .i64 q)/\u.cell? ⟨0,kd*4+2,none⟩=some (.int .i64 s)/\u.cell? ⟨0,kd*4+3,none⟩=some (.int .i64 t)) /\
     (u.cell? ⟨wr.heap.size,0,none⟩=some (.slice a1 inn.length c1)/\u.cell? ⟨wr.heap.size,1,none⟩=some (.slice a2 out.length c2)/\u.cell? ⟨wr.heap.size,2,none⟩=some (.int .i64 ap)/\u.cell? ⟨wr.heap.size,3,none⟩=some (.int .i64 lk)/\u.cell? ⟨wr.heap.size,4,none⟩=some (.int .i64 x1)/\u.cell? ⟨wr.heap.size,5,none⟩=some (.int .i64 x2)/\u.cell? ⟨wr.heap.size,6,none⟩=some (.int .i64 y1)/\u.cell? ⟨wr.heap.size,7,none⟩=some (.int .i64 y2)/\u.cell? ⟨wr.heap.size,8,none⟩=some (.int .i64 w1)/\u.cell? ⟨wr.heap.size,9,none⟩=some (.int .i64 w2)))
     (by kernel_rfl) ⟨y0,⟨s0,s1,s2,s3⟩,q0,q1,q2,q3,q4,q5,q6,q7,q8,q9⟩ (fun hH=>?_)
    have hdr:Below U.heap.size U U.drew:=(Below.refl _ _).drew
    generalize U.drew=Z at hdr hH ⊢
    refine hT 0 hH ?_;refine hT 1 hH ?_;refine hT 2 hH ?_;refine hT 3 hH ?_;refine hT 4 hH ?_;refine hT 5 hH ?_
    refine hCall (i:=6) rfl (by kernel_rfl) (by rfl) (fun K hK=>?_)
    go_simp
    refine(hlf Z hdr).mono ?_
    rintro e u ⟨rfl,hbu⟩
    have hUu:=hdr.trans (hbu.mono hdr.size)
    clear hlf
    go_wp2_with fail
    refine hK.out _ _ ⟨(hUu.cell (p:=⟨w.heap.size,0,none⟩) lb).trans y0,⟨(hUu.cell (p:=⟨0,kd*4,none⟩) l0).trans s0,(hUu.cell (p:=⟨0,kd*4+1,none⟩) l0).trans s1,(hUu.cell (p:=⟨0,kd*4+2,none⟩) l0).trans s2,(hUu.cell (p:=⟨0,kd*4+3,none⟩) l0).trans s3⟩,
     (hUu.cell (p:=⟨wr.heap.size,0,none⟩) lg).trans q0,(hUu.cell (p:=⟨wr.heap.size,1,none⟩) lg).trans q1,(hUu.cell (p:=⟨wr.heap.size,2,none⟩) lg).trans q2,(hUu.cell (p:=⟨wr.heap.size,3,none⟩) lg).trans q3,(hUu.cell (p:=⟨wr.heap.size,4,none⟩) lg).trans q4,(hUu.cell (p:=⟨wr.heap.size,5,none⟩) lg).trans q5,(hUu.cell (p:=⟨wr.heap.size,6,none⟩) lg).trans q6,(hUu.cell (p:=⟨wr.heap.size,7,none⟩) lg).trans q7,(hUu.cell (p:=⟨wr.heap.size,8,none⟩) lg).trans q8,(hUu.cell (p:=⟨wr.heap.size,9,none⟩) lg).trans q9⟩ (fun hH=>?_)
    clear hK K
    try simp only[Act.put,pZ]
    cases A1 with
    | false =>
     have HF:Hid (R=false):=zav.out (by rw[HE.out];rfl)
     refine hT 7 hH ?_;refine hT 8 hH ?_;refine hN 9 hH ?_;refine hN 10 hH ?_;refine hN 11 hH ?_;refine hN 12 hH ?_;refine hN 13 hH ?_;refine hN 14 hH ?_;refine hT 15 hH ?_
     refine wpAnyH_done (by kernel_rfl) ?_ _
     have zaf:=hwU.trans (hUu.mono hwU.size)
     clear hrf zav za9 hH;go_wp2
     go_ret
     exact⟨zaa HF.out.symm,zaf⟩
    | true =>
     rw[Bool.true_and]at HE;refine hT 7 hH ?_;refine hT 8 hH ?_;refine hT 9 hH ?_;refine hT 10 hH ?_;refine hT 11 hH ?_;refine hT 12 hH ?_
     refine hCall (i:=13) rfl (by kernel_rfl) (by rfl) (fun K hK=>?_)
     go_simp
     refine(hrf u hUu).mono ?_
     rintro e u2 ⟨rfl,znk⟩
     have zh4:=hUu.trans (znk.mono hUu.size)
     clear hrf
     go_wp2_with fail
     refine hK.out _ _ ⟨(zh4.cell (p:=⟨w.heap.size,0,none⟩) lb).trans y0,⟨(zh4.cell (p:=⟨0,kd*4,none⟩) l0).trans s0,(zh4.cell (p:=⟨0,kd*4+1,none⟩) l0).trans s1,(zh4.cell (p:=⟨0,kd*4+2,none⟩) l0).trans s2,(zh4.cell (p:=⟨0,kd*4+3,none⟩) l0).trans s3⟩,
      (zh4.cell (p:=⟨wr.heap.size,0,none⟩) lg).trans q0,(zh4.cell (p:=⟨wr.heap.size,1,none⟩) lg).trans q1,(zh4.cell (p:=⟨wr.heap.size,2,none⟩) lg).trans q2,(zh4.cell (p:=⟨wr.heap.size,3,none⟩) lg).trans q3,(zh4.cell (p:=⟨wr.heap.size,4,none⟩) lg).trans q4,(zh4.cell (p:=⟨wr.heap.size,5,none⟩) lg).trans q5,(zh4.cell (p:=⟨wr.heap.size,6,none⟩) lg).trans q6,(zh4.cell (p:=⟨wr.heap.size,7,none⟩) lg).trans q7,(zh4.cell (p:=⟨wr.heap.size,8,none⟩) lg).trans q8,(zh4.cell (p:=⟨wr.heap.size,9,none⟩) lg).trans q9⟩ (fun hH=>?_)
     clear hK K
     try simp only[Act.put,pZ]
     refine hT 14 hH ?_;refine hT 15 hH ?_
     refine wpAnyH_done (by kernel_rfl) ?_ _
     cases A2 with
     | false =>
      have HF:Hid (R=false):=zav.out HE.out
      have zaf:=hwU.trans (zh4.mono hwU.size)
      clear zav za9 hH;go_wp2
      go_ret
      exact⟨zaa HF.out.symm,zaf⟩
     | true =>
      have ze7:Hid (∀j,j<k+1->ruB l (kd:Int) (rs.getD j Ru.none) g=true):=za9.out HE.out
      have zaf:=hWU.trans (zh4.mono hWU.size)
      clear zav za9 hH HE HSU y0 s0 s1 s2 s3 q0 q1 q2 q3 q4 q5 q6 q7 q8 q9 lb lg l0 hUu zh4 hbu znk hdr hwU hWU hbU;go_wp2
      go_roundw
      case rel=>exact⟨k+1,by omega,by go_num,ze7,zaf⟩
      case measure=>simp[intOf];omega
  . have HF:Hid (R=true):=HYS.out (fun j hj=>HOK.out j (by omega))
    have g4:¬(k:Int)<(rs.length:Int):=by omega
    clear HOK;go_wp2
    go_ret
    exact⟨zaa HF.out.symm,hBw⟩
theorem zx6{ms:List Bool}{L:List Int}{sk:Bool}{i:Nat}(h:sk=false):psB ms L sk i=false:=by unfold psB;rw[h];rfl
theorem zvq{ms:List Bool}{L:List Int}{i:Nat}{g:Int}(h:L.getD i 0=g):psB ms L true i=mkB ms g:=by unfold psB;rw[h];rfl
theorem zq8(S:Nat->Prop)(a:Option Addr)(ca:Nat)(L:List Int)(b:Option Addr)(cb:Nat)(ms:List Bool)(i:Int)(sk:Bool)(w:World)(hL:Ri w a ca L)(hm:Gr El.bool S w b cb ms)(hi:I64 i) :
 Calls Tryz.prog 165 #[.slice a L.length ca,.slice b ms.length cb,.int .i64 i,.bool sk] w fun e w'=>e=.returned (.int .i64 (nxQ ms L sk i))/\Below w.heap.size w w':=by
 have kl:=hL.lenB
 obtain⟨hi1,hi2⟩:=hi
 have hpl:=zc5 a ca L i w kl
 cases hp:plB L i with
 | false =>
  rw[hp]at hpl
  have HF:Hid (nxQ ms L sk i=-1):=zua hp
  clear hp hL hm
  go_enter Tryz.func165,Tryz.ntmps165
  go_wp2_with fail
  refine hpl.mono ?_
  rintro e u ⟨rfl,rfl⟩;clear hpl;go_wp2
  go_ret
  exact⟨zbf HF.out.symm,Below.refl _ _⟩
 | true =>
 rw[hp]at hpl
 obtain⟨p1,p2⟩:=zal.1 hp
 obtain⟨k,rfl⟩:∃k:Nat,i=(k:Int):=⟨i.toNat,by omega⟩
 have hk:k<L.length:=by omega
 have HX:Hid (nxQ ms L sk (k:Int)=nxF ms L sk (L.length-(k+1)) (k+1)):=zj0 hk
 obtain⟨b0,off,rfl,hb0,_⟩:=hL.at (Below.refl _ _) k hk
 have zus:=hL.2.1
 have zkc:=hL.2.2.1
 unfold maxLen at zkc
 clear hp
 by_cases zcn:k+1=L.length
 . have HF:Hid (nxQ ms L sk (k:Int)=-1):=by show _=_;rw[HX.out];exact zj1 (by omega)
   have hn0:L.length-(k+1)=0:=by omega
   clear HX zcn hL hm
   by_cases hc1:ca=k+1
   . subst hc1
     go_enter Tryz.func165,Tryz.ntmps165
     go_wp2_with fail
     refine hpl.mono ?_
     rintro e u ⟨rfl,rfl⟩;clear hpl;go_wp2
     go_loopw [20] (fun i wr=>i=.int .i64 0/\wr=w) (fun _ _=>0)
     case atStart=>exact⟨rfl,rfl⟩
     case round =>
      obtain⟨rfl,rfl⟩:=hrel;go_wp2
      go_ret
      exact⟨zbf HF.out.symm,Below.refl _ _⟩
   . go_enter Tryz.func165,Tryz.ntmps165
     go_wp2_with fail
     refine hpl.mono ?_
     rintro e u ⟨rfl,rfl⟩;clear hpl;go_wp2
     go_loopw [20] (fun i wr=>i=.int .i64 0/\wr=w) (fun _ _=>0)
     case atStart=>exact⟨rfl,rfl⟩
     case round =>
      obtain⟨rfl,rfl⟩:=hrel;go_wp2
      go_ret
      exact⟨zbf HF.out.symm,Below.refl _ _⟩
 . have hc1:¬ca=k+1:=by omega
   obtain⟨n,hn⟩:∃n,L.length-(k+1)=n:=⟨_,rfl⟩
   have hn1:n+(k+1)<=L.length:=by omega
   have hn2:L.length<=n+(k+1):=by omega
   have HN:Hid (L.length-(k+1)=n):=hn
   have HL:Hid (Ri w (some ⟨b0,off,none⟩) ca L):=hL
   have HM:Hid (Gr El.bool S w b cb ms):=hm
   clear zcn hL hm
   go_enter Tryz.func165,Tryz.ntmps165
   go_wp2_with fail
   refine hpl.mono ?_
   rintro e u ⟨rfl,rfl⟩;clear hpl;go_wp2;clear hn
   go_loopw [20] (fun i wr=>∃j:Nat,j<=n/\i=.int .i64 j/\Hid (nxQ ms L sk (k:Int)=nxF ms L sk (L.length-(k+1+j)) (k+1+j))/\Below w.heap.size w wr) (fun i _=>n-(intOf i).toNat)
   case atStart=>exact⟨0,Nat.zero_le _,rfl,HX,Below.refl _ _⟩
   case round =>
    obtain⟨j,hj,rfl,HJ,hB⟩:=hrel
    by_cases hjn:j<n
    . obtain⟨b1,o1,e1,_,c0⟩:=HL.out.at hB (k+1+j) (by omega)
      cases e1
      have HG:Hid (I64 (L.getD (k+1+j) 0)):=HL.out.i64 (by omega)
      have HON:Hid (_):=zub (ms:=ms) (sk:=sk) (show k+1+j<L.length by omega)
      have HOF:Hid (_):=zpn (ms:=ms) (sk:=sk) (show k+1+j<L.length by omega)
      have HPS:Hid (∀q,mkB ms (L.getD (k+1+j) 0)=q->psB ms L true (k+1+j)=q):=fun q hq=>by rw[zvq rfl];exact hq
      obtain⟨g,hg⟩:∃g,L.getD (k+1+j) 0=g:=⟨_,rfl⟩
      rw[hg]at c0 HG HPS
      have zdx:off+(k+1+j)=off+(k+1)+j:=by omega
      rw[zdx]at c0
      have i1:(0:Int)<=(j:Int):=by omega
      have i2:(j:Int)<(n:Int):=by omega
      have i3:(k:Int)+1+(j:Int)<=9223372036854775807:=by omega
      clear zdx hg
      cases sk with
      | false =>
       have HF:Hid (nxQ ms L false (k:Int)=(k:Int)+1+(j:Int)):=by show _=_;rw[HJ.out,HOF.out (zx6 rfl)];omega
       clear HJ HON HOF HPS;go_wp2
       go_ret
       exact⟨zbf HF.out.symm,hB⟩
      | true =>
      have hmk:=zcy S b cb ms g wr (HM.out.below hB) HG.out
      cases hq:mkB ms g with
      | true =>
       rw[hq]at hmk
       have HJ2:Hid (nxQ ms L true (k:Int)=nxF ms L true (L.length-(k+1+(j+1))) (k+1+(j+1))):=by show _=_;rw[HJ.out];exact HON.out (HPS.out _ hq)
       clear HJ HON HOF HPS hq
       go_wp2_with fail
       refine hmk.mono ?_
       rintro e u ⟨rfl,hb1⟩
       have hB2:=hB.trans (hb1.mono hB.size)
       clear hmk hb1 hB;go_wp2
       go_roundw
       case rel=>exact⟨j+1,by omega,by go_num,HJ2,hB2⟩
       case measure=>simp[intOf];omega
      | false =>
       rw[hq]at hmk
       have HF:Hid (nxQ ms L true (k:Int)=(k:Int)+1+(j:Int)):=by show _=_;rw[HJ.out,HOF.out (HPS.out _ hq)];omega
       clear HJ HON HOF HPS hq
       go_wp2_with fail
       refine hmk.mono ?_
       rintro e u ⟨rfl,hb1⟩
       have hB2:=hB.trans (hb1.mono hB.size)
       clear hmk hb1 hB;go_wp2
       go_ret
       exact⟨zbf HF.out.symm,hB2⟩
    . have HF:Hid (nxQ ms L sk (k:Int)=-1):=by show _=_;rw[HJ.out];exact zj1 (by omega)
      have g4:¬(j:Int)<(n:Int):=by omega
      clear HJ;go_wp2
      go_ret
      exact⟨zbf HF.out.symm,hB⟩
theorem zhi{ms:List Bool}{L:List Int}{sk:Bool}{i:Int}{A:List Int}(h:¬(plB L i=true/\L.getD i.toNat 0=A.getD 0 0)):meQ ms L sk i A=none:=by
 cases A with
 | nil=>rfl
 | cons g t=>exact zyg h
theorem zlr{ms:List Bool}{L:List Int}{sk:Bool}{i:Int}{A:List Int}(h:A.length=0):meQ ms L sk i A=none:=by
 cases A with
 | nil=>rfl
 | cons g t=>simp at h
theorem MeI.one{ms:List Bool}{L:List Int}{sk:Bool}{i:Int}{A:List Int}(hA:0<A.length)(h1:plB L i=true)(h2:L.getD i.toNat 0=A.getD 0 0):MeI ms L sk i A 1 [i] i:=by
 cases A with
 | nil=>simp at hA
 | cons g t=>exact MeI.first h1 h2
structure MetA(ms:List Bool)(L:List Int)(sk:Bool)(i:Int)(A:List Int)(base:Nat)(w':World)(e:Ending):Prop where
 out:∃v,e=.returned (.tuple #[v,.bool (meB ms L sk i A)])/\Io base w' v (meL ms L sk i A)
theorem MetA.no{ms:List Bool}{L:List Int}{sk:Bool}{i:Int}{A:List Int}{base:Nat}{w':World}(h:meQ ms L sk i A=none):MetA ms L sk i A base w' (.returned (.tuple #[.slice none 0 0,.bool false])):=by
 refine⟨.slice none 0 0,?_,?_⟩
 . unfold meB;rw[h];rfl
 . unfold meL;rw[h];exact Io.nil _ _
theorem MetA.yes{ms:List Bool}{L:List Int}{sk:Bool}{i:Int}{A:List Int}{base:Nat}{w':World}{v:Value}{l:List Int}(h:meQ ms L sk i A=some l)(hv:Io base w' v l):MetA ms L sk i A base w' (.returned (.tuple #[v,.bool true])):=by
 refine⟨v,?_,?_⟩
 . unfold meB;rw[h];rfl
 . unfold meL;rw[h];exact hv
theorem Io.one{base:Nat}{w:World}{z:Int}(hz:I64 z)(hb:base<=w.heap.size):Io base (w.alloc (.cells #[.int .i64 z] 3)) (.slice (some ⟨w.heap.size,0,none⟩) 1 1) [z] :=
 ⟨fun s hs=>by rw[List.mem_singleton.1 hs];exact hz,rfl,.inr ⟨w.heap.size,1,#[.int .i64 z],rfl,hb,heap_alloc_new w _,Nat.le_refl _,by unfold maxLen;omega,rfl,rfl⟩⟩
theorem nx_pl{ms:List Bool}{L:List Int}{sk:Bool}{i:Int}(h:plB L i=true):nxQ ms L sk i=-1\/∃m:Nat,nxQ ms L sk i=(m:Int)/\m<L.length:=by
 have hp:=zal.1 h
 obtain⟨j,rfl⟩:∃j:Nat,i=(j:Int):=⟨i.toNat,by omega⟩
 rcases zpm (ms:=ms) (sk:=sk) (show j<L.length by omega)with ⟨h1,_⟩|⟨m,h1,_,h3,_⟩
 . exact .inl h1
 . exact .inr ⟨m,h1,h3⟩
theorem zi8(S:Nat->Prop)(a:Option Addr)(ca:Nat)(L:List Int)(b:Option Addr)(cb:Nat)(ms:List Bool)(i:Int)(q:Option Addr)(cq:Nat)(A:List Int)(sk:Bool)(w:World)
    (hL:Ri w a ca L) (hm:Gr El.bool S w b cb ms) (hi:I64 i) (hA:Ri w q cq A) (hA2:A.length<=1000) :
    Calls Tryz.prog 123 #[.slice a L.length ca,.slice b ms.length cb,.int .i64 i,.slice q A.length cq,.bool sk] w fun e w'=>MetA ms L sk i A w.heap.size w' e/\Below w.heap.size w w':=by
 have kl:=hL.lenB
 obtain⟨hi1,hi2⟩:=hi
 by_cases h0:A.length=0
 . have HF:Hid (meQ ms L sk i A=none):=zlr h0
   have HNO:Hid (∀U,MetA ms L sk i A w.heap.size U (.returned (.tuple #[.slice none 0 0,.bool false]))):=fun U=>MetA.no HF.out
   clear hL hm hA
   go_enter Tryz.func123,Tryz.ntmps123
   go_wp2_with fail
   go_quiet (fail)
   go_wp2
   go_ret2
   exact⟨HNO.out _,below_drewN (Below.refl _ _) _⟩
 have e0:((A.length:Int)==0)=false:=by rw[beq_eq_false_iff_ne];omega
 cases hp:plB L i with
 | false =>
  have hpl:=fun W=>zc5 a ca L i W kl
  rw[hp]at hpl
  have HPL:∀W,Calls Tryz.prog 164 #[.slice a L.length ca,.int .i64 i] W fun e w'=>e=.returned (.bool false)/\w'=W:=fun W=>(hpl W).mono fun _ _ h=>⟨h.1,h.2.symm⟩
  have HF:Hid (meQ ms L sk i A=none):=zhi (fun h=>by rw[hp]at h;cases h.1)
  have HNO:Hid (∀U,MetA ms L sk i A w.heap.size U (.returned (.tuple #[.slice none 0 0,.bool false]))):=fun U=>MetA.no HF.out
  clear hL hm hA hpl hp HF
  go_enter Tryz.func123,Tryz.ntmps123
  go_wp2_with fail
  go_quiet ((go_at_call 164;exact Calls.quiet_of_same (HPL _)))
  go_wp2
  go_ret2
  exact⟨HNO.out _,below_drewN (Below.refl _ _) _⟩
 | true =>
 have hpl:=fun W=>zc5 a ca L i W kl
 rw[hp]at hpl
 have HPL:∀W,Calls Tryz.prog 164 #[.slice a L.length ca,.int .i64 i] W fun e w'=>e=.returned (.bool true)/\w'=W:=fun W=>(hpl W).mono fun _ _ h=>⟨h.1,h.2.symm⟩
 obtain⟨p1,p2⟩:=zal.1 hp
 obtain⟨k,rfl⟩:∃k:Nat,i=(k:Int):=⟨i.toNat,by omega⟩
 have hk:k<L.length:=by omega
 have hA0:0<A.length:=by omega
 obtain⟨b0,o0,rfl,hb0,c0⟩:=hL.at (Below.refl _ _) k hk
 obtain⟨b1,o1,rfl,hb1,c1⟩:=hA.at (Below.refl _ _) 0 hA0
 rw[Nat.add_zero]at c1
 have HNE:Hid (¬L.getD k 0=A.getD 0 0->meQ ms L sk (k:Int) A=none):=fun h=>zhi (fun h1=>h h1.2)
 have HEQ:Hid (L.getD k 0=A.getD 0 0->MeI ms L sk (k:Int) A 1 [(k:Int)] (k:Int)):=fun h=>MeI.one hA0 hp h
 have HIK:Hid (I64 (k:Int)):=⟨by omega,by omega⟩
 have HL:Hid (Ri w (some ⟨b0,o0,none⟩) ca L):=hL
 have HM:Hid (Gr El.bool S w b cb ms):=hm
 have HA:Hid (Ri w (some ⟨b1,o1,none⟩) cq A):=hA
 obtain⟨x,hx⟩:∃x,L.getD k 0=x:=⟨_,rfl⟩
 obtain⟨y,hy⟩:∃y,A.getD 0 0=y:=⟨_,rfl⟩
 rw[hx]at c0 HNE HEQ;rw[hy]at c1 HNE HEQ
 have i1:(0:Int)<=(k:Int):=by omega
 have i2:(0:Int)<(A.length:Int):=by omega
 clear hL hm hA hpl hp hx hy
 by_cases hxy:x=y
 rotate_left
 . have d1:((x:Int) != (y:Int))=true:=by simp;exact hxy
   have HNO:Hid (∀U,MetA ms L sk (k:Int) A w.heap.size U (.returned (.tuple #[.slice none 0 0,.bool false]))):=fun U=>MetA.no (HNE.out hxy)
   clear HNE HEQ HL HM HA hxy
   go_enter Tryz.func123,Tryz.ntmps123
   go_wp2_with fail
   go_quiet ((go_at_call 164;exact Calls.quiet_of_same (HPL _)))
   go_wp2
   go_ret2
   exact⟨HNO.out _,below_drewN (Below.refl _ _) _⟩
 subst hxy
 have d1:((x:Int) != (x:Int))=false:=by simp
 have HI1:Hid (_):=HEQ.out rfl
 have zus:=HA.out.2.1
 have zkc:=HA.out.2.2.1
 unfold maxLen at zkc
 clear HNE HEQ h0
 by_cases zcn:A.length=1
 . have HY:Hid (∀U v,Io w.heap.size U v [(k:Int)]->MetA ms L sk (k:Int) A w.heap.size U (.returned (.tuple #[v,.bool true]))):=fun U v hv=>MetA.yes (MeI.done (by rw[zcn];exact HI1.out)) hv
   have hn0:A.length-1=0:=by omega
   clear zcn HI1 HL HM HA
   by_cases hc1:cq=1
   . subst hc1
     go_enter Tryz.func123,Tryz.ntmps123
     go_wp2_with fail
     go_quiet ((go_at_call 164;exact Calls.quiet_of_same (HPL _)))
     have hBW:Below w.heap.size w (w.drewN nq):=below_drewN (Below.refl _ _) _
     clear c0 c1 HPL
     generalize w.drewN nq=W at hBW ⊢
     have HI0:Hid (Io w.heap.size (W.alloc (.cells #[.int .i64 (k:Int)] 3)) (.slice (some ⟨W.heap.size,0,none⟩) 1 1) [(k:Int)]):=Io.one HIK.out hBW.size
     have HB0:Hid (Below w.heap.size w (W.alloc (.cells #[.int .i64 (k:Int)] 3))):=hBW.trans ((bl1 _).mono hBW.size)
     clear hBW;go_wp2
     go_loopw [12,39] (fun v i wr=>v=.slice (some ⟨W.heap.size,0,none⟩) 1 1/\i=.int .i64 0/\wr=W.alloc (.cells #[.int .i64 (k:Int)] 3)) (fun _ _ _=>0)
     case atStart=>exact⟨rfl,rfl,rfl⟩
     case round =>
      obtain⟨rfl,rfl,rfl⟩:=hrel;go_wp2
      go_ret2
      exact⟨HY.out _ _ HI0.out,HB0.out⟩
   . go_enter Tryz.func123,Tryz.ntmps123
     go_wp2_with fail
     go_quiet ((go_at_call 164;exact Calls.quiet_of_same (HPL _)))
     have hBW:Below w.heap.size w (w.drewN nq):=below_drewN (Below.refl _ _) _
     clear c0 c1 HPL
     generalize w.drewN nq=W at hBW ⊢
     have HI0:Hid (Io w.heap.size (W.alloc (.cells #[.int .i64 (k:Int)] 3)) (.slice (some ⟨W.heap.size,0,none⟩) 1 1) [(k:Int)]):=Io.one HIK.out hBW.size
     have HB0:Hid (Below w.heap.size w (W.alloc (.cells #[.int .i64 (k:Int)] 3))):=hBW.trans ((bl1 _).mono hBW.size)
     clear hBW;go_wp2
     go_loopw [12,39] (fun v i wr=>v=.slice (some ⟨W.heap.size,0,none⟩) 1 1/\i=.int .i64 0/\wr=W.alloc (.cells #[.int .i64 (k:Int)] 3)) (fun _ _ _=>0)
     case atStart=>exact⟨rfl,rfl,rfl⟩
     case round =>
      obtain⟨rfl,rfl,rfl⟩:=hrel;go_wp2
      go_ret2
      exact⟨HY.out _ _ HI0.out,HB0.out⟩
 have hc1:¬cq=1:=by omega
 obtain⟨n,hn⟩:∃n,A.length-1=n:=⟨_,rfl⟩
 have hn1:n+1<=A.length:=by omega
 have hn2:A.length<=n+1:=by omega
 clear zcn
 go_enter Tryz.func123,Tryz.ntmps123
 go_wp2_with fail
 go_quiet ((go_at_call 164;exact Calls.quiet_of_same (HPL _)))
 have hBW:Below w.heap.size w (w.drewN nq):=below_drewN (Below.refl _ _) _
 clear c0 c1 HPL
 generalize w.drewN nq=W at hBW ⊢
 have HI0:Hid (Io w.heap.size (W.alloc (.cells #[.int .i64 (k:Int)] 3)) (.slice (some ⟨W.heap.size,0,none⟩) 1 1) [(k:Int)]):=Io.one HIK.out hBW.size
 have HB0:Hid (Below w.heap.size w (W.alloc (.cells #[.int .i64 (k:Int)] 3))):=hBW.trans ((bl1 _).mono hBW.size)
 clear hBW;go_wp2;clear hn
 go_loopw [2,12,39] (fun z v i wr=>∃(j:Nat) (at':Int) (l:List Int),j<=n/\i=.int .i64 (j:Int)/\z=.int .i64 at'/\Hid (MeI ms L sk (k:Int) A (j+1) l at')/\Io w.heap.size wr v l/\Below w.heap.size w wr) (fun _ _ i _=>n-(intOf i).toNat)
 case atStart=>exact⟨0,(k:Int),[(k:Int)],Nat.zero_le _,rfl,rfl,HI1,HI0.out,HB0.out⟩
 case round =>
  clear HI1 HI0 HB0;obtain⟨j,z,l,hj,rfl,rfl,HI,hIo,hB⟩:=hrel;obtain⟨av,cv,rfl,hri⟩:=hIo.slice
  have HLEN:Hid (l.length=j+1):=HI.out.len
  have hl1:l.length<=j+1:=by rw[HLEN.out];exact Nat.le_refl _
  have hpz:=zal.1 HI.out.pl
  by_cases hjn0:j<n
  . have hjn:j+1<A.length:=by omega
    obtain⟨b2,o2,e2,_,c2⟩:=HA.out.at hB (j+1) hjn
    cases e2
    have HST:Hid (_):=HI.out.stop hjn
    have HMO:Hid (_):=HI.out.more hjn
    have HNX:Hid (_):=nx_pl (ms:=ms) (sk:=sk) HI.out.pl
    have hnx:=zq8 S (some ⟨b0,o0,none⟩) ca L b cb ms z sk wr (HL.out.below hB) (HM.out.below hB) ⟨by omega,by omega⟩
    obtain⟨r,hr⟩:∃r,nxQ ms L sk z=r:=⟨_,rfl⟩
    obtain⟨g,hg⟩:∃g,A.getD (j+1) 0=g:=⟨_,rfl⟩
    rw[hr]at hnx HST HMO HNX;rw[hg]at c2 HST HMO
    have zdx:o1+(j+1)=o1+1+j:=by omega
    rw[zdx]at c2
    have i3:(j:Int)<(n:Int):=by omega
    have i4:(0:Int)<=(j:Int):=by omega
    clear hr hg HI hri hpz zdx
    go_wp2_with fail
    refine hnx.mono ?_
    rintro e u ⟨rfl,hbu⟩
    have hBu:=hB.trans (hbu.mono hB.size)
    have hIu:=hIo.below hbu
    clear hnx hbu hB c2 hIo
    rcases HNX.out with rfl|⟨m,rfl,hm⟩
    . have HNO:Hid (∀U,MetA ms L sk (k:Int) A w.heap.size U (.returned (.tuple #[.slice none 0 0,.bool false]))):=fun U=>MetA.no (HST.out (.inl rfl))
      clear HST HMO HNX hIu;go_wp2
      go_ret2
      exact⟨HNO.out _,hBu⟩
    . obtain⟨b4,o4,e4,_,c4⟩:=HL.out.at hBu m hm
      cases e4
      rw[Int.toNat_natCast]at HST HMO
      obtain⟨x2,hx2⟩:∃x,L.getD m 0=x:=⟨_,rfl⟩
      rw[hx2]at c4 HST HMO
      have e5:((m:Int) == -1)=false:=by rw[beq_eq_false_iff_ne];omega
      have i5:(0:Int)<=(m:Int):=by omega
      have i6:(m:Int)<(L.length:Int):=by omega
      clear hx2 HNX
      by_cases hxg:x2=g
      rotate_left
      . have d2:((x2:Int) != (g:Int))=true:=by simp;exact hxg
        have HNO:Hid (∀U,MetA ms L sk (k:Int) A w.heap.size U (.returned (.tuple #[.slice none 0 0,.bool false]))):=fun U=>MetA.no (HST.out (.inr hxg))
        clear HST HMO hIu hxg;go_wp2
        go_ret2
        exact⟨HNO.out _,hBu⟩
      subst hxg
      have d2:((x2:Int) != (x2:Int))=false:=by simp
      have HMI:Hid (_):=HMO.out (fun h=>by
       rcases h with h|h
       . omega
       . exact h rfl)
      have HIM:Hid (I64 (m:Int)):=⟨by omega,by omega⟩
      clear HST HMO
      have hT5:=hIu.below (bl1 (.cells #[.int .i64 (m:Int)] 3))
      have hN:=heap_alloc_new u (.cells #[.int .i64 (m:Int)] 3)
      have n0:=cell_of_row _ u.heap.size 0 _ _ (0,0) hN
      have hll:l.length+1<=1000000:=by omega
      have hB6:Below w.heap.size w (u.alloc (.cells #[.int .i64 (m:Int)] 3)):=hBu.alloc hBu.size _
      clear hN hIu
      go_wp2_with (at_builtin;refine zbc rfl _ _ rfl w.heap.size _ l rfl hT5 u.heap.size (m:Int) rfl n0 HIM.out hll hB6.size ?_)
      intro v' w9 hT9 hgrow
      have hB9:Below w.heap.size w w9:=hB6.grown hgrow hB6.size (fun k hk=>hT5.lo hk)
      clear hgrow hT5 n0 hB6 hBu hll;go_wp2
      go_roundw
      case rel=>exact⟨j+1,(m:Int),_,hjn0,by go_num,rfl,HMI,hT9,hB9⟩
      case measure=>simp[intOf];omega
  . have HY:Hid (MetA ms L sk (k:Int) A w.heap.size wr (.returned (.tuple #[.slice av l.length cv,.bool true]))):=MetA.yes (MeI.done (by rw[show A.length=j+1 by omega];exact HI.out)) hIo
    have g4:¬(j:Int)<(n:Int):=by omega
    clear HI hri hpz hIo;go_wp2
    go_ret2
    exact⟨HY.out,hB⟩
theorem DuA.none{l:List Lk}{ms:List Bool}{n k:Nat}{L:List Int}{i:Int}{w':World}(h:duF l ms n k L i=Option.none){a:Option Addr}{c:Nat}(hg:Gr El.int (fun _=>True) w' a c L):DuA l ms n k L i w' (.returned (.tuple #[.slice a L.length c,.int .i64 i,.bool false])):=by
 refine⟨a,c,?_,?_⟩
 . unfold duL duO duB;rw[h];rfl
 . unfold duL;rw[h];exact hg
theorem DuA.some{l:List Lk}{ms:List Bool}{n k:Nat}{L:List Int}{i:Int}{w':World}{o:List Int}{on:Int}(h:duF l ms n k L i=Option.some (o,on)){a:Option Addr}{c:Nat}(hg:Gr El.int (fun _=>True) w' a c o):DuA l ms n k L i w' (.returned (.tuple #[.slice a o.length c,.int .i64 on,.bool true])):=by
 refine⟨a,c,?_,?_⟩
 . unfold duL duO duB;rw[h];rfl
 . unfold duL;rw[h];exact hg
theorem do_of(l:List Lk)(ms:List Bool)(g:Int)(hf:foU l g=true)(n:Nat)(hn7:n<=7)(IH:∀n',n=n'+1->DoC l ms n'):DoC l ms n:=by
 intro Sl Sm S la lc mb mc k a ca L i w hl hms hL hk hp hi hle
 have kl:=hL.lenB
 have kll:=hl.lenB
 have hpi:=zal.1 hi
 obtain⟨j,rfl⟩:∃j:Nat,i=(j:Int):=⟨i.toNat,by omega⟩
 have hj:j<L.length:=by omega
 have hLR:=hL.ri
 obtain⟨ab,ao,rfl,hab,-⟩:=hLR.at (Below.refl _ _) j hj
 have HLC:Hid (∀W,Below w.heap.size w W->W.cell? ⟨ab,ao+j,none⟩=some (.int .i64 (L.getD j 0))):=fun W hW=>by
  obtain⟨b1,o1,e1,_,d1⟩:=hLR.at hW j hj
  cases e1
  exact d1
 have hLz:I64 (L.getD j 0):=hLR.i64 hj
 obtain⟨lb,lo,ra,rc,rfl,hkd,hall⟩:=hl.lkAll k hk
 have HFR:Hid (∀r∈(l.getD k Lk.none).rs,RuF l (l.getD k Lk.none).kd r g):=fun r hr=>zlc hf hk hp hr
 have HD:Hid (duF l ms n k L (j:Int)=if (l.getD k Lk.none).sk&&mkB ms (L.getD j 0)then Option.none else rsF (inF l ms n L) (l.getD k Lk.none).kd (l.getD k Lk.none).sk ms L (j:Int) (l.getD k Lk.none).rs):=by
  show _=_
  rw[zl7,Int.toNat_natCast]
 obtain⟨x,hx⟩:∃x,l.getD k Lk.none=x:=⟨_,rfl⟩
 rw[hx]at hkd hall HFR HD hp;clear hx;obtain⟨kd,sk,rs⟩:=x;dsimp only at hkd hall HFR HD hp
 obtain⟨z,hz⟩:∃z,L.getD j 0=z:=⟨_,rfl⟩
 rw[hz]at HLC hLz HD;clear hz
 have hk4:=zha.1 hp
 obtain⟨uu,hu⟩:∃uu:Int,8-(n:Int)=uu:=⟨_,rfl⟩
 have HU:Hid (8-(n:Int)=uu):=hu
 rw[hu];clear hu
 have zcp:Hid (∀u,Below w.heap.size w u->Gr RuE Sl u ra rc rs/\u.cell? ⟨lb,lo+k*3,none⟩=some (.int .i64 kd)/\u.cell? ⟨lb,lo+k*3+1,none⟩=some (.bool sk)/\u.cell? ⟨lb,lo+k*3+2,none⟩=some (.slice ra rs.length rc)):=hall
 have HL:Hid (Gr El.int S w (some ⟨ab,ao,none⟩) ca L):=hL
 have HLK:Hid (Gr LkE Sl w (some ⟨lb,lo,none⟩) lc l):=hl
 have HMS:Hid (Gr El.bool Sm w mb mc ms):=hms
 have hIJ:I64 (j:Int):=⟨by omega,by omega⟩
 obtain⟨W,hW,XW,hbW⟩:∃W,W=w.alloc (.cells #[.slice (some ⟨lb,lo,none⟩) l.length lc,.slice mb ms.length mc] 152)/\Bk 152 W w.heap.size [.slice (some ⟨lb,lo,none⟩) l.length lc,.slice mb ms.length mc]/\Below w.heap.size w W:=⟨_,rfl,Bk.new _ _ _,bl1 _⟩
 obtain⟨U,hU,XU,hbU⟩:∃U,U=W.alloc (.cells #[.int .i64 kd,.bool sk,.slice ra rs.length rc] 123)/\Bk 123 U W.heap.size [.int .i64 kd,.bool sk,.slice ra rs.length rc]/\Below W.heap.size W U:=⟨_,rfl,Bk.new _ _ _,bl1 _⟩
 have hwU:=hbW.trans (hbU.mono hbW.size)
 have hWs:W.heap.size=w.heap.size+1:=by rw[hW];simp
 have XWU:=XW.below hbU
 rw[hWs]at XU
 obtain⟨-,d0,d1,d2⟩:=hall W hbW
 obtain⟨x0,x1,-⟩:=XW.two
 have i1:(0:Int)<=(k:Int):=by omega
 have i2:(k:Int)<(l.length:Int):=by omega
 have i3:(0:Int)<=(j:Int):=by omega
 have i4:(j:Int)<(L.length:Int):=by omega
 have hkr:=(hall W hbW).1.lenB
 go_enter Tryz.func92,Tryz.ntmps92
 go_upto_region 1 with fail
 rw[<-hW];clear hW
 go_upto_region 2 with fail
 clear d0 d1 d2 x0 x1;rw[<-hU]
 have HXU:Hid (Bk 123 U (w.heap.size+1) [.int .i64 kd,.bool sk,.slice ra rs.length rc]):=XU
 have HWW:Hid (Bk 152 U w.heap.size [.slice (some ⟨lb,lo,none⟩) l.length lc,.slice mb ms.length mc]):=XWU
 have HWU:Hid (Below w.heap.size w U):=hwU
 have hmk:=fun Z (hZ:Below U.heap.size U Z)=>zcy Sm mb mc ms z Z (HMS.out.below (HWU.out.trans (hZ.mono HWU.out.size))) hLz
 clear hU hl hms hL hLR hall XWU XW XU hbU hbW hwU hWs
 go_cut [35]from 25 to 35 (fun v wx=>v=.bool (sk&&mkB ms z)/\Below U.heap.size U wx)
 case first =>
  obtain⟨y0,y1,-⟩:=HWW.out.two;obtain⟨-,z1,-⟩:=HXU.out.three
  have c0:=HLC.out U HWU.out
  have lt0:w.heap.size<U.heap.size:=HWW.out.lt
  have lt1:w.heap.size+1<U.heap.size:=HXU.out.lt
  have lt2:ab<U.heap.size:=Nat.lt_of_lt_of_le hab HWU.out.size
  refine wp_region_held_drew (S:=fun u=>u.cell? ⟨w.heap.size+1,1,none⟩=some (.bool sk)/\u.cell? ⟨w.heap.size,1,none⟩=some (.slice mb ms.length mc)/\u.cell? ⟨ab,ao+j,none⟩=some (.int .i64 z)) (by kernel_rfl) ⟨z1,y1,c0⟩ (fun hH=>?_)
  have hdr:Below U.heap.size U U.drew:=(Below.refl _ _).drew
  generalize U.drew=Z at hdr hH ⊢
  refine hT 0 hH ?_;refine hT 1 hH ?_;refine hT 2 hH ?_
  cases sk with
  | false =>
   refine hN 3 hH ?_;refine hN 4 hH ?_;refine hN 5 hH ?_;refine hN 6 hH ?_;refine hN 7 hH ?_;refine hN 8 hH ?_;refine hN 9 hH ?_;refine hT 10 hH ?_
   refine wpAnyH_done (by kernel_rfl) ?_ _
   clear hmk y0 y1 z1 c0 hH;go_wp2
   go_meet
   exact⟨rfl,hdr⟩
  | true =>
   have hm:=hmk Z hdr
   obtain⟨q,hq⟩:∃q,mkB ms z=q:=⟨_,rfl⟩
   rw[hq]at hm
   have HQ:Hid (mkB ms z=q):=hq
   clear hq;refine hT 3 hH ?_;refine hT 4 hH ?_;refine hT 5 hH ?_;refine hT 6 hH ?_;refine hT 7 hH ?_;refine hT 8 hH ?_
   refine hCall (i:=9) rfl (by kernel_rfl) (by rfl) (fun K hK=>?_)
   go_simp
   refine hm.mono ?_
   rintro e u ⟨rfl,hbu⟩
   have hUu:=hdr.trans (hbu.mono hdr.size)
   clear hm hmk
   go_wp2_with fail
   refine hK.out _ _ ⟨(hUu.cell (p:=⟨w.heap.size+1,1,none⟩) lt1).trans z1,(hUu.cell (p:=⟨w.heap.size,1,none⟩) lt0).trans y1,(hUu.cell (p:=⟨ab,ao+j,none⟩) lt2).trans c0⟩ (fun hH=>?_)
   clear hK K
   try simp only[Act.put,pZ]
   refine hT 10 hH ?_
   refine wpAnyH_done (by kernel_rfl) ?_ _
   clear y0 y1 z1 c0 hH;go_wp2
   go_meet
   exact⟨by rw[HQ.out,Bool.true_and],hUu⟩
 case rest =>
  obtain⟨rfl,hBc⟩:=hcut
  have hwc:=HWU.out.trans (hBc.mono HWU.out.size)
  obtain⟨z0,z1,z2,-⟩:=(HXU.out.below hBc).three
  clear hmk
  obtain⟨bq,hq⟩:∃bq,(sk&&mkB ms z)=bq:=⟨_,rfl⟩
  rw[hq]at HD ⊢;clear hq
  cases bq with
  | true =>
   have HF:Hid (duF l ms n k L (j:Int)=Option.none):=by show _=_;rw[HD.out];rfl
   have hcl:=zbj S (some ⟨ab,ao,none⟩) ca L wc (HL.out.below hwc) (by omega)
   go_wp2_with fail
   refine hcl.mono ?_
   rintro e u ⟨⟨v,rfl,hv⟩,hbu⟩
   obtain⟨va,vc,rfl,hvg⟩:=hv.io.grL (S:=fun _=>True)
   have HV:Hid (DuA l ms n k L (j:Int) u (.returned (.tuple #[.slice va L.length vc,.int .i64 (j:Int),.bool false]))):=DuA.none HF.out hvg
   have zaf:=hwc.trans (hbu.mono hwc.size)
   clear hcl hv hvg hbu z0 z1 z2 HD;go_wp2
   go_ret3
   exact⟨HV.out,zaf⟩
  | false =>
  have HD2:Hid (duF l ms n k L (j:Int)=rsF (inF l ms n L) kd sk ms L (j:Int) (rs.drop 0)):=by show _=_;rw[HD.out];rfl
  clear HD;go_wp2;clear z0 z1 z2
  go_loopw [42] (fun i wr=>∃r:Nat,r<=rs.length/\i=.int .i64 r/\Hid (duF l ms n k L (j:Int)=rsF (inF l ms n L) kd sk ms L (j:Int) (rs.drop r))/\Below U.heap.size U wr) (fun i _=>rs.length-(intOf i).toNat)
  case atStart=>exact⟨0,Nat.zero_le _,rfl,HD2,hBc⟩
  case round =>
   clear HD2 hBc hwc;obtain⟨r,hr,rfl,HDR,hB⟩:=hrel
   have hwr:=HWU.out.trans (hB.mono HWU.out.size)
   by_cases hrn:r<rs.length
   . obtain⟨hrs,-,-,-⟩:=zcp.out wr hwr
     obtain⟨rb,ro,a1,c1,a2,c2,er,hrb,hI,hin,hou,k0,k1,k2,k3,k4,k5,k6,k7,k8,k9⟩:=hrs.ru10 (Below.refl _ _) r hrn
     have HFX:Hid (RuF l kd (rs.getD r Ru.none) g):=HFR.out _ (by rw[List.getD_eq_getElem?_getD,List.getElem?_eq_getElem hrn];exact List.getElem_mem hrn)
     have HSK:Hid (meQ ms L sk (j:Int) (rs.getD r Ru.none).inn=Option.none->duF l ms n k L (j:Int)=rsF (inF l ms n L) kd sk ms L (j:Int) (rs.drop (r+1))):=fun h=>by rw[HDR.out,zle hrn h]
     have HMT:Hid (∀m,meQ ms L sk (j:Int) (rs.getD r Ru.none).inn=Option.some m->duF l ms n k L (j:Int)=Option.some (apF (inF l ms n L) kd L (j:Int) (rs.getD r Ru.none) m)):=fun m h=>by rw[HDR.out,zou hrn h]
     obtain⟨x,hx⟩:∃x,rs.getD r Ru.none=x:=⟨_,rfl⟩
     rw[hx]at hI hin hou k0 k1 k2 k3 k4 k5 k6 k7 k8 k9 HFX HSK HMT;clear hx;obtain⟨inn,out,ap,lk,⟨x1,x2⟩,⟨y1,y2⟩,⟨w1,w2⟩⟩:=x;dsimp only at k0 k1 k2 k3 k4 k5 k6 k7 k8 k9 hin hou HSK HMT;obtain⟨f1,f2,⟨f3,f4⟩,⟨f5,f6⟩,f7,f8⟩:=hI;dsimp only at f1 f2 f3 f4 f5 f6 f7 f8;subst er
     have i5:(0:Int)<=(r:Int):=by omega
     have i6:(r:Int)<(rs.length:Int):=by omega
     have hil:inn.length<=8:=HFX.out.il.2
     have hol:out.length<=8:=HFX.out.ol
     obtain⟨V,hV,XV,hbV⟩:∃V,V=wr.alloc (.cells #[.slice a1 inn.length c1,.slice a2 out.length c2,.int .i64 ap,.int .i64 lk,.int .i64 x1,.int .i64 x2,.int .i64 y1,.int .i64 y2,.int .i64 w1,.int .i64 w2] 131)/\Bk 131 V wr.heap.size (ruV a1 c1 a2 c2 ⟨inn,out,ap,lk,(x1,x2),(y1,y2),(w1,w2)⟩)/\Below wr.heap.size wr V:=⟨_,rfl,Bk.new _ _ (ruV a1 c1 a2 c2 ⟨inn,out,ap,lk,(x1,x2),(y1,y2),(w1,w2)⟩),bl1 _⟩
     have hUV:=hB.trans (hbV.mono hB.size)
     have hwV:=hwr.trans (hbV.mono hwr.size)
     have zwm:=hin.below hbV
     have zwj:=hou.below hbV
     go_upto_region 7 with fail
     rw[<-hV];clear hV k0 k1 k2 k3 k4 k5 k6 k7 k8 k9 hin hou hrs hbV
     obtain⟨-,y1',-⟩:=(HWW.out.below hUV).two
     obtain⟨-,z1,-⟩:=(HXU.out.below hUV).three
     obtain⟨q0,-⟩:=XV.ru;dsimp only at q0
     have hme:=zi8 Sm (some ⟨ab,ao,none⟩) ca L mb mc ms (j:Int) a1 c1 inn sk V (HL.out.below hwV).ri (HMS.out.below hwV) hIJ zwm.ri (by omega)
     go_wp2_with fail
     refine hme.mono ?_
     rintro e u3 ⟨⟨v,rfl,hv⟩,hb3⟩
     have hU3:=hUV.trans (hb3.mono hUV.size)
     have hw3:=hwV.trans (hb3.mono hwV.size)
     obtain⟨pa,pc,rfl,hpr⟩:=hv.slice;clear hme hv y1' z1 q0
     cases hq:meQ ms L sk (j:Int) inn with
     | none =>
      have HB0:meB ms L sk (j:Int) inn=false:=by unfold meB;rw[hq];rfl
      have HDN:Hid (duF l ms n k L (j:Int)=rsF (inF l ms n L) kd sk ms L (j:Int) (rs.drop (r+1))):=HSK.out hq
      rw[HB0];clear hq HB0 HSK HMT HDR hpr hb3 zwm zwj XV;go_wp2
      go_roundw
      case rel=>exact⟨r+1,by omega,by go_num,HDN,hU3⟩
      case measure=>simp[intOf];omega
     | some m =>
     have HB0:meB ms L sk (j:Int) inn=true:=by unfold meB;rw[hq];rfl
     have HL0:meL ms L sk (j:Int) inn=m:=by unfold meL;rw[hq];rfl
     have HDM:Hid (duF l ms n k L (j:Int)=Option.some (apF (inF l ms n L) kd L (j:Int) ⟨inn,out,ap,lk,(x1,x2),(y1,y2),(w1,w2)⟩ m)):=HMT.out m hq
     have hM:=me_r hq
     rw[HB0,HL0];rw[HL0]at hpr
     have HML:Hid (m.length=inn.length):=hM.len
     obtain⟨z0,z1,z2,-⟩:=(HXU.out.below hU3).three
     have hX3:=XV.below hb3
     have hO3:=zwj.below hb3
     clear hq HB0 HL0 HSK HMT HDR hb3 zwm zwj XV
     by_cases h3:kd=3
     . subst h3
       obtain⟨e1,e2⟩:=HFX.out.lig rfl
       dsimp only at e1 e2
       obtain⟨b9,o9,rfl,hb9,c9⟩:=hO3.ri.at (Below.refl _ _) 0 (by omega)
       have hgo:I64 (out.getD 0 0):=hO3.ri.i64 (by omega)
       have zf3:Hid (out=[out.getD 0 0]):=by
        cases out with
        | nil=>simp at e2
        | cons y t =>
         cases t with
         | nil=>rfl
         | cons y2 t=>simp at e2
       have i7:0<out.length:=by omega
       have i8:(0:Int)<(out.length:Int):=by omega
       rw[Nat.add_zero]at c9
       obtain⟨go,hgo2⟩:∃go,out.getD 0 0=go:=⟨_,rfl⟩
       rw[hgo2]at c9 hgo zf3
       have hjo:=zs7 S (some ⟨ab,ao,none⟩) ca L pa pc m ms sk (j:Int) inn go u3 (HL.out.below hw3) hpr hM (by have:=HML.out;omega) hgo (by omega)
       have HDZ:Hid (duF l ms n k L (j:Int)=Option.some (puL (taF L m.tail) (j:Int) ((j:Int)+1) [go],(j:Int)+1)):=by
        show _=_
        rw[HDM.out]
        unfold apF
        rw[if_neg (by decide),if_pos rfl,zf3.out]
       obtain⟨-,q1,-⟩:=hX3.ru;dsimp only at q1
       obtain⟨o,ho⟩:∃o,puL (taF L m.tail) (j:Int) ((j:Int)+1) [go]=o:=⟨_,rfl⟩
       rw[ho]at hjo HDZ;clear HDM zf3 hgo2 ho hM e1 e2 HML hpr hO3 hX3
       go_wp2_with fail
       refine hjo.mono ?_
       rintro e u4 ⟨⟨oa,oc,rfl,hgr⟩,hb4⟩
       have HV:Hid (DuA l ms n k L (j:Int) u4 (.returned (.tuple #[.slice oa o.length oc,.int .i64 ((j:Int)+1),.bool true]))):=DuA.some HDZ.out hgr
       have zaf:=hw3.trans (hb4.mono hw3.size)
       clear hjo hgr hb4 z0 z1 z2 q1 c9;go_wp2
       go_ret3
       exact⟨HV.out,zaf⟩
     have g3:(kd==3)=false:=beq_eq_false_iff_ne.2 h3
     by_cases h4:kd=4
     . subst h4
       obtain⟨e0,e1,e2,e3,e4,e5⟩:=HFX.out.cx rfl
       dsimp only at e0 e1 e2 e3 e4 e5
       have hwi:=zja l ms g hf n hn7 IH Sl Sm S (some ⟨lb,lo,none⟩) lc mb mc a1 c1 a2 c2 inn out ap lk x1 x2 y1 y2 w1 w2 (some ⟨ab,ao,none⟩) ca L pa pc m sk (j:Int) inn u3 (HLK.out.below hw3) (HMS.out.below hw3) (HL.out.below hw3) hpr hM hle e1 (by have:=HML.out;omega) e3 e4 e5
       rw[HU.out]at hwi
       have HDZ:Hid (duF l ms n k L (j:Int)=Option.some (inF l ms n L lk (m.getD ap.toNat 0),max (m.getD (m.length-1) 0+1+((inF l ms n L lk (m.getD ap.toNat 0)).length:Int)-(L.length:Int)) (j:Int))):=by
        show _=_
        rw[HDM.out]
        unfold apF
        rw[if_pos rfl]
       obtain⟨y0',y1',-⟩:=(HWW.out.below hU3).two
       obtain⟨q0,q1,q2,q3,q4,q5,q6,q7,q8,q9⟩:=hX3.ru;dsimp only at q0 q1 q2 q3 q4 q5 q6 q7 q8 q9
       generalize max (m.getD (m.length-1) 0+1+((inF l ms n L lk (m.getD ap.toNat 0)).length:Int)-(L.length:Int)) (j:Int)=on at hwi HDZ
       generalize inF l ms n L lk (m.getD ap.toNat 0)=o at hwi HDZ
       clear HDM hM e0 e1 e2 e3 e4 e5 HML hpr hO3 hX3 g3 h3
       go_wp2_with fail
       refine hwi.mono ?_
       rintro e u4 ⟨⟨oa,oc,rfl,hgr⟩,hb4⟩
       have HV:Hid (DuA l ms n k L (j:Int) u4 (.returned (.tuple #[.slice oa o.length oc,.int .i64 on,.bool true]))):=DuA.some HDZ.out hgr
       have zaf:=hw3.trans (hb4.mono hw3.size)
       clear hwi hgr hb4 z0 z1 z2 y0' y1' q0 q1 q2 q3 q4 q5 q6 q7 q8 q9;go_wp2
       go_ret3
       exact⟨HV.out,zaf⟩
     have g4:(kd==4)=false:=beq_eq_false_iff_ne.2 h4
     have HDZ:Hid (duF l ms n k L (j:Int)=Option.some (puL L (j:Int) ((j:Int)+1) out,(j:Int)+(out.length:Int))):=by
      show _=_
      rw[HDM.out]
      unfold apF
      rw[if_neg h4,if_neg h3]
     obtain⟨-,q1,-⟩:=hX3.ru;dsimp only at q1
     have lt3:wr.heap.size<u3.heap.size:=hX3.lt
     have hpu:=fun Z (hZ:Below u3.heap.size u3 Z)=>zl8 S Sl (some ⟨ab,ao,none⟩) ca L (j:Int) ((j:Int)+1) a2 c2 out Z (HL.out.below (hw3.trans (hZ.mono hw3.size))) (hO3.below hZ) hIJ ⟨by omega,by omega⟩ (by omega) (by omega)
     have v1:IntKind.i64.wrap ((j:Int)+1)=(j:Int)+1:=zbl (by omega) (by omega)
     have v2:IntKind.i64.wrap ((j:Int)+(out.length:Int))=(j:Int)+(out.length:Int):=zbl (by omega) (by omega)
     clear HDM hM HML hpr hO3 hX3 h3 h4
     obtain⟨o,ho⟩:∃o,puL L (j:Int) ((j:Int)+1) out=o:=⟨_,rfl⟩
     rw[ho]at HDZ
     have HO:Hid (puL L (j:Int) ((j:Int)+1) out=o):=ho
     clear ho;go_wp2
     refine wp_region_held_drew (S:=fun u=>u.cell? ⟨wr.heap.size,1,none⟩=some (.slice a2 out.length c2)) (by kernel_rfl) q1 (fun hH=>?_)
     have hdr:Below u3.heap.size u3 u3.drew:=(Below.refl _ _).drew
     generalize u3.drew=Z at hdr hH ⊢
     refine hT 0 hH ?_;refine hT 1 hH ?_;refine hT 2 hH ?_;refine hT 3 hH ?_;refine hT 4 hH ?_;refine hT 5 hH ?_;refine hT 7 hH ?_;refine hT 8 hH ?_;refine hT 9 hH ?_;refine hT 10 hH ?_;refine hT 11 hH ?_
     refine hCall (i:=6) rfl (by kernel_rfl) (by rfl) (fun K hK=>?_)
     go_simp
     refine(hpu Z hdr).mono ?_
     rintro e u4 ⟨⟨v4,rfl,hv4⟩,hb4⟩;rw[HO.out]at hv4
     obtain⟨oa,oc,rfl,hgr⟩:=hv4.io.grL (S:=fun _=>True)
     have HV:Hid (DuA l ms n k L (j:Int) u4 (.returned (.tuple #[.slice oa o.length oc,.int .i64 ((j:Int)+(out.length:Int)),.bool true]))):=DuA.some HDZ.out hgr
     have h34:=hdr.trans (hb4.mono hdr.size)
     have zaf:=hw3.trans (h34.mono hw3.size)
     have q1':=(h34.cell (p:=⟨wr.heap.size,1,none⟩) lt3).trans q1
     clear hpu hgr hb4 hv4
     go_wp2_with fail
     refine hK.out _ _ q1' (fun hH=>?_)
     clear hK K
     try simp only[Act.put,pZ]
     refine hT 12 hH ?_;refine hT 13 hH ?_;refine hT 14 hH ?_
     refine wpAnyH_done (by kernel_rfl) ?_ _
     clear z0 z1 z2 q1 q1' hH hdr h34;go_wp2
     go_ret3
     exact⟨HV.out,zaf⟩
   . have HF:Hid (duF l ms n k L (j:Int)=Option.none):=by
       show _=_
       rw[HDR.out,show r=rs.length by omega]
       exact zov
     have hcl:=zbj S (some ⟨ab,ao,none⟩) ca L wr (HL.out.below hwr) (by omega)
     have g4:¬(r:Int)<(rs.length:Int):=by omega
     clear HDR
     go_wp2_with fail
     refine hcl.mono ?_
     rintro e u ⟨⟨v,rfl,hv⟩,hbu⟩
     obtain⟨va,vc,rfl,hvg⟩:=hv.io.grL (S:=fun _=>True)
     have HV:Hid (DuA l ms n k L (j:Int) u (.returned (.tuple #[.slice va L.length vc,.int .i64 (j:Int),.bool false]))):=DuA.none HF.out hvg
     have zaf:=hwr.trans (hbu.mono hwr.size)
     clear hcl hv hvg hbu;go_wp2
     go_ret3
     exact⟨HV.out,zaf⟩
theorem zzi(l:List Lk)(ms:List Bool)(g:Int)(hf:foU l g=true):∀n,n<=7->DoC l ms n:=by
 intro n
 induction n with
 | zero=>intro h;exact do_of l ms g hf 0 h (fun n' e=>by omega)
 | succ n ih=>intro h;exact do_of l ms g hf (n+1) h (fun n' e=>by obtain rfl:n=n':=(by omega);exact ih (by omega))
theorem zgq(S:Nat->Prop)(a:Option Addr)(ca:Nat)(l:List Lk)(g:Int)(w:World)(hl:Gr LkE S w a ca l)(hg:I64 g)(hT:Spn w) :
 Calls Tryz.prog 39 #[.slice a l.length ca,.int .i64 g] w fun e w'=>e=.returned (.bool (foU l g))/\Below w.heap.size w w':=by
 have kl:=hl.lenB
 by_cases hn1:10<l.length
 . have HF:Hid (foU l g=false):=zl4 hn1
   have g2:(10:Int)<(l.length:Int):=by omega
   clear hn1 hl hT
   go_enter Tryz.func39,Tryz.ntmps39
   go_wp2
   go_ret
   exact⟨zaa HF.out.symm,Below.refl _ _⟩
 have g2:¬(10:Int)<(l.length:Int):=by omega
 have HL:Hid (Gr LkE S w a ca l):=hl
 have HT:Hid (Spn w):=hT
 obtain⟨R,hR⟩:∃R,foU l g=R:=⟨_,rfl⟩
 have HBD:Hid (∀k,k<l.length->loB l g (l.getD k Lk.none)=false->R=false):=fun k hk h=>by rw[<-hR];exact zqs hk h
 have HYS:Hid ((∀k,k<l.length->loB l g (l.getD k Lk.none)=true)->R=true):=fun h=>by rw[<-hR];exact zhp.2 ⟨by omega,h⟩
 rw[hR];clear hR hn1 hl hT
 go_enter Tryz.func39,Tryz.ntmps39
 go_wp2;clear g2
 go_loopw [12] (fun i wr=>∃k:Nat,k<=l.length/\i=.int .i64 k/\Hid (∀j,j<k->loB l g (l.getD j Lk.none)=true)/\Below w.heap.size w wr) (fun i _=>l.length-(intOf i).toNat)
 case atStart=>exact⟨0,Nat.zero_le _,rfl,(fun j hj=>by omega),Below.refl _ _⟩
 case round =>
  obtain⟨k,hk,rfl,HOK,hB⟩:=hrel
  by_cases hkn:k<l.length
  . obtain⟨b,off,ra,rc,ea,hb1,hkd,hrs,d0,d1,d2⟩:=HL.out.lk hB k hkn
    have zav:Hid (loB l g (l.getD k Lk.none)=false->R=false):=HBD.out k hkn
    have za9:Hid (loB l g (l.getD k Lk.none)=true->∀j,j<k+1->loB l g (l.getD j Lk.none)=true):=fun h j hj=>by
     rcases Nat.lt_or_ge j k with h1|h1
     . exact HOK.out j h1
     . rw[show j=k by omega];exact h
    obtain⟨x,hx⟩:∃x,l.getD k Lk.none=x:=⟨_,rfl⟩
    rw[hx]at hkd hrs d0 d1 d2 zav za9;clear hx;obtain⟨kd,sk,rs⟩:=x;dsimp only at hkd hrs d0 d1 d2
    have i1:(0:Int)<=(k:Int):=by omega
    have i2:(k:Int)<(l.length:Int):=by omega
    subst ea
    obtain⟨U,hU,XG,hbU⟩:∃U,U=wr.alloc (.cells #[.int .i64 kd,.bool sk,.slice ra rs.length rc] 123)/\Bk 123 U wr.heap.size [.int .i64 kd,.bool sk,.slice ra rs.length rc]/\Below wr.heap.size wr U:=⟨_,rfl,Bk.new _ _ _,bl1 _⟩
    have hBU:=hB.trans (hbU.mono hB.size)
    have hpu:=zg9 kd U hkd
    obtain⟨x0,x1,x2,-⟩:=XG.three
    go_upto_region 6 with fail
    rw[<-hU];clear hU XG d0 d1 d2 HOK
    cases hp:puB kd with
    | false =>
     rw[hp]at hpu
     have ze7:Hid (∀j,j<k+1->loB l g (l.getD j Lk.none)=true):=za9.out (ziz (x:=⟨kd,sk,rs⟩) hp)
     clear hp zav za9 hrs
     go_wp2_with fail
     refine hpu.mono ?_
     rintro e u ⟨rfl,rfl⟩;clear hpu x0 x1 x2 hB;go_wp2
     go_roundw
     case rel=>exact⟨k+1,by omega,by go_num,ze7,hBU⟩
     case measure=>simp[intOf];omega
    | true =>
     rw[hp]at hpu
     have hlo:loB l g ⟨kd,sk,rs⟩=lkB l g ⟨kd,sk,rs⟩:=zuf (x:=⟨kd,sk,rs⟩) hp
     have h4:=zha.1 hp
     obtain⟨n,rfl⟩:∃n:Nat,kd=(n:Int):=⟨kd.toNat,by omega⟩
     have hlf:=zpu S (some ⟨b,off,none⟩) ca l n sk ra rc rs g U (HL.out.below hBU) (by omega) (by omega) (hrs.below hbU) hg (HT.out.below hBU)
     rw[hlo]at zav za9
     generalize lkB l g ⟨(n:Int),sk,rs⟩=A at hlf zav za9
     clear hp hlo h4 hrs
     go_wp2_with fail
     refine hpu.mono ?_
     rintro e u ⟨rfl,rfl⟩;clear hpu
     go_wp2_with fail
     refine hlf.mono ?_
     rintro e u ⟨rfl,hbu⟩
     have zaf:=hBU.trans (hbu.mono hBU.size)
     clear hlf hbu x0 x1 x2 hB hBU
     cases A with
     | false =>
      have HF:Hid (R=false):=zav.out rfl
      clear zav za9;go_wp2
      go_ret
      exact⟨zaa HF.out.symm,zaf⟩
     | true =>
      have ze7:Hid (∀j,j<k+1->loB l g (l.getD j Lk.none)=true):=za9.out rfl
      clear zav za9;go_wp2
      go_roundw
      case rel=>exact⟨k+1,by omega,by go_num,ze7,zaf⟩
      case measure=>simp[intOf];omega
  . have HF:Hid (R=true):=HYS.out (fun j hj=>HOK.out j (by omega))
    have g4:¬(k:Int)<(l.length:Int):=by omega
    clear HOK;go_wp2
    go_ret
    exact⟨zaa HF.out.symm,hB⟩
