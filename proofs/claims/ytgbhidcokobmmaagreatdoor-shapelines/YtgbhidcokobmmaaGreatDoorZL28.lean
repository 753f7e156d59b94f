import Derived.Test.YtgbhidcokobmmaaGreatDoorZL27
set_option maxHeartbeats 8000000
set_option maxRecDepth 100000
set_option linter.unusedSimpArgs false
set_option linter.unusedVariables false
namespace Go.Proofs.YtgbhidcokobmmaaGreatDoor
open Go.RowKit Go.Maps
def DoS(l:List Lk)(ms:List Bool)(n:Nat):Prop:=∀(Sl Sm S:Nat->Prop) (la:Option Addr) (lc:Nat) (mb:Option Addr) (mc:Nat) (k:Nat) (a:Option Addr) (ca:Nat) (L:List Int) (i:Int) (w:World),
 Gr LkE Sl w la lc l->Gr El.bool Sm w mb mc ms->Gr El.int S w a ca L->k<l.length->puB (l.getD k Lk.none).kd=true->plB L i=true->L.length<=200 ->
 Calls Tryz.prog 93 #[.slice la l.length lc,.int .i64 k,.slice mb ms.length mc,.slice a L.length ca,.int .i64 i,.int .i64 (8-(n:Int))] w fun e w'=>DuA l ms n k L i w' e/\Below w.heap.size w w'
theorem zxt(L t:List Int):(taF L t).length<=L.length:=by rw[<-zqt];exact zuw _ _
theorem zq3(l:List Lk)(ms:List Bool)(g:Int)(hf:foU l g=true)(n:Nat)(hn7:n<=7)(IH:∀n',n=n'+1->DoS l ms n'):DoS l ms n:=by
 intro Sl Sm S la lc mb mc k a ca L i w hl hms hL hk hp hi hle
 have kl:=hL.lenB
 have kll:=hl.lenB
 have hpi:=zal.1 hi
 obtain⟨j,rfl⟩:∃j:Nat,i=(j:Int):=⟨i.toNat,by omega⟩
 have hj:j<L.length:=by omega
 have hLR:=hL.ri
 obtain⟨ab,ao,rfl,hab,-⟩:=hLR.at (Below.refl _ _) j hj
 have HLC:Hid (∀W,Below w.heap.size w W->W.cell? ⟨ab,ao+j,none⟩=some (.int .i64 (L.getD j 0))):=fun W hW=>by
  obtain⟨b1,o1,e1,_,d1⟩:=hLR.at hW j hj
  cases e1
  exact d1
 have hLz:I64 (L.getD j 0):=hLR.i64 hj
 obtain⟨lb,lo,ra,rc,rfl,hkd,hall⟩:=hl.lkAll k hk
 have HFR:Hid (∀r∈(l.getD k Lk.none).rs,RuF l (l.getD k Lk.none).kd r g):=fun r hr=>zlc hf hk hp hr
 have HD:Hid (duF l ms n k L (j:Int)=if (l.getD k Lk.none).sk&&mkB ms (L.getD j 0)then Option.none else rsF (inF l ms n L) (l.getD k Lk.none).kd (l.getD k Lk.none).sk ms L (j:Int) (l.getD k Lk.none).rs):=by
  show _=_
  rw[zl7,Int.toNat_natCast]
 obtain⟨x,hx⟩:∃x,l.getD k Lk.none=x:=⟨_,rfl⟩
 rw[hx]at hkd hall HFR HD hp;clear hx;obtain⟨kd,sk,rs⟩:=x;dsimp only at hkd hall HFR HD hp
 obtain⟨z,hz⟩:∃z,L.getD j 0=z:=⟨_,rfl⟩
 rw[hz]at HLC hLz HD;clear hz
 obtain⟨uu,hu⟩:∃uu:Int,8-(n:Int)=uu:=⟨_,rfl⟩
 have HU:Hid (8-(n:Int)=uu):=hu
 rw[hu];clear hu
 have zcp:Hid (∀u,Below w.heap.size w u->Gr RuE Sl u ra rc rs/\u.cell? ⟨lb,lo+k*3,none⟩=some (.int .i64 kd)/\u.cell? ⟨lb,lo+k*3+1,none⟩=some (.bool sk)/\u.cell? ⟨lb,lo+k*3+2,none⟩=some (.slice ra rs.length rc)):=hall
 have HL:Hid (Gr El.int S w (some ⟨ab,ao,none⟩) ca L):=hL
 have HLK:Hid (Gr LkE Sl w (some ⟨lb,lo,none⟩) lc l):=hl
 have HMS:Hid (Gr El.bool Sm w mb mc ms):=hms
 have hIJ:I64 (j:Int):=⟨by omega,by omega⟩
 obtain⟨U,hU,XU,hwU⟩:∃U,U=w.alloc (.cells #[.int .i64 kd,.bool sk,.slice ra rs.length rc] 123)/\Bk 123 U w.heap.size [.int .i64 kd,.bool sk,.slice ra rs.length rc]/\Below w.heap.size w U:=⟨_,rfl,Bk.new _ _ _,bl1 _⟩
 obtain⟨-,d0,d1,d2⟩:=hall w (Below.refl _ _)
 have i1:(0:Int)<=(k:Int):=by omega
 have i2:(k:Int)<(l.length:Int):=by omega
 have i3:(0:Int)<=(j:Int):=by omega
 have i4:(j:Int)<(L.length:Int):=by omega
 have hkr:=(hall w (Below.refl _ _)).1.lenB
 have HXU:Hid (Bk 123 U w.heap.size [.int .i64 kd,.bool sk,.slice ra rs.length rc]):=XU
 have HWU:Hid (Below w.heap.size w U):=hwU
 have hmk:=zcs Sm mb mc ms z U (hms.below hwU) hLz
 have c0:=HLC.out U hwU
 obtain⟨z0,z1,z2,-⟩:=XU.three
 go_enter Tryz.func93,Tryz.ntmps93
 go_upto_region 2 with fail
 rw[<-hU];clear hU hl hms hL hLR hall XU hwU d0 d1 d2
 go_cut [37]from 28 to 37 (fun v wx=>v=.bool (sk&&mkB ms z)/\Below U.heap.size U wx)
 case first =>
  cases sk with
  | false =>
   clear hmk;go_wp2
   go_meet
   exact⟨rfl,Below.refl _ _⟩
  | true =>
   obtain⟨q,hq⟩:∃q,mkB ms z=q:=⟨_,rfl⟩
   rw[hq]at hmk
   have HQ:Hid (mkB ms z=q):=hq
   clear hq
   go_wp2_with fail
   refine hmk.mono ?_
   rintro e u ⟨rfl,hbu⟩;clear hmk c0;go_wp2
   go_meet
   exact⟨by rw[HQ.out,Bool.true_and],hbu⟩
 case rest =>
  obtain⟨rfl,hBc⟩:=hcut;clear hmk c0 z0 z1 z2
  have hwc:=HWU.out.trans (hBc.mono HWU.out.size)
  obtain⟨bq,hq⟩:∃bq,(sk&&mkB ms z)=bq:=⟨_,rfl⟩
  rw[hq]at HD ⊢;clear hq
  cases bq with
  | true =>
   have HF:Hid (duF l ms n k L (j:Int)=Option.none):=by show _=_;rw[HD.out];rfl
   have HV:Hid (DuA l ms n k L (j:Int) wc (.returned (.tuple #[.slice (some ⟨ab,ao,none⟩) L.length ca,.int .i64 (j:Int),.bool false]))):=DuA.none HF.out (HL.out.below hwc).anyI
   clear HD;go_wp2
   go_ret3
   exact⟨HV.out,hwc⟩
  | false =>
  have HD2:Hid (duF l ms n k L (j:Int)=rsF (inF l ms n L) kd sk ms L (j:Int) (rs.drop 0)):=by show _=_;rw[HD.out];rfl
  clear HD;go_wp2
  go_loopw [16] (fun i wr=>∃r:Nat,r<=rs.length/\i=.int .i64 r/\Hid (duF l ms n k L (j:Int)=rsF (inF l ms n L) kd sk ms L (j:Int) (rs.drop r))/\Below U.heap.size U wr) (fun i _=>rs.length-(intOf i).toNat)
  case atStart=>exact⟨0,Nat.zero_le _,rfl,HD2,hBc⟩
  case round =>
   clear HD2 hBc hwc;obtain⟨r,hr,rfl,HDR,hB⟩:=hrel
   have hwr:=HWU.out.trans (hB.mono HWU.out.size)
   obtain⟨t0,t1,t2,-⟩:=(HXU.out.below hB).three
   by_cases hrn:r<rs.length
   . obtain⟨hrs,-,-,-⟩:=zcp.out wr hwr
     obtain⟨rb,ro,a1,c1,a2,c2,er,hrb,hI,hin,hou,k0,k1,k2,k3,k4,k5,k6,k7,k8,k9⟩:=hrs.ru10 (Below.refl _ _) r hrn
     have HFX:Hid (RuF l kd (rs.getD r Ru.none) g):=HFR.out _ (by rw[List.getD_eq_getElem?_getD,List.getElem?_eq_getElem hrn];exact List.getElem_mem hrn)
     have HSK:Hid (meQ ms L sk (j:Int) (rs.getD r Ru.none).inn=Option.none->duF l ms n k L (j:Int)=rsF (inF l ms n L) kd sk ms L (j:Int) (rs.drop (r+1))):=fun h=>by rw[HDR.out,zle hrn h]
     have HMT:Hid (∀m,meQ ms L sk (j:Int) (rs.getD r Ru.none).inn=Option.some m->duF l ms n k L (j:Int)=Option.some (apF (inF l ms n L) kd L (j:Int) (rs.getD r Ru.none) m)):=fun m h=>by rw[HDR.out,zou hrn h]
     obtain⟨x,hx⟩:∃x,rs.getD r Ru.none=x:=⟨_,rfl⟩
     rw[hx]at hI hin hou k0 k1 k2 k3 k4 k5 k6 k7 k8 k9 HFX HSK HMT;clear hx;obtain⟨inn,out,ap,lk,⟨x1,x2⟩,⟨y1,y2⟩,⟨w1,w2⟩⟩:=x;dsimp only at k0 k1 k2 k3 k4 k5 k6 k7 k8 k9 hin hou HSK HMT;obtain⟨f1,f2,⟨f3,f4⟩,⟨f5,f6⟩,f7,f8⟩:=hI;dsimp only at f1 f2 f3 f4 f5 f6 f7 f8;subst er
     have i5:(0:Int)<=(r:Int):=by omega
     have i6:(r:Int)<(rs.length:Int):=by omega
     have hil:inn.length<=8:=HFX.out.il.2
     have hol:out.length<=8:=HFX.out.ol
     obtain⟨V,hV,XV,hbV⟩:∃V,V=wr.alloc (.cells #[.slice a1 inn.length c1,.slice a2 out.length c2,.int .i64 ap,.int .i64 lk,.int .i64 x1,.int .i64 x2,.int .i64 y1,.int .i64 y2,.int .i64 w1,.int .i64 w2] 131)/\Bk 131 V wr.heap.size (ruV a1 c1 a2 c2 ⟨inn,out,ap,lk,(x1,x2),(y1,y2),(w1,w2)⟩)/\Below wr.heap.size wr V:=⟨_,rfl,Bk.new _ _ (ruV a1 c1 a2 c2 ⟨inn,out,ap,lk,(x1,x2),(y1,y2),(w1,w2)⟩),bl1 _⟩
     have hUV:=hB.trans (hbV.mono hB.size)
     have hwV:=hwr.trans (hbV.mono hwr.size)
     have zwm:=hin.below hbV
     have zwj:=hou.below hbV
     go_upto_region 8 with fail
     rw[<-hV];clear hV k0 k1 k2 k3 k4 k5 k6 k7 k8 k9 hin hou hrs hbV t0 t1 t2
     obtain⟨-,z1,-⟩:=(HXU.out.below hUV).three
     obtain⟨q0,-⟩:=XV.ru;dsimp only at q0
     have hme:=zia Sm (some ⟨ab,ao,none⟩) ca L mb mc ms (j:Int) a1 c1 inn sk V (HL.out.below hwV).ri (HMS.out.below hwV) hIJ zwm.ri (by omega)
     go_wp2_with fail
     refine hme.mono ?_
     rintro e u3 ⟨⟨v,rfl,hv⟩,hb3⟩
     have hU3:=hUV.trans (hb3.mono hUV.size)
     have hw3:=hwV.trans (hb3.mono hwV.size)
     obtain⟨pa,pc,rfl,hpr⟩:=hv.slice;clear hme hv z1 q0
     cases hq:meQ ms L sk (j:Int) inn with
     | none =>
      have HB0:meB ms L sk (j:Int) inn=false:=by unfold meB;rw[hq];rfl
      have HDN:Hid (duF l ms n k L (j:Int)=rsF (inF l ms n L) kd sk ms L (j:Int) (rs.drop (r+1))):=HSK.out hq
      rw[HB0];clear hq HB0 HSK HMT HDR hpr hb3 zwm zwj XV;go_wp2
      go_roundw
      case rel=>exact⟨r+1,by omega,by go_num,HDN,hU3⟩
      case measure=>simp[intOf];omega
     | some m =>
     have HB0:meB ms L sk (j:Int) inn=true:=by unfold meB;rw[hq];rfl
     have HL0:meL ms L sk (j:Int) inn=m:=by unfold meL;rw[hq];rfl
     have HDM:Hid (duF l ms n k L (j:Int)=Option.some (apF (inF l ms n L) kd L (j:Int) ⟨inn,out,ap,lk,(x1,x2),(y1,y2),(w1,w2)⟩ m)):=HMT.out m hq
     have hM:=me_r hq
     rw[HB0,HL0];rw[HL0]at hpr
     have HML:Hid (m.length=inn.length):=hM.len
     obtain⟨z0,z1,z2,-⟩:=(HXU.out.below hU3).three
     have hX3:=XV.below hb3
     have hO3:=zwj.below hb3
     have zdf:=hM.pos
     have zcn:=hM.hi (k:=m.length-1) (by omega)
     have zfr:=hM.lo (k:=m.length-1) (by omega)
     have hmL:m.length<=L.length:=by
      have:=hM.hi zdf
      rw[hM.fst]at this
      omega
     have HMK:Hid (∀p,p<m.length->0<=m.getD p 0/\m.getD p 0<(L.length:Int)):=fun p hp=>by
      obtain⟨q,e,hq,_⟩:=hM.ok p hp
      exact⟨by omega,by omega⟩
     obtain⟨pb,po,rfl,hpb,-⟩:=hpr.at (Below.refl _ _) 0 zdf
     have HPR:Hid (∀W,Below u3.heap.size u3 W->∀p,p<m.length->W.cell? ⟨pb,po+p,none⟩=some (.int .i64 (m.getD p 0))):=fun W hW p hp=>by
      obtain⟨b1,o1,e1,_,d1⟩:=hpr.at hW p hp
      cases e1
      exact d1
     have km:=hpr.lenB
     clear hq HB0 HL0 HSK HMT HDR hb3 zwm zwj XV hpr
     by_cases h4:kd=4
     . subst h4
       obtain⟨e0,e1,e2,e3,e4,e5⟩:=HFX.out.cx rfl
       dsimp only at e0 e1 e2 e3 e4 e5
       obtain⟨p,rfl⟩:∃p:Nat,ap=(p:Int):=⟨ap.toNat,by omega⟩
       obtain⟨q,rfl⟩:∃q:Nat,lk=(q:Int):=⟨lk.toNat,by omega⟩
       rw[Int.toNat_natCast]at e5
       have hpm:p<m.length:=by have:=HML.out;omega
       have hql:q<l.length:=by omega
       have hsub:(m.length:Int)-1=((m.length-1:Nat):Int):=by omega
       have hlt1:m.length-1<m.length:=by omega
       have HDZ:Hid (duF l ms n k L (j:Int)=Option.some (inF l ms n L (q:Int) (m.getD p 0),max (m.getD (m.length-1) 0+1+((inF l ms n L (q:Int) (m.getD p 0)).length:Int)-(L.length:Int)) (j:Int))):=by
        show _=_
        rw[HDM.out]
        unfold apF
        rw[if_pos rfl,Int.toNat_natCast]
       have hplz:plB L (m.getD p 0)=true:=zal.2 (HMK.out p hpm)
       obtain⟨zz,hzz⟩:∃zz,m.getD p 0=zz:=⟨_,rfl⟩
       obtain⟨t,ht⟩:∃t,m.getD (m.length-1) 0=t:=⟨_,rfl⟩
       have HPZ:Hid (∀W,Below u3.heap.size u3 W->W.cell? ⟨pb,po+p,none⟩=some (.int .i64 zz)):=fun W hW=>by rw[<-hzz];exact HPR.out W hW p hpm
       have HPT:Hid (∀W,Below u3.heap.size u3 W->W.cell? ⟨pb,po+(m.length-1),none⟩=some (.int .i64 t)):=fun W hW=>by rw[<-ht];exact HPR.out W hW _ hlt1
       rw[hzz,ht]at HDZ;rw[hzz]at hplz;rw[ht]at zcn zfr
       have hlt:t<=200:=by omega
       have hlt0:0<=t:=by omega
       obtain⟨-,-,q2,q3,-⟩:=hX3.ru;dsimp only at q2 q3
       have lt3:wr.heap.size<u3.heap.size:=hX3.lt
       have i7:(0:Int)<=(p:Int):=by omega
       have i8:(p:Int)<(m.length:Int):=by omega
       have HCL:Hid (L.length<=200):=hle
       clear HDM hM e0 e1 e2 e3 e4 HML hO3 hX3 HPR HMK hzz ht zcn zfr
       cases n with
       | zero =>
        have g8:¬uu<8:=by have:=HU.out;omega
        have d2:=HPT.out u3 (Below.refl _ _)
        have HV:Hid (DuA l ms 0 k L (j:Int) u3 (.returned (.tuple #[.slice (some ⟨ab,ao,none⟩) L.length ca,.int .i64 (max (t+1+(L.length:Int)-(L.length:Int)) (j:Int)),.bool true]))):=DuA.some HDZ.out (HL.out.below hw3).anyI
        rw[show t+1+(L.length:Int)-(L.length:Int)=t+1 by omega]at HV
        clear HDZ HPT HPZ;go_wp2
        go_ret3
        exact⟨HV.out,hw3⟩
       | succ n =>
        have g8:uu<8:=by have:=HU.out;omega
        have v1:IntKind.i64.wrap (uu+1)=uu+1:=zbl (by have:=HU.out;omega) (by omega)
        have hdo:∀Z,Below u3.heap.size u3 Z->Calls Tryz.prog 93 #[.slice (some ⟨lb,lo,none⟩) l.length lc,.int .i64 q,.slice mb ms.length mc,.slice (some ⟨ab,ao,none⟩) L.length ca,.int .i64 zz,.int .i64 (uu+1)] Z fun e w'=>DuA l ms n q L zz w' e/\Below Z.heap.size Z w':=fun Z hZ=>by
         have hwZ:=hw3.trans (hZ.mono hw3.size)
         have h:=IH n rfl Sl Sm S (some ⟨lb,lo,none⟩) lc mb mc q (some ⟨ab,ao,none⟩) ca L zz Z (HLK.out.below hwZ) (HMS.out.below hwZ) (HL.out.below hwZ) hql e5 hplz hle
         rw[show(8:Int)-(n:Int)=uu+1 by have:=HU.out;omega]at h
         exact h
        have HDL:Hid (∀d,duF l ms n q L zz=some d->d.1.length<=L.length+7):=fun d hd=>(du_f hf n q L zz d hql e5 hplz hd).len
        have HO:Hid (inF l ms (n+1) L (q:Int) zz=duL l ms n q L zz):=by show duL l ms n (q:Int).toNat L zz=_;rw[Int.toNat_natCast]
        have hol2:(duL l ms n q L zz).length<=300:=by
         unfold duL
         cases hd:duF l ms n q L zz with
         | none=>show L.length<=_;omega
         | some d=>have:=HDL.out d hd;show d.1.length<=_;omega
        rw[HO.out]at HDZ
        have d1:=HPZ.out u3 (Below.refl _ _)
        clear HO HDL IH e5 hplz;go_wp2
        refine wp_region_held_drew (S:=fun u'=>(u'.cell? ⟨wr.heap.size,2,none⟩=some (.int .i64 (p:Int))/\u'.cell? ⟨wr.heap.size,3,none⟩=some (.int .i64 (q:Int)))/\u'.cell? ⟨pb,po+p,none⟩=some (.int .i64 zz)) (by kernel_rfl) ⟨⟨q2,q3⟩,d1⟩ (fun hH=>?_)
        have hdr:Below u3.heap.size u3 u3.drew:=(Below.refl _ _).drew
        generalize u3.drew=Z at hdr hH ⊢
        refine hT 0 hH ?_;refine hT 1 hH ?_;refine hT 2 hH ?_;refine hT 3 hH ?_;refine hT 4 hH ?_;refine hT 5 hH ?_;refine hT 6 hH ?_;refine hT 7 hH ?_;refine hT 8 hH ?_;refine hT 9 hH ?_;refine hT 10 hH ?_;refine hT 11 hH ?_
        refine hCall (i:=12) rfl (by kernel_rfl) (by rfl) (fun K hK=>?_)
        go_simp
        refine(hdo Z hdr).mono ?_
        rintro e u4 ⟨⟨oa,oc,rfl,hgr⟩,hb4⟩
        have h34:=hdr.trans (hb4.mono hdr.size)
        have zaf:=hw3.trans (h34.mono hw3.size)
        have d1':=HPZ.out u4 h34
        have d2':=HPT.out u4 h34
        have q2':=(h34.cell (p:=⟨wr.heap.size,2,none⟩) lt3).trans q2
        have q3':=(h34.cell (p:=⟨wr.heap.size,3,none⟩) lt3).trans q3
        generalize duL l ms n q L zz=o at hgr hol2 HDZ
        generalize duO l ms n q L zz=on
        generalize duB l ms n q L zz=db
        clear hdo HPZ HPT
        go_wp2_with fail
        refine hK.out _ _ ⟨⟨q2',q3'⟩,d1'⟩ (fun hH=>?_)
        clear hK K
        try simp only[Act.put,pZ]
        refine hT 13 hH ?_;refine hT 14 hH ?_;refine hT 15 hH ?_;refine hT 16 hH ?_;refine hT 17 hH ?_
        refine wpAnyH_done (by kernel_rfl) ?_ _
        have HV:Hid (DuA l ms (n+1) k L (j:Int) u4 (.returned (.tuple #[.slice oa o.length oc,.int .i64 (max (t+1+(o.length:Int)-(L.length:Int)) (j:Int)),.bool true]))):=DuA.some HDZ.out hgr
        clear hH hgr hb4 hdr h34 q2 q3 q2' q3' d1 d1' HDZ z0 z1 z2;go_wp2
        go_ret3
        exact⟨HV.out,zaf⟩
     have g4:(kd==4)=false:=beq_eq_false_iff_ne.2 h4
     by_cases h3:kd=3
     . subst h3
       have HDZ:Hid (duF l ms n k L (j:Int)=Option.some (puL (taF L m.tail) (j:Int) ((j:Int)+1) out,(j:Int)+1)):=by
        show _=_
        rw[HDM.out]
        unfold apF
        rw[if_neg (by decide),if_pos rfl]
       have hsub:(m.length:Int)-1=((m.length-1:Nat):Int):=by omega
       have HX3:Hid (Bk 131 u3 wr.heap.size (ruV a1 c1 a2 c2 ⟨inn,out,ap,lk,(x1,x2),(y1,y2),(w1,w2)⟩)):=hX3
       have HO3:Hid (Gr El.int Sl u3 a2 c2 out):=hO3
       have HTD:Hid (∀p,p<m.length->taF L (m.drop p)=puL (taF L (m.drop (p+1))) (m.getD p 0) (m.getD p 0+1) []):=fun p hp=>zk9 hp
       clear HDM hM HML hO3 hX3 g4 h4 zcn zfr;go_wp2;clear z0 z1 z2
       go_loopw [22,23] (fun vo vm wx=>∃(X:List Int) (xa:Option Addr) (xc:Nat) (p:Nat),vo=.slice xa X.length xc/\vm=.int .i64 p/\p<m.length/\Hid (Gr El.int (fun _=>True) wx xa xc X)/\Hid (X=taF L (m.drop (p+1)))/\Below u3.heap.size u3 wx) (fun _ vm _=>(intOf vm).toNat)
       case atStart=>exact⟨L,some ⟨ab,ao,none⟩,ca,m.length-1,rfl,rfl,by omega,(HL.out.below hw3).anyI,(by show L=_;rw[show m.length-1+1=m.length by omega,zn7]),Below.refl _ _⟩
       case round =>
        rename World=>wx
        obtain⟨X,xa,xc,p,rfl,rfl,hpm,HG,HXE,hbx⟩:=hrel
        have hwx:=hw3.trans (hbx.mono hw3.size)
        have hXl:X.length<=200:=by
         have h:=zxt L (m.drop (p+1))
         rw[<-HXE.out]at h
         omega
        by_cases hp1:1<=p
        . have d1:=HPR.out wr
          have c1':=HPR.out wx hbx p hpm
          obtain⟨b1,b2⟩:=HMK.out p hpm
          have HTD2:Hid (taF L (m.drop p)=puL X (m.getD p 0) (m.getD p 0+1) []):=by show _=_;rw[HTD.out p hpm,<-HXE.out]
          obtain⟨zz,hzz⟩:∃zz,m.getD p 0=zz:=⟨_,rfl⟩
          rw[hzz]at c1' b1 b2 HTD2
          have hpu:∀Z,Below wx.heap.size wx Z->Calls Tryz.prog 128 #[.slice xa X.length xc,.int .i64 zz,.int .i64 (zz+1),.slice none 0 0] Z fun e w'=>PutA X zz (zz+1) [] Z.heap.size w' e/\Below Z.heap.size Z w':=fun Z hZ =>
           zg2 (fun _=>True) (fun _=>True) xa xc X zz (zz+1) none 0 [] Z (HG.out.below hZ) (Gr.nil _ _ _ _ _ (Nat.zero_le _) (fun _=>rfl)) ⟨by omega,by omega⟩ ⟨by omega,by omega⟩ (by omega) (by simp)
          have v1:IntKind.i64.wrap (zz+1)=zz+1:=zbl (by omega) (by omega)
          have lt4:pb<wx.heap.size:=Nat.lt_of_lt_of_le hpb hbx.size
          have i7:(0:Int)<=(p:Int):=by omega
          have i8:(p:Int)<(m.length:Int):=by omega
          have i9:(1:Int)<=(p:Int):=by omega
          have hp2:(p:Int)-1=((p-1:Nat):Int):=by omega
          clear hzz HG HXE;go_wp2
          refine wp_region_held_drew (S:=fun u'=>u'.cell? ⟨pb,po+p,none⟩=some (.int .i64 zz)) (by kernel_rfl) c1' (fun hH=>?_)
          have hdr:Below wx.heap.size wx wx.drew:=(Below.refl _ _).drew
          generalize wx.drew=Z at hdr hH ⊢
          refine hT 0 hH ?_;refine hT 1 hH ?_;refine hT 2 hH ?_;refine hT 3 hH ?_;refine hT 4 hH ?_;refine hT 5 hH ?_;refine hT 6 hH ?_;refine hT 7 hH ?_;refine hT 8 hH ?_;refine hT 9 hH ?_
          refine hCall (i:=10) rfl (by kernel_rfl) (by rfl) (fun K hK=>?_)
          go_simp
          refine(hpu Z hdr).mono ?_
          rintro e u4 ⟨⟨v4,rfl,hv4⟩,hb4⟩
          obtain⟨oa,oc,rfl,hgr⟩:=hv4.io.grL (S:=fun _=>True)
          have hx4:=hdr.trans (hb4.mono hdr.size)
          have h34:=hbx.trans (hx4.mono hbx.size)
          have c1'':=(hx4.cell (p:=⟨pb,po+p,none⟩) lt4).trans c1'
          obtain⟨Y,hY⟩:∃Y,puL X zz (zz+1) []=Y:=⟨_,rfl⟩
          rw[hY]at HTD2 hgr ⊢
          have HGY:Hid (Gr El.int (fun _=>True) u4 oa oc Y):=hgr
          clear hpu hgr hb4 hv4 hY
          go_wp2_with fail
          refine hK.out _ _ c1'' (fun hH=>?_)
          clear hK K
          try simp only[Act.put,pZ]
          refine hT 11 hH ?_
          refine wpAnyH_done (by kernel_rfl) ?_ _
          clear hH c1' c1'' hdr hx4 b1 b2 v1;go_wp2
          go_roundw
          case rel=>exact⟨Y,oa,oc,p-1,rfl,by first | rfl | go_num,by omega,HGY,(by show Y=_;rw[show p-1+1=p by omega];exact HTD2.out.symm),h34⟩
          case measure=>simp only[intOf];omega
        . obtain rfl:p=0:=by omega
          have HXT:Hid (X=taF L m.tail):=by show _=_;rw[HXE.out,Nat.zero_add,List.drop_one]
          rw[<-HXT.out]at HDZ
          have hput:Calls Tryz.prog 128 #[.slice xa X.length xc,.int .i64 (j:Int),.int .i64 ((j:Int)+1),.slice a2 out.length c2] wx fun e w'=>PutA X (j:Int) ((j:Int)+1) out wx.heap.size w' e/\Below wx.heap.size wx w' :=
           zg2 (fun _=>True) Sl xa xc X (j:Int) ((j:Int)+1) a2 c2 out wx HG.out (HO3.out.below hbx) hIJ ⟨by omega,by omega⟩ (by omega) (by omega)
          obtain⟨-,q1,-⟩:=(HX3.out.below hbx).ru
          dsimp only at q1
          obtain⟨Y,hY⟩:∃Y,puL X (j:Int) ((j:Int)+1) out=Y:=⟨_,rfl⟩
          rw[hY]at HDZ
          have HY:Hid (puL X (j:Int) ((j:Int)+1) out=Y):=hY
          clear hY HG HXE HXT HPR HMK HTD
          go_wp2_with fail
          refine hput.mono ?_
          rintro e u4 ⟨⟨v4,rfl,hv4⟩,hb4⟩;rw[HY.out]at hv4
          obtain⟨oa,oc,rfl,hgr⟩:=hv4.io.grL (S:=fun _=>True)
          have HV:Hid (DuA l ms n k L (j:Int) u4 (.returned (.tuple #[.slice oa Y.length oc,.int .i64 ((j:Int)+1),.bool true]))):=DuA.some HDZ.out hgr
          have zaf:=hwx.trans (hb4.mono hwx.size)
          clear hput hgr hb4 hv4 q1;go_wp2
          go_ret3
          exact⟨HV.out,zaf⟩
     have g3:(kd==3)=false:=beq_eq_false_iff_ne.2 h3
     have HDZ:Hid (duF l ms n k L (j:Int)=Option.some (puL L (j:Int) ((j:Int)+1) out,(j:Int)+(out.length:Int))):=by
      show _=_
      rw[HDM.out]
      unfold apF
      rw[if_neg h4,if_neg h3]
     obtain⟨-,q1,-⟩:=hX3.ru;dsimp only at q1
     have lt3:wr.heap.size<u3.heap.size:=hX3.lt
     have hpu:=fun Z (hZ:Below u3.heap.size u3 Z)=>zg2 S Sl (some ⟨ab,ao,none⟩) ca L (j:Int) ((j:Int)+1) a2 c2 out Z (HL.out.below (hw3.trans (hZ.mono hw3.size))) (hO3.below hZ) hIJ ⟨by omega,by omega⟩ (by omega) (by omega)
     have v1:IntKind.i64.wrap ((j:Int)+1)=(j:Int)+1:=zbl (by omega) (by omega)
     have v2:IntKind.i64.wrap ((j:Int)+(out.length:Int))=(j:Int)+(out.length:Int):=zbl (by omega) (by omega)
     clear HDM hM HML hO3 hX3 h3 h4 HPR HMK zcn zfr
     obtain⟨o,ho⟩:∃o,puL L (j:Int) ((j:Int)+1) out=o:=⟨_,rfl⟩
     rw[ho]at HDZ
     have HO:Hid (puL L (j:Int) ((j:Int)+1) out=o):=ho
     clear ho;go_wp2
     refine wp_region_held_drew (S:=fun u=>u.cell? ⟨wr.heap.size,1,none⟩=some (.slice a2 out.length c2)) (by kernel_rfl) q1 (fun hH=>?_)
     have hdr:Below u3.heap.size u3 u3.drew:=(Below.refl _ _).drew
     generalize u3.drew=Z at hdr hH ⊢
     refine hT 0 hH ?_;refine hT 1 hH ?_;refine hT 2 hH ?_;refine hT 3 hH ?_;refine hT 4 hH ?_;refine hT 5 hH ?_;refine hT 7 hH ?_;refine hT 8 hH ?_;refine hT 9 hH ?_;refine hT 10 hH ?_;refine hT 11 hH ?_
     refine hCall (i:=6) rfl (by kernel_rfl) (by rfl) (fun K hK=>?_)
     go_simp
     refine(hpu Z hdr).mono ?_
     rintro e u4 ⟨⟨v4,rfl,hv4⟩,hb4⟩;rw[HO.out]at hv4
     obtain⟨oa,oc,rfl,hgr⟩:=hv4.io.grL (S:=fun _=>True)
     have HV:Hid (DuA l ms n k L (j:Int) u4 (.returned (.tuple #[.slice oa o.length oc,.int .i64 ((j:Int)+(out.length:Int)),.bool true]))):=DuA.some HDZ.out hgr
     have h34:=hdr.trans (hb4.mono hdr.size)
     have zaf:=hw3.trans (h34.mono hw3.size)
     have q1':=(h34.cell (p:=⟨wr.heap.size,1,none⟩) lt3).trans q1
     clear hpu hgr hb4 hv4
     go_wp2_with fail
     refine hK.out _ _ q1' (fun hH=>?_)
     clear hK K
     try simp only[Act.put,pZ]
     refine hT 12 hH ?_;refine hT 13 hH ?_;refine hT 14 hH ?_
     refine wpAnyH_done (by kernel_rfl) ?_ _
     clear z0 z1 z2 q1 q1' hH hdr h34;go_wp2
     go_ret3
     exact⟨HV.out,zaf⟩
   . have HF:Hid (duF l ms n k L (j:Int)=Option.none):=by
       show _=_
       rw[HDR.out,show r=rs.length by omega]
       exact zov
     have HV:Hid (DuA l ms n k L (j:Int) wr (.returned (.tuple #[.slice (some ⟨ab,ao,none⟩) L.length ca,.int .i64 (j:Int),.bool false]))):=DuA.none HF.out (HL.out.below hwr).anyI
     have g4:¬(r:Int)<(rs.length:Int):=by omega
     clear HDR;go_wp2
     go_ret3
     exact⟨HV.out,hwr⟩
theorem zti(l:List Lk)(ms:List Bool)(g:Int)(hf:foU l g=true):∀n,n<=7->DoS l ms n:=by
 intro n
 induction n with
 | zero=>intro h;exact zq3 l ms g hf 0 h (fun n' e=>by omega)
 | succ n ih=>intro h;exact zq3 l ms g hf (n+1) h (fun n' e=>by obtain rfl:n=n':=(by omega);exact ih (by omega))
theorem zfh(S:Nat->Prop)(a:Option Addr)(ca:Nat)(L:List Int)(w:World)(h:Gr El.int S w a ca L)(hl:L.length<=1000) :
 Calls Tryz.prog 57 #[.slice a L.length ca] w fun e w'=>RowI L w.heap.size w' e/\Below w.heap.size w w':=by
 have hN0:Gi w.heap.size w (.slice none 0 0) []:=Gi.nil _ _
 have HL:Hid (Gr El.int (fun k=>False/\(Value.slice none 0 0).ownBlock≠some k) w a ca L):=h.anyI
 have kl:=h.lenB
 have hll:([]:List Int).length+L.length<=1000000:=by simp;omega
 have hW:w.heap.size<=w.heap.size:=Nat.le_refl _
 clear h
 go_enter Tryz.func57,Tryz.ntmps57
 go_wp2_with (at_builtin;refine zab 37 3 Tryz.underlying37 zbg rfl (by decide) (by decide) rfl _ _ rfl w.heap.size (fun _=>False) _ [] rfl hN0 _ _ _ L rfl rfl HL.out hll hW ?_)
 intro v1 w1 hT1 hgrow _
 have hB1:Below w.heap.size w w1:=(Below.refl _ _).grown hgrow hW (fun k hk=>by cases hk)
 have HV:Hid (RowI L w.heap.size w1 (.returned v1)):=⟨_,rfl,hT1⟩
 clear hgrow hT1 hll hW hN0;go_wp2
 go_ret
 exact⟨HV.out,hB1⟩
theorem zji(l:List Lk)(ms:List Bool)(Sl Sm S:Nat->Prop)(la:Option Addr)(lc:Nat)(mb:Option Addr)(mc:Nat)(k:Int)(a:Option Addr)(ca:Nat)(L:List Int)(w:World)
    (hl:Gr LkE Sl w la lc l) (hms:Gr El.bool Sm w mb mc ms) (hL:Gr El.int S w a ca L) (hk:I64 k) (hle:L.length<=200) :
    Calls Tryz.prog 58 #[.slice la l.length lc,.int .i64 k,.slice mb ms.length mc,.slice a L.length ca] w fun e w'=>LiA l ms k L w' e/\Below w.heap.size w w':=by
 have kl:=hL.lenB
 have kll:=hl.lenB
 have hfo:=zgg Sl la lc l 65536 w hl ⟨by omega,by omega⟩
 cases hf:foU l 65536 with
 | false =>
  rw[hf]at hfo
  have HF:Hid (∀U,LiA l ms k L U (.returned (.tuple #[.slice none 0 0,.int .i64 1]))):=fun U=>LiA.nil (zuj hf)
  clear hl hms hL hf
  go_enter Tryz.func58,Tryz.ntmps58
  go_wp2_with fail
  refine hfo.mono ?_
  rintro e u ⟨rfl,hbu⟩;clear hfo;go_wp2
  go_ret2
  exact⟨HF.out _,hbu⟩
 | true =>
 rw[hf]at hfo
 by_cases h1:100<L.length
 . have HF:Hid (∀U,LiA l ms k L U (.returned (.tuple #[.slice none 0 0,.int .i64 3]))):=fun U=>LiA.nil (zp3 hf h1)
   have g1:(100:Int)<(L.length:Int):=by omega
   clear hl hms hL hf h1
   go_enter Tryz.func58,Tryz.ntmps58
   go_wp2_with fail
   refine hfo.mono ?_
   rintro e u ⟨rfl,hbu⟩;clear hfo;go_wp2
   go_ret2
   exact⟨HF.out _,hbu⟩
 have g1:¬(100:Int)<(L.length:Int):=by omega
 by_cases h2:k<0
 . have HF:Hid (∀U,LiA l ms k L U (.returned (.tuple #[.slice none 0 0,.int .i64 5]))):=fun U=>LiA.nil (zj9 hf h1 (by omega))
   have d0:decide (k<0)=true:=decide_eq_true h2
   clear hl hms hL hf h1 h2
   go_enter Tryz.func58,Tryz.ntmps58
   go_wp2_with fail
   refine hfo.mono ?_
   rintro e u ⟨rfl,hbu⟩;clear hfo;go_wp2
   go_ret2
   exact⟨HF.out _,hbu⟩
 have d0:decide (k<0)=false:=decide_eq_false h2
 by_cases h3:(l.length:Int)<=k
 . have HF:Hid (∀U,LiA l ms k L U (.returned (.tuple #[.slice none 0 0,.int .i64 5]))):=fun U=>LiA.nil (zj9 hf h1 (by omega))
   have d1:decide ((l.length:Int)<=k)=true:=decide_eq_true h3
   clear hl hms hL hf h1 h2 h3
   go_enter Tryz.func58,Tryz.ntmps58
   go_wp2_with fail
   refine hfo.mono ?_
   rintro e u ⟨rfl,hbu⟩;clear hfo;go_wp2
   go_ret2
   exact⟨HF.out _,hbu⟩
 have d1:decide ((l.length:Int)<=k)=false:=decide_eq_false h3
 obtain⟨q,rfl⟩:∃q:Nat,k=(q:Int):=⟨k.toNat,by omega⟩
 have hq:q<l.length:=by omega
 have i1:(0:Int)<=(q:Int):=by omega
 have i2:(q:Int)<(l.length:Int):=by omega
 have HL:Hid (Gr LkE Sl w la lc l):=hl
 obtain⟨lb,lo,ra,rc,rfl,hkd,hall⟩:=hl.lkAll q hq
 have HKC:Hid (∀u,Below w.heap.size w u->u.cell? ⟨lb,lo+q*3,none⟩=some (.int .i64 (l.getD q Lk.none).kd)):=fun u hu=>(hall u hu).2.1
 have HOT:Hid (puB (l.getD q Lk.none).kd=false->liL l ms (q:Int) L=L/\liE l ms (q:Int) L=0):=fun h=>zlw hf h1 hq h
 have HST:Hid (puB (l.getD q Lk.none).kd=true->liQ l ms q L 0=none->liL l ms (q:Int) L=[]/\liE l ms (q:Int) L=3):=fun h h4=>zlv hf h1 hq h h4
 have HTH:Hid (puB (l.getD q Lk.none).kd=true->∀X,liQ l ms q L 0=some X->liL l ms (q:Int) L=X/\liE l ms (q:Int) L=0):=fun h X h4=>zgi hf h1 hq h h4
 have HGL:Hid (puB (l.getD q Lk.none).kd=true->∀(X:List Int) (i:Int),0<=i->i<(X.length:Int)->i<=goO l ms q X i/\goO l ms q X i<=(X.length:Int)+8/\((duL l ms 7 q X i).length:Int)-goO l ms q X i<(X.length:Int)-i/\(duL l ms 7 q X i).length<=X.length+7):=fun h X i h0 h3=>go_less (ms:=ms) hf hq h h0 h3
 have HON:Hid (puB (l.getD q Lk.none).kd=true->∀(X:List Int) (i:Int),0<=i->i<(X.length:Int)->¬100<(duL l ms 7 q X i).length->liQ l ms q X i=liQ l ms q (duL l ms 7 q X i) (goO l ms q X i)):=fun h X i h0 h3 h4=>zuk hf hq h h0 h3 h4
 have HDO:Hid (puB (l.getD q Lk.none).kd=true->∀U,Below w.heap.size w U->∀xa xc (X:List Int) (i:Int),Gr El.int (fun _=>True) U xa xc X->X.length<=100->0<=i->i<(X.length:Int)->Calls Tryz.prog 93 #[.slice (some ⟨lb,lo,none⟩) l.length lc,.int .i64 q,.slice mb ms.length mc,.slice xa X.length xc,.int .i64 i,.int .i64 1] U fun e w'=>DuA l ms 7 q X i w' e/\Below U.heap.size U w'):=fun hp U hU xa xc X i hX hXl h0 h3 =>
  zti l ms 65536 hf 7 (by omega) Sl Sm (fun _=>True) (some ⟨lb,lo,none⟩) lc mb mc q xa xc X i U (HL.out.below hU) (hms.below hU) hX hq hp (zal.2 ⟨h0,h3⟩) (by omega)
 have hcl:=fun U (hU:Below w.heap.size w U)=>zfh S a ca L U (hL.below hU) (by omega)
 obtain⟨kd,hkk⟩:∃kd,(l.getD q Lk.none).kd=kd:=⟨_,rfl⟩
 rw[hkk]at HKC hkd HOT HST HTH HGL HON HDO
 have hpu:=fun U=>zfd kd U hkd
 have h1':L.length<=100:=by omega
 clear hkk hall hl hms hL hf h1 HL h2 h3
 go_enter Tryz.func58,Tryz.ntmps58
 go_wp2_with fail
 refine hfo.mono ?_
 rintro e u ⟨rfl,hbu⟩;clear hfo
 replace hcl:=hcl _ hbu
 go_wp2_with fail
 refine hcl.mono ?_
 rintro e u3 ⟨⟨v,rfl,hv⟩,hb3⟩
 obtain⟨va,vc,rfl,hvg⟩:=hv.io.grL (S:=fun _=>True)
 have hw3:=hbu.trans (hb3.mono hbu.size)
 have HW3:Hid (Below w.heap.size w u3):=hw3
 clear hcl hv g1 d0 d1 hb3 hbu hw3;go_wp2
 cases hp:puB kd with
 | false =>
  rw[hp]at hpu
  have HV:Hid (LiA l ms (q:Int) L u3 (.returned (.tuple #[.slice va L.length vc,.int .i64 0]))):=LiA.yes (HOT.out hp) hvg
  clear HOT HST HTH HGL HON HDO hp hvg
  go_loopw [10,11] (fun vo vi wr=>vo=.slice va L.length vc/\vi=.int .i64 0/\wr=u3) (fun _ _ _=>0)
  case atStart=>exact⟨rfl,rfl,rfl⟩
  case round =>
   obtain⟨rfl,rfl,rfl⟩:=hrel
   have c0:=HKC.out _ HW3.out
   have zdw:=hpu wr
   by_cases h0:0<L.length
   . have e1:decide ((0:Int)<(L.length:Int))=true:=decide_eq_true (by omega)
     have e2:decide (0<L.length)=true:=decide_eq_true h0
     clear hpu h0
     go_wp2_with fail
     refine zdw.mono ?_
     rintro e u4 ⟨rfl,rfl⟩;clear zdw c0;go_wp2
     go_ret2
     exact⟨HV.out,HW3.out⟩
   . have e1:decide ((0:Int)<(L.length:Int))=false:=decide_eq_false (by omega)
     have e2:decide (0<L.length)=false:=decide_eq_false h0
     clear hpu h0 zdw c0;go_wp2
     go_ret2
     exact⟨HV.out,HW3.out⟩
 | true =>
  rw[hp]at hpu
  have zxg:Hid (liQ l ms q L 0=none->∀U,LiA l ms (q:Int) L U (.returned (.tuple #[.slice none 0 0,.int .i64 3]))):=fun h U=>LiA.nil (HST.out hp h)
  have HTH2:Hid (∀X,liQ l ms q L 0=some X->∀U xa xc,Gr El.int (fun _=>True) U xa xc X->LiA l ms (q:Int) L U (.returned (.tuple #[.slice xa X.length xc,.int .i64 0]))):=fun X h U xa xc hX=>LiA.yes (HTH.out hp X h) hX
  have zrv:=HGL.out hp
  have HGL:Hid (∀(X:List Int) (i:Int),0<=i->i<(X.length:Int)->i<=goO l ms q X i/\goO l ms q X i<=(X.length:Int)+8/\((duL l ms 7 q X i).length:Int)-goO l ms q X i<(X.length:Int)-i/\(duL l ms 7 q X i).length<=X.length+7):=zrv
  have zgv:=HON.out hp
  have HON:Hid (∀(X:List Int) (i:Int),0<=i->i<(X.length:Int)->¬100<(duL l ms 7 q X i).length->liQ l ms q X i=liQ l ms q (duL l ms 7 q X i) (goO l ms q X i)):=zgv
  have zu5:=HDO.out hp
  have HDO:Hid (∀U,Below w.heap.size w U->∀xa xc (X:List Int) (i:Int),Gr El.int (fun _=>True) U xa xc X->X.length<=100->0<=i->i<(X.length:Int)->Calls Tryz.prog 93 #[.slice (some ⟨lb,lo,none⟩) l.length lc,.int .i64 q,.slice mb ms.length mc,.slice xa X.length xc,.int .i64 i,.int .i64 1] U fun e w'=>DuA l ms 7 q X i w' e/\Below U.heap.size U w'):=zu5
  have HVG:Hid (Gr El.int (fun _=>True) u3 va vc L):=hvg
  clear HOT HST HTH hp hvg zrv zgv zu5
  go_loopw [10,11] (fun vo vi wr=>∃(X:List Int) (xa:Option Addr) (xc:Nat) (i:Int),vo=.slice xa X.length xc/\vi=.int .i64 i/\Hid (Gr El.int (fun _=>True) wr xa xc X)/\X.length<=100/\0<=i/\i<=1000/\Hid (liQ l ms q L 0=liQ l ms q X i)/\Below w.heap.size w wr) (fun vo vi _=>(slLn vo-intOf vi).toNat)
  case atStart=>exact⟨L,va,vc,0,rfl,rfl,HVG.out,h1',by omega,by omega,rfl,HW3.out⟩
  case round =>
   obtain⟨X,xa,xc,i,rfl,rfl,HG,hX,h0,h9,HQ,hwr⟩:=hrel
   by_cases hin:i<(X.length:Int)
   . have c0:=HKC.out wr hwr
     have zdw:=hpu wr
     have e1:decide (i<(X.length:Int))=true:=decide_eq_true hin
     have hdo:=HDO.out wr hwr xa xc X i HG.out hX h0 hin
     obtain⟨m1,m2,m3,m4⟩:=HGL.out X i h0 hin
     have HLG:Hid (100<(duL l ms 7 q X i).length->liQ l ms q L 0=none):=fun h=>by rw[HQ.out];exact zlx h0 hin h
     have HNX:Hid (¬100<(duL l ms 7 q X i).length->liQ l ms q L 0=liQ l ms q (duL l ms 7 q X i) (goO l ms q X i)):=fun h=>by rw[HQ.out];exact HON.out X i h0 hin h
     have HN:Hid (duB l ms 7 q X i=false->goO l ms q X i=i+1):=go_no
     have HS:Hid (duO l ms 7 q X i=i->X.length<=(duL l ms 7 q X i).length->goO l ms q X i=i+1):=go_same
     have HO:Hid (duB l ms 7 q X i=true->¬(duO l ms 7 q X i=i/\X.length<=(duL l ms 7 q X i).length)->goO l ms q X i=duO l ms 7 q X i):=go_on
     clear hpu
     go_wp2_with fail
     refine zdw.mono ?_
     rintro e u4 ⟨rfl,rfl⟩;clear zdw c0
     go_wp2_with fail
     refine hdo.mono ?_
     rintro e u5 ⟨⟨oa,oc,rfl,hgr⟩,hb5⟩
     have hw5:=hwr.trans (hb5.mono hwr.size)
     generalize duL l ms 7 q X i=o at hgr m3 m4 HLG HNX HS HO
     generalize duO l ms 7 q X i=on at HS HO
     generalize duB l ms 7 q X i=od at HN HO
     generalize goO l ms q X i=gg at m1 m2 m3 HNX HN HS HO
     have HGR:Hid (Gr El.int (fun _=>True) u5 oa oc o):=hgr
     have HGG:Hid (i<=gg/\gg<=(X.length:Int)+8/\(o.length:Int)-gg<(X.length:Int)-i/\i<(X.length:Int)):=⟨m1,m2,m3,hin⟩
     clear hdo hgr HG HQ m1 m2 m3 hb5
     by_cases hlo:100<o.length
     . have d2:(100:Int)<(o.length:Int):=by omega
       have HV:=zxg.out (HLG.out hlo) u5
       have HV2:Hid (LiA l ms (q:Int) L u5 (.returned (.tuple #[.slice none 0 0,.int .i64 3]))):=HV
       clear HV HLG HNX HN HS HO hlo hin HGG;go_wp2
       go_ret2
       exact⟨HV2.out,hw5⟩
     have d2:¬(100:Int)<(o.length:Int):=by omega
     have ztw:Hid (liQ l ms q L 0=liQ l ms q o gg):=HNX.out hlo
     clear HLG HNX
     cases od with
     | false =>
      have HE:Hid (gg=i+1):=HN.out rfl
      clear HN HS HO hin hlo;go_wp2
      go_roundw
      case rel=>exact⟨o,oa,oc,i+1,rfl,rfl,HGR,by omega,by omega,by have:=HGG.out;have:=HE.out;omega,by rw[<-HE.out];exact ztw,hw5⟩
      case measure=>have:=HGG.out;have:=HE.out;simp only[zbk,intOf];omega
     | true =>
      by_cases hoi:on=i
      . subst hoi
        by_cases hll:X.length<=o.length
        . have HE:Hid (gg=on+1):=HS.out rfl hll
          have d3:decide ((X.length:Int)<=(o.length:Int))=true:=decide_eq_true (by omega)
          have d3n:decide (X.length<=o.length)=true:=decide_eq_true hll
          clear HN HS HO hin hlo hll;go_wp2
          go_roundw
          case rel=>exact⟨o,oa,oc,on+1,rfl,rfl,HGR,by omega,by omega,by have:=HGG.out;have:=HE.out;omega,by rw[<-HE.out];exact ztw,hw5⟩
          case measure=>have:=HGG.out;have:=HE.out;simp only[zbk,intOf];omega
        . have HE:Hid (gg=on):=HO.out rfl (fun h=>hll h.2)
          have d3:decide ((X.length:Int)<=(o.length:Int))=false:=decide_eq_false (by omega)
          have d3n:decide (X.length<=o.length)=false:=decide_eq_false hll
          clear HN HS HO hin hlo hll;go_wp2
          go_roundw
          case rel=>exact⟨o,oa,oc,on,rfl,rfl,HGR,by omega,by omega,by have:=HGG.out;have:=HE.out;omega,by rw[<-HE.out];exact ztw,hw5⟩
          case measure=>have:=HGG.out;have:=HE.out;simp only[zbk,intOf];omega
      . have HE:Hid (gg=on):=HO.out rfl (fun h=>hoi h.1)
        have d3:(on==i)=false:=beq_eq_false_iff_ne.2 hoi
        clear HN HS HO hin hlo hoi;go_wp2
        go_roundw
        case rel=>exact⟨o,oa,oc,on,rfl,rfl,HGR,by omega,by have:=HGG.out;have:=HE.out;omega,by have:=HGG.out;have:=HE.out;omega,by rw[<-HE.out];exact ztw,hw5⟩
        case measure=>have:=HGG.out;have:=HE.out;simp only[zbk,intOf];omega
   . have HV:=HTH2.out X (by rw[HQ.out];exact zp4 h0 hin) wr xa xc HG.out
     have HV2:Hid (LiA l ms (q:Int) L wr (.returned (.tuple #[.slice xa X.length xc,.int .i64 0]))):=HV
     have e1:decide (i<(X.length:Int))=false:=decide_eq_false hin
     clear HV HQ HG hpu hin;go_wp2
     go_ret2
     exact⟨HV2.out,hwr⟩
theorem zop(l:List Lk)(ms:List Bool)(Sl Sm S:Nat->Prop)(la:Option Addr)(lc:Nat)(mb:Option Addr)(mc:Nat)(ka:Option Addr)(kc:Nat)(ks:List Int)(a:Option Addr)(ca:Nat)(L:List Int)(w:World)
    (hl:Gr LkE Sl w la lc l) (hms:Gr El.bool Sm w mb mc ms) (hk:Ri w ka kc ks) (hL:Gr El.int S w a ca L) (hle:L.length<=200) :
    Calls Tryz.prog 30 #[.slice la l.length lc,.slice ka ks.length kc,.slice mb ms.length mc,.slice a L.length ca] w fun e w'=>AlA l ms ks L w' e/\Below w.heap.size w w':=by
 have kl:=hL.lenB
 have kk:=hk.lenB
 have hcl:=zfh S a ca L w hL (by omega)
 have HK:Hid (Ri w ka kc ks):=hk
 have HLI:Hid (∀U,Below w.heap.size w U->∀(k:Int) xa xc X,I64 k->Gr El.int (fun _=>True) U xa xc X->X.length<=200->Calls Tryz.prog 58 #[.slice la l.length lc,.int .i64 k,.slice mb ms.length mc,.slice xa X.length xc] U fun e w'=>LiA l ms k X w' e/\Below U.heap.size U w'):=fun U hU k xa xc X hk hX hXl=>zji l ms Sl Sm (fun _=>True) la lc mb mc k xa xc X U (hl.below hU) (hms.below hU) hX hk hXl
 clear hl hms hk hL
 go_enter Tryz.func30,Tryz.ntmps30
 go_wp2_with fail
 refine hcl.mono ?_
 rintro e u ⟨⟨v,rfl,hv⟩,hbu⟩
 obtain⟨va,vc,rfl,hvg⟩:=hv.io.grL (S:=fun _=>True)
 clear hcl hv;go_wp2
 go_loopw [10,11] (fun vl vi wr=>∃(X:List Int) (xa:Option Addr) (xc:Nat) (r:Nat),vl=.slice xa X.length xc/\vi=.int .i64 r/\r<=ks.length/\Hid (Gr El.int (fun _=>True) wr xa xc X)/\X.length<=200/\Hid (alP l ms ks L=alP l ms (ks.drop r) X)/\Below w.heap.size w wr) (fun _ vi _=>ks.length-(intOf vi).toNat)
 case atStart=>exact⟨L,va,vc,0,rfl,rfl,Nat.zero_le _,hvg,hle,rfl,hbu⟩
 case round =>
  clear hvg hbu;obtain⟨X,xa,xc,r,rfl,rfl,hr,HG,hX,HQ,hB⟩:=hrel
  by_cases hrn:r<ks.length
  . obtain⟨kb,ko,rfl,hkb,c0⟩:=HK.out.at hB r hrn
    have hkr:=HK.out.i64 hrn
    have HON:Hid (liE l ms (ks.getD r 0) X=0->alP l ms ks L=alP l ms (ks.drop (r+1)) (liL l ms (ks.getD r 0) X)):=fun h=>by rw[HQ.out,zu3 hrn h]
    have HOF:Hid (¬liE l ms (ks.getD r 0) X=0->alP l ms ks L=(liE l ms (ks.getD r 0) X,[])):=fun h=>by rw[HQ.out,zrk hrn h]
    have HLE:Hid (liE l ms (ks.getD r 0) X=0->(liL l ms (ks.getD r 0) X).length<=100):=li_le
    have hli:=HLI.out wr hB (ks.getD r 0) xa xc X hkr HG.out hX
    obtain⟨k,hk⟩:∃k,ks.getD r 0=k:=⟨_,rfl⟩
    rw[hk]at hli HON HOF HLE c0
    have i1:(0:Int)<=(r:Int):=by omega
    have i2:(r:Int)<(ks.length:Int):=by omega
    clear HG HQ hk hkr
    go_wp2_with fail
    refine hli.mono ?_
    rintro e u2 ⟨⟨oa,oc,rfl,hgr⟩,hb2⟩
    have zaf:=hB.trans (hb2.mono hB.size)
    generalize liL l ms k X=o at hgr HON HLE
    generalize liE l ms k X=ee at HON HOF HLE
    have HGR:Hid (Gr El.int (fun _=>True) u2 oa oc o):=hgr
    clear hli hgr hb2 c0 hB
    by_cases he:ee=0
    . subst he
      have HQ2:Hid (alP l ms ks L=alP l ms (ks.drop (r+1)) o):=HON.out rfl
      have hol:=HLE.out rfl
      clear HON HOF HLE;go_wp2
      go_roundw
      case rel=>exact⟨o,oa,oc,r+1,rfl,by go_num,by omega,HGR,by omega,HQ2,zaf⟩
      case measure=>simp[intOf];omega
    . have HV:Hid (AlA l ms ks L u2 (.returned (.tuple #[.slice none 0 0,.int .i64 ee]))):=AlA.yes (X:=[]) (HOF.out he) (Gr.nil _ _ _ _ _ (Nat.zero_le _) (fun _=>rfl))
      have g1:(ee != 0)=true:=bne_iff_ne.2 he
      clear HON HOF HLE he;go_wp2
      go_ret2
      exact⟨HV.out,zaf⟩
  . have HV:Hid (AlA l ms ks L wr (.returned (.tuple #[.slice xa X.length xc,.int .i64 0]))):=AlA.yes (by rw[HQ.out,show r=ks.length by omega];exact zrl) HG.out
    have g4:¬(r:Int)<(ks.length:Int):=by omega
    clear HG HQ;go_wp2
    go_ret2
    exact⟨HV.out,hB⟩
theorem zic(S S2:Nat->Prop)(b:Option Addr)(cb:Nat)(l:List Cn)(a:Option Addr)(ca:Nat)(cs:List Int)(w:World)(hl:Gr CnE S w b cb l)(hc:Gr El.int S2 w a ca cs) :
 Calls Tryz.prog 94 #[.slice b l.length cb,.slice a cs.length ca] w fun e w'=>e=.returned (.bool (hoB cs l))/\w=w':=by
 have kl:=hl.lenB
 have kc:=hc.lenB
 have HL:Hid (Gr CnE S w b cb l):=hl
 have HC:Hid (Gr El.int S2 w a ca cs):=hc
 clear hl hc
 go_enter Tryz.func94,Tryz.ntmps94
 go_wp2
 go_loopw [5] (fun i wr=>∃k:Nat,k<=l.length/\i=.int .i64 k/\Hid (∀j,j<k->hoC cs (l.getD j Cn.none)=true)/\wr=w) (fun i _=>l.length-(intOf i).toNat)
 case atStart=>exact⟨0,Nat.zero_le _,rfl,(fun j hj=>by omega),rfl⟩
 case round =>
  obtain⟨k,hk,rfl,HOK,rfl⟩:=hrel
  by_cases hkn:k<l.length
  . obtain⟨b1,off,rfl,hb,⟨m1,m2,m3⟩,d0,d1,d2⟩:=HL.out.cn (Below.refl _ _) k hkn
    have zav:Hid (hoC cs (l.getD k Cn.none)=false->hoB cs l=false):=zup hkn
    have HXX:Hid (∀x,l.getD k Cn.none=x->hoC cs x=true->∀j,j<k+1->hoC cs (l.getD j Cn.none)=true):=fun x e h j hj=>by
     rcases Nat.lt_or_ge j k with h1|h1
     . exact HOK.out j h1
     . rw[show j=k by omega,e];exact h
    obtain⟨x,hx⟩:∃x,l.getD k Cn.none=x:=⟨_,rfl⟩
    have HX2:Hid (_):=HXX.out x hx
    rw[hx]at d0 d1 d2 m1 m2 m3 zav;clear hx HXX HOK;obtain⟨x1,x2,x3⟩:=x
    dsimp only at *
    have i1:(0:Int)<=(k:Int):=by omega
    have i2:(k:Int)<(l.length:Int):=by omega
    by_cases h0:0<=x1
    rotate_left
    . have HF:Hid (hoB cs l=false):=zav.out (by unfold hoC;rw[decide_eq_false h0];rfl)
      have g0:x1<0:=by omega
      clear zav HX2 h0;go_wp2
      go_ret
      exact⟨zaa HF.out.symm,rfl⟩
    have HQ:Hid (hoC cs ⟨x1,x2,x3⟩=(decide (x2<=cs.getD x1.toNat 0)&&decide (cs.getD x1.toNat 0<=x3))):=zuo h0
    obtain⟨q,rfl⟩:∃q:Nat,x1=(q:Int):=⟨x1.toNat,by omega⟩
    rw[Int.toNat_natCast]at HQ
    have g0:¬(q:Int)<0:=by omega
    have i3:(0:Int)<=(q:Int):=by omega
    by_cases hq:q<cs.length
    . obtain⟨b2,off2,rfl,hb2,hI,d4⟩:=HC.out.in1 (Below.refl _ _) q hq
      have g1:(q:Int)<(cs.length:Int):=by omega
      obtain⟨z,hz⟩:∃z,cs.getD q 0=z:=⟨_,rfl⟩
      rw[hz]at d4 HQ;clear hz hI
      by_cases h1:x2<=z
      rotate_left
      . have HF:Hid (hoB cs l=false):=zav.out (by rw[HQ.out,decide_eq_false h1];rfl)
        have g2:decide (z<x2)=true:=decide_eq_true (by omega)
        clear zav HX2 HQ h1;go_wp2
        go_ret
        exact⟨zaa HF.out.symm,rfl⟩
      have g2:decide (z<x2)=false:=decide_eq_false (by omega)
      by_cases h2:z<=x3
      . have za9:Hid (_):=HX2.out (by rw[HQ.out,decide_eq_true h1,decide_eq_true h2];rfl)
        have g3:decide (x3<z)=false:=decide_eq_false (by omega)
        clear zav HX2 HQ h1 h2;go_wp2
        go_roundw
        case rel=>exact⟨k+1,by omega,by go_num,za9,trivial⟩
        case measure=>simp[intOf];omega
      . have HF:Hid (hoB cs l=false):=zav.out (by rw[HQ.out,decide_eq_true h1,decide_eq_false h2];rfl)
        have g3:decide (x3<z)=true:=decide_eq_true (by omega)
        clear zav HX2 HQ h1 h2;go_wp2
        go_ret
        exact⟨zaa HF.out.symm,rfl⟩
    . have g1:¬(q:Int)<(cs.length:Int):=by omega
      have hz:cs.getD q 0=0:=by rw[List.getD_eq_getElem?_getD,List.getElem?_eq_none (by omega)];rfl
      rw[hz]at HQ;clear hz
      by_cases h1:x2<=0
      rotate_left
      . have HF:Hid (hoB cs l=false):=zav.out (by rw[HQ.out,decide_eq_false h1];rfl)
        have g2:decide (0<x2)=true:=decide_eq_true (by omega)
        clear zav HX2 HQ h1;go_wp2
        go_ret
        exact⟨zaa HF.out.symm,rfl⟩
      have g2:decide (0<x2)=false:=decide_eq_false (by omega)
      by_cases h2:0<=x3
      . have za9:Hid (_):=HX2.out (by rw[HQ.out,decide_eq_true h1,decide_eq_true h2];rfl)
        have g3:decide (x3<0)=false:=decide_eq_false (by omega)
        clear zav HX2 HQ h1 h2;go_wp2
        go_roundw
        case rel=>exact⟨k+1,by omega,by go_num,za9,trivial⟩
        case measure=>simp[intOf];omega
      . have HF:Hid (hoB cs l=false):=zav.out (by rw[HQ.out,decide_eq_true h1,decide_eq_false h2];rfl)
        have g3:decide (x3<0)=true:=decide_eq_true (by omega)
        clear zav HX2 HQ h1 h2;go_wp2
        go_ret
        exact⟨zaa HF.out.symm,rfl⟩
  . have HF:Hid (hoB cs l=true):=zqf.2 (fun j hj=>HOK.out j (by omega))
    have g4:¬(k:Int)<(l.length:Int):=by omega
    clear HOK;go_wp2
    go_ret
    exact⟨zaa HF.out.symm,rfl⟩
theorem zib(S:Nat->Prop)(a:Option Addr)(ca:Nat)(l:List Ft)(b:Option Addr)(cb:Nat)(sw:List Sw)(n:Int)(c:Option Addr)(cc:Nat)(cs:List Int)(w:World)(hl:Gr FtE S w a ca l)(hs:Gr SwE S w b cb sw)(hc:Gr El.int S w c cc cs)(hn:I64 n)(hb1:∀f∈l,f.lk.length<=1000)(hb2:∀x∈sw,x.lk.length<=1000) :
 Calls Tryz.prog 60 #[.slice a l.length ca,.slice b sw.length cb,.int .i64 n,.slice c cs.length cc] w fun e w'=>RowF (lkQ l sw n cs) w.heap.size w' e/\Below w.heap.size w w':=by
 have kl:=hl.lenB
 have ks:=hs.lenB
 obtain⟨hn0,hn1⟩:=hn
 have HL:Hid (Gr FtE S w a ca l):=hl
 have HS:Hid (Gr SwE S w b cb sw):=hs
 have HC:Hid (Gr El.int S w c cc cs):=hc
 have HB1:Hid (∀f∈l,f.lk.length<=1000):=hb1
 have HB2:Hid (∀x∈sw,x.lk.length<=1000):=hb2
 have hnil:Gi w.heap.size w (.slice none 0 0) []:=Gi.nil _ _
 have HNIL:Hid (_):=hnil
 clear hl hs hc hb1 hb2 hnil
 by_cases f1:0<=n
 rotate_left
 . have HV:Hid (RowF (lkQ l sw n cs) w.heap.size w (.returned (.slice none 0 0))):=⟨_,rfl,by rw[zj7 (fun h=>f1 h.1)];exact HNIL.out⟩
   have g1:decide (n<0)=true:=decide_eq_true (by omega)
   clear f1
   go_enter Tryz.func60,Tryz.ntmps60
   go_wp2
   go_ret
   exact⟨HV.out,Below.refl _ _⟩
 have g1:decide (n<0)=false:=decide_eq_false (by omega)
 by_cases f2:n<(l.length:Int)
 rotate_left
 . have HV:Hid (RowF (lkQ l sw n cs) w.heap.size w (.returned (.slice none 0 0))):=⟨_,rfl,by rw[zj7 (fun h=>f2 h.2)];exact HNIL.out⟩
   have g2:decide ((l.length:Int)<=n)=true:=decide_eq_true (by omega)
   clear f1 f2
   go_enter Tryz.func60,Tryz.ntmps60
   go_wp2
   go_ret
   exact⟨HV.out,Below.refl _ _⟩
 have g2:decide ((l.length:Int)<=n)=false:=decide_eq_false (by omega)
 have hn2:0<=n/\n<(l.length:Int):=⟨f1,f2⟩
 obtain⟨m,rfl⟩:∃m:Nat,n=(m:Int):=⟨n.toNat,by omega⟩
 have zzx:Hid (fsS cs (m:Int) sw=none->lkQ l sw (m:Int) cs=(l.getD m Ft.none).lk):=fun h=>zpx hn2 h
 have HSW:Hid (∀x,fsS cs (m:Int) sw=some x->lkQ l sw (m:Int) cs=x):=fun x h=>zui hn2 h
 have hml:m<l.length:=by omega
 have g3:decide (l.length<=m)=false:=decide_eq_false (by omega)
 clear hn2 f1 f2
 go_enter Tryz.func60,Tryz.ntmps60
 go_wp2;clear g1 g2 g3
 go_loopw [10] (fun i wr=>∃k:Nat,k<=sw.length/\i=.int .i64 k/\Hid (fsS cs (m:Int) sw=fsS cs (m:Int) (sw.drop k))/\Below w.heap.size w wr) (fun i _=>sw.length-(intOf i).toNat)
 case atStart=>exact⟨0,Nat.zero_le _,rfl,(rfl:fsS cs (m:Int) sw=_),Below.refl _ _⟩
 case round =>
  obtain⟨k,hk,rfl,HOK,hB⟩:=hrel
  by_cases hkn:k<sw.length
  . obtain⟨b1,off,a1,c1,a2,c2,rfl,hb,hI,d0,d1,d2,hr1,hr2⟩:=HS.out.sw hB k hkn
    have HSK:Hid (¬((sw.getD k Sw.none).ft=(m:Int)/\hoB cs (sw.getD k Sw.none).cn=true)->fsS cs (m:Int) sw=fsS cs (m:Int) (sw.drop (k+1))):=fun h=>HOK.out.trans (zl2 hkn h)
    have HMT:Hid ((sw.getD k Sw.none).ft=(m:Int)/\hoB cs (sw.getD k Sw.none).cn=true->lkQ l sw (m:Int) cs=(sw.getD k Sw.none).lk):=fun h=>HSW.out _ (HOK.out.trans (zqn hkn h))
    have hln:=HB2.out _ (zc4 (d:=Sw.none) hkn)
    generalize sw.getD k Sw.none=x at *
    obtain⟨cn,ft,lk⟩:=x
    dsimp only at *
    clear HOK
    have i1:(0:Int)<=(k:Int):=by omega
    have i2:(k:Int)<(sw.length:Int):=by omega
    have hp:=zic S S a1 c1 cn c cc cs wr (zb0 hr1).1 (HC.out.below hB)
    have HR2:Hid (Gr El.int (fun k=>False/\(Value.slice none 0 0).ownBlock≠some k) wr a2 c2 lk):=(zb0 hr2).1.anyF
    clear hr1 hr2
    by_cases hft:ft=(m:Int)
    rotate_left
    . have g0:(ft==(m:Int))=false:=beq_eq_false_iff_ne.2 hft
      have za9:Hid (_):=HSK.out (fun h=>hft h.1)
      clear HSK HMT hp HR2 hft;go_wp2
      go_roundw
      case rel=>exact⟨k+1,by omega,by go_num,za9,hB⟩
      case measure=>simp[intOf];omega
    have g0:(ft==(m:Int))=true:=beq_iff_eq.2 hft
    cases hh:hoB cs cn with
    | false =>
     rw[hh]at hp
     have za9:Hid (_):=HSK.out (fun h=>by rw[hh]at h;cases h.2)
     clear HSK HMT HR2 hh hft
     go_wp2_with fail
     refine hp.mono ?_
     rintro e u ⟨rfl,rfl⟩;clear hp;go_wp2
     go_roundw
     case rel=>exact⟨k+1,by omega,by go_num,za9,hB⟩
     case measure=>simp[intOf];omega
    | true =>
     rw[hh]at hp
     have HE:Hid (lkQ l sw (m:Int) cs=lk):=HMT.out ⟨hft,hh⟩
     clear HSK HMT hh hft
     go_wp2_with fail
     refine hp.mono ?_
     rintro e u ⟨rfl,rfl⟩;clear hp
     have hll:([]:List Int).length+lk.length<=1000000:=by simp;omega
     have hW:=hB.size
     go_wp2_with (at_builtin;refine zab (E:=El.int) 37 3 Tryz.underlying37 zbn rfl (by decide) (by decide) rfl _ _ rfl w.heap.size (fun _=>False) _ [] rfl (Gi.nil _ _) _ _ _ lk rfl rfl HR2.out hll hW ?_)
     intro v1 w1 hT1 hgrow _
     have hB1:Below w.heap.size w w1:=hB.grown hgrow hW (fun k hk=>by simp[Value.ownBlock]at hk)
     have HV:Hid (RowF (lkQ l sw (m:Int) cs) w.heap.size w1 (.returned v1)):=⟨v1,rfl,by rw[HE.out];exact hT1⟩
     clear hgrow hT1 hll hW d0 d1 d2;go_wp2
     go_ret
     exact⟨HV.out,hB1⟩
  . have hks:k=sw.length:=by omega
    have HE:Hid (lkQ l sw (m:Int) cs=(l.getD m Ft.none).lk):=zzx.out (by rw[HOK.out,hks];exact zqo)
    have g4:¬(k:Int)<(sw.length:Int):=by omega
    obtain⟨b1,off,a1,c1,rfl,hb,hsz,d0,d1,hr⟩:=HL.out.ft hB m hml
    have hln:=HB1.out _ (zc4 (d:=Ft.none) hml)
    generalize l.getD m Ft.none=x at *
    obtain⟨tg,lk⟩:=x
    dsimp only at *
    have i1:(0:Int)<=(m:Int):=by omega
    have i2:(m:Int)<(l.length:Int):=by omega
    have HR2:Hid (Gr El.int (fun k=>False/\(Value.slice none 0 0).ownBlock≠some k) wr a1 c1 lk):=(zb0 hr).1.anyF
    have hll:([]:List Int).length+lk.length<=1000000:=by simp;omega
    have hW:=hB.size
    clear HOK hks hr zzx HSW
    go_wp2_with (at_builtin;refine zab (E:=El.int) 37 3 Tryz.underlying37 zbn rfl (by decide) (by decide) rfl _ _ rfl w.heap.size (fun _=>False) _ [] rfl (Gi.nil _ _) _ _ _ lk rfl rfl HR2.out hll hW ?_)
    intro v1 w1 hT1 hgrow _
    have hB1:Below w.heap.size w w1:=hB.grown hgrow hW (fun k hk=>by simp[Value.ownBlock]at hk)
    have HV:Hid (RowF (lkQ l sw (m:Int) cs) w.heap.size w1 (.returned v1)):=⟨v1,rfl,by rw[HE.out];exact hT1⟩
    clear hgrow hT1 hll hW d0 d1;go_wp2
    go_ret
    exact⟨HV.out,hB1⟩
theorem zmt(S:Nat->Prop)(a:Option Addr)(ca:Nat)(on:List ByteArray)(t:ByteArray)(w:World)(hl:Gr El.str S w a ca on) :
 Calls Tryz.prog 59 #[.slice a on.length ca,.string t] w fun e w'=>e=.returned (.bool (hasT on t))/\w=w':=by
 have kl:=hl.lenB
 have HL:Hid (Gr El.str S w a ca on):=hl
 clear hl
 go_enter Tryz.func59,Tryz.ntmps59
 go_wp2
 go_loopw [5] (fun i wr=>∃k:Nat,k<=on.length/\i=.int .i64 k/\Hid (∀j,j<k->on.getD j ⟨#[]⟩≠t)/\wr=w) (fun i _=>on.length-(ioF i).toNat)
 case atStart=>exact⟨0,Nat.zero_le _,rfl,(fun j hj=>by omega),rfl⟩
 case round =>
  obtain⟨k,hk,rfl,HNO,rfl⟩:=hrel
  by_cases hkn:k<on.length
  . obtain⟨b,off,rfl,hb,hW,d0⟩:=HL.out.st1 (Below.refl _ _) k hkn
    have HFA:Hid (on.getD k ⟨#[]⟩=t->hasT on t=true):=zqi hkn
    have HN2:Hid (on.getD k ⟨#[]⟩≠t->∀j,j<k+1->on.getD j ⟨#[]⟩≠t):=fun hn j hj=>by
     rcases Nat.lt_or_ge j k with h1|h1
     . exact HNO.out j h1
     . rw[show j=k by omega];exact hn
    have i1:(0:Int)<=(k:Int):=by omega
    have i2:(k:Int)<(on.length:Int):=by omega
    generalize on.getD k ⟨#[]⟩=x at *
    by_cases htx:x=t
    . subst htx
      have HF:Hid (hasT on x=true):=HFA.out rfl
      clear HNO HN2 HFA;go_wp2
      go_ret
      exact⟨zaa HF.out.symm,rfl⟩
    . have hbq:=zt0 (a:=x) (b:=t) htx
      have HNN:Hid (∀j,j<k+1->on.getD j ⟨#[]⟩≠t):=HN2.out htx
      clear HNO HN2 HFA htx;go_wp2
      go_roundw
      case rel=>exact⟨k+1,by omega,by go_num,HNN,trivial⟩
      case measure=>simp[ioF,Go.RowKit.intOf];omega
  . have HF:Hid (hasT on t=false):=zqh (fun j hj=>HNO.out j (by omega))
    have g4:¬(k:Int)<(on.length:Int):=by omega
    clear HNO;go_wp2
    go_ret
    exact⟨zaa HF.out.symm,rfl⟩
