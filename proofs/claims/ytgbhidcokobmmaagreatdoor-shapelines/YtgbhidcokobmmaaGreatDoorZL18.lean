import Derived.Test.YtgbhidcokobmmaaGreatDoorZL17
import Derived.Laws.OwnMore
set_option maxHeartbeats 8000000
set_option maxRecDepth 100000
set_option linter.unusedSimpArgs false
set_option linter.unusedVariables false
namespace Go.Proofs.YtgbhidcokobmmaaGreatDoor
open Go.RowKit Go.Maps
theorem Box.new1S(t:TypeId)(w:World)(o:Obj)(x y z:Value):Box t ((w.alloc o).alloc (.cells #[x,y,z] t)) (w.heap.size+1) x y z:=by
 have h:=Box.new t (w.alloc o) x y z
 simpa using h
theorem zxy{s:Sr}{i:Int}(h:hrB s i=false):rwB s i=false:=by
 rw[Bool.eq_false_iff]
 intro e
 have:=zor.1 e
 rw[hrB,decide_eq_true this.1,decide_eq_true this.2.1]at h
 cases h
theorem zkq(a:Option Addr)(ca:Nat)(b:Option Addr)(cb:Nat)(s:Sr)(i:Int)(pa:Option Addr)(pc:Nat)(cs:List Int)(w:World)(hg:Tzz w a ca s.rg)(hm:Rii w b cb s.rw)(hp:Ri w pa pc cs)(hl:s.rg.length<=40)(h8:∀l∈s.rg,l.length<=8) :
 Calls Tryz.prog 81 #[.agg #[.slice a s.rg.length ca,.slice b s.rw.length cb],.int .i64 i,.slice pa cs.length pc] w fun e w'=>∃v',e=.returned v'/\Fr w' v' 1000 (chQ s i cs)/\Below w.heap.size w w':=by
 have k1:=hg.lenB
 have k2:=hm.lenB
 have k3:=hp.lenB
 have HG:Hid (Tzz w a ca s.rg):=hg
 have HM:Hid (Rii w b cb s.rw):=hm
 have HP:Hid (Ri w pa pc cs):=hp
 have HL8:Hid (∀l∈s.rg,l.length<=8):=h8
 clear hg hm hp h8
 obtain⟨W,hW,X1,B0,hbW⟩:∃W,W=(w.alloc (.cells #[.slice a s.rg.length ca,.slice b s.rw.length cb] 27)).alloc (.cells #[.bool false,.slice none 0 0,.slice none 0 0] 96)/\BxS W w.heap.size (.slice a s.rg.length ca) (.slice b s.rw.length cb)/\Box 96 W (w.heap.size+1) (.bool false) (.slice none 0 0) (.slice none 0 0)/\Below w.heap.size w W:=⟨_,rfl,(BxS.new _ _ _).below (bl1 _),Box.new1S _ _ _ _ _ _,bl2 _ _⟩
 have hhr:=fun U=>zf1 (.slice a s.rg.length ca) b cb s i U k2 rfl
 cases hh:hrB s i with
 | false =>
  have HQ:Hid (((0:Int):Rat)=chQ s i cs):=by show _=_;rw[zgp (zxy hh)];rfl
  simp only[hh]at hhr
  clear hh
  go_enter Tryz.func81,Tryz.ntmps81
  go_upto_region 1 with fail
  rw[<-hW];clear hW;obtain⟨p00,p01,_⟩:=X1.cells
  refine wp_region_held_drew (S:=(fun u=>u.cell? ⟨w.heap.size,0,none⟩=some (.slice a s.rg.length ca)/\u.cell? ⟨w.heap.size,1,none⟩=some (.slice b s.rw.length cb))) (by kernel_rfl) ?_ (fun hH=>?_)
  . (try dsimp only)
    go_keep
  have hdr:Below W.heap.size W W.drew:=Below.drew1
  generalize W.drew=ud1 at hdr hH ⊢
  replace B0:=B0.below hdr;replace X1:=X1.below hdr
  replace hbW:Below w.heap.size w ud1:=hbW.trans (hdr.mono hbW.size)
  clear hdr;clear p00 p01;obtain⟨p00,p01,_⟩:=X1.cells;refine hT 0 hH ?_;refine hT 1 hH ?_
  refine hCall (i:=2) rfl (by kernel_rfl) (by rfl) (fun K hK=>?_)
  go_simp
  refine(hhr _).mono ?_
  rintro e u1 ⟨rfl,hb1⟩;replace B0:=B0.below hb1;replace X1:=X1.below hb1
  replace hbW:Below w.heap.size w u1:=hbW.trans (hb1.mono hbW.size)
  clear hb1;clear p00 p01;obtain⟨p00,p01,_⟩:=X1.cells
  go_wp2_with fail
  refine hK.out _ _ ?_ (fun hH=>?_)
  . (try dsimp only)
    exact⟨p00,p01⟩
  clear hK K
  try simp only[Act.put,pZ]
  refine hT 3 hH ?_;refine hT 4 hH ?_;refine hN 5 hH ?_;refine hN 6 hH ?_;refine hN 7 hH ?_;refine hN 8 hH ?_;refine hN 9 hH ?_;refine hN 10 hH ?_;refine hN 11 hH ?_;refine hN 12 hH ?_;refine hN 13 hH ?_;refine hN 14 hH ?_;refine hT 15 hH ?_
  refine wpAnyH_done (by kernel_rfl) ?_ _
  clear hH
  go_wp2_with fail
  refine(zay 0 _ (by decide) (by decide)).mono ?_
  rintro e u8 ⟨v9,rfl,hF9,hb8⟩;replace B0:=B0.below hb8
  replace hbW:=hbW.trans (hb8.mono hbW.size)
  clear hb8;rw[HQ.out]at hF9;obtain⟨n9,x9,y9,⟨a9,c9,b9,d9,rfl,hx9,hy9⟩,hF9⟩:=hF9;obtain⟨q1,q2,q3,q4,q5,q6⟩:=B0.cells
  have hs:=B0.lt
  go_wp2
  refine ret3 (v:=.agg #[.bool n9,.slice a9 x9.length c9,.slice b9 y9.length d9]) B0 rfl (fun U hU=>by obtain⟨r1,r2,r3,_⟩:=hU.cells;simp[results,Tryz.results81,go_sem,r1,r2,r3]) (fun U hU hK=>⟨_,rfl,Fr.le (k:=2) ⟨_,_,_,⟨_,_,_,_,rfl,hK _ _ _ hx9,hK _ _ _ hy9⟩,hF9⟩ (by decide),hU _ _ hbW (by omega)⟩)
 | true =>
  simp only[hh]at hhr
  have hij:0<=i/\i<(s.rw.length:Int):=by
   rw[hrB,Bool.and_eq_true,decide_eq_true_iff,decide_eq_true_iff]at hh
   exact hh
  clear hh
  obtain⟨j,rfl⟩:∃j:Nat,i=(j:Int):=⟨i.toNat,(Int.toNat_of_nonneg hij.1).symm⟩
  have hj:j<s.rw.length:=by omega
  obtain⟨b1,o1,a1,c1,ea,hb1,d0,hr⟩:=HM.out.2.2 j hj
  have HRQ:Hid (rwB s (j:Int)=decide ((s.rw.getD j []).length=s.rg.length)):=by
   show _=_
   rw[rwB,Int.toNat_natCast]
   exact decide_eq_decide.2 ⟨fun h=>h.2.2,fun h=>⟨hij.1,hij.2,h⟩⟩
  have HCQ:Hid (rwB s (j:Int)=true->chQ s (j:Int) cs=chK s.rg (s.rw.getD j []) cs s.rg.length):=fun h=>by rw[zrb h,Int.toNat_natCast]
  obtain⟨r,hrr⟩:∃r,s.rw.getD j []=r:=⟨_,rfl⟩
  rw[hrr]at d0 hr HRQ HCQ
  have HR:Hid (Ri w a1 c1 r):=hr
  have k4:=hr.lenB
  subst ea
  have A0:Cl W b1 (o1+j) (.slice a1 r.length c1):=⟨Nat.lt_of_lt_of_le hb1 hbW.size,(hbW.cell (p:=⟨b1,o1+j,none⟩) hb1).trans d0⟩
  clear hrr hr
  have i1:(0:Int)<=(j:Int):=by omega
  have i2:(j:Int)<(s.rw.length:Int):=by omega
  clear d0
  by_cases hlen:r.length=s.rg.length
  . have HQ:Hid (chK s.rg r cs r.length=chQ s (j:Int) cs):=by show _=_;rw[HCQ.out (by rw[HRQ.out];exact decide_eq_true hlen),hlen]
    have g5:((r.length:Int) != (s.rg.length:Int))=false:=by simp[hlen]
    have HLN:Hid (r.length=s.rg.length):=hlen
    have q0:=A0.2
    clear HRQ HCQ hlen
    go_enter Tryz.func81,Tryz.ntmps81
    go_upto_region 1 with fail
    rw[<-hW];clear hW;obtain⟨p00,p01,_⟩:=X1.cells
    refine wp_region_held_drew (S:=(fun u=>u.cell? ⟨w.heap.size,0,none⟩=some (.slice a s.rg.length ca)/\u.cell? ⟨w.heap.size,1,none⟩=some (.slice (some ⟨b1,o1,none⟩) s.rw.length cb)/\u.cell? ⟨b1,o1+j,none⟩=some (.slice a1 r.length c1))) (by kernel_rfl) ?_ (fun hH=>?_)
    . (try dsimp only)
      go_keep
    have hdr:Below W.heap.size W W.drew:=Below.drew1
    generalize W.drew=ud2 at hdr hH ⊢
    replace A0:=A0.below hdr;replace B0:=B0.below hdr;replace X1:=X1.below hdr
    replace hbW:Below w.heap.size w ud2:=hbW.trans (hdr.mono hbW.size)
    clear hdr;clear p00 p01;obtain⟨p00,p01,_⟩:=X1.cells;refine hT 0 hH ?_;refine hT 1 hH ?_
    refine hCall (i:=2) rfl (by kernel_rfl) (by rfl) (fun K hK=>?_)
    go_simp
    refine(hhr _).mono ?_
    rintro e u1 ⟨rfl,hb1⟩;replace A0:=A0.below hb1;replace B0:=B0.below hb1;replace X1:=X1.below hb1
    replace hbW:Below w.heap.size w u1:=hbW.trans (hb1.mono hbW.size)
    clear hb1;clear p00 p01;obtain⟨p00,p01,_⟩:=X1.cells
    go_wp2_with fail
    refine hK.out _ _ ?_ (fun hH=>?_)
    . (try dsimp only)
      exact⟨p00,p01,A0.2⟩
    clear hK K
    try simp only[Act.put,pZ]
    refine hT 3 hH ?_;refine hT 4 hH ?_;refine hT 5 hH ?_;refine hT 6 hH ?_;refine hT 7 hH ?_;refine hT 8 hH ?_;refine hT 9 hH ?_;refine hT 10 hH ?_;refine hT 11 hH ?_;refine hT 12 hH ?_;refine hT 13 hH ?_;refine hT 14 hH ?_;refine hT 15 hH ?_
    refine wpAnyH_done (by kernel_rfl) ?_ _
    clear hH hhr
    have q0:=A0.2
    go_wp2
    have HX:Hid (BxS u1 w.heap.size (.slice a s.rg.length ca) (.slice (some ⟨b1,o1,none⟩) s.rw.length cb)):=X1
    have HB0:Hid (Box 96 u1 (w.heap.size+1) (.bool false) (.slice none 0 0) (.slice none 0 0)):=B0
    have HBW:Hid (Below w.heap.size w u1):=hbW
    clear X1 B0 hbW A0 q0 p00 p01 g5
    go_loopw [7,34] (fun v i wr=>∃(k:Nat) (qs:List Rat),k<=r.length/\i=.int .i64 (k:Int)/\qs.length<=k/\suQ qs=chK s.rg r cs k/\Ro 96 u1.heap.size wr v 20 qs/\Below u1.heap.size u1 wr) (fun _ i _=>r.length-(intOf i).toNat)
    case atStart=>exact⟨0,[],Nat.zero_le _,rfl,Nat.le_refl _,rfl,Ro.nil _ _ _ _,Below.refl _ _⟩
    case round =>
     obtain⟨k,qs,hk,rfl,hql,hsum,hT,hBV⟩:=hrel;obtain⟨a2,c2,rfl,hts⟩:=hT.slice
     have HT:Hid (Ro 96 u1.heap.size wr (.slice a2 qs.length c2) 20 qs):=hT
     have HSU:Hid (suQ qs=chK s.rg r cs k):=hsum
     clear hT hsum
     have hbW:=HBW.out.trans (hBV.mono HBW.out.size)
     by_cases hkn:k<r.length
     . clear hts
       have hkg:k<s.rg.length:=by rw[<-HLN.out];exact hkn
       obtain⟨rb,ro,er,hrb,dz⟩:=HR.out.at hbW k hkn
       subst er
       have hzi:=HR.out.i64 hkn
       obtain⟨z,hz⟩:∃z,r.getD k 0=z:=⟨_,rfl⟩
       have HZ:Hid (r.getD k 0=z):=hz
       rw[hz]at dz hzi;clear hz
       by_cases hz0:z=0
       . have g6:(z==0)=true:=by simp[hz0]
         have HS2:Hid (suQ qs=chK s.rg r cs (k+1)):=zl9 HSU.out (.inl (by rw[HZ.out,hz0]))
         clear hz0 HZ HSU;go_wp2
         go_roundw
         case rel=>exact⟨k+1,qs,by omega,by go_num,by omega,HS2.out,HT.out,hBV⟩
         case measure=>simp[intOf];omega
       have g6:(z==0)=false:=by simp[hz0]
       obtain⟨b3,o3,a3,c3,e3,hb3,d3,hl3⟩:=HG.out.at hbW k hkg
       have hl8:=HL8.out _ (zl0 hkg)
       obtain⟨l,hl⟩:∃l,s.rg.getD k []=l:=⟨_,rfl⟩
       have HL:Hid (s.rg.getD k []=l):=hl
       rw[hl]at d3 hl3 hl8;subst e3;clear hl hz0
       have X1:=HX.out.below hBV
       obtain⟨q1,q2,_⟩:=X1.cells
       have hp:=HP.out.below hbW
       have hca:=zre a3 c3 l pa pc cs wr hl3 hp (by omega)
       obtain⟨q,hq⟩:∃q,alQ l cs=q:=⟨_,rfl⟩
       have HQL:Hid (alQ l cs=q):=hq
       rw[hq]at hca;clear hq hp hl3
       go_wp2_with fail
       refine hca.mono ?_
       rintro e t1 ⟨v8,rfl,hF8,hb1⟩;obtain⟨n8,x8,y8,⟨a8,c8,b8,d8,rfl,hx8,hy8⟩,hF8⟩:=hF8
       obtain⟨U,hU,P8,hb9⟩:∃U,U=t1.alloc (.cells #[.bool n8,.slice a8 x8.length c8,.slice b8 y8.length d8] 96)/\Box 96 U t1.heap.size (.bool n8) (.slice a8 x8.length c8) (.slice b8 y8.length d8)/\Below t1.heap.size t1 U:=⟨_,rfl,Box.new _ _ _ _ _,al1 _⟩
       have hF8:Fr U (.agg #[.bool n8,.slice a8 x8.length c8,.slice b8 y8.length d8]) (2+2*l.length) q:=Fr.below ⟨_,_,_,⟨_,_,_,_,rfl,hx8,hy8⟩,hF8⟩ hb9
       have hbR:Below wr.heap.size wr U:=hb1.trans (hb9.mono hb1.size)
       have hg8:wr.heap.size<=t1.heap.size:=hb1.size
       clear hca hx8 hy8 X1 q1 q2 d3 dz
       go_wp2_with fail
       rw[<-hU];clear hU hb9 hb1
       generalize t1.heap.size=g8 at *
       refine(zin (2+2*l.length) q _ _ hF8.ct (by omega) (by omega)).mono ?_
       rintro e t2 ⟨rfl,hb2⟩;replace P8:=P8.below hb2;replace hF8:=hF8.below hb2
       replace hbR:=hbR.trans (hb2.mono hbR.size)
       replace hbW:=hbW.trans (hbR.mono hbW.size)
       clear hb2
       by_cases hq:q=0
       . have e1:sgnQ q=0:=zdm.2 hq
         have HS2:Hid (suQ qs=chK s.rg r cs (k+1)):=zl9 HSU.out (.inr (by rw[HL.out,HQL.out,hq]))
         have hT2:=HT.out.below hbR
         have hBV2:=hBV.trans (hbR.mono hBV.size)
         rw[e1];clear e1 hq HZ HSU hF8 P8 hbR hbW;go_wp2
         go_roundw
         case rel=>exact⟨k+1,qs,by omega,by go_num,by omega,HS2.out,hT2,hBV2⟩
         case measure=>simp[intOf];omega
       have HS2:Hid (suQ (qs++[((z:Int):Rat)*q])=chK s.rg r cs (k+1)):=by
        have:=zwz (k:=k) HSU.out
        rw[HZ.out,HL.out,HQL.out]at this
        exact this
       have e1:¬sgnQ q=0:=fun e=>hq (zdm.1 e)
       have g1:(sgnQ q != 0)=true:=by simp[e1]
       generalize sgnQ q=sg at *
       clear e1 hq HZ HSU HL HQL
       have hll:qs.length+1<=1000000:=by have:=HLN.out;omega
       go_upto_region 10 with fail
       obtain⟨p00,p01,p02,_⟩:=P8.cells
       refine wp_region_held_drew (S:=(fun u=>u.cell? ⟨g8,0,none⟩=some (.bool n8)/\u.cell? ⟨g8,1,none⟩=some (.slice a8 x8.length c8)/\u.cell? ⟨g8,2,none⟩=some (.slice b8 y8.length d8))) (by kernel_rfl) ?_ (fun hH=>?_)
       . (try dsimp only)
         go_keep
       have hdr:Below t2.heap.size t2 t2.drew:=Below.drew1
       generalize t2.drew=ud3 at hdr hH ⊢
       replace hF8:=hF8.below hdr;replace P8:=P8.below hdr
       replace hbW:Below w.heap.size w ud3:=hbW.trans (hdr.mono hbW.size)
       replace hbR:Below wr.heap.size wr ud3:=hbR.trans (hdr.mono hbR.size)
       clear hdr;clear p00 p01 p02;obtain⟨p00,p01,p02,_⟩:=P8.cells;refine hT 0 hH ?_;refine hT 1 hH ?_;refine hT 3 hH ?_
       refine hCall (i:=2) rfl (by kernel_rfl) (by rfl) (fun K hK=>?_)
       go_simp
       refine(zay z _ hzi.1 (by have:=hzi.2;omega)).mono ?_
       rintro e u3 ⟨v6,rfl,hF6,hb3⟩;replace hF8:=hF8.below hb3;replace P8:=P8.below hb3
       replace hbW:Below w.heap.size w u3:=hbW.trans (hb3.mono hbW.size)
       replace hbR:Below wr.heap.size wr u3:=hbR.trans (hb3.mono hbR.size)
       clear hb3;clear p00 p01 p02;obtain⟨p00,p01,p02,_⟩:=P8.cells
       go_wp2_with fail
       refine hK.out _ _ ?_ (fun hH=>?_)
       . (try dsimp only)
         exact⟨p00,p01,p02⟩
       clear hK K
       try simp only[Act.put,pZ]
       refine hCall (i:=4) rfl (by kernel_rfl) (by rfl) (fun K hK=>?_)
       go_simp
       refine(zlh 2 (2+2*l.length) _ _ _ _ _ hF6.ct hF8.ct (by decide) (by omega) (by decide) (by omega)).mono ?_
       rintro e u4 ⟨v9,rfl,hF9,hb4⟩;replace hF8:=hF8.below hb4;replace hF6:=hF6.below hb4;replace P8:=P8.below hb4
       replace hbW:Below w.heap.size w u4:=hbW.trans (hb4.mono hbW.size)
       replace hbR:Below wr.heap.size wr u4:=hbR.trans (hb4.mono hbR.size)
       clear hb4;obtain⟨n9,x9,y9,⟨a9,c9,b9,d9,rfl,hx9,hy9⟩,hF9⟩:=hF9
       have hF9:Fr u4 (.agg #[.bool n9,.slice a9 x9.length c9,.slice b9 y9.length d9]) 20 (((z:Int):Rat)*q):=Fr.le (k:=2+(2+2*l.length)) ⟨_,_,_,⟨_,_,_,_,rfl,hx9,hy9⟩,hF9⟩ (by omega)
       clear hx9 hy9;clear p00 p01 p02;obtain⟨p00,p01,p02,_⟩:=P8.cells
       go_wp2_with fail
       refine hK.out _ _ ?_ (fun hH=>?_)
       . (try dsimp only)
         exact⟨p00,p01,p02⟩
       clear hK K
       try simp only[Act.put,pZ]
       refine hCall (i:=5) rfl (by kernel_rfl) (by rfl) (fun K hK=>?_)
       go_simp
       obtain⟨u65,hU4,B4,hb4⟩:∃U4,U4=u4.alloc (.cells #[.bool n9,.slice a9 x9.length c9,.slice b9 y9.length d9] 96)/\Box 96 U4 u4.heap.size (.bool n9) (.slice a9 x9.length c9) (.slice b9 y9.length d9)/\Below u4.heap.size u4 U4:=⟨_,rfl,Box.new _ _ _ _ _,bl1 _⟩
       rw[<-hU4];clear hU4;replace hF8:=hF8.below hb4;replace hF9:=hF9.below hb4;replace P8:=P8.below hb4
       replace hbW:Below w.heap.size w u65:=hbW.trans (hb4.mono hbW.size)
       replace hbR:Below wr.heap.size wr u65:=hbR.trans (hb4.mono hbR.size)
       clear p00 p01 p02;obtain⟨p00,p01,p02,_⟩:=P8.cells
       refine hK.out _ _ ?_ (fun hH=>?_)
       . (try dsimp only)
         exact⟨p00,p01,p02⟩
       clear hK K
       try simp only[Act.put,pZ]
       refine hCall (i:=6) rfl (by kernel_rfl) (by rfl) (fun K hK=>?_)
       obtain⟨r0,r1,r2,_⟩:=B4.cells
       have hT4:=HT.out.below hbR
       have hbs:u1.heap.size<=u65.heap.size:=Nat.le_trans hBV.size hbR.size
       refine zh6 _ _ rfl u1.heap.size _ 20 qs (((z:Int):Rat)*q) rfl hT4 u4.heap.size _ _ _ rfl r0 r1 r2 hF9 hll hbs ?_
       intro v' w9 hT9 hgrow
       have hB9:Below u1.heap.size u1 w9:=(hBV.trans (hbR.mono hBV.size)).grown hgrow hbs (fun k hk=>(HT.out.lo hk).1)
       have hne:some g8≠Value.ownBlock (.slice a2 qs.length c2):=fun e=>absurd (HT.out.lo e.symm).2 (Nat.not_lt.2 hg8)
       replace p00:=hgrow.cell p00 hne
       replace p01:=hgrow.cell p01 hne
       replace p02:=hgrow.cell p02 hne
       refine hK.out _ _ ?_ (fun hH=>?_)
       . (try dsimp only)
         exact⟨p00,p01,p02⟩
       clear hK K
       try simp only[Act.put,pZ]
       refine hT 7 hH ?_
       refine wpAnyH_done (by kernel_rfl) ?_ _
       clear hH;go_wp2
       go_roundw
       case rel=>exact⟨k+1,qs++[((z:Int):Rat)*q],by omega,by go_num,by simp;omega,HS2.out,hT9,hB9⟩
       case measure=>simp[intOf];omega
     . obtain rfl:k=r.length:=by omega
       have hsu:=ztk qs.length a2 c2 qs wr rfl (by have:=HLN.out;omega) hts
       rw[HSU.out,HQ.out]at hsu
       have B0:=HB0.out.below hBV
       clear hts HSU
       go_wp2_with fail
       refine hsu.mono ?_
       rintro e u8 ⟨v9,rfl,hF9,hb8⟩;replace B0:=B0.below hb8
       replace hbW:=hbW.trans (hb8.mono hbW.size)
       clear hb8 hsu
       have HLM:Hid (lmbS qs.length<=1000):=by show _<=_;have:=HLN.out;unfold lmbS;split <;> omega
       generalize lmbS qs.length=km at *
       obtain⟨n9,x9,y9,⟨a9,c9,b9,d9,rfl,hx9,hy9⟩,hF9⟩:=hF9;obtain⟨q1,q2,q3,q4,q5,q6⟩:=B0.cells
       have hs:=B0.lt
       go_wp2
       refine ret3 (v:=.agg #[.bool n9,.slice a9 x9.length c9,.slice b9 y9.length d9]) B0 rfl (fun U hU=>by obtain⟨r1,r2,r3,_⟩:=hU.cells;simp[results,Tryz.results81,go_sem,r1,r2,r3]) (fun U hU hK=>⟨_,rfl,Fr.le (k:=km) ⟨_,_,_,⟨_,_,_,_,rfl,hK _ _ _ hx9,hK _ _ _ hy9⟩,hF9⟩ HLM.out,hU _ _ hbW (by omega)⟩)
  . have HQ:Hid (((0:Int):Rat)=chQ s (j:Int) cs):=by show _=_;rw[zgp (by rw[HRQ.out];exact decide_eq_false hlen)];rfl
    have g5:((r.length:Int) != (s.rg.length:Int))=true:=bne_iff_ne.2 (by omega)
    have q0:=A0.2
    clear HRQ HCQ hlen
    go_enter Tryz.func81,Tryz.ntmps81
    go_upto_region 1 with fail
    rw[<-hW];clear hW;obtain⟨p00,p01,_⟩:=X1.cells
    refine wp_region_held_drew (S:=(fun u=>u.cell? ⟨w.heap.size,0,none⟩=some (.slice a s.rg.length ca)/\u.cell? ⟨w.heap.size,1,none⟩=some (.slice (some ⟨b1,o1,none⟩) s.rw.length cb)/\u.cell? ⟨b1,o1+j,none⟩=some (.slice a1 r.length c1))) (by kernel_rfl) ?_ (fun hH=>?_)
    . (try dsimp only)
      go_keep
    have hdr:Below W.heap.size W W.drew:=Below.drew1
    generalize W.drew=ud4 at hdr hH ⊢
    replace A0:=A0.below hdr;replace B0:=B0.below hdr;replace X1:=X1.below hdr
    replace hbW:Below w.heap.size w ud4:=hbW.trans (hdr.mono hbW.size)
    clear hdr;clear p00 p01;obtain⟨p00,p01,_⟩:=X1.cells;refine hT 0 hH ?_;refine hT 1 hH ?_
    refine hCall (i:=2) rfl (by kernel_rfl) (by rfl) (fun K hK=>?_)
    go_simp
    refine(hhr _).mono ?_
    rintro e u1 ⟨rfl,hb1⟩;replace A0:=A0.below hb1;replace B0:=B0.below hb1;replace X1:=X1.below hb1
    replace hbW:Below w.heap.size w u1:=hbW.trans (hb1.mono hbW.size)
    clear hb1;clear p00 p01;obtain⟨p00,p01,_⟩:=X1.cells
    go_wp2_with fail
    refine hK.out _ _ ?_ (fun hH=>?_)
    . (try dsimp only)
      exact⟨p00,p01,A0.2⟩
    clear hK K
    try simp only[Act.put,pZ]
    refine hT 3 hH ?_;refine hT 4 hH ?_;refine hT 5 hH ?_;refine hT 6 hH ?_;refine hT 7 hH ?_;refine hT 8 hH ?_;refine hT 9 hH ?_;refine hT 10 hH ?_;refine hT 11 hH ?_;refine hT 12 hH ?_;refine hT 13 hH ?_;refine hT 14 hH ?_;refine hT 15 hH ?_
    refine wpAnyH_done (by kernel_rfl) ?_ _
    clear hH
    go_wp2_with fail
    refine(zay 0 _ (by decide) (by decide)).mono ?_
    rintro e u8 ⟨v9,rfl,hF9,hb8⟩;replace B0:=B0.below hb8
    replace hbW:=hbW.trans (hb8.mono hbW.size)
    clear hb8;rw[HQ.out]at hF9;obtain⟨n9,x9,y9,⟨a9,c9,b9,d9,rfl,hx9,hy9⟩,hF9⟩:=hF9;obtain⟨q1,q2,q3,q4,q5,q6⟩:=B0.cells
    have hs:=B0.lt
    go_wp2
    refine ret3 (v:=.agg #[.bool n9,.slice a9 x9.length c9,.slice b9 y9.length d9]) B0 rfl (fun U hU=>by obtain⟨r1,r2,r3,_⟩:=hU.cells;simp[results,Tryz.results81,go_sem,r1,r2,r3]) (fun U hU hK=>⟨_,rfl,Fr.le (k:=2) ⟨_,_,_,⟨_,_,_,_,rfl,hK _ _ _ hx9,hK _ _ _ hy9⟩,hF9⟩ (by decide),hU _ _ hbW (by omega)⟩)
theorem Box.new2S(t:TypeId)(w:World)(o o':Obj)(x y z:Value):Box t (((w.alloc o).alloc o').alloc (.cells #[x,y,z] t)) (w.heap.size+2) x y z:=by
 have h:=Box.new t ((w.alloc o).alloc o') x y z
 simpa using h
def roN(s:Sr)(x r:Int)(cs:List Int):Int:=if fiS s x r then fldN (vaQ s x r cs+1/2).floor else 0
def roE(s:Sr)(x r:Int)(cs:List Int):Int:=if fiS s x r then fldE (vaQ s x r cs+1/2).floor else 1
theorem zns(a:Option Addr)(ca:Nat)(b:Option Addr)(cb:Nat)(s:Sr)(x r:Int)(pa:Option Addr)(pc:Nat)(cs:List Int)(w:World)(hg:Tzz w a ca s.rg)(hm:Rii w b cb s.rw)(hp:Ri w pa pc cs)(hx:I64 x)(hr:I64 r)(hl:s.rg.length<=40)(h8:∀l∈s.rg,l.length<=8) :
 Calls Tryz.prog 46 #[.agg #[.slice a s.rg.length ca,.slice b s.rw.length cb],.agg #[.int .i64 x,.int .i64 r],.slice pa cs.length pc] w fun e w'=>∃v',e=.returned v'/\Fr w' v' 1003 (vaQ s x r cs)/\Below w.heap.size w w':=by
 have k3:=hp.lenB
 have HV:Hid (((x:Int):Rat)+chQ s r cs=vaQ s x r cs):=rfl
 have hch:=fun U h1 h2 h3=>zkq a ca b cb s r pa pc cs U h1 h2 h3 hl h8
 obtain⟨W,hW,X1,X2,B0,hbW⟩:∃W,W=((w.alloc (.cells #[.slice a s.rg.length ca,.slice b s.rw.length cb] 27)).alloc (.cells #[.int .i64 x,.int .i64 r] 62)).alloc (.cells #[.bool false,.slice none 0 0,.slice none 0 0] 96)/\BxS W w.heap.size (.slice a s.rg.length ca) (.slice b s.rw.length cb)/\BxL W (w.heap.size+1) (.int .i64 x) (.int .i64 r)/\Box 96 W (w.heap.size+2) (.bool false) (.slice none 0 0) (.slice none 0 0)/\Below w.heap.size w W:=⟨_,rfl,((BxS.new _ _ _).below (bl1 _)).below (bl1 _),(BxL.new1 _ _ _ _).below (bl1 _),Box.new2S _ _ _ _ _ _ _,(bl2 _ _).trans ((bl1 _).mono (by simp;omega))⟩
 replace hg:=hg.below hbW;replace hm:=hm.below hbW;replace hp:=hp.below hbW
 generalize chQ s r cs=qc at *
 clear h8
 go_enter Tryz.func46,Tryz.ntmps46
 go_upto_region 1 with fail
 rw[<-hW];clear hW;obtain⟨p00,p01,_⟩:=X1.cells;obtain⟨p10,p11,_⟩:=X2.cells
 refine wp_region_held_drew (S:=(fun u=>u.cell? ⟨w.heap.size,0,none⟩=some (.slice a s.rg.length ca)/\u.cell? ⟨w.heap.size,1,none⟩=some (.slice b s.rw.length cb)/\u.cell? ⟨w.heap.size+1,0,none⟩=some (.int .i64 x)/\u.cell? ⟨w.heap.size+1,1,none⟩=some (.int .i64 r))) (by kernel_rfl) ?_ (fun hH=>?_)
 . (try dsimp only)
   go_keep
 have hdr:Below W.heap.size W W.drew:=Below.drew1
 generalize W.drew=ud1 at hdr hH ⊢
 replace hg:=hg.below hdr;replace hm:=hm.below hdr;replace hp:=hp.below hdr;replace B0:=B0.below hdr;replace X1:=X1.below hdr;replace X2:=X2.below hdr
 replace hbW:Below w.heap.size w ud1:=hbW.trans (hdr.mono hbW.size)
 clear hdr;clear p00 p01 p10 p11;obtain⟨p00,p01,_⟩:=X1.cells;obtain⟨p10,p11,_⟩:=X2.cells;refine hT 0 hH ?_;refine hT 1 hH ?_;refine hT 3 hH ?_;refine hT 4 hH ?_;refine hT 5 hH ?_;refine hT 6 hH ?_
 refine hCall (i:=2) rfl (by kernel_rfl) (by rfl) (fun K hK=>?_)
 go_simp
 refine(zay x _ hx.1 (by have:=hx.2;omega)).mono ?_
 rintro e u1 ⟨v5,rfl,hF5,hb1⟩;replace hg:=hg.below hb1;replace hm:=hm.below hb1;replace hp:=hp.below hb1;replace B0:=B0.below hb1;replace X1:=X1.below hb1;replace X2:=X2.below hb1
 replace hbW:Below w.heap.size w u1:=hbW.trans (hb1.mono hbW.size)
 clear hb1;clear p00 p01 p10 p11;obtain⟨p00,p01,_⟩:=X1.cells;obtain⟨p10,p11,_⟩:=X2.cells
 go_wp2_with fail
 refine hK.out _ _ ?_ (fun hH=>?_)
 . (try dsimp only)
   exact⟨p00,p01,p10,p11⟩
 clear hK K
 try simp only[Act.put,pZ]
 refine hCall (i:=7) rfl (by kernel_rfl) (by rfl) (fun K hK=>?_)
 go_simp
 refine(hch _ hg hm hp).mono ?_
 rintro e u2 ⟨v6,rfl,hF6,hb2⟩;replace hg:=hg.below hb2;replace hm:=hm.below hb2;replace hp:=hp.below hb2;replace B0:=B0.below hb2;replace hF5:=hF5.below hb2;replace X1:=X1.below hb2;replace X2:=X2.below hb2
 replace hbW:Below w.heap.size w u2:=hbW.trans (hb2.mono hbW.size)
 clear hb2;clear p00 p01 p10 p11;obtain⟨p00,p01,_⟩:=X1.cells;obtain⟨p10,p11,_⟩:=X2.cells
 go_wp2_with fail
 refine hK.out _ _ ?_ (fun hH=>?_)
 . (try dsimp only)
   exact⟨p00,p01,p10,p11⟩
 clear hK K
 try simp only[Act.put,pZ]
 refine hCall (i:=8) rfl (by kernel_rfl) (by rfl) (fun K hK=>?_)
 go_simp
 refine(zli 2 1000 _ _ _ _ _ hF5.ct hF6.ct (by decide) (by decide) (by decide) (by decide)).mono ?_
 rintro e u3 ⟨v9,rfl,hF9,hb3⟩;replace hg:=hg.below hb3;replace hm:=hm.below hb3;replace hp:=hp.below hb3;replace B0:=B0.below hb3;replace hF5:=hF5.below hb3;replace hF6:=hF6.below hb3;replace X1:=X1.below hb3;replace X2:=X2.below hb3
 replace hbW:Below w.heap.size w u3:=hbW.trans (hb3.mono hbW.size)
 clear hb3;rw[HV.out]at hF9;obtain⟨n9,x9,y9,⟨a9,c9,b9,d9,rfl,hx9,hy9⟩,hF9⟩:=hF9;clear p00 p01 p10 p11;obtain⟨p00,p01,_⟩:=X1.cells;obtain⟨p10,p11,_⟩:=X2.cells
 go_wp2_with fail
 refine hK.out _ _ ?_ (fun hH=>?_)
 . (try dsimp only)
   exact⟨p00,p01,p10,p11⟩
 clear hK K
 try simp only[Act.put,pZ]
 refine hCall (i:=9) rfl (by kernel_rfl) (by rfl) (fun K hK=>?_)
 go_simp
 have hs:=B0.lt
 obtain⟨f1,f2,f3,f4,f5,f6⟩:=B0.cells
 try go_simp
 obtain⟨u64,hU,C9,hbU,hK9,ho⟩:=zai B0 (.bool n9) (.slice a9 x9.length c9) (.slice b9 y9.length d9)
 rw[<-hU];clear hU f1 f2 f3 f4 f5 f6
 replace hbW:=hbU _ _ hbW (by omega)
 replace hx9:=hK9 _ _ _ hx9
 replace hy9:=hK9 _ _ _ hy9
 replace X1:BxS u64 w.heap.size (.slice a s.rg.length ca) (.slice b s.rw.length cb):=(ho _ (by omega)).trans X1
 replace X2:BxL u64 (w.heap.size+1) (.int .i64 x) (.int .i64 r):=(ho _ (by omega)).trans X2
 clear hbU hK9 ho;clear p00 p01 p10 p11;obtain⟨p00,p01,_⟩:=X1.cells;obtain⟨p10,p11,_⟩:=X2.cells
 refine hK.out _ _ ?_ (fun hH=>?_)
 . (try dsimp only)
   exact⟨p00,p01,p10,p11⟩
 clear hK K
 try simp only[Act.put,pZ]
 refine wpAnyH_done (by kernel_rfl) ?_ _
 clear hH;go_wp2
 refine bodyPost_ret (by obtain⟨r1,r2,r3,_⟩:=C9.cells;simp[results,Tryz.results46,go_sem,r1,r2,r3]) rfl ⟨_,rfl,⟨_,_,_,⟨_,_,_,_,rfl,hx9,hy9⟩,hF9⟩,hbW⟩
theorem zet(a:Option Addr)(ca:Nat)(b:Option Addr)(cb:Nat)(s:Sr)(x r:Int)(pa:Option Addr)(pc:Nat)(cs:List Int)(w:World)(hg:Tzz w a ca s.rg)(hm:Rii w b cb s.rw)(hp:Ri w pa pc cs)(hx:I64 x)(hr:I64 r)(hl:s.rg.length<=40)(h8:∀l∈s.rg,l.length<=8) :
 Calls Tryz.prog 21 #[.agg #[.slice a s.rg.length ca,.slice b s.rw.length cb],.agg #[.int .i64 x,.int .i64 r],.slice pa cs.length pc] w fun e w'=>e=.returned (.tuple #[.int .i64 (roN s x r cs),.int .i64 (roE s x r cs)])/\Below w.heap.size w w':=by
 have k2:=hm.lenB
 have k3:=hp.lenB
 have hfi:=fun U=>zd2 a ca b cb s x r U k2 hx hr
 have hva:=fun U h1 h2 h3=>zns a ca b cb s x r pa pc cs U h1 h2 h3 hx hr hl h8
 obtain⟨W,hW,X1,X2,hbW⟩:∃W,W=(w.alloc (.cells #[.slice a s.rg.length ca,.slice b s.rw.length cb] 27)).alloc (.cells #[.int .i64 x,.int .i64 r] 62)/\BxS W w.heap.size (.slice a s.rg.length ca) (.slice b s.rw.length cb)/\BxL W (w.heap.size+1) (.int .i64 x) (.int .i64 r)/\Below w.heap.size w W:=⟨_,rfl,(BxS.new _ _ _).below (bl1 _),BxL.new1 _ _ _ _,bl2 _ _⟩
 replace hg:=hg.below hbW;replace hm:=hm.below hbW;replace hp:=hp.below hbW;clear h8 hx hr
 cases hf:fiS s x r with
 | false =>
  have HE:Hid (roN s x r cs=0/\roE s x r cs=1):=by
   show _/\_
   constructor
   . rw[roN,hf];rfl
   . rw[roE,hf];rfl
  simp only[hf]at hfi
  clear hf hg hm hp hva
  go_enter Tryz.func21,Tryz.ntmps21
  go_wp2_with fail
  rw[<-hW];clear hW
  refine(hfi _).mono ?_
  rintro e u1 ⟨rfl,hb1⟩
  replace hbW:=hbW.trans (hb1.mono hbW.size)
  clear hb1 hfi;go_wp2
  go_ret2
  exact⟨by rw[HE.out.1,HE.out.2];rfl,hbW⟩
 | true =>
  have HE:Hid (roN s x r cs=fldN (vaQ s x r cs+1/2).floor/\roE s x r cs=fldE (vaQ s x r cs+1/2).floor):=by
   show _/\_
   constructor
   . rw[roN,hf];rfl
   . rw[roE,hf];rfl
  simp only[hf]at hfi
  clear hf
  go_enter Tryz.func21,Tryz.ntmps21
  go_wp2_with fail
  rw[<-hW];clear hW
  refine(hfi _).mono ?_
  rintro e u1 ⟨rfl,hb1⟩;replace hg:=hg.below hb1;replace hm:=hm.below hb1;replace hp:=hp.below hb1;replace X1:=X1.below hb1;replace X2:=X2.below hb1
  replace hbW:=hbW.trans (hb1.mono hbW.size)
  clear hb1 hfi;obtain⟨p0,p1,_⟩:=X1.cells;obtain⟨p2,p3,_⟩:=X2.cells
  go_wp2_with fail
  refine(hva _ hg hm hp).mono ?_
  rintro e u2 ⟨v2,rfl,hF2,hb2⟩
  replace hbW:=hbW.trans (hb2.mono hbW.size)
  clear hb2 hva hg hm hp X1 X2 p0 p1 p2 p3
  generalize vaQ s x r cs=q at *
  go_wp2_with fail
  refine(zq0 1003 q _ _ hF2.ct (by decide) (by decide)).mono ?_
  rintro e u3 ⟨rfl,hb3⟩
  replace hbW:=hbW.trans (hb3.mono hbW.size)
  rw[<-HE.out.1,<-HE.out.2];clear hb3 hF2;go_wp2
  go_ret2
  exact⟨rfl,hbW⟩
def isG(n:Nat)(g:Int):Bool:=decide (0<=g)&&decide (g<(n:Int))
theorem zhl{l:List Gl}{g:Int}(h:isG l.length g=false):gAt l g=none:=by
 unfold isG at h
 by_cases h0:0<=g
 . rw[decide_eq_true h0,Bool.true_and,decide_eq_false_iff_not]at h
   exact zwr (by omega)
 . exact zwp (by omega)
theorem zhk{n:Nat}{g:Int}(h:isG n g=true):0<=g/\g<(n:Int):=by
 unfold isG at h
 rw[Bool.and_eq_true,decide_eq_true_iff,decide_eq_true_iff]at h
 exact h
theorem zul{l:List Gl}{g:Int}(h:isG l.length g=true):gAt l g=some (l.getD g.toNat Gl.none):=by
 obtain⟨h1,h2⟩:=zhk h
 have:=zwq (l:=l) (k:=g.toNat) (by omega)
 rw[show((g.toNat:Nat):Int)=g by omega]at this
 exact this
theorem zwc(a:Option Addr)(n c:Nat)(g:Int)(w:World)(hn:n<=9223372036854775807)(hg:I64 g) :
 Calls Tryz.prog 95 #[.slice a n c,.int .i64 g] w fun e w'=>e=.returned (.bool (isG n g))/\w=w':=by
 by_cases h0:0<=g
 . have HE:Hid (isG n g=decide (g<(n:Int))):=by show _=_;unfold isG;rw[decide_eq_true h0,Bool.true_and]
   have g1:decide ((0:Int)<=g)=true:=decide_eq_true h0
   go_enter Tryz.func95,Tryz.ntmps95
   go_wp2
   go_ret
   exact⟨zaa HE.out.symm,rfl⟩
 . have HE:Hid (isG n g=false):=by show _=_;unfold isG;rw[decide_eq_false h0,Bool.false_and]
   have g1:decide ((0:Int)<=g)=false:=decide_eq_false h0
   go_enter Tryz.func95,Tryz.ntmps95
   go_wp2
   go_ret
   exact⟨zaa HE.out.symm,rfl⟩
def avN(l:List Gl)(s:Sr)(g:Int)(cs:List Int):Int:=match gAt l g with | none=>0 | some x=>roN s x.ab x.ar cs
def avE(l:List Gl)(s:Sr)(g:Int)(cs:List Int):Int:=match gAt l g with | none=>5 | some x=>roE s x.ab x.ar cs
theorem zkx{l:List Gl}{s:Sr}{g:Int}{cs:List Int}(h:gAt l g=none):avN l s g cs=0/\avE l s g cs=5:=by unfold avN avE;rw[h];exact⟨rfl,rfl⟩
theorem zkw{l:List Gl}{s:Sr}{g:Int}{cs:List Int}{x:Gl}(h:gAt l g=some x):avN l s g cs=roN s x.ab x.ar cs/\avE l s g cs=roE s x.ab x.ar cs:=by unfold avN avE;rw[h];exact⟨rfl,rfl⟩
theorem zi3(S:Nat->Prop)(a:Option Addr)(ca:Nat)(l:List Gl)(ga:Option Addr)(gc:Nat)(ma:Option Addr)(mc:Nat)(s:Sr)(g:Int)(pa:Option Addr)(pc:Nat)(cs:List Int)(w:World)(hl:Gr GlE S w a ca l)(hg:Tzz w ga gc s.rg)(hm:Rii w ma mc s.rw)(hp:Ri w pa pc cs)(hi:I64 g)(h40:s.rg.length<=40)(h8:∀l∈s.rg,l.length<=8) :
 Calls Tryz.prog 62 #[.slice a l.length ca,.agg #[.slice ga s.rg.length gc,.slice ma s.rw.length mc],.int .i64 g,.slice pa cs.length pc] w fun e w'=>e=.returned (.tuple #[.int .i64 (avN l s g cs),.int .i64 (avE l s g cs)])/\Below w.heap.size w w':=by
 have kl:=hl.lenB
 have k2:=hm.lenB
 have k3:=hp.lenB
 obtain⟨W,hW,X1,hbW⟩:∃W,W=w.alloc (.cells #[.slice ga s.rg.length gc,.slice ma s.rw.length mc] 27)/\Bk 27 W w.heap.size [.slice ga s.rg.length gc,.slice ma s.rw.length mc]/\Below w.heap.size w W:=⟨_,rfl,Bk.new _ _ _,bl1 _⟩
 obtain⟨x0,x1,_⟩:=X1.two
 have hig:=zwc a l.length ca g W (by omega) hi
 cases hgi:isG l.length g with
 | false =>
  rw[hgi]at hig
  have HA:Hid (_):=zkx (s:=s) (cs:=cs) (zhl hgi)
  clear hgi
  go_enter Tryz.func62,Tryz.ntmps62
  go_upto_region 1 with fail
  rw[<-hW];clear hW
  go_wp2_with fail
  refine hig.mono ?_
  rintro e u ⟨rfl,rfl⟩;clear hig;go_wp2
  go_ret2
  exact⟨by rw[HA.out.1,HA.out.2];rfl,hbW⟩
 | true =>
  rw[hgi]at hig
  have HA:Hid (_):=zkw (s:=s) (cs:=cs) (zul hgi)
  obtain⟨hg0,hg1⟩:=zhk hgi
  obtain⟨kg,rfl⟩:∃k:Nat,g=(k:Int):=⟨g.toNat,by omega⟩
  rw[Int.toNat_natCast]at HA
  have hkl:kg<l.length:=by omega
  obtain⟨b1,off,xa,xc,qa,qc,ta,tc,ea,hb1,hGC,c0,c1,c2,c3,c4,c5⟩:=hl.gl hbW kg hkl
  obtain⟨x,hx⟩:∃x,l.getD kg Gl.none=x:=⟨_,rfl⟩
  rw[hx]at hGC c3 c4 HA;subst ea
  have hro:=fun U hU=>zet ga gc ma mc s x.ab x.ar pa pc cs U ((hg.below hbW).below hU) ((hm.below hbW).below hU) ((hp.below hbW).below hU) hGC.2.2.2.1 hGC.2.2.2.2 h40 h8
  generalize x.ab=xb at *
  generalize x.ar=xr at *
  have zy6:=X1.lt
  clear hgi hx c0 c1 c2 c5 hg hm hp hl hGC X1
  go_enter Tryz.func62,Tryz.ntmps62
  go_upto_region 1 with fail
  rw[<-hW];clear hW
  go_wp2_with fail
  refine hig.mono ?_
  rintro e u ⟨rfl,rfl⟩;clear hig
  go_upto_region 3 with fail
  refine wp_region_held_drew (S:=fun w9=>w9.cell? ⟨w.heap.size,0,none⟩=some (.slice ga s.rg.length gc)/\w9.cell? ⟨w.heap.size,1,none⟩=some (.slice ma s.rw.length mc)/\w9.cell? ⟨b1,off+kg*6+3,none⟩=some (.int .i64 xb)/\w9.cell? ⟨b1,off+kg*6+4,none⟩=some (.int .i64 xr)) (by kernel_rfl) ?_ (fun hH=>?_)
  . (try dsimp only)
    go_keep
  have hdr:Below W.heap.size W W.drew:=Below.drew1
  have zwi:=hro _ hdr
  generalize W.drew=Z at hdr hH zwi ⊢
  have zy2:b1<W.heap.size:=Nat.lt_of_lt_of_le hb1 hbW.size
  replace x0:=(hdr.cell (p:=⟨w.heap.size,0,none⟩) zy6).trans x0
  replace x1:=(hdr.cell (p:=⟨w.heap.size,1,none⟩) zy6).trans x1
  replace c3:=(hdr.cell (p:=⟨b1,off+kg*6+3,none⟩) zy2).trans c3
  replace c4:=(hdr.cell (p:=⟨b1,off+kg*6+4,none⟩) zy2).trans c4
  replace hbW:=hbW.trans (hdr.mono hbW.size)
  have hzs:=hdr.size
  clear hdr hro;refine hT 0 hH ?_;refine hT 1 hH ?_;refine hT 2 hH ?_;refine hT 3 hH ?_;refine hT 4 hH ?_;refine hT 5 hH ?_;refine hT 6 hH ?_
  refine hCall (i:=7) rfl (by kernel_rfl) (by rfl) (fun K hK=>?_)
  go_simp
  refine zwi.mono ?_
  rintro e u ⟨rfl,hb⟩
  replace x0:=(hb.cell (p:=⟨w.heap.size,0,none⟩) (by show w.heap.size<_;omega)).trans x0
  replace x1:=(hb.cell (p:=⟨w.heap.size,1,none⟩) (by show w.heap.size<_;omega)).trans x1
  replace c3:=(hb.cell (p:=⟨b1,off+kg*6+3,none⟩) (by show b1<_;omega)).trans c3
  replace c4:=(hb.cell (p:=⟨b1,off+kg*6+4,none⟩) (by show b1<_;omega)).trans c4
  replace hbW:=hbW.trans (hb.mono hbW.size)
  clear hb zwi
  go_wp2_with fail
  refine hK.out _ _ ?_ (fun hH=>?_)
  . (try dsimp only)
    exact⟨x0,x1,c3,c4⟩
  clear hK K
  try simp only[Act.put,pZ]
  refine hT 8 hH ?_;refine hT 9 hH ?_;refine hT 10 hH ?_;refine hT 11 hH ?_
  refine wpAnyH_done (by kernel_rfl) ?_ _
  clear hH x0 x1 c3 c4;go_wp2
  go_ret2
  exact⟨by rw[HA.out.1,HA.out.2];rfl,hbW⟩
def Kp(g:Nat)(w w':World):Prop:=Keep (fun k=>k<w.heap.size/\k≠g) w w'
theorem Kp.refl(g:Nat)(w:World):Kp g w w:=Keep.refl _ _
theorem Kp.size{g:Nat}{w w':World}(h:Kp g w w'):w.heap.size<=w'.heap.size:=Keep.size h
theorem Kp.trans{g:Nat}{a b c:World}(h:Kp g a b)(k:Kp g b c):Kp g a c :=
 Keep.trans h (Keep.mono k (fun i hi=>⟨Nat.lt_of_lt_of_le hi.1 h.size,hi.2⟩))
theorem Kp.of{g:Nat}{w w':World}(h:Below w.heap.size w w'):Kp g w w':=Keep.of_below h (fun k hk=>hk.1)
theorem Kp.setCell{g:Nat}{a w:World}(h:Kp g a w)(j:Nat)(z:Value):Kp g a (w.setCell ⟨g,j,none⟩ z):=Keep.setCell h (p:=⟨g,j,none⟩) (fun e=>e.2 rfl) z
theorem Kp.below{g B:Nat}{w w':World}(h:Kp g w w')(h1:B<=w.heap.size)(h2:B<=g):Below B w w':=Keep.below h (fun k hk=>⟨by omega,by omega⟩)
theorem Kp.block{g:Nat}{w w':World}(h:Kp g w w'){k:Nat}(h1:k<w.heap.size)(h2:k≠g):w'.heap[k]?=w.heap[k]?:=Keep.block h k ⟨h1,h2⟩
theorem Bk.kp{t:TypeId}{g b:Nat}{w w':World}{cs:List Value}(h:Bk t w b cs)(hk:Kp g w w')(hb:b≠g):Bk t w' b cs:=(hk.block h.lt hb).trans h
theorem zth(vs:List Value):∀n:Nat,(List.replicate n vs).flatten.length=n*vs.length:=by
 intro n
 induction n with
 | zero=>simp
 | succ n ih=>rw[List.replicate_succ,List.flatten_cons,List.length_append,ih,Nat.add_mul];omega
theorem zpt{z:Array Value}{vs:List Value}(hz:z.toList=vs)(hs:0<vs.length)(n:Nat):(madeCells z (n*vs.length)).toList=(List.replicate n vs).flatten:=by
 apply List.ext_getElem?
 intro i
 subst hz
 by_cases hi:i<n*z.toList.length
 . have h5:∀j,j<(List.replicate n z.toList).length->((List.replicate n z.toList).getD j []).length=z.toList.length:=fun j hj=>by
     rw[List.length_replicate]at hj
     simp[List.getD,hj]
   have hd:i/z.toList.length<n:=(Nat.div_lt_iff_lt_mul hs).2 hi
   have e1:i/z.toList.length*z.toList.length+i%z.toList.length=i:=by rw[Nat.mul_comm];exact Nat.div_add_mod i _
   have h2:=zhq h5 (i:=i/z.toList.length) (j:=i%z.toList.length) (by rw[List.length_replicate];exact hd) (Nat.mod_lt _ hs)
   rw[e1]at h2;rw[h2]
   have h3:(List.replicate n z.toList).getD (i/z.toList.length) []=z.toList:=by rw[List.getD_eq_getElem?_getD,List.getElem?_replicate,if_pos hd];rfl
   have hm:i%z.size<z.size:=Nat.mod_lt _ hs
   have hi':i<n*z.size:=hi
   rw[h3]
   show(madeCells z (n*z.size)).toList[i]?=z.toList[i%z.size]?
   have e2:(madeCells z (n*z.size)).toList[i]?=some (z[i%z.size]!):=by simp[madeCells,hi']
   rw[e2,List.getElem?_eq_getElem hm,getElem!_pos z _ hm]
   rfl
 . rw[List.getElem?_eq_none (by rw[Array.length_toList,size_madeCells];omega),List.getElem?_eq_none (by rw[zth];omega)]
theorem Gw.zeros{α:Type}{E:El α}{t:TypeId}{base:Nat}{w:World}{v:Value}{n:Nat}{z:Value}{vs:List Value}(h:w.ownsRow base t E.sz v n (madeCells z.cells (n*E.sz)).toList)(hz:z.cells.toList=vs)(hs:0<E.sz)(hr:E.rep (fun k=>False/\v.ownBlock≠some k) w vs E.dfl):Gw E t base (fun _=>False) w v (List.replicate n E.dfl):=by
 have hl:=E.len hr
 refine⟨List.replicate n vs,by rw[List.length_replicate,List.length_replicate],?_,fun i hi=>?_⟩
 . rw[List.length_replicate,<-zpt hz (by omega),hl]
   exact h
 . rw[List.length_replicate]at hi
   have e1:(List.replicate n vs).getD i []=vs:=by rw[List.getD_eq_getElem?_getD,List.getElem?_replicate,if_pos hi];rfl
   have e2:(List.replicate n E.dfl).getD i E.dfl=E.dfl:=by rw[List.getD_eq_getElem?_getD,List.getElem?_replicate,if_pos hi];rfl
   rw[e1,e2]
   exact hr
def PdE:El Pd:=(El.int.cat (El.int.cat (El.int.cat El.int))).via (fun p=>(p.g,p.x,p.y,p.a)) Pd.none
def pdC(p:Pd):List Value:=[.int .i64 p.g,.int .i64 p.x,.int .i64 p.y,.int .i64 p.a]
theorem zbq{S:Nat->Prop}{w:World}{vs:List Value}{p:Pd}:PdE.rep S w vs p↔vs=pdC p/\PdW p:=by
 constructor
 . rintro ⟨us,ts,rfl,⟨rfl,h1⟩,us2,ts2,rfl,⟨rfl,h2⟩,us3,ts3,rfl,⟨rfl,h3⟩,⟨rfl,h4⟩⟩
   exact⟨rfl,h1,h2,h3,h4⟩
 . rintro ⟨rfl,h1,h2,h3,h4⟩
   exact⟨[_],_,rfl,⟨rfl,h1⟩,[_],_,rfl,⟨rfl,h2⟩,[_],[_],rfl,⟨rfl,h3⟩,⟨rfl,h4⟩⟩
theorem zeg:(Tryz.prog.info? 66).map (fun i=>(i.zero,i.size,i.bytes))=some (some (.agg #[.int .i64 0,.int .i64 0,.int .i64 0,.int .i64 0]),4,32):=by kernel_rfl
theorem Gr.pd{S:Nat->Prop}{w wr:World}{a:Option Addr}{cap:Nat}{l:List Pd}(h:Gr PdE S w a cap l)(hb:Below w.heap.size w wr)(k:Nat)(hk:k<l.length) :
 ∃b off,a=some ⟨b,off,none⟩/\b<w.heap.size/\PdW (l.getD k Pd.none)/\wr.cell? ⟨b,off+k*4,none⟩=some (.int .i64 (l.getD k Pd.none).g)/\wr.cell? ⟨b,off+k*4+1,none⟩=some (.int .i64 (l.getD k Pd.none).x)/\wr.cell? ⟨b,off+k*4+2,none⟩=some (.int .i64 (l.getD k Pd.none).y)/\wr.cell? ⟨b,off+k*4+3,none⟩=some (.int .i64 (l.getD k Pd.none).a):=by
 obtain⟨b,off,vs,e,hl,hr,hc⟩:=h.at hb k hk
 obtain⟨rfl,hw⟩:=zbq.1 hr
 exact⟨b,off,e,hl,hw,hc 0 (by decide),hc 1 (by decide),hc 2 (by decide),hc 3 (by decide)⟩
def Ln(base:Nat)(w:World)(v:Value)(P:List Pd):Prop:=Gw PdE 66 base (fun _=>False) w v P
theorem Ln.at{base:Nat}{w:World}{g n c:Nat}{P:List Pd}(h:Ln base w (.slice (some ⟨g,0,none⟩) n c) P){k:Nat}(hk:k<P.length) :
 (∀x,I64 x->Ln base (w.setCell ⟨g,k*4,none⟩ (.int .i64 x)) (.slice (some ⟨g,0,none⟩) n c) (P.set k ⟨x,(P.getD k Pd.none).x,(P.getD k Pd.none).y,(P.getD k Pd.none).a⟩)) /\
    (∀x,I64 x->Ln base (w.setCell ⟨g,k*4+1,none⟩ (.int .i64 x)) (.slice (some ⟨g,0,none⟩) n c) (P.set k ⟨(P.getD k Pd.none).g,x,(P.getD k Pd.none).y,(P.getD k Pd.none).a⟩)) /\
    (∀x,I64 x->Ln base (w.setCell ⟨g,k*4+2,none⟩ (.int .i64 x)) (.slice (some ⟨g,0,none⟩) n c) (P.set k ⟨(P.getD k Pd.none).g,(P.getD k Pd.none).x,x,(P.getD k Pd.none).a⟩)) /\
    (∀x,I64 x->Ln base (w.setCell ⟨g,k*4+3,none⟩ (.int .i64 x)) (.slice (some ⟨g,0,none⟩) n c) (P.set k ⟨(P.getD k Pd.none).g,(P.getD k Pd.none).x,(P.getD k Pd.none).y,x⟩))/\(∀j,w.frozen? ⟨g,j,none⟩=false)/\PdW (P.getD k Pd.none) /\
    w.cell? ⟨g,k*4,none⟩=some (.int .i64 (P.getD k Pd.none).g)/\w.cell? ⟨g,k*4+1,none⟩=some (.int .i64 (P.getD k Pd.none).x)/\w.cell? ⟨g,k*4+2,none⟩=some (.int .i64 (P.getD k Pd.none).y)/\w.cell? ⟨g,k*4+3,none⟩=some (.int .i64 (P.getD k Pd.none).a):=by
 have hne:P≠[]:=fun e=>by rw[e]at hk;simp at hk
 obtain⟨g',cap,ev,_,_,_,hfz,zeq,zf2⟩:=Gw.own h hne
 have eg:g=g':=by injection ev with e1 _ _;cases e1;rfl
 subst eg
 obtain⟨vs,hr,hc⟩:=zeq k hk
 obtain⟨rfl,hw⟩:=zbq.1 hr
 refine⟨fun x hx=>?_,fun x hx=>?_,fun x hx=>?_,fun x hx=>?_,hfz,hw,hc 0 (by decide),hc 1 (by decide),hc 2 (by decide),hc 3 (by decide)⟩
 . exact zf2 k 0 (.int .i64 x) _ hk (by decide) (fun S' us hu=>by obtain⟨rfl,h1,h2,h3,h4⟩:=zbq.1 hu;exact zbq.2 ⟨rfl,hx,h2,h3,h4⟩)
 . exact zf2 k 1 (.int .i64 x) _ hk (by decide) (fun S' us hu=>by obtain⟨rfl,h1,h2,h3,h4⟩:=zbq.1 hu;exact zbq.2 ⟨rfl,h1,hx,h3,h4⟩)
 . exact zf2 k 2 (.int .i64 x) _ hk (by decide) (fun S' us hu=>by obtain⟨rfl,h1,h2,h3,h4⟩:=zbq.1 hu;exact zbq.2 ⟨rfl,h1,h2,hx,h4⟩)
 . exact zf2 k 3 (.int .i64 x) _ hk (by decide) (fun S' us hu=>by obtain⟨rfl,h1,h2,h3,h4⟩:=zbq.1 hu;exact zbq.2 ⟨rfl,h1,h2,h3,hx⟩)
theorem Ln.below{base:Nat}{w w':World}{v:Value}{P:List Pd}(h:Ln base w v P)(hb:Below w.heap.size w w'):Ln base w' v P:=Gw.below h hb
theorem Ln.lo{base:Nat}{w:World}{v:Value}{P:List Pd}(h:Ln base w v P){g:Nat}(hg:v.ownBlock=some g):base<=g/\g<w.heap.size:=Gw.lo h hg
theorem Ln.slice{base:Nat}{w:World}{v:Value}{P:List Pd}(h:Ln base w v P):∃a cap,v=.slice a P.length cap/\Gr PdE (fun _=>False) w a cap P/\∀b o,a=some ⟨b,o,none⟩->base<=b/\b<w.heap.size:=Gw.slice h
theorem ztc{P:List Pd}{k j:Nat}(h:k≠j)(q:Pd):(P.set k q).getD j Pd.none=P.getD j Pd.none:=by
 rw[List.getD_eq_getElem?_getD,List.getD_eq_getElem?_getD,List.getElem?_set_ne h]
theorem zdz{P:List Pd}{k:Nat}(hk:k<P.length)(q:Pd):(P.set k q).getD k Pd.none=q:=by simp[List.getD,hk]
theorem new2B(w:World)(t1 t2:TypeId)(c1 c2:List Value):Bk t1 ((w.alloc (.cells c1.toArray t1)).alloc (.cells c2.toArray t2)) w.heap.size c1/\Bk t2 ((w.alloc (.cells c1.toArray t1)).alloc (.cells c2.toArray t2)) (w.heap.size+1) c2/\Below w.heap.size w ((w.alloc (.cells c1.toArray t1)).alloc (.cells c2.toArray t2)) :=
 ⟨(Bk.new _ _ _).below (bl1 _),Bk.new1 _ _ _ _,bl2 _ _⟩
theorem new3B(w:World)(t1 t2 t3:TypeId)(c1 c2 c3:List Value):∀W,W=((w.alloc (.cells c1.toArray t1)).alloc (.cells c2.toArray t2)).alloc (.cells c3.toArray t3) ->
    Bk t1 W w.heap.size c1/\Bk t2 W (w.heap.size+1) c2/\Bk t3 W (w.heap.size+2) c3/\Below w.heap.size w W:=by
 rintro W rfl
 obtain⟨h1,h2,h3⟩:=new2B w t1 t2 c1 c2
 have k1:=Bk.new t3 ((w.alloc (.cells c1.toArray t1)).alloc (.cells c2.toArray t2)) c3
 have e:((w.alloc (.cells c1.toArray t1)).alloc (.cells c2.toArray t2)).heap.size=w.heap.size+2:=by simp
 rw[e]at k1
 exact⟨h1.below (bl1 _),h2.below (bl1 _),k1,bl3 _ _ _⟩
theorem new4B(w:World)(t1 t2 t3 t4:TypeId)(c1 c2 c3 c4:List Value):∀W,W=(((w.alloc (.cells c1.toArray t1)).alloc (.cells c2.toArray t2)).alloc (.cells c3.toArray t3)).alloc (.cells c4.toArray t4) ->
    Bk t1 W w.heap.size c1/\Bk t2 W (w.heap.size+1) c2/\Bk t3 W (w.heap.size+2) c3/\Bk t4 W (w.heap.size+3) c4/\Below w.heap.size w W:=by
 rintro W rfl
 obtain⟨h1,h2,h3⟩:=new2B w t1 t2 c1 c2
 obtain⟨k1,k2,k3⟩:=new2B ((w.alloc (.cells c1.toArray t1)).alloc (.cells c2.toArray t2)) t3 t4 c3 c4
 have e:((w.alloc (.cells c1.toArray t1)).alloc (.cells c2.toArray t2)).heap.size=w.heap.size+2:=by simp
 rw[e]at k1 k2
 exact⟨h1.below k3,h2.below k3,k1,k2,h3.trans (k3.mono (by omega))⟩
