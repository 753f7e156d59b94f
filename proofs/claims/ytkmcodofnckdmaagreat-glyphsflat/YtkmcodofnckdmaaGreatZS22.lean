import Derived.Test.YtkmcodofnckdmaaGreatZS21
set_option maxHeartbeats 8000000
set_option maxRecDepth 100000
set_option linter.unusedSimpArgs false
set_option linter.unusedVariables false
namespace Go.Proofs.YtkmcodofnckdmaaGreat
open Go.RowKit Go.Maps
theorem Box.new1S(t:TypeId)(w:World)(o:Obj)(x y z:Value):Box t ((w.alloc o).alloc (.cells #[x,y,z] t)) (w.heap.size+1) x y z:=by
 have h:=Box.new t (w.alloc o) x y z
 simpa using h
theorem zxk{s:Sr}{i:Int}(h:hrB s i=false):rwB s i=false:=by
 rw[Bool.eq_false_iff]
 intro e
 have:=zpv.1 e
 rw[hrB,decide_eq_true this.1,decide_eq_true this.2.1]at h
 cases h
theorem zlu(a:Option Addr)(ca:Nat)(b:Option Addr)(cb:Nat)(s:Sr)(i:Int)(pa:Option Addr)(pc:Nat)(cs:List Int)(w:World)(hg:Tzz w a ca s.rg)(hm:Rii w b cb s.rw)(hp:Ri w pa pc cs)(hl:s.rg.length<=40)(h8:∀l∈s.rg,l.length<=8) :
 Calls Tryz.prog 113 #[.agg #[.slice a s.rg.length ca,.slice b s.rw.length cb],.int .i64 i,.slice pa cs.length pc] w fun e w'=>∃v',e=.returned v'/\Fr w' v' 1000 (chQ s i cs)/\Below w.heap.size w w':=by
 have k1:=hg.lenB
 have k2:=hm.lenB
 have k3:=hp.lenB
 have HG:Hid (Tzz w a ca s.rg):=hg
 have HM:Hid (Rii w b cb s.rw):=hm
 have HP:Hid (Ri w pa pc cs):=hp
 have HL8:Hid (∀l∈s.rg,l.length<=8):=h8
 clear hg hm hp h8
 obtain⟨W,hW,X1,B0,hbW⟩:∃W,W=(w.alloc (.cells #[.slice a s.rg.length ca,.slice b s.rw.length cb] 26)).alloc (.cells #[.bool false,.slice none 0 0,.slice none 0 0] 125)/\BxS W w.heap.size (.slice a s.rg.length ca) (.slice b s.rw.length cb)/\Box 125 W (w.heap.size+1) (.bool false) (.slice none 0 0) (.slice none 0 0)/\Below w.heap.size w W:=⟨_,rfl,(BxS.new _ _ _).below (bl1 _),Box.new1S _ _ _ _ _ _,bl2 _ _⟩
 have hhr:=fun U=>zgz (.slice a s.rg.length ca) b cb s i U k2 rfl
 cases hh:hrB s i with
 | false =>
  have HQ:Hid (((0:Int):Rat)=chQ s i cs):=by show _=_;rw[znk (zxk hh)];rfl
  simp only[hh]at hhr
  clear hh
  go_enter Tryz.func113,Tryz.ntmps113
  go_upto_region 1 with fail
  rw[<-hW];clear hW;obtain⟨p00,p01,_⟩:=X1.cells
  refine wp_region_held_drew (S:=(fun u=>u.cell? ⟨w.heap.size,0,none⟩=some (.slice a s.rg.length ca)/\u.cell? ⟨w.heap.size,1,none⟩=some (.slice b s.rw.length cb))) (by kernel_rfl) ?_ (fun hH=>?_)
  . (try dsimp only)
    go_keep
  have hdr:Below W.heap.size W W.drew:=Below.drew1
  generalize W.drew=ud1 at hdr hH ⊢
  replace B0:=B0.below hdr;replace X1:=X1.below hdr
  replace hbW:Below w.heap.size w ud1:=hbW.trans (hdr.mono hbW.size)
  clear hdr;clear p00 p01;obtain⟨p00,p01,_⟩:=X1.cells;refine hT 0 hH ?_;refine hT 1 hH ?_
  refine hCall (i:=2) rfl (by kernel_rfl) (by rfl) (fun K hK=>?_)
  go_simp
  refine(hhr _).mono ?_
  rintro e u1 ⟨rfl,hb1⟩;replace B0:=B0.below hb1;replace X1:=X1.below hb1
  replace hbW:Below w.heap.size w u1:=hbW.trans (hb1.mono hbW.size)
  clear hb1;clear p00 p01;obtain⟨p00,p01,_⟩:=X1.cells
  go_wp2_with fail
  refine hK.out _ _ ?_ (fun hH=>?_)
  . (try dsimp only)
    exact⟨p00,p01⟩
  clear hK K
  try simp only[Act.put,pZ]
  refine hT 3 hH ?_;refine hT 4 hH ?_;refine hN 5 hH ?_;refine hN 6 hH ?_;refine hN 7 hH ?_;refine hN 8 hH ?_;refine hN 9 hH ?_;refine hN 10 hH ?_;refine hN 11 hH ?_;refine hN 12 hH ?_;refine hN 13 hH ?_;refine hN 14 hH ?_;refine hT 15 hH ?_
  refine wpAnyH_done (by kernel_rfl) ?_ _
  clear hH
  go_wp2_with fail
  refine(zaf 0 _ (by decide) (by decide)).mono ?_
  rintro e u8 ⟨v9,rfl,hF9,hb8⟩;replace B0:=B0.below hb8
  replace hbW:=hbW.trans (hb8.mono hbW.size)
  clear hb8;rw[HQ.out]at hF9;obtain⟨n9,x9,y9,⟨a9,c9,b9,d9,rfl,hx9,hy9⟩,hF9⟩:=hF9;obtain⟨q1,q2,q3,q4,q5,q6⟩:=B0.cells
  have hs:=B0.lt
  go_wp2
  refine ret3 (v:=.agg #[.bool n9,.slice a9 x9.length c9,.slice b9 y9.length d9]) B0 rfl (fun U hU=>by obtain⟨r1,r2,r3,_⟩:=hU.cells;simp[results,Tryz.results113,go_sem,r1,r2,r3]) (fun U hU hK=>⟨_,rfl,Fr.le (k:=2) ⟨_,_,_,⟨_,_,_,_,rfl,hK _ _ _ hx9,hK _ _ _ hy9⟩,hF9⟩ (by decide),hU _ _ hbW (by omega)⟩)
 | true =>
  simp only[hh]at hhr
  have hij:0<=i/\i<(s.rw.length:Int):=by
   rw[hrB,Bool.and_eq_true,decide_eq_true_iff,decide_eq_true_iff]at hh
   exact hh
  clear hh
  obtain⟨j,rfl⟩:∃j:Nat,i=(j:Int):=⟨i.toNat,(Int.toNat_of_nonneg hij.1).symm⟩
  have hj:j<s.rw.length:=by omega
  obtain⟨b1,o1,a1,c1,ea,hb1,d0,hr⟩:=HM.out.2.2 j hj
  have HRQ:Hid (rwB s (j:Int)=decide ((s.rw.getD j []).length=s.rg.length)):=by
   show _=_
   rw[rwB,Int.toNat_natCast]
   exact decide_eq_decide.2 ⟨fun h=>h.2.2,fun h=>⟨hij.1,hij.2,h⟩⟩
  have HCQ:Hid (rwB s (j:Int)=true->chQ s (j:Int) cs=chK s.rg (s.rw.getD j []) cs s.rg.length):=fun h=>by rw[zro h,Int.toNat_natCast]
  obtain⟨r,hrr⟩:∃r,s.rw.getD j []=r:=⟨_,rfl⟩
  rw[hrr]at d0 hr HRQ HCQ
  have HR:Hid (Ri w a1 c1 r):=hr
  have k4:=hr.lenB
  subst ea
  have A0:Cl W b1 (o1+j) (.slice a1 r.length c1):=⟨Nat.lt_of_lt_of_le hb1 hbW.size,(hbW.cell (p:=⟨b1,o1+j,none⟩) hb1).trans d0⟩
  clear hrr hr
  have i1:(0:Int)<=(j:Int):=by omega
  have i2:(j:Int)<(s.rw.length:Int):=by omega
  clear d0
  by_cases hlen:r.length=s.rg.length
  . have HQ:Hid (chK s.rg r cs r.length=chQ s (j:Int) cs):=by show _=_;rw[HCQ.out (by rw[HRQ.out];exact decide_eq_true hlen),hlen]
    have g5:((r.length:Int) != (s.rg.length:Int))=false:=by simp[hlen]
    have HLN:Hid (r.length=s.rg.length):=hlen
    have q0:=A0.2
    clear HRQ HCQ hlen
    go_enter Tryz.func113,Tryz.ntmps113
    go_upto_region 1 with fail
    rw[<-hW];clear hW;obtain⟨p00,p01,_⟩:=X1.cells
    refine wp_region_held_drew (S:=(fun u=>u.cell? ⟨w.heap.size,0,none⟩=some (.slice a s.rg.length ca)/\u.cell? ⟨w.heap.size,1,none⟩=some (.slice (some ⟨b1,o1,none⟩) s.rw.length cb)/\u.cell? ⟨b1,o1+j,none⟩=some (.slice a1 r.length c1))) (by kernel_rfl) ?_ (fun hH=>?_)
    . (try dsimp only)
      go_keep
    have hdr:Below W.heap.size W W.drew:=Below.drew1
    generalize W.drew=ud2 at hdr hH ⊢
    replace A0:=A0.below hdr;replace B0:=B0.below hdr;replace X1:=X1.below hdr
    replace hbW:Below w.heap.size w ud2:=hbW.trans (hdr.mono hbW.size)
    clear hdr;clear p00 p01;obtain⟨p00,p01,_⟩:=X1.cells;refine hT 0 hH ?_;refine hT 1 hH ?_
    refine hCall (i:=2) rfl (by kernel_rfl) (by rfl) (fun K hK=>?_)
    go_simp
    refine(hhr _).mono ?_
    rintro e u1 ⟨rfl,hb1⟩;replace A0:=A0.below hb1;replace B0:=B0.below hb1;replace X1:=X1.below hb1
    replace hbW:Below w.heap.size w u1:=hbW.trans (hb1.mono hbW.size)
    clear hb1;clear p00 p01;obtain⟨p00,p01,_⟩:=X1.cells
    go_wp2_with fail
    refine hK.out _ _ ?_ (fun hH=>?_)
    . (try dsimp only)
      exact⟨p00,p01,A0.2⟩
    clear hK K
    try simp only[Act.put,pZ]
    refine hT 3 hH ?_;refine hT 4 hH ?_;refine hT 5 hH ?_;refine hT 6 hH ?_;refine hT 7 hH ?_;refine hT 8 hH ?_;refine hT 9 hH ?_;refine hT 10 hH ?_;refine hT 11 hH ?_;refine hT 12 hH ?_;refine hT 13 hH ?_;refine hT 14 hH ?_;refine hT 15 hH ?_
    refine wpAnyH_done (by kernel_rfl) ?_ _
    clear hH hhr
    have q0:=A0.2
    go_wp2
    have HX:Hid (BxS u1 w.heap.size (.slice a s.rg.length ca) (.slice (some ⟨b1,o1,none⟩) s.rw.length cb)):=X1
    have HB0:Hid (Box 125 u1 (w.heap.size+1) (.bool false) (.slice none 0 0) (.slice none 0 0)):=B0
    have HBW:Hid (Below w.heap.size w u1):=hbW
    clear X1 B0 hbW A0 q0 p00 p01 g5
    go_loopw [7,34] (fun v i wr=>∃(k:Nat) (qs:List Rat),k<=r.length/\i=.int .i64 (k:Int)/\qs.length<=k/\suQ qs=chK s.rg r cs k/\Ro 125 u1.heap.size wr v 20 qs/\Below u1.heap.size u1 wr) (fun _ i _=>r.length-(intOf i).toNat)
    case atStart=>exact⟨0,[],Nat.zero_le _,rfl,Nat.le_refl _,rfl,Ro.nil _ _ _ _,Below.refl _ _⟩
    case round =>
     obtain⟨k,qs,hk,rfl,hql,hsum,hT,hBV⟩:=hrel;obtain⟨a2,c2,rfl,hts⟩:=hT.slice
     have HT:Hid (Ro 125 u1.heap.size wr (.slice a2 qs.length c2) 20 qs):=hT
     have HSU:Hid (suQ qs=chK s.rg r cs k):=hsum
     clear hT hsum
     have hbW:=HBW.out.trans (hBV.mono HBW.out.size)
     by_cases hkn:k<r.length
     . clear hts
       have hkg:k<s.rg.length:=by rw[<-HLN.out];exact hkn
       obtain⟨rb,ro,er,hrb,dz⟩:=HR.out.at hbW k hkn
       subst er
       have hzi:=HR.out.i64 hkn
       obtain⟨z,hz⟩:∃z,r.getD k 0=z:=⟨_,rfl⟩
       have HZ:Hid (r.getD k 0=z):=hz
       rw[hz]at dz hzi;clear hz
       by_cases hz0:z=0
       . have g6:(z==0)=true:=by simp[hz0]
         have HS2:Hid (suQ qs=chK s.rg r cs (k+1)):=znl HSU.out (.inl (by rw[HZ.out,hz0]))
         clear hz0 HZ HSU;go_wp2
         go_roundw
         case rel=>exact⟨k+1,qs,by omega,by go_num,by omega,HS2.out,HT.out,hBV⟩
         case measure=>simp[intOf];omega
       have g6:(z==0)=false:=by simp[hz0]
       obtain⟨b3,o3,a3,c3,e3,hb3,d3,hl3⟩:=HG.out.at hbW k hkg
       have hl8:=HL8.out _ (zm1 hkg)
       obtain⟨l,hl⟩:∃l,s.rg.getD k []=l:=⟨_,rfl⟩
       have HL:Hid (s.rg.getD k []=l):=hl
       rw[hl]at d3 hl3 hl8;subst e3;clear hl hz0
       have X1:=HX.out.below hBV
       obtain⟨q1,q2,_⟩:=X1.cells
       have hp:=HP.out.below hbW
       have hca:=zkj a3 c3 l pa pc cs wr hl3 hp (by omega)
       obtain⟨q,hq⟩:∃q,alQ l cs=q:=⟨_,rfl⟩
       have HQL:Hid (alQ l cs=q):=hq
       rw[hq]at hca;clear hq hp hl3
       go_wp2_with fail
       refine hca.mono ?_
       rintro e t1 ⟨v8,rfl,hF8,hb1⟩;obtain⟨n8,x8,y8,⟨a8,c8,b8,d8,rfl,hx8,hy8⟩,hF8⟩:=hF8
       obtain⟨U,hU,P8,hb9⟩:∃U,U=t1.alloc (.cells #[.bool n8,.slice a8 x8.length c8,.slice b8 y8.length d8] 125)/\Box 125 U t1.heap.size (.bool n8) (.slice a8 x8.length c8) (.slice b8 y8.length d8)/\Below t1.heap.size t1 U:=⟨_,rfl,Box.new _ _ _ _ _,al1 _⟩
       have hF8:Fr U (.agg #[.bool n8,.slice a8 x8.length c8,.slice b8 y8.length d8]) (2+2*l.length) q:=Fr.below ⟨_,_,_,⟨_,_,_,_,rfl,hx8,hy8⟩,hF8⟩ hb9
       have hbR:Below wr.heap.size wr U:=hb1.trans (hb9.mono hb1.size)
       have hg8:wr.heap.size<=t1.heap.size:=hb1.size
       clear hca hx8 hy8 X1 q1 q2 d3 dz
       go_wp2_with fail
       rw[<-hU];clear hU hb9 hb1
       generalize t1.heap.size=g8 at *
       refine(zei (2+2*l.length) q _ _ hF8.ct (by omega) (by omega)).mono ?_
       rintro e t2 ⟨rfl,hb2⟩;replace P8:=P8.below hb2;replace hF8:=hF8.below hb2
       replace hbR:=hbR.trans (hb2.mono hbR.size)
       replace hbW:=hbW.trans (hbR.mono hbW.size)
       clear hb2
       by_cases hq:q=0
       . have e1:sgnQ q=0:=zed.2 hq
         have HS2:Hid (suQ qs=chK s.rg r cs (k+1)):=znl HSU.out (.inr (by rw[HL.out,HQL.out,hq]))
         have hT2:=HT.out.below hbR
         have zsa:=hBV.trans (hbR.mono hBV.size)
         rw[e1];clear e1 hq HZ HSU hF8 P8 hbR hbW;go_wp2
         go_roundw
         case rel=>exact⟨k+1,qs,by omega,by go_num,by omega,HS2.out,hT2,zsa⟩
         case measure=>simp[intOf];omega
       have HS2:Hid (suQ (qs++[((z:Int):Rat)*q])=chK s.rg r cs (k+1)):=by
        have:=zwu (k:=k) HSU.out
        rw[HZ.out,HL.out,HQL.out]at this
        exact this
       have e1:¬sgnQ q=0:=fun e=>hq (zed.1 e)
       have g1:(sgnQ q != 0)=true:=by simp[e1]
       generalize sgnQ q=sg at *
       clear e1 hq HZ HSU HL HQL
       have hll:qs.length+1<=1000000:=by have:=HLN.out;omega
       go_upto_region 10 with fail
       obtain⟨p00,p01,p02,_⟩:=P8.cells
       refine wp_region_held_drew (S:=(fun u=>u.cell? ⟨g8,0,none⟩=some (.bool n8)/\u.cell? ⟨g8,1,none⟩=some (.slice a8 x8.length c8)/\u.cell? ⟨g8,2,none⟩=some (.slice b8 y8.length d8))) (by kernel_rfl) ?_ (fun hH=>?_)
       . (try dsimp only)
         go_keep
       have hdr:Below t2.heap.size t2 t2.drew:=Below.drew1
       generalize t2.drew=ud3 at hdr hH ⊢
       replace hF8:=hF8.below hdr;replace P8:=P8.below hdr
       replace hbW:Below w.heap.size w ud3:=hbW.trans (hdr.mono hbW.size)
       replace hbR:Below wr.heap.size wr ud3:=hbR.trans (hdr.mono hbR.size)
       clear hdr;clear p00 p01 p02;obtain⟨p00,p01,p02,_⟩:=P8.cells;refine hT 0 hH ?_;refine hT 1 hH ?_;refine hT 3 hH ?_
       refine hCall (i:=2) rfl (by kernel_rfl) (by rfl) (fun K hK=>?_)
       go_simp
       refine(zaf z _ hzi.1 (by have:=hzi.2;omega)).mono ?_
       rintro e u3 ⟨v6,rfl,hF6,hb3⟩;replace hF8:=hF8.below hb3;replace P8:=P8.below hb3
       replace hbW:Below w.heap.size w u3:=hbW.trans (hb3.mono hbW.size)
       replace hbR:Below wr.heap.size wr u3:=hbR.trans (hb3.mono hbR.size)
       clear hb3;clear p00 p01 p02;obtain⟨p00,p01,p02,_⟩:=P8.cells
       go_wp2_with fail
       refine hK.out _ _ ?_ (fun hH=>?_)
       . (try dsimp only)
         exact⟨p00,p01,p02⟩
       clear hK K
       try simp only[Act.put,pZ]
       refine hCall (i:=4) rfl (by kernel_rfl) (by rfl) (fun K hK=>?_)
       go_simp
       refine(zej 2 (2+2*l.length) _ _ _ _ _ hF6.ct hF8.ct (by decide) (by omega) (by decide) (by omega)).mono ?_
       rintro e u4 ⟨v9,rfl,hF9,hb4⟩;replace hF8:=hF8.below hb4;replace hF6:=hF6.below hb4;replace P8:=P8.below hb4
       replace hbW:Below w.heap.size w u4:=hbW.trans (hb4.mono hbW.size)
       replace hbR:Below wr.heap.size wr u4:=hbR.trans (hb4.mono hbR.size)
       clear hb4;obtain⟨n9,x9,y9,⟨a9,c9,b9,d9,rfl,hx9,hy9⟩,hF9⟩:=hF9
       have hF9:Fr u4 (.agg #[.bool n9,.slice a9 x9.length c9,.slice b9 y9.length d9]) 20 (((z:Int):Rat)*q):=Fr.le (k:=2+(2+2*l.length)) ⟨_,_,_,⟨_,_,_,_,rfl,hx9,hy9⟩,hF9⟩ (by omega)
       clear hx9 hy9;clear p00 p01 p02;obtain⟨p00,p01,p02,_⟩:=P8.cells
       go_wp2_with fail
       refine hK.out _ _ ?_ (fun hH=>?_)
       . (try dsimp only)
         exact⟨p00,p01,p02⟩
       clear hK K
       try simp only[Act.put,pZ]
       refine hCall (i:=5) rfl (by kernel_rfl) (by rfl) (fun K hK=>?_)
       go_simp
       obtain⟨u65,hU4,B4,hb4⟩:∃U4,U4=u4.alloc (.cells #[.bool n9,.slice a9 x9.length c9,.slice b9 y9.length d9] 125)/\Box 125 U4 u4.heap.size (.bool n9) (.slice a9 x9.length c9) (.slice b9 y9.length d9)/\Below u4.heap.size u4 U4:=⟨_,rfl,Box.new _ _ _ _ _,bl1 _⟩
       rw[<-hU4];clear hU4;replace hF8:=hF8.below hb4;replace hF9:=hF9.below hb4;replace P8:=P8.below hb4
       replace hbW:Below w.heap.size w u65:=hbW.trans (hb4.mono hbW.size)
       replace hbR:Below wr.heap.size wr u65:=hbR.trans (hb4.mono hbR.size)
       clear p00 p01 p02;obtain⟨p00,p01,p02,_⟩:=P8.cells
       refine hK.out _ _ ?_ (fun hH=>?_)
       . (try dsimp only)
         exact⟨p00,p01,p02⟩
       clear hK K
       try simp only[Act.put,pZ]
       refine hCall (i:=6) rfl (by kernel_rfl) (by rfl) (fun K hK=>?_)
       obtain⟨r0,r1,r2,_⟩:=B4.cells
       have hT4:=HT.out.below hbR
       have hbs:u1.heap.size<=u65.heap.size:=Nat.le_trans hBV.size hbR.size
       refine zjb _ _ rfl u1.heap.size _ 20 qs (((z:Int):Rat)*q) rfl hT4 u4.heap.size _ _ _ rfl r0 r1 r2 hF9 hll hbs ?_
       intro v' w9 hT9 hgrow
       have hB9:Below u1.heap.size u1 w9:=(hBV.trans (hbR.mono hBV.size)).grown hgrow hbs (fun k hk=>(HT.out.lo hk).1)
       have hne:some g8≠Value.ownBlock (.slice a2 qs.length c2):=fun e=>absurd (HT.out.lo e.symm).2 (Nat.not_lt.2 hg8)
       replace p00:=hgrow.cell p00 hne
       replace p01:=hgrow.cell p01 hne
       replace p02:=hgrow.cell p02 hne
       refine hK.out _ _ ?_ (fun hH=>?_)
       . (try dsimp only)
         exact⟨p00,p01,p02⟩
       clear hK K
       try simp only[Act.put,pZ]
       refine hT 7 hH ?_
       refine wpAnyH_done (by kernel_rfl) ?_ _
       clear hH;go_wp2
       go_roundw
       case rel=>exact⟨k+1,qs++[((z:Int):Rat)*q],by omega,by go_num,by simp;omega,HS2.out,hT9,hB9⟩
       case measure=>simp[intOf];omega
     . obtain rfl:k=r.length:=by omega
       have hsu:=ztt qs.length a2 c2 qs wr rfl (by have:=HLN.out;omega) hts
       rw[HSU.out,HQ.out]at hsu
       have B0:=HB0.out.below hBV
       clear hts HSU
       go_wp2_with fail
       refine hsu.mono ?_
       rintro e u8 ⟨v9,rfl,hF9,hb8⟩;replace B0:=B0.below hb8
       replace hbW:=hbW.trans (hb8.mono hbW.size)
       clear hb8 hsu
       have HLM:Hid (lmbS qs.length<=1000):=by show _<=_;have:=HLN.out;unfold lmbS;split <;> omega
       generalize lmbS qs.length=km at *
       obtain⟨n9,x9,y9,⟨a9,c9,b9,d9,rfl,hx9,hy9⟩,hF9⟩:=hF9;obtain⟨q1,q2,q3,q4,q5,q6⟩:=B0.cells
       have hs:=B0.lt
       go_wp2
       refine ret3 (v:=.agg #[.bool n9,.slice a9 x9.length c9,.slice b9 y9.length d9]) B0 rfl (fun U hU=>by obtain⟨r1,r2,r3,_⟩:=hU.cells;simp[results,Tryz.results113,go_sem,r1,r2,r3]) (fun U hU hK=>⟨_,rfl,Fr.le (k:=km) ⟨_,_,_,⟨_,_,_,_,rfl,hK _ _ _ hx9,hK _ _ _ hy9⟩,hF9⟩ HLM.out,hU _ _ hbW (by omega)⟩)
  . have HQ:Hid (((0:Int):Rat)=chQ s (j:Int) cs):=by show _=_;rw[znk (by rw[HRQ.out];exact decide_eq_false hlen)];rfl
    have g5:((r.length:Int) != (s.rg.length:Int))=true:=bne_iff_ne.2 (by omega)
    have q0:=A0.2
    clear HRQ HCQ hlen
    go_enter Tryz.func113,Tryz.ntmps113
    go_upto_region 1 with fail
    rw[<-hW];clear hW;obtain⟨p00,p01,_⟩:=X1.cells
    refine wp_region_held_drew (S:=(fun u=>u.cell? ⟨w.heap.size,0,none⟩=some (.slice a s.rg.length ca)/\u.cell? ⟨w.heap.size,1,none⟩=some (.slice (some ⟨b1,o1,none⟩) s.rw.length cb)/\u.cell? ⟨b1,o1+j,none⟩=some (.slice a1 r.length c1))) (by kernel_rfl) ?_ (fun hH=>?_)
    . (try dsimp only)
      go_keep
    have hdr:Below W.heap.size W W.drew:=Below.drew1
    generalize W.drew=ud4 at hdr hH ⊢
    replace A0:=A0.below hdr;replace B0:=B0.below hdr;replace X1:=X1.below hdr
    replace hbW:Below w.heap.size w ud4:=hbW.trans (hdr.mono hbW.size)
    clear hdr;clear p00 p01;obtain⟨p00,p01,_⟩:=X1.cells;refine hT 0 hH ?_;refine hT 1 hH ?_
    refine hCall (i:=2) rfl (by kernel_rfl) (by rfl) (fun K hK=>?_)
    go_simp
    refine(hhr _).mono ?_
    rintro e u1 ⟨rfl,hb1⟩;replace A0:=A0.below hb1;replace B0:=B0.below hb1;replace X1:=X1.below hb1
    replace hbW:Below w.heap.size w u1:=hbW.trans (hb1.mono hbW.size)
    clear hb1;clear p00 p01;obtain⟨p00,p01,_⟩:=X1.cells
    go_wp2_with fail
    refine hK.out _ _ ?_ (fun hH=>?_)
    . (try dsimp only)
      exact⟨p00,p01,A0.2⟩
    clear hK K
    try simp only[Act.put,pZ]
    refine hT 3 hH ?_;refine hT 4 hH ?_;refine hT 5 hH ?_;refine hT 6 hH ?_;refine hT 7 hH ?_;refine hT 8 hH ?_;refine hT 9 hH ?_;refine hT 10 hH ?_;refine hT 11 hH ?_;refine hT 12 hH ?_;refine hT 13 hH ?_;refine hT 14 hH ?_;refine hT 15 hH ?_
    refine wpAnyH_done (by kernel_rfl) ?_ _
    clear hH
    go_wp2_with fail
    refine(zaf 0 _ (by decide) (by decide)).mono ?_
    rintro e u8 ⟨v9,rfl,hF9,hb8⟩;replace B0:=B0.below hb8
    replace hbW:=hbW.trans (hb8.mono hbW.size)
    clear hb8;rw[HQ.out]at hF9;obtain⟨n9,x9,y9,⟨a9,c9,b9,d9,rfl,hx9,hy9⟩,hF9⟩:=hF9;obtain⟨q1,q2,q3,q4,q5,q6⟩:=B0.cells
    have hs:=B0.lt
    go_wp2
    refine ret3 (v:=.agg #[.bool n9,.slice a9 x9.length c9,.slice b9 y9.length d9]) B0 rfl (fun U hU=>by obtain⟨r1,r2,r3,_⟩:=hU.cells;simp[results,Tryz.results113,go_sem,r1,r2,r3]) (fun U hU hK=>⟨_,rfl,Fr.le (k:=2) ⟨_,_,_,⟨_,_,_,_,rfl,hK _ _ _ hx9,hK _ _ _ hy9⟩,hF9⟩ (by decide),hU _ _ hbW (by omega)⟩)
theorem Box.new2S(t:TypeId)(w:World)(o o':Obj)(x y z:Value):Box t (((w.alloc o).alloc o').alloc (.cells #[x,y,z] t)) (w.heap.size+2) x y z:=by
 have h:=Box.new t ((w.alloc o).alloc o') x y z
 simpa using h
def roN(s:Sr)(x r:Int)(cs:List Int):Int:=if fiS s x r then fldN (vaQ s x r cs+1/2).floor else 0
def roE(s:Sr)(x r:Int)(cs:List Int):Int:=if fiS s x r then fldE (vaQ s x r cs+1/2).floor else 1
theorem zoo(a:Option Addr)(ca:Nat)(b:Option Addr)(cb:Nat)(s:Sr)(x r:Int)(pa:Option Addr)(pc:Nat)(cs:List Int)(w:World)(hg:Tzz w a ca s.rg)(hm:Rii w b cb s.rw)(hp:Ri w pa pc cs)(hx:I64 x)(hr:I64 r)(hl:s.rg.length<=40)(h8:∀l∈s.rg,l.length<=8) :
 Calls Tryz.prog 68 #[.agg #[.slice a s.rg.length ca,.slice b s.rw.length cb],.agg #[.int .i64 x,.int .i64 r],.slice pa cs.length pc] w fun e w'=>∃v',e=.returned v'/\Fr w' v' 1003 (vaQ s x r cs)/\Below w.heap.size w w':=by
 have k3:=hp.lenB
 have HV:Hid (((x:Int):Rat)+chQ s r cs=vaQ s x r cs):=rfl
 have hch:=fun U h1 h2 h3=>zlu a ca b cb s r pa pc cs U h1 h2 h3 hl h8
 obtain⟨W,hW,X1,X2,B0,hbW⟩:∃W,W=((w.alloc (.cells #[.slice a s.rg.length ca,.slice b s.rw.length cb] 26)).alloc (.cells #[.int .i64 x,.int .i64 r] 60)).alloc (.cells #[.bool false,.slice none 0 0,.slice none 0 0] 125)/\BxS W w.heap.size (.slice a s.rg.length ca) (.slice b s.rw.length cb)/\BxL W (w.heap.size+1) (.int .i64 x) (.int .i64 r)/\Box 125 W (w.heap.size+2) (.bool false) (.slice none 0 0) (.slice none 0 0)/\Below w.heap.size w W:=⟨_,rfl,((BxS.new _ _ _).below (bl1 _)).below (bl1 _),(BxL.new1 _ _ _ _).below (bl1 _),Box.new2S _ _ _ _ _ _ _,(bl2 _ _).trans ((bl1 _).mono (by simp;omega))⟩
 replace hg:=hg.below hbW;replace hm:=hm.below hbW;replace hp:=hp.below hbW
 generalize chQ s r cs=qc at *
 clear h8
 go_enter Tryz.func68,Tryz.ntmps68
 go_upto_region 1 with fail
 rw[<-hW];clear hW;obtain⟨p00,p01,_⟩:=X1.cells;obtain⟨p10,p11,_⟩:=X2.cells
 refine wp_region_held_drew (S:=(fun u=>u.cell? ⟨w.heap.size,0,none⟩=some (.slice a s.rg.length ca)/\u.cell? ⟨w.heap.size,1,none⟩=some (.slice b s.rw.length cb)/\u.cell? ⟨w.heap.size+1,0,none⟩=some (.int .i64 x)/\u.cell? ⟨w.heap.size+1,1,none⟩=some (.int .i64 r))) (by kernel_rfl) ?_ (fun hH=>?_)
 . (try dsimp only)
   go_keep
 have hdr:Below W.heap.size W W.drew:=Below.drew1
 generalize W.drew=ud1 at hdr hH ⊢
 replace hg:=hg.below hdr;replace hm:=hm.below hdr;replace hp:=hp.below hdr;replace B0:=B0.below hdr;replace X1:=X1.below hdr;replace X2:=X2.below hdr
 replace hbW:Below w.heap.size w ud1:=hbW.trans (hdr.mono hbW.size)
 clear hdr;clear p00 p01 p10 p11;obtain⟨p00,p01,_⟩:=X1.cells;obtain⟨p10,p11,_⟩:=X2.cells;refine hT 0 hH ?_;refine hT 1 hH ?_;refine hT 3 hH ?_;refine hT 4 hH ?_;refine hT 5 hH ?_;refine hT 6 hH ?_
 refine hCall (i:=2) rfl (by kernel_rfl) (by rfl) (fun K hK=>?_)
 go_simp
 refine(zaf x _ hx.1 (by have:=hx.2;omega)).mono ?_
 rintro e u1 ⟨v5,rfl,hF5,hb1⟩;replace hg:=hg.below hb1;replace hm:=hm.below hb1;replace hp:=hp.below hb1;replace B0:=B0.below hb1;replace X1:=X1.below hb1;replace X2:=X2.below hb1
 replace hbW:Below w.heap.size w u1:=hbW.trans (hb1.mono hbW.size)
 clear hb1;clear p00 p01 p10 p11;obtain⟨p00,p01,_⟩:=X1.cells;obtain⟨p10,p11,_⟩:=X2.cells
 go_wp2_with fail
 refine hK.out _ _ ?_ (fun hH=>?_)
 . (try dsimp only)
   exact⟨p00,p01,p10,p11⟩
 clear hK K
 try simp only[Act.put,pZ]
 refine hCall (i:=7) rfl (by kernel_rfl) (by rfl) (fun K hK=>?_)
 go_simp
 refine(hch _ hg hm hp).mono ?_
 rintro e u2 ⟨v6,rfl,hF6,hb2⟩;replace hg:=hg.below hb2;replace hm:=hm.below hb2;replace hp:=hp.below hb2;replace B0:=B0.below hb2;replace hF5:=hF5.below hb2;replace X1:=X1.below hb2;replace X2:=X2.below hb2
 replace hbW:Below w.heap.size w u2:=hbW.trans (hb2.mono hbW.size)
 clear hb2;clear p00 p01 p10 p11;obtain⟨p00,p01,_⟩:=X1.cells;obtain⟨p10,p11,_⟩:=X2.cells
 go_wp2_with fail
 refine hK.out _ _ ?_ (fun hH=>?_)
 . (try dsimp only)
   exact⟨p00,p01,p10,p11⟩
 clear hK K
 try simp only[Act.put,pZ]
 refine hCall (i:=8) rfl (by kernel_rfl) (by rfl) (fun K hK=>?_)
 go_simp
 refine(zfy 2 1000 _ _ _ _ _ hF5.ct hF6.ct (by decide) (by decide) (by decide) (by decide)).mono ?_
 rintro e u3 ⟨v9,rfl,hF9,hb3⟩;replace hg:=hg.below hb3;replace hm:=hm.below hb3;replace hp:=hp.below hb3;replace B0:=B0.below hb3;replace hF5:=hF5.below hb3;replace hF6:=hF6.below hb3;replace X1:=X1.below hb3;replace X2:=X2.below hb3
 replace hbW:Below w.heap.size w u3:=hbW.trans (hb3.mono hbW.size)
 clear hb3;rw[HV.out]at hF9;obtain⟨n9,x9,y9,⟨a9,c9,b9,d9,rfl,hx9,hy9⟩,hF9⟩:=hF9;clear p00 p01 p10 p11;obtain⟨p00,p01,_⟩:=X1.cells;obtain⟨p10,p11,_⟩:=X2.cells
 go_wp2_with fail
 refine hK.out _ _ ?_ (fun hH=>?_)
 . (try dsimp only)
   exact⟨p00,p01,p10,p11⟩
 clear hK K
 try simp only[Act.put,pZ]
 refine hCall (i:=9) rfl (by kernel_rfl) (by rfl) (fun K hK=>?_)
 go_simp
 have hs:=B0.lt
 obtain⟨f1,f2,f3,f4,f5,f6⟩:=B0.cells
 try go_simp
 obtain⟨u64,hU,C9,hbU,hK9,ho⟩:=zai B0 (.bool n9) (.slice a9 x9.length c9) (.slice b9 y9.length d9)
 rw[<-hU];clear hU f1 f2 f3 f4 f5 f6
 replace hbW:=hbU _ _ hbW (by omega)
 replace hx9:=hK9 _ _ _ hx9
 replace hy9:=hK9 _ _ _ hy9
 replace X1:BxS u64 w.heap.size (.slice a s.rg.length ca) (.slice b s.rw.length cb):=(ho _ (by omega)).trans X1
 replace X2:BxL u64 (w.heap.size+1) (.int .i64 x) (.int .i64 r):=(ho _ (by omega)).trans X2
 clear hbU hK9 ho;clear p00 p01 p10 p11;obtain⟨p00,p01,_⟩:=X1.cells;obtain⟨p10,p11,_⟩:=X2.cells
 refine hK.out _ _ ?_ (fun hH=>?_)
 . (try dsimp only)
   exact⟨p00,p01,p10,p11⟩
 clear hK K
 try simp only[Act.put,pZ]
 refine wpAnyH_done (by kernel_rfl) ?_ _
 clear hH;go_wp2
 refine bodyPost_ret (by obtain⟨r1,r2,r3,_⟩:=C9.cells;simp[results,Tryz.results68,go_sem,r1,r2,r3]) rfl ⟨_,rfl,⟨_,_,_,⟨_,_,_,_,rfl,hx9,hy9⟩,hF9⟩,hbW⟩
theorem zkg(a:Option Addr)(ca:Nat)(b:Option Addr)(cb:Nat)(s:Sr)(x r:Int)(pa:Option Addr)(pc:Nat)(cs:List Int)(w:World)(hg:Tzz w a ca s.rg)(hm:Rii w b cb s.rw)(hp:Ri w pa pc cs)(hx:I64 x)(hr:I64 r)(hl:s.rg.length<=40)(h8:∀l∈s.rg,l.length<=8) :
 Calls Tryz.prog 36 #[.agg #[.slice a s.rg.length ca,.slice b s.rw.length cb],.agg #[.int .i64 x,.int .i64 r],.slice pa cs.length pc] w fun e w'=>e=.returned (.tuple #[.int .i64 (roN s x r cs),.int .i64 (roE s x r cs)])/\Below w.heap.size w w':=by
 have k2:=hm.lenB
 have k3:=hp.lenB
 have hfi:=fun U=>zrq a ca b cb s x r U k2 hx hr
 have hva:=fun U h1 h2 h3=>zoo a ca b cb s x r pa pc cs U h1 h2 h3 hx hr hl h8
 obtain⟨W,hW,X1,X2,hbW⟩:∃W,W=(w.alloc (.cells #[.slice a s.rg.length ca,.slice b s.rw.length cb] 26)).alloc (.cells #[.int .i64 x,.int .i64 r] 60)/\BxS W w.heap.size (.slice a s.rg.length ca) (.slice b s.rw.length cb)/\BxL W (w.heap.size+1) (.int .i64 x) (.int .i64 r)/\Below w.heap.size w W:=⟨_,rfl,(BxS.new _ _ _).below (bl1 _),BxL.new1 _ _ _ _,bl2 _ _⟩
 replace hg:=hg.below hbW;replace hm:=hm.below hbW;replace hp:=hp.below hbW;clear h8 hx hr
 cases hf:fiS s x r with
 | false =>
  have HE:Hid (roN s x r cs=0/\roE s x r cs=1):=by
   show _/\_
   constructor
   . rw[roN,hf];rfl
   . rw[roE,hf];rfl
  simp only[hf]at hfi
  clear hf hg hm hp hva
  go_enter Tryz.func36,Tryz.ntmps36
  go_wp2_with fail
  rw[<-hW];clear hW
  refine(hfi _).mono ?_
  rintro e u1 ⟨rfl,hb1⟩
  replace hbW:=hbW.trans (hb1.mono hbW.size)
  clear hb1 hfi;go_wp2
  go_ret2
  exact⟨by rw[HE.out.1,HE.out.2];rfl,hbW⟩
 | true =>
  have HE:Hid (roN s x r cs=fldN (vaQ s x r cs+1/2).floor/\roE s x r cs=fldE (vaQ s x r cs+1/2).floor):=by
   show _/\_
   constructor
   . rw[roN,hf];rfl
   . rw[roE,hf];rfl
  simp only[hf]at hfi
  clear hf
  go_enter Tryz.func36,Tryz.ntmps36
  go_wp2_with fail
  rw[<-hW];clear hW
  refine(hfi _).mono ?_
  rintro e u1 ⟨rfl,hb1⟩;replace hg:=hg.below hb1;replace hm:=hm.below hb1;replace hp:=hp.below hb1;replace X1:=X1.below hb1;replace X2:=X2.below hb1
  replace hbW:=hbW.trans (hb1.mono hbW.size)
  clear hb1 hfi;obtain⟨p0,p1,_⟩:=X1.cells;obtain⟨p2,p3,_⟩:=X2.cells
  go_wp2_with fail
  refine(hva _ hg hm hp).mono ?_
  rintro e u2 ⟨v2,rfl,hF2,hb2⟩
  replace hbW:=hbW.trans (hb2.mono hbW.size)
  clear hb2 hva hg hm hp X1 X2 p0 p1 p2 p3
  generalize vaQ s x r cs=q at *
  go_wp2_with fail
  refine(zkd 1003 q _ _ hF2.ct (by decide) (by decide)).mono ?_
  rintro e u3 ⟨rfl,hb3⟩
  replace hbW:=hbW.trans (hb3.mono hbW.size)
  rw[<-HE.out.1,<-HE.out.2];clear hb3 hF2;go_wp2
  go_ret2
  exact⟨rfl,hbW⟩
theorem zvi{l:List Gl}{g:Int}(h:∀k,dq l 6 g=some k->6<k+0):dq l 6 g=none:=by
 cases hd:dq l 6 g with
 | none=>rfl
 | some k =>
  have h1:=h k hd
  have h2:=dq_le hd
  omega
theorem zf2{l:List Gl}{g:Int}{k:Nat}(h:dq l 6 g=some k):dpG l g=(k:Int):=by unfold dpG;rw[h];rfl
theorem zew{l:List Gl}{g:Int}(h:dq l 6 g=none):dpG l g=-1:=by unfold dpG;rw[h];rfl
theorem zio(S:Nat->Prop)(a:Option Addr)(ca:Nat)(l:List Gl)(g:Int)(w U:World)(hl:Gr GlE S w a ca l)(hps:∀x∈l,x.o.ps.length<=12)(hg:I64 g)(hS:Bk 119 U (w.heap.size+1) [.slice a l.length ca,.map (some w.heap.size)])(hM:Mp U w.heap.size 0 (fun _=>none))(hB:Below w.heap.size w U) :
 Calls Tryz.prog 32 #[.pointer (some ⟨w.heap.size+1,0,none⟩),.int .i64 g,.int .i64 0] U fun e w'=>((∃k:Nat,dq l 6 g=some k/\e=.returned (.tuple #[.agg #[.int .i64 (k:Int),.int .i64 ((szG l g:Nat):Int)],.bool true]))\/(dq l 6 g=none/\e=.returned (.tuple #[.agg #[.int .i64 0,.int .i64 0],.bool false])))/\Below w.heap.size w w':=by
 refine(zv9 w S a ca l hl hps (w.heap.size+1) w.heap.size (Nat.le_refl _) (by omega) 7 0 rfl g 0 _ U hg (by have:=tk_le (Nat.le_refl 7);omega) hB hS hM (KnG.nil l)).mono ?_
 rintro e w' ⟨h1,h2,h3⟩
 refine⟨?_,hB.trans (h3.below hB.size (Nat.le_refl _))⟩
 rcases h1 with h1|⟨h1,h4⟩
 . exact .inl h1
 . exact .inr ⟨zvi h1,h4⟩
theorem zfb(S:Nat->Prop)(a:Option Addr)(ca:Nat)(l:List Gl)(g:Int)(w:World)(hl:Gr GlE S w a ca l)(hps:∀x∈l,x.o.ps.length<=12)(hg:I64 g) :
 Calls Tryz.prog 11 #[.slice a l.length ca,.int .i64 g] w fun e w'=>e=.returned (.int .i64 (dpG l g))/\Below w.heap.size w w':=by
 have kl:=hl.lenB
 go_enter Tryz.func11,Tryz.ntmps11
 go_wp2_with fail
 refine(zd5 a l.length ca w).mono ?_
 rintro e U ⟨rfl,hS,hM,hB⟩
 have zuh:=zio S a ca l g w U hl hps hg hS hM hB
 clear hS hM hl
 go_wp2_with fail
 refine zuh.mono ?_
 rintro e u ⟨zv7,hb⟩;clear zuh
 rcases zv7 with ⟨k,hk,rfl⟩|⟨hk,rfl⟩
 . have HD:Hid (_):=zf2 hk
   obtain⟨V,hV,X,hbV⟩:∃V,V=u.alloc (.cells #[.int .i64 (k:Int),.int .i64 ((szG l g:Nat):Int)] 71)/\Bk 71 V u.heap.size [.int .i64 (k:Int),.int .i64 ((szG l g:Nat):Int)]/\Below u.heap.size u V:=⟨_,rfl,Bk.new _ _ _,bl1 _⟩
   replace hb:=hb.trans (hbV.mono hb.size)
   obtain⟨x0,x1,_⟩:=X.two;clear hk hbV X
   go_upto_region 2 with fail
   rw[<-hV];clear hV;go_wp2
   go_ret
   exact⟨by rw[HD.out];rfl,hb⟩
 . have HD:Hid (_):=zew hk
   have hb2:Below w.heap.size w (u.alloc (.cells #[.int .i64 0,.int .i64 0] 71)):=hb.trans ((bl1 _).mono hb.size)
   clear hk hb;go_wp2
   go_ret
   exact⟨by rw[HD.out];rfl,hb2⟩
theorem zqz(S:Nat->Prop)(a:Option Addr)(ca:Nat)(l:List Gl)(g:Int)(w:World)(hl:Gr GlE S w a ca l)(hps:∀x∈l,x.o.ps.length<=12)(hg:I64 g) :
 Calls Tryz.prog 13 #[.slice a l.length ca,.int .i64 g] w fun e w'=>e=.returned (.int .i64 ((szG l g:Nat):Int))/\Below w.heap.size w w':=by
 have kl:=hl.lenB
 go_enter Tryz.func13,Tryz.ntmps13
 go_wp2_with fail
 refine(zd5 a l.length ca w).mono ?_
 rintro e U ⟨rfl,hS,hM,hB⟩
 have zuh:=zio S a ca l g w U hl hps hg hS hM hB
 clear hS hM hl
 go_wp2_with fail
 refine zuh.mono ?_
 rintro e u ⟨zv7,hb⟩;clear zuh
 rcases zv7 with ⟨k,hk,rfl⟩|⟨hk,rfl⟩
 . obtain⟨V,hV,X,hbV⟩:∃V,V=u.alloc (.cells #[.int .i64 (k:Int),.int .i64 ((szG l g:Nat):Int)] 71)/\Bk 71 V u.heap.size [.int .i64 (k:Int),.int .i64 ((szG l g:Nat):Int)]/\Below u.heap.size u V:=⟨_,rfl,Bk.new _ _ _,bl1 _⟩
   replace hb:=hb.trans (hbV.mono hb.size)
   obtain⟨x0,x1,_⟩:=X.two;clear hk hbV X
   go_upto_region 2 with fail
   rw[<-hV];clear hV;go_wp2
   go_ret
   exact⟨rfl,hb⟩
 . have HD:Hid (szG l g=0):=zh0 hk
   obtain⟨V,hV,X,hbV⟩:∃V,V=u.alloc (.cells #[.int .i64 0,.int .i64 0] 71)/\Bk 71 V u.heap.size [.int .i64 0,.int .i64 0]/\Below u.heap.size u V:=⟨_,rfl,Bk.new _ _ _,bl1 _⟩
   replace hb:=hb.trans (hbV.mono hb.size)
   obtain⟨x0,x1,_⟩:=X.two;clear hk hbV X
   go_upto_region 2 with fail
   rw[<-hV];clear hV;go_wp2
   go_ret
   exact⟨by rw[HD.out];rfl,hb⟩
def avN(l:List Gl)(s:Sr)(g:Int)(cs:List Int):Int:=match gAt l g with | none=>0 | some x=>roN s x.ab x.ar cs
def avE(l:List Gl)(s:Sr)(g:Int)(cs:List Int):Int:=match gAt l g with | none=>5 | some x=>roE s x.ab x.ar cs
theorem zrv{l:List Gl}{s:Sr}{g:Int}{cs:List Int}(h:gAt l g=none):avN l s g cs=0/\avE l s g cs=5:=by unfold avN avE;rw[h];exact⟨rfl,rfl⟩
theorem zru{l:List Gl}{s:Sr}{g:Int}{cs:List Int}{x:Gl}(h:gAt l g=some x):avN l s g cs=roN s x.ab x.ar cs/\avE l s g cs=roE s x.ab x.ar cs:=by unfold avN avE;rw[h];exact⟨rfl,rfl⟩
theorem zj9(S:Nat->Prop)(a:Option Addr)(ca:Nat)(l:List Gl)(ga:Option Addr)(gc:Nat)(ma:Option Addr)(mc:Nat)(s:Sr)(g:Int)(pa:Option Addr)(pc:Nat)(cs:List Int)(w:World)(hl:Gr GlE S w a ca l)(hg:Tzz w ga gc s.rg)(hm:Rii w ma mc s.rw)(hp:Ri w pa pc cs)(hi:I64 g)(h40:s.rg.length<=40)(h8:∀l∈s.rg,l.length<=8) :
 Calls Tryz.prog 15 #[.slice a l.length ca,.agg #[.slice ga s.rg.length gc,.slice ma s.rw.length mc],.int .i64 g,.slice pa cs.length pc] w fun e w'=>e=.returned (.tuple #[.int .i64 (avN l s g cs),.int .i64 (avE l s g cs)])/\Below w.heap.size w w':=by
 have kl:=hl.lenB
 have k2:=hm.lenB
 have k3:=hp.lenB
 obtain⟨W,hW,X1,hbW⟩:∃W,W=w.alloc (.cells #[.slice ga s.rg.length gc,.slice ma s.rw.length mc] 26)/\Bk 26 W w.heap.size [.slice ga s.rg.length gc,.slice ma s.rw.length mc]/\Below w.heap.size w W:=⟨_,rfl,Bk.new _ _ _,bl1 _⟩
 obtain⟨x0,x1,_⟩:=X1.two
 have hig:=zik a l.length ca g W (by omega) hi
 cases hgi:isG l.length g with
 | false =>
  rw[hgi]at hig
  have HA:Hid (_):=zrv (s:=s) (cs:=cs) (zc2 hgi)
  clear hgi
  go_enter Tryz.func15,Tryz.ntmps15
  go_upto_region 1 with fail
  rw[<-hW];clear hW
  go_wp2_with fail
  refine hig.mono ?_
  rintro e u ⟨rfl,rfl⟩;clear hig;go_wp2
  go_ret2
  exact⟨by rw[HA.out.1,HA.out.2];rfl,hbW⟩
 | true =>
  rw[hgi]at hig
  have HA:Hid (_):=zru (s:=s) (cs:=cs) (zjz hgi)
  obtain⟨hg0,hg1⟩:=zds hgi
  obtain⟨kg,rfl⟩:∃k:Nat,g=(k:Int):=⟨g.toNat,by omega⟩
  rw[Int.toNat_natCast]at HA
  have hkl:kg<l.length:=by omega
  obtain⟨b1,off,xa,xc,qa,qc,ta,tc,ea,hb1,hGC,c0,c1,c2,c3,c4,c5⟩:=hl.gl hbW kg hkl
  obtain⟨x,hx⟩:∃x,l.getD kg Gl.none=x:=⟨_,rfl⟩
  rw[hx]at hGC c3 c4 HA;subst ea
  have hro:=fun U hU=>zkg ga gc ma mc s x.ab x.ar pa pc cs U ((hg.below hbW).below hU) ((hm.below hbW).below hU) ((hp.below hbW).below hU) hGC.2.2.2.1 hGC.2.2.2.2 h40 h8
  generalize x.ab=xb at *
  generalize x.ar=xr at *
  have zyp:=X1.lt
  clear hgi hx c0 c1 c2 c5 hg hm hp hl hGC X1
  go_enter Tryz.func15,Tryz.ntmps15
  go_upto_region 1 with fail
  rw[<-hW];clear hW
  go_wp2_with fail
  refine hig.mono ?_
  rintro e u ⟨rfl,rfl⟩;clear hig
  go_upto_region 3 with fail
  refine wp_region_held_drew (S:=fun w9=>w9.cell? ⟨w.heap.size,0,none⟩=some (.slice ga s.rg.length gc)/\w9.cell? ⟨w.heap.size,1,none⟩=some (.slice ma s.rw.length mc)/\w9.cell? ⟨b1,off+kg*6+3,none⟩=some (.int .i64 xb)/\w9.cell? ⟨b1,off+kg*6+4,none⟩=some (.int .i64 xr)) (by kernel_rfl) ?_ (fun hH=>?_)
  . (try dsimp only)
    go_keep
  have hdr:Below W.heap.size W W.drew:=Below.drew1
  have zvw:=hro _ hdr
  generalize W.drew=Z at hdr hH zvw ⊢
  have zyl:b1<W.heap.size:=Nat.lt_of_lt_of_le hb1 hbW.size
  replace x0:=(hdr.cell (p:=⟨w.heap.size,0,none⟩) zyp).trans x0
  replace x1:=(hdr.cell (p:=⟨w.heap.size,1,none⟩) zyp).trans x1
  replace c3:=(hdr.cell (p:=⟨b1,off+kg*6+3,none⟩) zyl).trans c3
  replace c4:=(hdr.cell (p:=⟨b1,off+kg*6+4,none⟩) zyl).trans c4
  replace hbW:=hbW.trans (hdr.mono hbW.size)
  have hzs:=hdr.size
  clear hdr hro;refine hT 0 hH ?_;refine hT 1 hH ?_;refine hT 2 hH ?_;refine hT 3 hH ?_;refine hT 4 hH ?_;refine hT 5 hH ?_;refine hT 6 hH ?_
  refine hCall (i:=7) rfl (by kernel_rfl) (by rfl) (fun K hK=>?_)
  go_simp
  refine zvw.mono ?_
  rintro e u ⟨rfl,hb⟩
  replace x0:=(hb.cell (p:=⟨w.heap.size,0,none⟩) (by show w.heap.size<_;omega)).trans x0
  replace x1:=(hb.cell (p:=⟨w.heap.size,1,none⟩) (by show w.heap.size<_;omega)).trans x1
  replace c3:=(hb.cell (p:=⟨b1,off+kg*6+3,none⟩) (by show b1<_;omega)).trans c3
  replace c4:=(hb.cell (p:=⟨b1,off+kg*6+4,none⟩) (by show b1<_;omega)).trans c4
  replace hbW:=hbW.trans (hb.mono hbW.size)
  clear hb zvw
  go_wp2_with fail
  refine hK.out _ _ ?_ (fun hH=>?_)
  . (try dsimp only)
    exact⟨x0,x1,c3,c4⟩
  clear hK K
  try simp only[Act.put,pZ]
  refine hT 8 hH ?_;refine hT 9 hH ?_;refine hT 10 hH ?_;refine hT 11 hH ?_
  refine wpAnyH_done (by kernel_rfl) ?_ _
  clear hH x0 x1 c3 c4;go_wp2
  go_ret2
  exact⟨by rw[HA.out.1,HA.out.2];rfl,hbW⟩
def FlB(B:Int)(cs:List (List Pn)):Prop:=∀c∈cs,∀p∈c,(-B<=p.x/\p.x<=B)/\-B<=p.y/\p.y<=B
theorem FlB.le{B C:Int}{cs:List (List Pn)}(h:FlB B cs)(hb:B<=C):FlB C cs:=fun c hc p hp=>by
 have:=h c hc p hp
 omega
theorem FlB.append{B:Int}{a b:List (List Pn)}(h:FlB B a)(k:FlB B b):FlB B (a++b):=fun c hc p hp=>by
 rcases List.mem_append.1 hc with hc|hc
 . exact h c hc p hp
 . exact k c hc p hp
theorem FlB.mv{B:Int}{cs:List (List Pn)}(h:FlB B cs){dx dy:Int}(h1:-32768<=dx/\dx<=32767)(h2:-32768<=dy/\dy<=32767):FlB (B+32768) (mvC dx dy cs):=by
 intro c hc p hp
 obtain⟨c',hc',rfl⟩:=List.mem_map.1 hc
 obtain⟨p',hp',rfl⟩:=List.mem_map.1 hp
 have:=h c' hc' p' hp'
 show(_<=p'.x+dx/\p'.x+dx<=_)/\_<=p'.y+dy/\p'.y+dy<=_
 omega
theorem zmi(qs:List Rat)(i:Nat):-32768<=(qs.map rnN).getD i 0/\(qs.map rnN).getD i 0<=32767:=by
 by_cases hi:i<qs.length
 . rw[List.getD_eq_getElem?_getD,List.getElem?_eq_getElem (by simpa using hi),Option.getD_some,List.getElem_map]
   exact zh5 _
 . rw[List.getD_eq_getElem?_getD,List.getElem?_eq_none (by simpa using hi)]
   show -32768<=(0:Int)/\(0:Int)<=32767
   omega
theorem zi2{o:Ol}{l:List Tu}{cs:List Int}(h:atE o l cs=0):FlB 32768 (atO o l cs).cs/\∀p∈(atO o l cs).ps,(-32768<=p.dx/\p.dx<=32767)/\-32768<=p.dy/\p.dy<=32767:=by
 rw[(at_ok h).2]
 constructor
 . intro c hc p hp
   have hc':c∈(List.range o.cs.length).map (reC o.cs ((exL Pn.x Pa.dx Tu.dx o l cs).map rnN) ((exL Pn.y Pa.dy Tu.dy o l cs).map rnN)):=hc
   obtain⟨k,_,rfl⟩:=List.mem_map.1 hc'
   obtain⟨j,_,rfl⟩:=List.mem_map.1 hp
   have h1:=zmi (exL Pn.x Pa.dx Tu.dx o l cs) (ofC o.cs k+j)
   have h2:=zmi (exL Pn.y Pa.dy Tu.dy o l cs) (ofC o.cs k+j)
   show(_<=((exL Pn.x Pa.dx Tu.dx o l cs).map rnN).getD (ofC o.cs k+j) 0/\((exL Pn.x Pa.dx Tu.dx o l cs).map rnN).getD (ofC o.cs k+j) 0<=_)/\_<=((exL Pn.y Pa.dy Tu.dy o l cs).map rnN).getD (ofC o.cs k+j) 0/\((exL Pn.y Pa.dy Tu.dy o l cs).map rnN).getD (ofC o.cs k+j) 0<=_
   omega
 . intro p hp
   have hp':p∈(List.range o.ps.length).map (reA o.cs.flatten.length o.ps ((exL Pn.x Pa.dx Tu.dx o l cs).map rnN) ((exL Pn.y Pa.dy Tu.dy o l cs).map rnN)):=hp
   obtain⟨k,_,rfl⟩:=List.mem_map.1 hp'
   exact⟨zmi (exL Pn.x Pa.dx Tu.dx o l cs) (o.cs.flatten.length+k),zmi (exL Pn.y Pa.dy Tu.dy o l cs) (o.cs.flatten.length+k)⟩
theorem zra{f:Int->Fl}{B:Int}(hB:0<=B):∀ {ps:List Pa},(∀p∈ps,FlB B (f p.g).1/\(-32768<=p.dx/\p.dx<=32767)/\-32768<=p.dy/\p.dy<=32767)->FlB (B+32768) (flP f ps).1:=by
 intro ps
 induction ps with
 | nil=>intro _ c hc;cases hc
 | cons p ps ih =>
  intro h
  rw[flP]
  by_cases h1:(f p.g).2=0
  . rw[if_pos h1]
    by_cases h2:(flP f ps).2=0
    . rw[if_pos h2]
      obtain⟨k1,k2,k3⟩:=h p (by simp)
      exact(k1.mv k2 k3).append (ih (fun q hq=>h q (by simp[hq])))
    . rw[if_neg h2];intro c hc;cases hc
  . rw[if_neg h1];intro c hc;cases hc
theorem zkc{l:List Gl}{cs:List Int}:∀(n:Nat) (g:Int),FlB (32768*((n:Int)+2)) (flG l cs n g).1:=by
 have key:∀(n:Nat) (g:Int),(∀h,FlB (32768*((n:Int)+1)) (flf l cs n h).1)->FlB (32768*((n:Int)+2)) (flG l cs n g).1:=by
  intro n g hf
  cases hx:gAt l g with
  | none =>
   have e:flG l cs n g=([],5):=by cases n <;> rw[flG,hx]
   rw[e]
   intro c hc
   cases hc
  | some x =>
   rw[zfk hx]
   unfold flX
   by_cases he:atE x.o x.ts cs=0
   . rw[if_pos he]
     obtain⟨h1,h2⟩:=zi2 he
     by_cases h3:(flP (flf l cs n) (atO x.o x.ts cs).ps).2=0
     . rw[if_pos h3]
       have h4:=zra (f:=flf l cs n) (B:=32768*((n:Int)+1)) (by omega) (fun p hp=>⟨hf p.g,h2 p hp⟩)
       exact(h1.le (by omega)).append (h4.le (by omega))
     . rw[if_neg h3];intro c hc;cases hc
   . rw[if_neg he];intro c hc;cases hc
 intro n
 induction n with
 | zero=>intro g;exact key 0 g (fun h c hc=>by cases hc)
 | succ n ih=>intro g;exact key (n+1) g (fun h=>(ih h).le (by omega))
theorem zqg{dx dy:Int}{cs:List (List Pn)}{k:Nat}(hk:k<cs.length):mvC dx dy (cs.take (k+1))=mvC dx dy (cs.take k)++[(cs.getD k []).map (mvQ dx dy)]:=by
 rw[zb9 (d:=[]) hk,zoe]
 rfl
theorem zjy{α β:Type}{f:α->β}{c:List α}{d:α}{k:Nat}(hk:k<c.length):(c.take (k+1)).map f=(c.take k).map f++[f (c.getD k d)]:=by
 rw[zb9 (d:=d) hk,List.map_append]
 rfl
theorem zol(S:Nat->Prop)(a:Option Addr)(ca:Nat)(cs:List (List Pn))(pg dx dy:Int)(w:World)(h:Gr PnE.row S w a ca cs)(hfl:FlB 1000000000 cs)(hx:-1000000000<=dx/\dx<=1000000000)(hy:-1000000000<=dy/\dy<=1000000000)(hn:cs.length<=100000)(hnf:cs.flatten.length<=100000) :
 Calls Tryz.prog 72 #[.slice a cs.length ca,.agg #[.int .i64 pg,.int .i64 dx,.int .i64 dy]] w fun e w'=>∃a1 c1,e=.returned (.slice a1 cs.length c1)/\∃L:List (Nat×List Pn),Gw PkE 63 w.heap.size (fun k=>w.heap.size<=k) w' (.slice a1 cs.length c1) L/\L.map Prod.snd=mvC dx dy cs/\(L.map Prod.fst).Nodup/\Below w.heap.size w w':=by
 have kl:=h.lenB
 obtain⟨W0,hW0,X0,hbW0⟩:∃W,W=w.alloc (.cells #[.int .i64 pg,.int .i64 dx,.int .i64 dy] 54)/\Bk 54 W w.heap.size [.int .i64 pg,.int .i64 dx,.int .i64 dy]/\Below w.heap.size w W:=⟨_,rfl,Bk.new _ _ _,bl1 _⟩
 have hW0s:W0.heap.size=w.heap.size+1:=by rw[hW0];simp
 obtain⟨i0,hi0,hz0,hz1,hz2⟩:=info_parts zdt
 have hmk:=run_make (P:=Tryz.prog) W0 37 63 i0 (.slice none 0 0) Tryz.underlying37 hi0 hz0 .i64 .i64 0 (cs.length:Int) (by omega) (by omega) (by rw[hz2];omega) (by omega)
 rw[hz1]at hmk
 simp only[Int.toNat_zero,Int.toNat_natCast]at hmk
 obtain⟨W,hWm⟩:∃w1,W0.alloc (.cells (madeCells (Value.slice none 0 0).cells (cs.length*1)) 63)=w1:=⟨_,rfl⟩
 have hI0:Gw PkE 63 W0.heap.size (fun k=>W0.heap.size<=k) W (.slice (some ⟨W0.heap.size,0,none⟩) 0 cs.length) []:=by
  refine Gw.made ?_
  rw[<-hWm]
  have:=World.ownsRow_made (base:=W0.heap.size) (e:=63) (size:=1) W0 (madeCells (Value.slice none 0 0).cells (cs.length*1)) cs.length (Nat.le_refl _) (by unfold maxLen;omega) (size_madeCells _ _)
  have h2:(W0.alloc (.cells (madeCells (Value.slice none 0 0).cells (cs.length*1)) 63)).ownsRow W0.heap.size 63 1 (.slice (some ⟨W0.heap.size,0,none⟩) 0 cs.length) 0 []:=by simpa using this
  exact h2
 have hbW:Below W0.heap.size W0 W:=by rw[<-hWm];exact bl1 _
 rw[hWm]at hmk
 have HH:Hid (Gr PnE.row S w a ca cs):=h
 have HX0:Hid (Bk 54 W0 w.heap.size [.int .i64 pg,.int .i64 dx,.int .i64 dy]):=X0
 have HB0:Hid (Below w.heap.size w W0):=hbW0
 have HS0:Hid (W0.heap.size=w.heap.size+1):=hW0s
 have HFL:Hid (FlB 1000000000 cs):=hfl
 obtain⟨B,hBe⟩:∃b,W0.heap.size=b:=⟨_,rfl⟩
 have HBE:Hid (W0.heap.size=B):=hBe
 have hB1:w.heap.size<B:=by omega
 have HB1:Hid (B=w.heap.size+1):=by show _=_;omega
 rw[hBe]at hI0 hmk;clear h X0 hbW0 hWm hi0 hz0 hz1 hz2 hW0s hfl
 go_enter Tryz.func72,Tryz.ntmps72
 go_upto_region 1 with fail
 rw[<-hW0];clear hW0;go_wp2;clear hmk
 go_loopw [5,16] (fun v i wr=>∃(k:Nat) (L:List (Nat×List Pn)),k<=cs.length/\i=.int .i64 k/\Gw PkE 63 B (fun k=>B<=k) wr v L/\Hid (L.map Prod.snd=mvC dx dy (cs.take k)/\(L.map Prod.fst).Nodup)/\Below W0.heap.size W0 wr) (fun _ i _=>cs.length-(intOf i).toNat)
 case atStart=>exact⟨0,[],Nat.zero_le _,rfl,hI0,⟨rfl,List.nodup_nil⟩,hbW⟩
 case round =>
  clear hI0 hbW;obtain⟨k,L,hk,rfl,hG,HLL,hB⟩:=hrel;obtain⟨av,cv,rfl,-,-⟩:=hG.slice
  have hBw:Below w.heap.size w wr:=HB0.out.trans (hB.mono HB0.out.size)
  have hBs:B<=wr.heap.size:=by rw[<-HBE.out];exact hB.size
  by_cases hkn:k<cs.length
  . obtain⟨b1,o1,a1,c1,ea,hb1,d0,hrow,hlb,_⟩:=HH.out.rw hBw k hkn
    subst ea
    have hcl:(cs.getD k []).length<=cs.flatten.length:=by
     have h1:=zaq hkn
     have h2:=za8 cs (k+1)
     omega
    have HMV:Hid (_):=zqg (dx:=dx) (dy:=dy) hkn
    have HFC:Hid (∀p∈cs.getD k [],(-1000000000<=p.x/\p.x<=1000000000)/\-1000000000<=p.y/\p.y<=1000000000):=fun p hp=>HFL.out _ (zet hkn) p hp
    obtain⟨c,hc⟩:∃c,cs.getD k []=c:=⟨_,rfl⟩
    rw[hc]at d0 hrow hlb hcl HMV HFC
    have zw3:Hid (Gr PnE S wr a1 c1 c):=hrow
    have hll:L.length+1<=1000000:=by
     have h1:=congrArg List.length HLL.out.1
     rw[List.length_map,zgj,List.length_take]at h1
     omega
    have hc1:c.length<=100000:=by omega
    obtain⟨wo,rfl⟩:∃wo,wo=wr:=⟨_,rfl⟩
    have HG:Hid (Gw PkE 63 B (fun k=>B<=k) wo (.slice av L.length cv) L):=hG
    have HBo:Hid (Below W0.heap.size W0 wo):=hB
    have hX0:=HX0.out.below hB
    obtain⟨i0,hi0,hz0,hz1,hz2⟩:=info_parts zc3
    have hmk:=run_make (P:=Tryz.prog) wo 63 65 i0 (.agg #[.int .i64 0,.int .i64 0,.bool false]) Tryz.underlying63 hi0 hz0 .i64 .i64 0 (c.length:Int) (by omega) (by omega) (by rw[hz2];omega) (by omega)
    rw[hz1]at hmk
    simp only[Int.toNat_zero,Int.toNat_natCast]at hmk
    obtain⟨wm,hwm⟩:∃w1,wo.alloc (.cells (madeCells (Value.agg #[.int .i64 0,.int .i64 0,.bool false]).cells (c.length*3)) 65)=w1:=⟨_,rfl⟩
    have hJ0:Gw PnE 65 wo.heap.size (fun _=>False) wm (.slice (some ⟨wo.heap.size,0,none⟩) 0 c.length) ((c.take 0).map (mvQ dx dy)):=by
     refine Gw.made ?_
     rw[<-hwm]
     have:=World.ownsRow_made (base:=wo.heap.size) (e:=65) (size:=3) wo (madeCells (Value.agg #[.int .i64 0,.int .i64 0,.bool false]).cells (c.length*3)) c.length (Nat.le_refl _) (by unfold maxLen;omega) (size_madeCells _ _)
     have h2:(wo.alloc (.cells (madeCells (Value.agg #[.int .i64 0,.int .i64 0,.bool false]).cells (c.length*3)) 65)).ownsRow wo.heap.size 65 3 (.slice (some ⟨wo.heap.size,0,none⟩) 0 c.length) 0 []:=by simpa using this
     exact h2
    have zj8:Below wo.heap.size wo wm:=by rw[<-hwm];exact bl1 _
    rw[hwm]at hmk
    have i1:(0:Int)<=(k:Int):=by omega
    have i2:(k:Int)<(cs.length:Int):=by omega
    have HX0o:Hid (Bk 54 wo w.heap.size [.int .i64 pg,.int .i64 dx,.int .i64 dy]):=hX0
    clear hwm hi0 hz0 hz1 hz2 hc hG hB hrow hlb hcl hX0;go_wp2;clear d0 hmk
    go_loopw [8,25] (fun v2 i wr=>∃r:Nat,r<=c.length/\i=.int .i64 r/\Hid (∃q,v2.ownBlock=some q)/\Gw PnE 65 wo.heap.size (fun _=>False) wr v2 ((c.take r).map (mvQ dx dy))/\Below wo.heap.size wo wr) (fun _ i _=>c.length-(intOf i).toNat)
    case atStart=>exact⟨0,Nat.zero_le _,rfl,⟨_,rfl⟩,hJ0,zj8⟩
    case round =>
     clear hJ0 zj8;obtain⟨r,hr,rfl,HOB,hV,hBo⟩:=hrel;obtain⟨a7,c7,rfl,zdy,hb7⟩:=hV.slice
     by_cases hrn:r<c.length
     . obtain⟨b2,o2,eb,hb2,⟨w0',w1'⟩,e0,e1,e2⟩:=zw3.out.pn hBo r hrn
       subst eb
       have HMP:Hid (_):=zjy (f:=mvQ dx dy) (d:=Pn.none) hrn
       have hpb:=HFC.out _ (zbt (d:=Pn.none) hrn)
       have hl7:((c.take r).map (mvQ dx dy)).length+1<=1000000:=by rw[List.length_map,List.length_take];omega
       generalize (c.take r).map (mvQ dx dy)=K1 at *
       generalize c.getD r Pn.none=q at *
       obtain⟨x,y,on⟩:=q;dsimp only at w0' w1' e0 e1 e2 hpb
       have HQ:Hid (mvQ dx dy ⟨x,y,on⟩=⟨x+dx,y+dy,on⟩):=rfl
       rw[HQ.out]at HMP
       have i3:(0:Int)<=(r:Int):=by omega
       have i4:(r:Int)<(c.length:Int):=by omega
       obtain⟨V,hV0,XP,hb0⟩:∃V,V=wr.alloc (.cells #[.int .i64 x,.int .i64 y,.bool on] 65)/\Bk 65 V wr.heap.size [.int .i64 x,.int .i64 y,.bool on]/\Below wr.heap.size wr V:=⟨_,rfl,Bk.new _ _ _,bl1 _⟩
       obtain⟨q0,q1,q2,_⟩:=XP.three
       have hX0:=(HX0o.out.below hBo).below hb0
       obtain⟨p0,p1,p2,_⟩:=hX0.three
       have hVV:=hV.below hb0
       have hBZ:Below wo.heap.size wo V:=hBo.trans (hb0.mono hBo.size)
       obtain⟨V1,hV1,Y1,zg7⟩:∃U,U=V.alloc (.cells #[.int .i64 (x+dx),.int .i64 (y+dy),.bool on] 65)/\Bk 65 U V.heap.size [.int .i64 (x+dx),.int .i64 (y+dy),.bool on]/\Below V.heap.size V U:=⟨_,rfl,Bk.new _ _ _,bl1 _⟩
       have hVb:=hVV.below zg7
       have zbj:Gr PnE (fun k=>False/\(Value.slice a7 K1.length c7).ownBlock≠some k) V1 (some ⟨V.heap.size,0,none⟩) 1 [⟨x+dx,y+dy,on⟩]:=Gr.one (E:=PnE) (vs:=pnC ⟨x+dx,y+dy,on⟩) (zcw.2 ⟨rfl,⟨by dsimp only;omega,by dsimp only;omega⟩,⟨by dsimp only;omega,by dsimp only;omega⟩⟩) Y1.lt (fun j hj=>Y1.cell j hj)
       have hBb:Below wo.heap.size wo V1:=hBZ.trans (zg7.mono hBZ.size)
       have hbs:=hBb.size
       obtain⟨⟨hp1,hp2⟩,hp3,hp4⟩:=hpb;clear hV zdy hb7 w0' w1' hX0 hVV hBZ
       go_upto_region 9 with fail
       rw[<-hV0];clear hV0 e0 e1 e2
       go_wp2_with (at_builtin;rw[<-hV1];refine zal 63 65 Tryz.underlying63 zc3 rfl (by decide) (by decide) rfl _ _ rfl wo.heap.size (fun _=>False) _ K1 rfl hVb (some ⟨V.heap.size,0,none⟩) 1 1 [⟨x+dx,y+dy,on⟩] rfl rfl zbj hl7 hbs ?_)
       intro v9 w9 hT9 hgrow how
       try rw[<-hV1]at hgrow
       try rw[<-hV1]at how
       have HOB9:Hid (∃q,v9.ownBlock=some q):=by
        rcases how with how|how
        . obtain⟨q,hq⟩:=HOB.out
          exact⟨q,how.trans hq⟩
        . exact⟨_,how⟩
       have hB9:Below wo.heap.size wo w9:=hBb.grown hgrow hbs (fun k hk=>(hVb.lo hk).1)
       rw[<-HMP.out]at hT9;clear hgrow how hVb zbj hbs hl7 hBb hV1 Y1 zg7 HMP q0 q1 q2 p0 p1 p2 XP hb0;go_wp2
       go_roundw
       case rel=>exact⟨r+1,by omega,by go_num,HOB9,hT9,hB9⟩
       case measure=>simp[intOf];omega
     . have er:r=c.length:=by omega
       have g1:¬(r:Int)<(c.length:Int):=by omega
       rw[er,List.take_length]at hV HOB
       have e1:(Value.slice a7 ((c.take r).map (mvQ dx dy)).length c7)=.slice a7 (c.map (mvQ dx dy)).length c7:=by rw[er,List.take_length]
       rw[e1]
       have zv3:(c.map (mvQ dx dy)).length<=140737488351232:=by rw[List.length_map];omega
       clear e1
       generalize c.map (mvQ dx dy)=K1 at *
       obtain⟨q7,hq7⟩:=HOB.out
       obtain⟨c8,e8⟩:=hV.form hq7
       injection e8 with e8 _ e9;subst e8 e9
       have hq0:=(hV.lo hq7).1
       obtain⟨V,hV0,XN,bp⟩:∃V,V=wr.alloc (.cells #[.slice (some ⟨q7,0,none⟩) K1.length c7] 63)/\Bk 63 V wr.heap.size [.slice (some ⟨q7,0,none⟩) K1.length c7]/\Below wr.heap.size wr V:=⟨_,rfl,Bk.new _ _ _,bl1 _⟩
       have hG1:=(HG.out.below hBo).below bp
       have hVb:=hV.below bp
       have zla:PkE.rep (fun k=>B<=k/\(Value.slice av L.length cv).ownBlock≠some k) V [.slice (some ⟨q7,0,none⟩) K1.length c7] (q7,K1):=by
        refine zuq hVb ?_ zv3
        exact⟨by omega,fun e2=>hG1.ne hVb (by decide) e2 rfl⟩
       have HSD:Hid (((L++[(q7,K1)]).map Prod.snd=mvC dx dy (cs.take (k+1)))/\((L++[(q7,K1)]).map Prod.fst).Nodup):=by
        refine⟨by rw[List.map_append,HLL.out.1,HMV.out];rfl,zhj HLL.out.2 (fun y hy=>?_)⟩
        have:=(HG.out.ids y hy).2
        show y.1≠q7
        omega
       have zbj:=Gr.one (E:=PkE) zla XN.lt (fun jj hjj=>by
        obtain rfl:jj=0:=by have h1:jj<1:=hjj;omega
        exact XN.cell 0 (by simp))
       have hBb:Below W0.heap.size W0 V:=(HBo.out.trans (hBo.mono HBo.out.size)).trans (bp.mono (Nat.le_trans HBo.out.size hBo.size))
       have hbs:B<=V.heap.size:=by rw[<-HBE.out];exact hBb.size
       clear hV hVb zla XN bp zdy hb7 HLL HMV
       go_wp2_with (at_builtin;rw[<-hV0];refine zal 37 63 Tryz.underlying37 zdt rfl Nat.one_pos (by decide) rfl _ _ rfl B _ _ L rfl hG1 (some ⟨wr.heap.size,0,none⟩) 1 1 [(q7,K1)] rfl rfl zbj hll hbs ?_)
       intro v9 w9 hT9 hgrow _
       try rw[<-hV0]at hgrow
       have hB9:Below W0.heap.size W0 w9:=hBb.grown hgrow hBb.size (fun k hk=>by rw[HBE.out];exact(hG1.lo hk).1)
       obtain⟨M2,hM2⟩:∃M2,L++[(q7,K1)]=M2:=⟨_,rfl⟩
       rw[hM2]at hT9 HSD;clear hM2 hgrow zbj hbs hll hBb hG1 hV0 hBo;go_wp2
       go_roundw
       case rel=>exact⟨k+1,M2,by omega,by go_num,hT9,HSD,hB9⟩
       case measure=>simp[intOf];omega
  . have ek:k=cs.length:=by omega
    have g4:¬(k:Int)<(cs.length:Int):=by omega
    have HL2:Hid (L.map Prod.snd=mvC dx dy cs/\(L.map Prod.fst).Nodup/\L.length=cs.length):=by
     have h1:=HLL.out.1
     rw[ek,List.take_length]at h1
     have h2:=congrArg List.length h1
     rw[List.length_map,zgj]at h2
     exact⟨h1,HLL.out.2,h2⟩
    have HG2:Hid (Gw PkE 63 w.heap.size (fun k=>w.heap.size<=k) wr (.slice av cs.length cv) L):=by
     have h2:=(hG.low (base':=w.heap.size) (by omega)).widenU (S':=fun k=>w.heap.size<=k) (fun k h1 _=>by omega)
     rw[HL2.out.2.2]at h2
     exact h2
    clear HLL hG hB ek;go_wp2
    go_ret
    exact⟨av,cv,by rw[<-HL2.out.2.2];rfl,L,HG2.out,HL2.out.1,HL2.out.2.1,hBw⟩
