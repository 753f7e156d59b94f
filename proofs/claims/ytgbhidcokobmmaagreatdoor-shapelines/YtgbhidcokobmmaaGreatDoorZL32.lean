import Derived.Test.YtgbhidcokobmmaaGreatDoorZL31
set_option maxHeartbeats 8000000
set_option maxRecDepth 100000
set_option linter.unusedSimpArgs false
set_option linter.unusedVariables false
namespace Go.Proofs.YtgbhidcokobmmaaGreatDoor
open Go.RowKit Go.Maps
theorem zid(a:Option Addr)(ca:Nat)(b:Option Addr)(cb:Nat)(s:Sr)(i:Int)(pa:Option Addr)(pc:Nat)(cs:List Int)(w:World)(hg:Tzz w a ca s.rg)(hm:Rii w b cb s.rw)(hp:Ri w pa pc cs)(hl:s.rg.length<=40)(h8:∀l∈s.rg,l.length<=8) :
 Calls Tryz.prog 137 #[.agg #[.slice a s.rg.length ca,.slice b s.rw.length cb],.int .i64 i,.slice pa cs.length pc] w fun e w'=>∃v',e=.returned v'/\Fr w' v' 1000 (chQ s i cs)/\Below w.heap.size w w':=by
 have k1:=hg.lenB
 have k2:=hm.lenB
 have k3:=hp.lenB
 have HG:Hid (Tzz w a ca s.rg):=hg
 have HM:Hid (Rii w b cb s.rw):=hm
 have HP:Hid (Ri w pa pc cs):=hp
 have HL8:Hid (∀l∈s.rg,l.length<=8):=h8
 clear hg hm hp h8
 obtain⟨W,hW,X1,B0,hbW⟩:∃W,W=(w.alloc (.cells #[.slice a s.rg.length ca,.slice b s.rw.length cb] 27)).alloc (.cells #[.bool false,.slice none 0 0,.slice none 0 0] 161)/\BxS W w.heap.size (.slice a s.rg.length ca) (.slice b s.rw.length cb)/\Box 161 W (w.heap.size+1) (.bool false) (.slice none 0 0) (.slice none 0 0)/\Below w.heap.size w W:=⟨_,rfl,(BxS.new _ _ _).below (bl1 _),Box.new1S _ _ _ _ _ _,bl2 _ _⟩
 by_cases hi:0<=i/\i<(s.rw.length:Int)
 . obtain⟨j,rfl⟩:∃j:Nat,i=(j:Int):=⟨i.toNat,(Int.toNat_of_nonneg hi.1).symm⟩
   have hj:j<s.rw.length:=by omega
   obtain⟨b1,o1,a1,c1,ea,hb1,d0,hr⟩:=HM.out.2.2 j hj
   have HRQ:Hid (rwB s (j:Int)=decide ((s.rw.getD j []).length=s.rg.length)):=by
    show _=_
    rw[rwB,Int.toNat_natCast]
    exact decide_eq_decide.2 ⟨fun h=>h.2.2,fun h=>⟨hi.1,hi.2,h⟩⟩
   have HCQ:Hid (rwB s (j:Int)=true->chQ s (j:Int) cs=chK s.rg (s.rw.getD j []) cs s.rg.length):=fun h=>by rw[zrb h,Int.toNat_natCast]
   obtain⟨r,hrr⟩:∃r,s.rw.getD j []=r:=⟨_,rfl⟩
   rw[hrr]at d0 hr HRQ HCQ
   have HR:Hid (Ri w a1 c1 r):=hr
   have k4:=hr.lenB
   subst ea
   have HA0:Hid (∀U,Below w.heap.size w U->Cl U b1 (o1+j) (.slice a1 r.length c1)):=fun U hU=>⟨Nat.lt_of_lt_of_le hb1 hU.size,(hU.cell (p:=⟨b1,o1+j,none⟩) hb1).trans d0⟩
   clear hrr hr
   have i1:(0:Int)<=(j:Int):=by omega
   have i2:(j:Int)<(s.rw.length:Int):=by omega
   have g1:decide ((j:Int)<0)=false:=decide_eq_false (by omega)
   have g2:decide (s.rw.length<=j)=false:=decide_eq_false (by omega)
   clear d0 hi
   by_cases hlen:r.length=s.rg.length
   . have HQ:Hid (chK s.rg r cs r.length=chQ s (j:Int) cs):=by show _=_;rw[HCQ.out (by rw[HRQ.out];exact decide_eq_true hlen),hlen]
     have g5:((r.length:Int) != (s.rg.length:Int))=false:=by simp[hlen]
     have HLN:Hid (r.length=s.rg.length):=hlen
     clear HRQ HCQ hlen
     go_enter Tryz.func137,Tryz.ntmps137
     go_wp2_with fail
     rw[<-hW];clear hW
     refine(zbd _).mono ?_
     rintro e y1 ⟨v5,rfl,hF5,hb1⟩;replace X1:=X1.below hb1;replace B0:=B0.below hb1
     replace hbW:=hbW.trans (hb1.mono hbW.size)
     clear hb1;obtain⟨n5,xl5,yl5,⟨a5,c5,b5,d5,rfl,hx5,hy5⟩,hF5⟩:=hF5
     obtain⟨Z1,hZ,P5,hb9⟩:∃U,U=y1.alloc (.cells #[.bool n5,.slice a5 xl5.length c5,.slice b5 yl5.length d5] 161)/\Box 161 U y1.heap.size (.bool n5) (.slice a5 xl5.length c5) (.slice b5 yl5.length d5)/\Below y1.heap.size y1 U:=⟨_,rfl,Box.new _ _ _ _ _,al1 _⟩
     have hF5:Fr Z1 (.agg #[.bool n5,.slice a5 xl5.length c5,.slice b5 yl5.length d5]) 2 0:=Fr.below ⟨_,_,_,⟨_,_,_,_,rfl,hx5,hy5⟩,hF5⟩ hb9
     have hgb:=B0.lt
     replace X1:=X1.below hb9;replace B0:=B0.below hb9
     replace hbW:=hbW.trans (hb9.mono hbW.size)
     clear hx5 hy5 hb9
     go_upto_region 2 with fail
     rw[<-hZ];clear hZ
     generalize xl5.length=x5 at *
     generalize yl5.length=y5 at *
     generalize y1.heap.size=g7 at *
     have A0:=HA0.out _ hbW
     have q0:=A0.2
     obtain⟨p00,p01,_⟩:=X1.cells
     refine wp_region_held_drew (S:=(fun u=>u.cell? ⟨w.heap.size,0,none⟩=some (.slice a s.rg.length ca)/\u.cell? ⟨w.heap.size,1,none⟩=some (.slice (some ⟨b1,o1,none⟩) s.rw.length cb)/\u.cell? ⟨b1,o1+j,none⟩=some (.slice a1 r.length c1))) (by kernel_rfl) ?_ (fun hH=>?_)
     . (try dsimp only)
       go_keep
     have hdr:Below Z1.heap.size Z1 Z1.drew:=Below.drew1
     generalize Z1.drew=ud1 at hdr hH ⊢
     replace A0:=A0.below hdr;replace B0:=B0.below hdr;replace P5:=P5.below hdr;replace hF5:=hF5.below hdr;replace X1:=X1.below hdr
     replace hbW:Below w.heap.size w ud1:=hbW.trans (hdr.mono hbW.size)
     clear hdr;clear p00 p01;obtain⟨p00,p01,_⟩:=X1.cells;refine hT 0 hH ?_;refine hT 1 hH ?_;refine hT 2 hH ?_;refine hT 3 hH ?_;refine hT 4 hH ?_;refine hT 5 hH ?_;refine hT 6 hH ?_;refine hT 7 hH ?_;refine hT 8 hH ?_;refine hT 9 hH ?_;refine hT 10 hH ?_
     refine hT 11 hH ?_;refine hT 12 hH ?_;refine hT 13 hH ?_;refine hT 14 hH ?_;refine hT 15 hH ?_;refine hT 16 hH ?_;refine hT 17 hH ?_;refine hT 18 hH ?_;refine hT 19 hH ?_;refine hT 20 hH ?_
     refine wpAnyH_done (by kernel_rfl) ?_ _
     clear hH A0 q0 g1 g2 g5
     go_wp2_with fail
     clear p00 p01
     go_loopw [8] (fun i wr=>∃(k:Nat) (n5:Bool) (a5:Option Addr) (x5 c5:Nat) (b5:Option Addr) (y5 d5:Nat),k<=s.rg.length/\i=.int .i64 (k:Int)/\Box 161 wr g7 (.bool n5) (.slice a5 x5 c5) (.slice b5 y5 d5)/\Fr wr (.agg #[.bool n5,.slice a5 x5 c5,.slice b5 y5 d5]) (2+21*k) (chK s.rg r cs k)/\Box 161 wr (w.heap.size+1) (.bool false) (.slice none 0 0) (.slice none 0 0)/\BxS wr w.heap.size (.slice a s.rg.length ca) (.slice (some ⟨b1,o1,none⟩) s.rw.length cb)/\Below w.heap.size w wr) (fun i _=>s.rg.length-(intOf i).toNat)
     case atStart=>exact⟨0,_,_,_,_,_,_,_,Nat.zero_le _,rfl,P5,hF5,B0,X1,hbW⟩
     case round =>
      clear P5 hF5 B0 X1 hbW;obtain⟨k,n5,a5,x5,c5,b5,y5,d5,hk,rfl,P5,hF5,B0,X1,hbW⟩:=hrel;obtain⟨x0,x1,_⟩:=X1.cells
      by_cases hkn:k<s.rg.length
      . have hkr:k<r.length:=by rw[HLN.out];exact hkn
        obtain⟨b3,o3,a3,c3,e3,hb3,d3,hl3⟩:=HG.out.at hbW k hkn
        have hl8:=HL8.out _ (zl0 hkn)
        obtain⟨l,hl⟩:∃l,s.rg.getD k []=l:=⟨_,rfl⟩
        have HL:Hid (s.rg.getD k []=l):=hl
        rw[hl]at d3 hl3 hl8;subst e3
        obtain⟨rb,ro,er,hrb,dz⟩:=HR.out.at (Below.refl _ _) k hkr
        subst er
        have hzi:=HR.out.i64 hkr
        obtain⟨z,hz⟩:∃z,r.getD k 0=z:=⟨_,rfl⟩
        rw[hz]at dz hzi
        have HAZ:Hid (∀U,Below w.heap.size w U->Cl U rb (ro+k) (.int .i64 z)):=fun U hU=>⟨Nat.lt_of_lt_of_le hrb hU.size,(hU.cell (p:=⟨rb,ro+k,none⟩) hrb).trans dz⟩
        have hca:=zoq a3 c3 l pa pc cs wr hl3 (HP.out.below hbW) (by omega)
        obtain⟨q,hq⟩:∃q,alQ l cs=q:=⟨_,rfl⟩
        have HK:Hid (chK s.rg r cs (k+1)=chK s.rg r cs k+q*((z:Int):Rat)):=by show _=_;rw[zhu,hl,hz,hq]
        rw[hq]at hca;clear hq hl hz dz hl3
        go_wp2_with fail
        refine hca.mono ?_
        rintro e t1 ⟨v8,rfl,hF8,hb1⟩;obtain⟨n8,x8,y8,⟨a8,c8,b8,d8,rfl,hx8,hy8⟩,hF8⟩:=hF8
        obtain⟨U2,hU,P8,hb9⟩:∃U,U=t1.alloc (.cells #[.bool n8,.slice a8 x8.length c8,.slice b8 y8.length d8] 161)/\Box 161 U t1.heap.size (.bool n8) (.slice a8 x8.length c8) (.slice b8 y8.length d8)/\Below t1.heap.size t1 U:=⟨_,rfl,Box.new _ _ _ _ _,al1 _⟩
        have hF8:Fr U2 (.agg #[.bool n8,.slice a8 x8.length c8,.slice b8 y8.length d8]) (2+2*l.length) q:=Fr.below ⟨_,_,_,⟨_,_,_,_,rfl,hx8,hy8⟩,hF8⟩ hb9
        replace P5:=P5.below hb1
        have ng8:=P5.lt
        replace P5:=P5.below hb9
        replace hF5:=(hF5.below hb1).below hb9
        replace B0:=(B0.below hb1).below hb9
        have ng7:=X1.lt
        replace X1:=(X1.below hb1).below hb9
        have ng6:=hb1.size
        replace hbW:=(hbW.trans (hb1.mono hbW.size)).trans (hb9.mono (Nat.le_trans hbW.size hb1.size))
        clear hx8 hy8 hca x0 x1 d3 hb1 hb9
        go_upto_region 8 with fail
        rw[<-hU];clear hU
        generalize t1.heap.size=g8 at *
        have A0:=HA0.out _ hbW
        have A1:=HAZ.out _ hbW
        have q0:=A0.2
        have q1:=A1.2
        obtain⟨p00,p01,p02,_⟩:=P8.cells;obtain⟨p10,p11,_⟩:=X1.cells
        have i3:(0:Int)<=(k:Int):=by omega
        have i4:(k:Int)<(r.length:Int):=by omega
        refine wp_region_held_drew (S:=(fun u=>u.cell? ⟨g8,0,none⟩=some (.bool n8)/\u.cell? ⟨g8,1,none⟩=some (.slice a8 x8.length c8)/\u.cell? ⟨g8,2,none⟩=some (.slice b8 y8.length d8)/\u.cell? ⟨w.heap.size,0,none⟩=some (.slice (some ⟨b3,o3,none⟩) s.rg.length ca)/\u.cell? ⟨w.heap.size,1,none⟩=some (.slice (some ⟨b1,o1,none⟩) s.rw.length cb)/\u.cell? ⟨b1,o1+j,none⟩=some (.slice (some ⟨rb,ro,none⟩) r.length c1)/\u.cell? ⟨rb,ro+k,none⟩=some (.int .i64 z))) (by kernel_rfl) ?_ (fun hH=>?_)
        . (try dsimp only)
          go_keep
        have hdr:Below U2.heap.size U2 U2.drew:=Below.drew1
        generalize U2.drew=ud2 at hdr hH ⊢
        replace A0:=A0.below hdr;replace A1:=A1.below hdr;replace hF8:=hF8.below hdr;replace hF5:=hF5.below hdr;replace B0:=B0.below hdr;replace P5:=P5.below hdr;replace P8:=P8.below hdr;replace X1:=X1.below hdr
        replace hbW:Below w.heap.size w ud2:=hbW.trans (hdr.mono hbW.size)
        clear hdr;clear p00 p01 p02 p10 p11;obtain⟨p00,p01,p02,_⟩:=P8.cells;obtain⟨p10,p11,_⟩:=X1.cells;refine hT 1 hH ?_;refine hT 2 hH ?_;refine hT 3 hH ?_;refine hT 4 hH ?_;refine hT 5 hH ?_;refine hT 6 hH ?_;refine hT 7 hH ?_;refine hT 8 hH ?_;refine hT 9 hH ?_
        refine wpAnyH_ready (rs:=[0,10]) (by kernel_rfl) (by simp) (hCons (i:=0) rfl (by rfl) (fun K hK=>?_) (hCons (i:=10) rfl (by rfl) (fun K hK=>?_) AllReadyH.nil))
        . go_simp
          obtain⟨f1,f2,f3,f4,f5,f6⟩:=P5.cells
          try go_simp
          clear f1 f2 f3 f4 f5 f6
          refine hK.out _ _ ?_ (fun hH=>?_)
          . (try dsimp only)
            exact⟨p00,p01,p02,p10,p11,A0.2,A1.2⟩
          clear hK K
          try simp only[Act.put,pZ]
          refine hCall (i:=10) rfl (by kernel_rfl) (by rfl) (fun K hK=>?_)
          go_simp
          refine(zb2 z _ hzi.1 (by have:=hzi.2;omega)).mono ?_
          rintro e u11 ⟨v6,rfl,hF6,zf7⟩;replace A0:=A0.below zf7;replace A1:=A1.below zf7;replace hF8:=hF8.below zf7;replace hF5:=hF5.below zf7;replace B0:=B0.below zf7;replace P5:=P5.below zf7;replace P8:=P8.below zf7;replace X1:=X1.below zf7
          replace hbW:Below w.heap.size w u11:=hbW.trans (zf7.mono hbW.size)
          clear zf7;clear p00 p01 p02 p10 p11;obtain⟨p00,p01,p02,_⟩:=P8.cells;obtain⟨p10,p11,_⟩:=X1.cells
          go_wp2_with fail
          refine hK.out _ _ ?_ (fun hH=>?_)
          . (try dsimp only)
            exact⟨p00,p01,p02,p10,p11,A0.2,A1.2⟩
          clear hK K
          try simp only[Act.put,pZ]
          refine hCall (i:=11) rfl (by kernel_rfl) (by rfl) (fun K hK=>?_)
          go_simp
          refine(zcl (2+2*l.length) 2 _ _ _ _ _ hF8.ct hF6.ct (by omega) (by decide) (by omega) (by decide)).mono ?_
          rintro e u12 ⟨v7,rfl,hF7,zcw⟩;replace A0:=A0.below zcw;replace A1:=A1.below zcw;replace hF8:=hF8.below zcw;replace hF5:=hF5.below zcw;replace B0:=B0.below zcw;replace P5:=P5.below zcw;replace hF6:=hF6.below zcw;replace P8:=P8.below zcw;replace X1:=X1.below zcw
          replace hbW:Below w.heap.size w u12:=hbW.trans (zcw.mono hbW.size)
          clear zcw;clear p00 p01 p02 p10 p11;obtain⟨p00,p01,p02,_⟩:=P8.cells;obtain⟨p10,p11,_⟩:=X1.cells
          go_wp2_with fail
          refine hK.out _ _ ?_ (fun hH=>?_)
          . (try dsimp only)
            exact⟨p00,p01,p02,p10,p11,A0.2,A1.2⟩
          clear hK K
          try simp only[Act.put,pZ]
          refine hCall (i:=12) rfl (by kernel_rfl) (by rfl) (fun K hK=>?_)
          go_simp
          refine(zdo (2+21*k) (2+2*l.length+2) _ _ _ _ _ hF5.ct hF7.ct (by omega) (by omega) (by omega) (by omega)).mono ?_
          rintro e u13 ⟨v9,rfl,hF9,zcr⟩;replace A0:=A0.below zcr;replace A1:=A1.below zcr;replace hF8:=hF8.below zcr;replace hF5:=hF5.below zcr;replace B0:=B0.below zcr;replace P5:=P5.below zcr;replace hF6:=hF6.below zcr;replace hF7:=hF7.below zcr;replace P8:=P8.below zcr
          replace X1:=X1.below zcr
          replace hbW:Below w.heap.size w u13:=hbW.trans (zcr.mono hbW.size)
          clear zcr;rw[<-HK.out]at hF9;obtain⟨n9,x9,y9,⟨a9,c9,b9,d9,rfl,hx9,hy9⟩,hF9⟩:=hF9;clear p00 p01 p02 p10 p11;obtain⟨p00,p01,p02,_⟩:=P8.cells;obtain⟨p10,p11,_⟩:=X1.cells
          go_wp2_with fail
          refine hK.out _ _ ?_ (fun hH=>?_)
          . (try dsimp only)
            exact⟨p00,p01,p02,p10,p11,A0.2,A1.2⟩
          clear hK K
          try simp only[Act.put,pZ]
          refine hCall (i:=13) rfl (by kernel_rfl) (by rfl) (fun K hK=>?_)
          go_simp
          have hs:=P5.lt
          obtain⟨f1,f2,f3,f4,f5,f6⟩:=P5.cells
          try go_simp
          obtain⟨u74,hU,C5,hbU,hK9,ho⟩:=zai P5 (.bool n9) (.slice a9 x9.length c9) (.slice b9 y9.length d9)
          rw[<-hU];clear hU f1 f2 f3 f4 f5 f6
          replace B0:=B0.other ho (by omega)
          replace P8:=P8.other ho (by omega)
          replace X1:BxS u74 w.heap.size (.slice (some ⟨b3,o3,none⟩) s.rg.length ca) (.slice (some ⟨b1,o1,none⟩) s.rw.length cb):=(ho _ (by omega)).trans X1
          replace hbW:=hbU _ _ hbW (by omega)
          have hF9:Fr u74 (.agg #[.bool n9,.slice a9 x9.length c9,.slice b9 y9.length d9]) (2+21*(k+1)) (chK s.rg r cs (k+1)):=Fr.le (k:=2+21*k+(2+2*l.length+2)+1) ⟨_,_,_,⟨_,_,_,_,rfl,hK9 _ _ _ hx9,hK9 _ _ _ hy9⟩,hF9⟩ (by omega)
          clear hbU hK9 ho hx9 hy9 A0 A1
          have A0:=HA0.out _ hbW
          have A1:=HAZ.out _ hbW
          clear p00 p01 p02 p10 p11;obtain⟨p00,p01,p02,_⟩:=P8.cells;obtain⟨p10,p11,_⟩:=X1.cells
          refine hK.out _ _ ?_ (fun hH=>?_)
          . (try dsimp only)
            exact⟨p00,p01,p02,p10,p11,A0.2,A1.2⟩
          clear hK K
          try simp only[Act.put,pZ]
          refine wpAnyH_done (by kernel_rfl) ?_ _
          clear hH;go_wp2
          go_roundw
          case rel=>exact⟨k+1,_,_,_,_,_,_,_,by omega,by go_num,C5,hF9,B0,X1,hbW⟩
          case measure=>simp[intOf];omega
        . go_simp
          refine(zb2 z _ hzi.1 (by have:=hzi.2;omega)).mono ?_
          rintro e u11 ⟨v6,rfl,hF6,zf7⟩;replace A0:=A0.below zf7;replace A1:=A1.below zf7;replace hF8:=hF8.below zf7;replace hF5:=hF5.below zf7;replace B0:=B0.below zf7;replace P5:=P5.below zf7;replace P8:=P8.below zf7;replace X1:=X1.below zf7
          replace hbW:Below w.heap.size w u11:=hbW.trans (zf7.mono hbW.size)
          clear zf7;clear p00 p01 p02 p10 p11;obtain⟨p00,p01,p02,_⟩:=P8.cells;obtain⟨p10,p11,_⟩:=X1.cells
          go_wp2_with fail
          refine hK.out _ _ ?_ (fun hH=>?_)
          . (try dsimp only)
            exact⟨p00,p01,p02,p10,p11,A0.2,A1.2⟩
          clear hK K
          try simp only[Act.put,pZ]
          refine wpAnyH_ready (rs:=[0,11]) (by kernel_rfl) (by simp) (hCons (i:=0) rfl (by rfl) (fun K hK=>?_) (hCons (i:=11) rfl (by rfl) (fun K hK=>?_) AllReadyH.nil))
          . go_simp
            obtain⟨f1,f2,f3,f4,f5,f6⟩:=P5.cells
            try go_simp
            clear f1 f2 f3 f4 f5 f6
            refine hK.out _ _ ?_ (fun hH=>?_)
            . (try dsimp only)
              exact⟨p00,p01,p02,p10,p11,A0.2,A1.2⟩
            clear hK K
            try simp only[Act.put,pZ]
            refine hCall (i:=11) rfl (by kernel_rfl) (by rfl) (fun K hK=>?_)
            go_simp
            refine(zcl (2+2*l.length) 2 _ _ _ _ _ hF8.ct hF6.ct (by omega) (by decide) (by omega) (by decide)).mono ?_
            rintro e u12 ⟨v7,rfl,hF7,zcw⟩;replace A0:=A0.below zcw;replace A1:=A1.below zcw;replace hF8:=hF8.below zcw;replace hF5:=hF5.below zcw;replace B0:=B0.below zcw;replace P5:=P5.below zcw;replace hF6:=hF6.below zcw;replace P8:=P8.below zcw;replace X1:=X1.below zcw
            replace hbW:Below w.heap.size w u12:=hbW.trans (zcw.mono hbW.size)
            clear zcw;clear p00 p01 p02 p10 p11;obtain⟨p00,p01,p02,_⟩:=P8.cells;obtain⟨p10,p11,_⟩:=X1.cells
            go_wp2_with fail
            refine hK.out _ _ ?_ (fun hH=>?_)
            . (try dsimp only)
              exact⟨p00,p01,p02,p10,p11,A0.2,A1.2⟩
            clear hK K
            try simp only[Act.put,pZ]
            refine hCall (i:=12) rfl (by kernel_rfl) (by rfl) (fun K hK=>?_)
            go_simp
            refine(zdo (2+21*k) (2+2*l.length+2) _ _ _ _ _ hF5.ct hF7.ct (by omega) (by omega) (by omega) (by omega)).mono ?_
            rintro e u13 ⟨v9,rfl,hF9,zcr⟩;replace A0:=A0.below zcr;replace A1:=A1.below zcr;replace hF8:=hF8.below zcr;replace hF5:=hF5.below zcr;replace B0:=B0.below zcr;replace P5:=P5.below zcr;replace hF6:=hF6.below zcr;replace hF7:=hF7.below zcr;replace P8:=P8.below zcr
            replace X1:=X1.below zcr
            replace hbW:Below w.heap.size w u13:=hbW.trans (zcr.mono hbW.size)
            clear zcr;rw[<-HK.out]at hF9;obtain⟨n9,x9,y9,⟨a9,c9,b9,d9,rfl,hx9,hy9⟩,hF9⟩:=hF9;clear p00 p01 p02 p10 p11;obtain⟨p00,p01,p02,_⟩:=P8.cells;obtain⟨p10,p11,_⟩:=X1.cells
            go_wp2_with fail
            refine hK.out _ _ ?_ (fun hH=>?_)
            . (try dsimp only)
              exact⟨p00,p01,p02,p10,p11,A0.2,A1.2⟩
            clear hK K
            try simp only[Act.put,pZ]
            refine hCall (i:=13) rfl (by kernel_rfl) (by rfl) (fun K hK=>?_)
            go_simp
            have hs:=P5.lt
            obtain⟨f1,f2,f3,f4,f5,f6⟩:=P5.cells
            try go_simp
            obtain⟨u74,hU,C5,hbU,hK9,ho⟩:=zai P5 (.bool n9) (.slice a9 x9.length c9) (.slice b9 y9.length d9)
            rw[<-hU];clear hU f1 f2 f3 f4 f5 f6
            replace B0:=B0.other ho (by omega)
            replace P8:=P8.other ho (by omega)
            replace X1:BxS u74 w.heap.size (.slice (some ⟨b3,o3,none⟩) s.rg.length ca) (.slice (some ⟨b1,o1,none⟩) s.rw.length cb):=(ho _ (by omega)).trans X1
            replace hbW:=hbU _ _ hbW (by omega)
            have hF9:Fr u74 (.agg #[.bool n9,.slice a9 x9.length c9,.slice b9 y9.length d9]) (2+21*(k+1)) (chK s.rg r cs (k+1)):=Fr.le (k:=2+21*k+(2+2*l.length+2)+1) ⟨_,_,_,⟨_,_,_,_,rfl,hK9 _ _ _ hx9,hK9 _ _ _ hy9⟩,hF9⟩ (by omega)
            clear hbU hK9 ho hx9 hy9 A0 A1
            have A0:=HA0.out _ hbW
            have A1:=HAZ.out _ hbW
            clear p00 p01 p02 p10 p11;obtain⟨p00,p01,p02,_⟩:=P8.cells;obtain⟨p10,p11,_⟩:=X1.cells
            refine hK.out _ _ ?_ (fun hH=>?_)
            . (try dsimp only)
              exact⟨p00,p01,p02,p10,p11,A0.2,A1.2⟩
            clear hK K
            try simp only[Act.put,pZ]
            refine wpAnyH_done (by kernel_rfl) ?_ _
            clear hH;go_wp2
            go_roundw
            case rel=>exact⟨k+1,_,_,_,_,_,_,_,by omega,by go_num,C5,hF9,B0,X1,hbW⟩
            case measure=>simp[intOf];omega
          . go_simp
            refine(zcl (2+2*l.length) 2 _ _ _ _ _ hF8.ct hF6.ct (by omega) (by decide) (by omega) (by decide)).mono ?_
            rintro e u12 ⟨v7,rfl,hF7,zcw⟩;replace A0:=A0.below zcw;replace A1:=A1.below zcw;replace hF8:=hF8.below zcw;replace hF5:=hF5.below zcw;replace B0:=B0.below zcw;replace P5:=P5.below zcw;replace hF6:=hF6.below zcw;replace P8:=P8.below zcw;replace X1:=X1.below zcw
            replace hbW:Below w.heap.size w u12:=hbW.trans (zcw.mono hbW.size)
            clear zcw;clear p00 p01 p02 p10 p11;obtain⟨p00,p01,p02,_⟩:=P8.cells;obtain⟨p10,p11,_⟩:=X1.cells
            go_wp2_with fail
            refine hK.out _ _ ?_ (fun hH=>?_)
            . (try dsimp only)
              exact⟨p00,p01,p02,p10,p11,A0.2,A1.2⟩
            clear hK K
            try simp only[Act.put,pZ]
            refine hCall (i:=0) rfl (by kernel_rfl) (by rfl) (fun K hK=>?_)
            go_simp;obtain⟨f1,f2,f3,f4,f5,f6⟩:=P5.cells
            try go_simp
            clear f1 f2 f3 f4 f5 f6
            refine hK.out _ _ ?_ (fun hH=>?_)
            . (try dsimp only)
              exact⟨p00,p01,p02,p10,p11,A0.2,A1.2⟩
            clear hK K
            try simp only[Act.put,pZ]
            refine hCall (i:=12) rfl (by kernel_rfl) (by rfl) (fun K hK=>?_)
            go_simp
            refine(zdo (2+21*k) (2+2*l.length+2) _ _ _ _ _ hF5.ct hF7.ct (by omega) (by omega) (by omega) (by omega)).mono ?_
            rintro e u13 ⟨v9,rfl,hF9,zcr⟩;replace A0:=A0.below zcr;replace A1:=A1.below zcr;replace hF8:=hF8.below zcr;replace hF5:=hF5.below zcr;replace B0:=B0.below zcr;replace P5:=P5.below zcr;replace hF6:=hF6.below zcr;replace hF7:=hF7.below zcr;replace P8:=P8.below zcr
            replace X1:=X1.below zcr
            replace hbW:Below w.heap.size w u13:=hbW.trans (zcr.mono hbW.size)
            clear zcr;rw[<-HK.out]at hF9;obtain⟨n9,x9,y9,⟨a9,c9,b9,d9,rfl,hx9,hy9⟩,hF9⟩:=hF9;clear p00 p01 p02 p10 p11;obtain⟨p00,p01,p02,_⟩:=P8.cells;obtain⟨p10,p11,_⟩:=X1.cells
            go_wp2_with fail
            refine hK.out _ _ ?_ (fun hH=>?_)
            . (try dsimp only)
              exact⟨p00,p01,p02,p10,p11,A0.2,A1.2⟩
            clear hK K
            try simp only[Act.put,pZ]
            refine hCall (i:=13) rfl (by kernel_rfl) (by rfl) (fun K hK=>?_)
            go_simp
            have hs:=P5.lt
            obtain⟨f1,f2,f3,f4,f5,f6⟩:=P5.cells
            try go_simp
            obtain⟨u74,hU,C5,hbU,hK9,ho⟩:=zai P5 (.bool n9) (.slice a9 x9.length c9) (.slice b9 y9.length d9)
            rw[<-hU];clear hU f1 f2 f3 f4 f5 f6
            replace B0:=B0.other ho (by omega)
            replace P8:=P8.other ho (by omega)
            replace X1:BxS u74 w.heap.size (.slice (some ⟨b3,o3,none⟩) s.rg.length ca) (.slice (some ⟨b1,o1,none⟩) s.rw.length cb):=(ho _ (by omega)).trans X1
            replace hbW:=hbU _ _ hbW (by omega)
            have hF9:Fr u74 (.agg #[.bool n9,.slice a9 x9.length c9,.slice b9 y9.length d9]) (2+21*(k+1)) (chK s.rg r cs (k+1)):=Fr.le (k:=2+21*k+(2+2*l.length+2)+1) ⟨_,_,_,⟨_,_,_,_,rfl,hK9 _ _ _ hx9,hK9 _ _ _ hy9⟩,hF9⟩ (by omega)
            clear hbU hK9 ho hx9 hy9 A0 A1
            have A0:=HA0.out _ hbW
            have A1:=HAZ.out _ hbW
            clear p00 p01 p02 p10 p11;obtain⟨p00,p01,p02,_⟩:=P8.cells;obtain⟨p10,p11,_⟩:=X1.cells
            refine hK.out _ _ ?_ (fun hH=>?_)
            . (try dsimp only)
              exact⟨p00,p01,p02,p10,p11,A0.2,A1.2⟩
            clear hK K
            try simp only[Act.put,pZ]
            refine wpAnyH_done (by kernel_rfl) ?_ _
            clear hH;go_wp2
            go_roundw
            case rel=>exact⟨k+1,_,_,_,_,_,_,_,by omega,by go_num,C5,hF9,B0,X1,hbW⟩
            case measure=>simp[intOf];omega
      . obtain rfl:k=s.rg.length:=by omega
        rw[<-HLN.out,HQ.out]at hF5;obtain⟨p0,p1,p2,_⟩:=P5.cells;obtain⟨q1,q2,q3,q4,q5,q6⟩:=B0.cells
        have hs:=B0.lt
        go_wp2
        refine ret3 (v:=.agg #[.bool n5,.slice a5 x5 c5,.slice b5 y5 d5]) B0 rfl (fun U hU=>by obtain⟨r1,r2,r3,_⟩:=hU.cells;simp[results,Tryz.results137,go_sem,r1,r2,r3]) (fun U hU hK=>⟨_,rfl,(hF5.moved hK).le (by have:=HLN.out;omega),hU _ _ hbW (by omega)⟩)
   . have HQ:Hid ((0:Rat)=chQ s (j:Int) cs):=by show _=_;rw[zgp (by rw[HRQ.out];exact decide_eq_false hlen)]
     have g5:((r.length:Int) != (s.rg.length:Int))=true:=bne_iff_ne.2 (by omega)
     clear HRQ HCQ hlen
     go_enter Tryz.func137,Tryz.ntmps137
     go_wp2_with fail
     rw[<-hW];clear hW
     refine(zbd _).mono ?_
     rintro e y1 ⟨v5,rfl,hF5,hb1⟩;replace X1:=X1.below hb1;replace B0:=B0.below hb1
     replace hbW:=hbW.trans (hb1.mono hbW.size)
     clear hb1;obtain⟨n5,xl5,yl5,⟨a5,c5,b5,d5,rfl,hx5,hy5⟩,hF5⟩:=hF5
     obtain⟨Z1,hZ,P5,hb9⟩:∃U,U=y1.alloc (.cells #[.bool n5,.slice a5 xl5.length c5,.slice b5 yl5.length d5] 161)/\Box 161 U y1.heap.size (.bool n5) (.slice a5 xl5.length c5) (.slice b5 yl5.length d5)/\Below y1.heap.size y1 U:=⟨_,rfl,Box.new _ _ _ _ _,al1 _⟩
     have hF5:Fr Z1 (.agg #[.bool n5,.slice a5 xl5.length c5,.slice b5 yl5.length d5]) 2 0:=Fr.below ⟨_,_,_,⟨_,_,_,_,rfl,hx5,hy5⟩,hF5⟩ hb9
     have hgb:=B0.lt
     replace X1:=X1.below hb9;replace B0:=B0.below hb9
     replace hbW:=hbW.trans (hb9.mono hbW.size)
     clear hx5 hy5 hb9
     go_upto_region 2 with fail
     rw[<-hZ];clear hZ
     generalize xl5.length=x5 at *
     generalize yl5.length=y5 at *
     generalize y1.heap.size=g7 at *
     have A0:=HA0.out _ hbW
     have q0:=A0.2
     obtain⟨p00,p01,_⟩:=X1.cells
     refine wp_region_held_drew (S:=(fun u=>u.cell? ⟨w.heap.size,0,none⟩=some (.slice a s.rg.length ca)/\u.cell? ⟨w.heap.size,1,none⟩=some (.slice (some ⟨b1,o1,none⟩) s.rw.length cb)/\u.cell? ⟨b1,o1+j,none⟩=some (.slice a1 r.length c1))) (by kernel_rfl) ?_ (fun hH=>?_)
     . (try dsimp only)
       go_keep
     have hdr:Below Z1.heap.size Z1 Z1.drew:=Below.drew1
     generalize Z1.drew=ud3 at hdr hH ⊢
     replace A0:=A0.below hdr;replace B0:=B0.below hdr;replace P5:=P5.below hdr;replace hF5:=hF5.below hdr;replace X1:=X1.below hdr
     replace hbW:Below w.heap.size w ud3:=hbW.trans (hdr.mono hbW.size)
     clear hdr;clear p00 p01;obtain⟨p00,p01,_⟩:=X1.cells;refine hT 0 hH ?_;refine hT 1 hH ?_;refine hT 2 hH ?_;refine hT 3 hH ?_;refine hT 4 hH ?_;refine hT 5 hH ?_;refine hT 6 hH ?_;refine hT 7 hH ?_;refine hT 8 hH ?_;refine hT 9 hH ?_;refine hT 10 hH ?_
     refine hT 11 hH ?_;refine hT 12 hH ?_;refine hT 13 hH ?_;refine hT 14 hH ?_;refine hT 15 hH ?_;refine hT 16 hH ?_;refine hT 17 hH ?_;refine hT 18 hH ?_;refine hT 19 hH ?_;refine hT 20 hH ?_
     refine wpAnyH_done (by kernel_rfl) ?_ _
     clear hH;rw[HQ.out]at hF5;obtain⟨p0,p1,p2,_⟩:=P5.cells;obtain⟨q1,q2,q3,q4,q5,q6⟩:=B0.cells
     have hs:=B0.lt
     go_wp2
     refine ret3 (v:=.agg #[.bool n5,.slice a5 x5 c5,.slice b5 y5 d5]) B0 rfl (fun U hU=>by obtain⟨r1,r2,r3,_⟩:=hU.cells;simp[results,Tryz.results137,go_sem,r1,r2,r3]) (fun U hU hK=>⟨_,rfl,(hF5.moved hK).le (by decide),hU _ _ hbW (by omega)⟩)
 . have HQ:Hid ((0:Rat)=chQ s i cs):=by
     show _=_
     rw[zgp];rw[Bool.eq_false_iff]
     intro e
     have:=zor.1 e
     exact hi ⟨this.1,this.2.1⟩
   by_cases h0:i<0
   . have g1:decide (i<0)=true:=decide_eq_true h0
     clear hi h0
     go_enter Tryz.func137,Tryz.ntmps137
     go_wp2_with fail
     rw[<-hW];clear hW
     refine(zbd _).mono ?_
     rintro e y1 ⟨v5,rfl,hF5,hb1⟩;replace X1:=X1.below hb1;replace B0:=B0.below hb1
     replace hbW:=hbW.trans (hb1.mono hbW.size)
     clear hb1;obtain⟨n5,xl5,yl5,⟨a5,c5,b5,d5,rfl,hx5,hy5⟩,hF5⟩:=hF5
     obtain⟨Z1,hZ,P5,hb9⟩:∃U,U=y1.alloc (.cells #[.bool n5,.slice a5 xl5.length c5,.slice b5 yl5.length d5] 161)/\Box 161 U y1.heap.size (.bool n5) (.slice a5 xl5.length c5) (.slice b5 yl5.length d5)/\Below y1.heap.size y1 U:=⟨_,rfl,Box.new _ _ _ _ _,al1 _⟩
     have hF5:Fr Z1 (.agg #[.bool n5,.slice a5 xl5.length c5,.slice b5 yl5.length d5]) 2 0:=Fr.below ⟨_,_,_,⟨_,_,_,_,rfl,hx5,hy5⟩,hF5⟩ hb9
     have hgb:=B0.lt
     replace X1:=X1.below hb9;replace B0:=B0.below hb9
     replace hbW:=hbW.trans (hb9.mono hbW.size)
     clear hx5 hy5 hb9
     go_upto_region 2 with fail
     rw[<-hZ];clear hZ
     generalize xl5.length=x5 at *
     generalize yl5.length=y5 at *
     generalize y1.heap.size=g7 at *
     obtain⟨p00,p01,_⟩:=X1.cells
     refine wp_region_held_drew (S:=(fun u=>u.cell? ⟨w.heap.size,0,none⟩=some (.slice a s.rg.length ca)/\u.cell? ⟨w.heap.size,1,none⟩=some (.slice b s.rw.length cb))) (by kernel_rfl) ?_ (fun hH=>?_)
     . (try dsimp only)
       go_keep
     have hdr:Below Z1.heap.size Z1 Z1.drew:=Below.drew1
     generalize Z1.drew=ud4 at hdr hH ⊢
     replace B0:=B0.below hdr;replace P5:=P5.below hdr;replace hF5:=hF5.below hdr;replace X1:=X1.below hdr
     replace hbW:Below w.heap.size w ud4:=hbW.trans (hdr.mono hbW.size)
     clear hdr;clear p00 p01;obtain⟨p00,p01,_⟩:=X1.cells;refine hT 0 hH ?_;refine hT 1 hH ?_;refine hT 2 hH ?_;refine hN 3 hH ?_;refine hN 4 hH ?_;refine hN 5 hH ?_;refine hN 6 hH ?_;refine hN 7 hH ?_;refine hT 8 hH ?_;refine hT 9 hH ?_;refine hN 10 hH ?_
     refine hN 11 hH ?_;refine hN 12 hH ?_;refine hN 13 hH ?_;refine hN 14 hH ?_;refine hN 15 hH ?_;refine hN 16 hH ?_;refine hN 17 hH ?_;refine hN 18 hH ?_;refine hN 19 hH ?_;refine hT 20 hH ?_
     refine wpAnyH_done (by kernel_rfl) ?_ _
     clear hH;rw[HQ.out]at hF5;obtain⟨p0,p1,p2,_⟩:=P5.cells;obtain⟨q1,q2,q3,q4,q5,q6⟩:=B0.cells
     have hs:=B0.lt
     go_wp2
     refine ret3 (v:=.agg #[.bool n5,.slice a5 x5 c5,.slice b5 y5 d5]) B0 rfl (fun U hU=>by obtain⟨r1,r2,r3,_⟩:=hU.cells;simp[results,Tryz.results137,go_sem,r1,r2,r3]) (fun U hU hK=>⟨_,rfl,(hF5.moved hK).le (by decide),hU _ _ hbW (by omega)⟩)
   . have g1:decide (i<0)=false:=decide_eq_false h0
     have g2:decide ((s.rw.length:Int)<=i)=true:=decide_eq_true (by omega)
     clear hi h0
     go_enter Tryz.func137,Tryz.ntmps137
     go_wp2_with fail
     rw[<-hW];clear hW
     refine(zbd _).mono ?_
     rintro e y1 ⟨v5,rfl,hF5,hb1⟩;replace X1:=X1.below hb1;replace B0:=B0.below hb1
     replace hbW:=hbW.trans (hb1.mono hbW.size)
     clear hb1;obtain⟨n5,xl5,yl5,⟨a5,c5,b5,d5,rfl,hx5,hy5⟩,hF5⟩:=hF5
     obtain⟨Z1,hZ,P5,hb9⟩:∃U,U=y1.alloc (.cells #[.bool n5,.slice a5 xl5.length c5,.slice b5 yl5.length d5] 161)/\Box 161 U y1.heap.size (.bool n5) (.slice a5 xl5.length c5) (.slice b5 yl5.length d5)/\Below y1.heap.size y1 U:=⟨_,rfl,Box.new _ _ _ _ _,al1 _⟩
     have hF5:Fr Z1 (.agg #[.bool n5,.slice a5 xl5.length c5,.slice b5 yl5.length d5]) 2 0:=Fr.below ⟨_,_,_,⟨_,_,_,_,rfl,hx5,hy5⟩,hF5⟩ hb9
     have hgb:=B0.lt
     replace X1:=X1.below hb9;replace B0:=B0.below hb9
     replace hbW:=hbW.trans (hb9.mono hbW.size)
     clear hx5 hy5 hb9
     go_upto_region 2 with fail
     rw[<-hZ];clear hZ
     generalize xl5.length=x5 at *
     generalize yl5.length=y5 at *
     generalize y1.heap.size=g7 at *
     obtain⟨p00,p01,_⟩:=X1.cells
     refine wp_region_held_drew (S:=(fun u=>u.cell? ⟨w.heap.size,0,none⟩=some (.slice a s.rg.length ca)/\u.cell? ⟨w.heap.size,1,none⟩=some (.slice b s.rw.length cb))) (by kernel_rfl) ?_ (fun hH=>?_)
     . (try dsimp only)
       go_keep
     have hdr:Below Z1.heap.size Z1 Z1.drew:=Below.drew1
     generalize Z1.drew=ud5 at hdr hH ⊢
     replace B0:=B0.below hdr;replace P5:=P5.below hdr;replace hF5:=hF5.below hdr;replace X1:=X1.below hdr
     replace hbW:Below w.heap.size w ud5:=hbW.trans (hdr.mono hbW.size)
     clear hdr;clear p00 p01;obtain⟨p00,p01,_⟩:=X1.cells;refine hT 0 hH ?_;refine hT 1 hH ?_;refine hT 2 hH ?_;refine hT 3 hH ?_;refine hT 4 hH ?_;refine hT 5 hH ?_;refine hT 6 hH ?_;refine hT 7 hH ?_;refine hT 8 hH ?_;refine hT 9 hH ?_;refine hN 10 hH ?_
     refine hN 11 hH ?_;refine hN 12 hH ?_;refine hN 13 hH ?_;refine hN 14 hH ?_;refine hN 15 hH ?_;refine hN 16 hH ?_;refine hN 17 hH ?_;refine hN 18 hH ?_;refine hN 19 hH ?_;refine hT 20 hH ?_
     refine wpAnyH_done (by kernel_rfl) ?_ _
     clear hH;rw[HQ.out]at hF5;obtain⟨p0,p1,p2,_⟩:=P5.cells;obtain⟨q1,q2,q3,q4,q5,q6⟩:=B0.cells
     have hs:=B0.lt
     go_wp2
     refine ret3 (v:=.agg #[.bool n5,.slice a5 x5 c5,.slice b5 y5 d5]) B0 rfl (fun U hU=>by obtain⟨r1,r2,r3,_⟩:=hU.cells;simp[results,Tryz.results137,go_sem,r1,r2,r3]) (fun U hU hK=>⟨_,rfl,(hF5.moved hK).le (by decide),hU _ _ hbW (by omega)⟩)
open Classical
theorem zmd{m:Nat}(h:m<=9223372036854775808):wrap64 (-(wrap64 (m:Int)))=-(m:Int):=by
 by_cases h9:m=9223372036854775808
 . subst h9;decide +kernel
 . rw[zhv (by omega)]
   unfold wrap64
   omega
theorem zmw(k:Nat)(q:Rat)(v:Value)(w:World)(h:Ct w v k q)(hk:k<=1000000)(hk2:2<=k) :
 Calls Tryz.prog 171 #[v] w fun e w'=>e=.returned (.tuple #[.int .i64 (flN q.floor),.bool (flB q.floor)])/\Below w.heap.size w w':=by
 have hX:=h
 obtain⟨n,xs,ys,⟨a,c,a',c',rfl,_,_⟩,hz1⟩:=h;clear hz1
 go_enter Tryz.func171,Tryz.ntmps171
 go_wp2_with fail
 refine(zcu k q _ _ (hX.below (al1 _)) (by omega) hk2).mono ?_
 rintro e u1 ⟨v1,rfl,hF1,hb1⟩
 obtain⟨B0,hbW⟩:=zbr hb1
 clear hb1 hX;obtain⟨p1,p2,p3,p4,p5,p6⟩:=B0.cells
 have hs1:=B0.lt
 obtain⟨n1,x1,y1,⟨a1,c1,b1,d1,rfl,hx1,hy1⟩,f1,l1,l1',e1⟩:=hF1
 have y0:=f1.den
 go_wp2_with fail
 obtain⟨U,hU,B1,hbU,hK,ho⟩:=zai B0 (.bool n1) (.slice a1 x1.length c1) (.slice b1 y1.length d1)
 rw[<-hU]
 replace hbW:=hbU _ _ hbW (by omega)
 replace hx1:=hK _ _ _ hx1
 replace hy1:=hK _ _ _ hy1
 clear hU hbU hK ho B0 p1 p2 p3 p4 p5 p6 hs1
 refine(ze1 _ _ _ _ _ _ _ hx1 hy1 (by omega) (by omega)).mono ?_
 rintro e u2 ⟨a2,c2,zs,a3,c3,rs,rfl,hv1,hv2,ht1,ht2,hr1,hr2,hb2⟩
 have lz:zs.length<=k:=zah ht1 (Nat.lt_of_le_of_lt (by rw[hv1];exact Nat.div_le_self _ _) (zbv hx1.lim l1))
 have lr:rs.length<=k:=zah ht2 (Nat.lt_of_le_of_lt (by rw[hv2,zbm _ (by omega)];exact Nat.mod_le _ _) (zbv hx1.lim l1))
 have rz:=hr1.rd
 rw[zbm _ (by omega)]at hv2
 replace B1:=B1.below hb2
 replace hbW:Below w.heap.size w u2:=hbW.trans (hb2.mono hbW.size)
 clear hr1 hr2 hb2 hx1 hy1;obtain⟨p1,p2,p3,_⟩:=B1.cells;subst e1
 cases n1 with
 | false =>
     have HF:Hid ((qv false x1 y1).floor=((V zs:Nat):Int)):=by show _=_;rw[zi5 y0,hv1]
     clear hv1 hv2
     go_wp2_with fail
     refine(zd9 _ _ _ _ rz (by omega)).mono ?_
     rintro e u7 ⟨rfl,hb7⟩;replace B1:=B1.below hb7
     replace hbW:Below w.heap.size w u7:=hbW.trans (hb7.mono hbW.size)
     clear hb7 p1 p2 p3;obtain⟨p1,p2,p3,_⟩:=B1.cells
     generalize V zs=m at HF ⊢
     clear rz
     by_cases hm:m<9223372036854775808
     . rw[zar (by omega),zap (by omega)]
       have HM:Hid (m<9223372036854775808):=hm
       obtain⟨z,hz⟩:∃z:Int,(m:Int)=z:=⟨_,rfl⟩
       have g1:¬9223372036854775808<z:=by omega
       have g2:(z==9223372036854775808)=false:=beq_eq_false_iff_ne.2 (by omega)
       rw[hz]
       have HZ:Hid ((m:Int)=z):=hz
       clear hz hm;go_wp2
       go_ret2
       exact⟨za0 (by rw[HF.out,zdh,if_pos HM.out,<-HZ.out];exact zhv HM.out) (by rw[HF.out,zcx];simp[HM.out]),hbW⟩
     . by_cases hm2:m<18446744073709551616
       . rw[zar hm2,zap hm2]
         by_cases hm3:m=9223372036854775808
         . subst hm3
           go_wp2
           go_ret2
           exact⟨za0 (by rw[HF.out,zdh,if_neg (by decide)]) (by rw[HF.out,zcx];simp),hbW⟩
         . have g1:(9223372036854775808:Int)<(m:Int):=by omega
           have HM:Hid (¬m<9223372036854775808):=hm
           clear hm hm2 hm3;go_wp2
           go_ret2
           exact⟨za0 (by rw[HF.out,zdh,if_neg HM.out]) (by rw[HF.out,zcx];simp[HM.out]),hbW⟩
       . rw[zbe hm2,za8 hm2]
         go_wp2
         go_ret2
         exact⟨za0 (by rw[HF.out,zdh,if_neg hm]) (by rw[HF.out,zcx];simp[hm]),hbW⟩
 | true =>
  by_cases hrs:rs.length=0
  . have hr0:V rs=0:=by rw[List.length_eq_zero_iff.1 hrs];rfl
    have HF:Hid ((qv true x1 y1).floor=-((V zs:Nat):Int)):=by show _=_;rw[zd1 y0,hv1,<-hv2,hr0];simp
    have g0:¬(0:Int)<(rs.length:Int):=by omega
    clear hv1 hv2 hr0 hrs
    go_wp2_with fail
    refine(zd9 _ _ _ _ rz (by omega)).mono ?_
    rintro e u7 ⟨rfl,hb7⟩;replace B1:=B1.below hb7
    replace hbW:Below w.heap.size w u7:=hbW.trans (hb7.mono hbW.size)
    clear hb7 p1 p2 p3;obtain⟨p1,p2,p3,_⟩:=B1.cells
    generalize V zs=m at HF ⊢
    clear rz
    by_cases hm:m<=9223372036854775808
    . rw[zar (by omega),zap (by omega)]
      have HM:Hid (m<=9223372036854775808):=hm
      obtain⟨z,hz⟩:∃z:Int,(m:Int)=z:=⟨_,rfl⟩
      have g1:¬9223372036854775808<z:=by omega
      have HB:Hid (wrap64 (-(wrap64 z))=-z):=by show _=_;rw[<-hz];exact zmd hm
      rw[hz]
      have HZ:Hid ((m:Int)=z):=hz
      clear hz hm
      by_cases hz9:z=9223372036854775808
      . have g2:(z==9223372036854775808)=true:=beq_iff_eq.2 hz9
        clear hz9;go_wp2
        go_ret2
        exact⟨za0 (by rw[HF.out,zbp,if_pos HM.out,HZ.out];exact HB.out) (by rw[HF.out,zbi];simp[HM.out]),hbW⟩
      . have g2:(z==9223372036854775808)=false:=beq_eq_false_iff_ne.2 hz9
        clear hz9;go_wp2
        go_ret2
        exact⟨za0 (by rw[HF.out,zbp,if_pos HM.out,HZ.out];exact HB.out) (by rw[HF.out,zbi];simp[HM.out]),hbW⟩
    . by_cases hm2:m<18446744073709551616
      . rw[zar hm2,zap hm2]
        have g1:(9223372036854775808:Int)<(m:Int):=by omega
        have HM:Hid (¬m<=9223372036854775808):=hm
        clear hm hm2;go_wp2
        go_ret2
        exact⟨za0 (by rw[HF.out,zbp,if_neg HM.out]) (by rw[HF.out,zbi];simp[HM.out]),hbW⟩
      . rw[zbe hm2,za8 hm2]
        go_wp2
        go_ret2
        exact⟨za0 (by rw[HF.out,zbp,if_neg hm]) (by rw[HF.out,zbi];simp[hm]),hbW⟩
  . have hr0:0<V rs:=by
      have:=zh0 ht2 fun h=>hrs (by rw[h];rfl)
      omega
    have g0:(0:Int)<(rs.length:Int):=by omega
    go_wp2_with fail
    refine(zc0 _).mono ?_
    rintro e u3 ⟨a4,c4,os,rfl,ho1,hto,ro,hb3⟩;replace rz:=rz.below hb3;replace B1:=B1.below hb3
    replace hbW:Below w.heap.size w u3:=hbW.trans (hb3.mono hbW.size)
    have lo:=zbh hto (by omega)
    clear hb3 p1 p2 p3
    go_wp2_with fail
    refine(zds _ _ _ _ _ _ _ rz ro (by omega) (by omega)).mono ?_
    rintro e u4 ⟨a5,c5,ws,rfl,hv4,ht4,hr4,hb4⟩
    have rw4:=hr4.rd
    replace B1:=B1.below hb4
    replace hbW:Below w.heap.size w u4:=hbW.trans (hb4.mono hbW.size)
    have lw:ws.length<=k+1:=zc9 rz.lim ro.lim ht4 lz (by omega) (by omega)
    have HF:Hid ((qv true x1 y1).floor=-((V ws:Nat):Int)):=by show _=_;rw[zd1 y0,hv4,hv1,ho1,<-hv2,if_pos hr0]
    clear hv1 hv2 hr0 hr4 hb4 rz ro hv4 ho1 hrs;obtain⟨p1,p2,p3,_⟩:=B1.cells
    go_wp2_with fail
    refine(zd9 _ _ _ _ rw4 (by omega)).mono ?_
    rintro e u7 ⟨rfl,hb7⟩;replace B1:=B1.below hb7
    replace hbW:Below w.heap.size w u7:=hbW.trans (hb7.mono hbW.size)
    clear hb7 p1 p2 p3;obtain⟨p1,p2,p3,_⟩:=B1.cells
    generalize V ws=m at HF ⊢
    clear rw4
    by_cases hm:m<=9223372036854775808
    . rw[zar (by omega),zap (by omega)]
      have HM:Hid (m<=9223372036854775808):=hm
      obtain⟨z,hz⟩:∃z:Int,(m:Int)=z:=⟨_,rfl⟩
      have g1:¬9223372036854775808<z:=by omega
      have HB:Hid (wrap64 (-(wrap64 z))=-z):=by show _=_;rw[<-hz];exact zmd hm
      rw[hz]
      have HZ:Hid ((m:Int)=z):=hz
      clear hz hm
      by_cases hz9:z=9223372036854775808
      . have g2:(z==9223372036854775808)=true:=beq_iff_eq.2 hz9
        clear hz9;go_wp2
        go_ret2
        exact⟨za0 (by rw[HF.out,zbp,if_pos HM.out,HZ.out];exact HB.out) (by rw[HF.out,zbi];simp[HM.out]),hbW⟩
      . have g2:(z==9223372036854775808)=false:=beq_eq_false_iff_ne.2 hz9
        clear hz9;go_wp2
        go_ret2
        exact⟨za0 (by rw[HF.out,zbp,if_pos HM.out,HZ.out];exact HB.out) (by rw[HF.out,zbi];simp[HM.out]),hbW⟩
    . by_cases hm2:m<18446744073709551616
      . rw[zar hm2,zap hm2]
        have g1:(9223372036854775808:Int)<(m:Int):=by omega
        have HM:Hid (¬m<=9223372036854775808):=hm
        clear hm hm2;go_wp2
        go_ret2
        exact⟨za0 (by rw[HF.out,zbp,if_neg HM.out]) (by rw[HF.out,zbi];simp[HM.out]),hbW⟩
      . rw[zbe hm2,za8 hm2]
        go_wp2
        go_ret2
        exact⟨za0 (by rw[HF.out,zbp,if_neg hm]) (by rw[HF.out,zbi];simp[hm]),hbW⟩
theorem zd8(k:Nat)(q:Rat)(v:Value)(w:World)(h:Ct w v k q)(hk:k<=100000)(hk2:2<=k) :
 Calls Tryz.prog 134 #[v] w fun e w'=>e=.returned (.tuple #[.int .i64 (flN (q+1/2).floor),.bool (flB (q+1/2).floor)])/\Below w.heap.size w w':=by
 have hX:=h
 obtain⟨n,xs,ys,⟨a,c,a',c',rfl,_,_⟩,hz1⟩:=h;clear hz1
 go_enter Tryz.func134,Tryz.ntmps134
 go_wp2_with fail
 obtain⟨W,hW,B1,hbW⟩:∃W,W=w.alloc (.cells #[.bool n,.slice a xs.length c,.slice a' ys.length c'] 161)/\Box 161 W w.heap.size (.bool n) (.slice a xs.length c) (.slice a' ys.length c')/\Below w.heap.size w W:=⟨_,rfl,Box.new _ _ _ _ _,al1 _⟩
 rw[<-hW];clear hW;replace hX:=hX.below hbW;obtain⟨p1,p2,p3,_⟩:=B1.cells
 go_region_held3 (fun u=>u.cell? ⟨w.heap.size,0,none⟩=some (.bool n)/\u.cell? ⟨w.heap.size,1,none⟩=some (.slice a xs.length c)/\u.cell? ⟨w.heap.size,2,none⟩=some (.slice a' ys.length c')) (go_keep)
  (first
   | (go_at_call 172
      refine(zfg 1 2 _ (by decide) (by decide) (by decide) (by decide)).mono ?_
      rintro e u1 ⟨v1,rfl,hF1,hb1⟩
      replace hb1:Below W.heap.size W u1:=Below.drew1.trans hb1
      have hH:Ct u1 v1 2 (1/2):=hF1.ct
      replace hX:=hX.below hb1;replace B1:=B1.below hb1
      replace hbW:Below w.heap.size w u1:=hbW.trans (hb1.mono hbW.size)
      clear hb1 hF1 p1 p2 p3
      obtain⟨p1,p2,p3,_⟩:=B1.cells)
   | (go_at_call 135
      refine(zdo k 2 q (1/2) _ _ _ hX hH ?_ (by decide) hk2 (by decide)).mono ?_
      . omega
      rintro e u2 ⟨v2,rfl,hF2,hb2⟩;replace B1:=B1.below hb2
      replace hbW:Below w.heap.size w u2:=hbW.trans (hb2.mono hbW.size)
      clear hb2 hX hH p1 p2 p3
      obtain⟨p1,p2,p3,_⟩:=B1.cells)
   | (go_at_call 171
      refine(zmw (k+2+1) _ _ _ hF2.ct ?_ ?_).mono ?_
      . omega
      . omega
      rintro e u3 ⟨rfl,hb3⟩;replace B1:=B1.below hb3
      replace hbW:Below w.heap.size w u3:=hbW.trans (hb3.mono hbW.size)
      clear hb3 hF2 p1 p2 p3
      obtain⟨p1,p2,p3,_⟩:=B1.cells))
 go_wp2
 go_ret2
 exact⟨rfl,hbW⟩
theorem zmx(k:Nat)(q:Rat)(v:Value)(w:World)(h:Ct w v k q)(hk:k<=100000)(hk2:2<=k) :
 Calls Tryz.prog 98 #[v] w fun e w'=>e=.returned (.tuple #[.int .i64 (fldN (q+1/2).floor),.int .i64 (fldE (q+1/2).floor)])/\Below w.heap.size w w':=by
 have hX:=h
 obtain⟨n,xs,ys,⟨a,c,a',c',rfl,_,_⟩,hz1⟩:=h;clear hz1
 obtain⟨z,hz⟩:∃z,(q+1/2).floor=z:=⟨_,rfl⟩
 rw[hz]
 have HZ:Hid ((q+1/2).floor=z):=hz
 clear hz
 have e34:(-32768<=z/\z<=32767/\fldN z=z/\fldE z=0/\flB z=true/\flN z=z)\/(¬(-32768<=z/\z<=32767)/\fldN z=0/\fldE z=4):=by
  by_cases h1:-32768<=z/\z<=32767
  . have e1:flB z=true:=by unfold flB;exact decide_eq_true (by omega)
    exact .inl ⟨h1.1,h1.2,by unfold fldN;rw[if_pos h1],by unfold fldE;rw[if_pos h1],e1,by unfold flN;rw[if_pos e1]⟩
  . exact .inr ⟨h1,by unfold fldN;rw[if_neg h1],by unfold fldE;rw[if_neg h1]⟩
 rcases e34 with ⟨h1,h2,e3,e4,e1,e2⟩|⟨h1,e3,e4⟩
 . rw[e3,e4]
   have E1:Hid (flB z=true/\flN z=z):=⟨e1,e2⟩
   clear e1 e2 e3 e4
   go_enter Tryz.func98,Tryz.ntmps98
   go_wp2_with fail
   refine(zd8 k q _ _ (hX.below (al1 _)) hk hk2).mono ?_
   rintro e u1 ⟨rfl,hb1⟩
   obtain⟨B1,hbW⟩:=zbr hb1
   clear hb1 hX;rw[HZ.out,E1.out.1,E1.out.2];go_wp2
   go_ret2
   exact⟨rfl,hbW⟩
 rw[e3,e4];clear e3 e4
 by_cases h2:flB z=true
 . have e2:flN z=z:=by unfold flN;rw[if_pos h2]
   have E1:Hid (flB z=true/\flN z=z):=⟨h2,e2⟩
   clear h2 e2
   rcases (show z < -32768\/(-32768<=z/\32767<z) by omega)with h3|⟨h3,h4⟩
   all_goals
    clear h1
    go_enter Tryz.func98,Tryz.ntmps98
    go_wp2_with fail
    refine(zd8 k q _ _ (hX.below (al1 _)) hk hk2).mono ?_
    rintro e u1 ⟨rfl,hb1⟩
    obtain⟨B1,hbW⟩:=zbr hb1
    clear hb1 hX;rw[HZ.out,E1.out.1,E1.out.2];go_wp2
    go_ret2
    exact⟨rfl,hbW⟩
 . have e1:flB z=false:=by simpa using h2
   have E1:Hid (flB z=false):=e1
   clear h2 e1 h1
   go_enter Tryz.func98,Tryz.ntmps98
   go_wp2_with fail
   refine(zd8 k q _ _ (hX.below (al1 _)) hk hk2).mono ?_
   rintro e u1 ⟨rfl,hb1⟩
   obtain⟨B1,hbW⟩:=zbr hb1
   clear hb1 hX;rw[HZ.out,E1.out]
   generalize flN z=y
   go_wp2
   go_ret2
   exact⟨rfl,hbW⟩
theorem zjc(a:Option Addr)(ca:Nat)(b:Option Addr)(cb:Nat)(s:Sr)(x r:Int)(pa:Option Addr)(pc:Nat)(cs:List Int)(w:World)(hg:Tzz w a ca s.rg)(hm:Rii w b cb s.rw)(hp:Ri w pa pc cs)(hx:I64 x)(hr:I64 r)(hl:s.rg.length<=40)(h8:∀l∈s.rg,l.length<=8) :
 Calls Tryz.prog 99 #[.agg #[.slice a s.rg.length ca,.slice b s.rw.length cb],.agg #[.int .i64 x,.int .i64 r],.slice pa cs.length pc] w fun e w'=>∃v',e=.returned v'/\Fr w' v' 1003 (vaQ s x r cs)/\Below w.heap.size w w':=by
 have k3:=hp.lenB
 have HV:Hid (((x:Int):Rat)+chQ s r cs=vaQ s x r cs):=rfl
 have hch:=fun U h1 h2 h3=>zid a ca b cb s r pa pc cs U h1 h2 h3 hl h8
 obtain⟨W,hW,X1,X2,B0,hbW⟩:∃W,W=((w.alloc (.cells #[.slice a s.rg.length ca,.slice b s.rw.length cb] 27)).alloc (.cells #[.int .i64 x,.int .i64 r] 62)).alloc (.cells #[.bool false,.slice none 0 0,.slice none 0 0] 161)/\BxS W w.heap.size (.slice a s.rg.length ca) (.slice b s.rw.length cb)/\BxL W (w.heap.size+1) (.int .i64 x) (.int .i64 r)/\Box 161 W (w.heap.size+2) (.bool false) (.slice none 0 0) (.slice none 0 0)/\Below w.heap.size w W:=⟨_,rfl,((BxS.new _ _ _).below (bl1 _)).below (bl1 _),(BxL.new1 _ _ _ _).below (bl1 _),Box.new2S _ _ _ _ _ _ _,(bl2 _ _).trans ((bl1 _).mono (by simp;omega))⟩
 replace hg:=hg.below hbW;replace hm:=hm.below hbW;replace hp:=hp.below hbW
 generalize chQ s r cs=qc at *
 clear h8
 go_enter Tryz.func99,Tryz.ntmps99
 go_upto_region 1 with fail
 rw[<-hW];clear hW;obtain⟨p00,p01,_⟩:=X1.cells;obtain⟨p10,p11,_⟩:=X2.cells
 refine wp_region_held_drew (S:=(fun u=>u.cell? ⟨w.heap.size,0,none⟩=some (.slice a s.rg.length ca)/\u.cell? ⟨w.heap.size,1,none⟩=some (.slice b s.rw.length cb)/\u.cell? ⟨w.heap.size+1,0,none⟩=some (.int .i64 x)/\u.cell? ⟨w.heap.size+1,1,none⟩=some (.int .i64 r))) (by kernel_rfl) ?_ (fun hH=>?_)
 . (try dsimp only)
   go_keep
 have hdr:Below W.heap.size W W.drew:=Below.drew1
 generalize W.drew=ud1 at hdr hH ⊢
 replace hg:=hg.below hdr;replace hm:=hm.below hdr;replace hp:=hp.below hdr;replace B0:=B0.below hdr;replace X1:=X1.below hdr;replace X2:=X2.below hdr
 replace hbW:Below w.heap.size w ud1:=hbW.trans (hdr.mono hbW.size)
 clear hdr;clear p00 p01 p10 p11;obtain⟨p00,p01,_⟩:=X1.cells;obtain⟨p10,p11,_⟩:=X2.cells;refine hT 0 hH ?_;refine hT 1 hH ?_;refine hT 3 hH ?_;refine hT 4 hH ?_;refine hT 5 hH ?_;refine hT 6 hH ?_
 refine hCall (i:=2) rfl (by kernel_rfl) (by rfl) (fun K hK=>?_)
 go_simp
 refine(zb2 x _ hx.1 (by have:=hx.2;omega)).mono ?_
 rintro e u1 ⟨v5,rfl,hF5,hb1⟩;replace hg:=hg.below hb1;replace hm:=hm.below hb1;replace hp:=hp.below hb1;replace B0:=B0.below hb1;replace X1:=X1.below hb1;replace X2:=X2.below hb1
 replace hbW:Below w.heap.size w u1:=hbW.trans (hb1.mono hbW.size)
 clear hb1;clear p00 p01 p10 p11;obtain⟨p00,p01,_⟩:=X1.cells;obtain⟨p10,p11,_⟩:=X2.cells
 go_wp2_with fail
 refine hK.out _ _ ?_ (fun hH=>?_)
 . (try dsimp only)
   exact⟨p00,p01,p10,p11⟩
 clear hK K
 try simp only[Act.put,pZ]
 refine hCall (i:=7) rfl (by kernel_rfl) (by rfl) (fun K hK=>?_)
 go_simp
 refine(hch _ hg hm hp).mono ?_
 rintro e u2 ⟨v6,rfl,hF6,hb2⟩;replace hg:=hg.below hb2;replace hm:=hm.below hb2;replace hp:=hp.below hb2;replace B0:=B0.below hb2;replace hF5:=hF5.below hb2;replace X1:=X1.below hb2;replace X2:=X2.below hb2
 replace hbW:Below w.heap.size w u2:=hbW.trans (hb2.mono hbW.size)
 clear hb2;clear p00 p01 p10 p11;obtain⟨p00,p01,_⟩:=X1.cells;obtain⟨p10,p11,_⟩:=X2.cells
 go_wp2_with fail
 refine hK.out _ _ ?_ (fun hH=>?_)
 . (try dsimp only)
   exact⟨p00,p01,p10,p11⟩
 clear hK K
 try simp only[Act.put,pZ]
 refine hCall (i:=8) rfl (by kernel_rfl) (by rfl) (fun K hK=>?_)
 go_simp
 refine(zdo 2 1000 _ _ _ _ _ hF5.ct hF6.ct (by decide) (by decide) (by decide) (by decide)).mono ?_
 rintro e u3 ⟨v9,rfl,hF9,hb3⟩;replace hg:=hg.below hb3;replace hm:=hm.below hb3;replace hp:=hp.below hb3;replace B0:=B0.below hb3;replace hF5:=hF5.below hb3;replace hF6:=hF6.below hb3;replace X1:=X1.below hb3;replace X2:=X2.below hb3
 replace hbW:Below w.heap.size w u3:=hbW.trans (hb3.mono hbW.size)
 clear hb3;rw[HV.out]at hF9;obtain⟨n9,x9,y9,⟨a9,c9,b9,d9,rfl,hx9,hy9⟩,hF9⟩:=hF9;clear p00 p01 p10 p11;obtain⟨p00,p01,_⟩:=X1.cells;obtain⟨p10,p11,_⟩:=X2.cells
 go_wp2_with fail
 refine hK.out _ _ ?_ (fun hH=>?_)
 . (try dsimp only)
   exact⟨p00,p01,p10,p11⟩
 clear hK K
 try simp only[Act.put,pZ]
 refine hCall (i:=9) rfl (by kernel_rfl) (by rfl) (fun K hK=>?_)
 go_simp
 have hs:=B0.lt
 obtain⟨f1,f2,f3,f4,f5,f6⟩:=B0.cells
 try go_simp
 obtain⟨u64,hU,C9,hbU,hK9,ho⟩:=zai B0 (.bool n9) (.slice a9 x9.length c9) (.slice b9 y9.length d9)
 rw[<-hU];clear hU f1 f2 f3 f4 f5 f6
 replace hbW:=hbU _ _ hbW (by omega)
 replace hx9:=hK9 _ _ _ hx9
 replace hy9:=hK9 _ _ _ hy9
 replace X1:BxS u64 w.heap.size (.slice a s.rg.length ca) (.slice b s.rw.length cb):=(ho _ (by omega)).trans X1
 replace X2:BxL u64 (w.heap.size+1) (.int .i64 x) (.int .i64 r):=(ho _ (by omega)).trans X2
 clear hbU hK9 ho;clear p00 p01 p10 p11;obtain⟨p00,p01,_⟩:=X1.cells;obtain⟨p10,p11,_⟩:=X2.cells
 refine hK.out _ _ ?_ (fun hH=>?_)
 . (try dsimp only)
   exact⟨p00,p01,p10,p11⟩
 clear hK K
 try simp only[Act.put,pZ]
 refine wpAnyH_done (by kernel_rfl) ?_ _
 clear hH;go_wp2
 refine bodyPost_ret (by obtain⟨r1,r2,r3,_⟩:=C9.cells;simp[results,Tryz.results99,go_sem,r1,r2,r3]) rfl ⟨_,rfl,⟨_,_,_,⟨_,_,_,_,rfl,hx9,hy9⟩,hF9⟩,hbW⟩
theorem zdk(a:Option Addr)(ca:Nat)(b:Option Addr)(cb:Nat)(s:Sr)(x r:Int)(pa:Option Addr)(pc:Nat)(cs:List Int)(w:World)(hg:Tzz w a ca s.rg)(hm:Rii w b cb s.rw)(hp:Ri w pa pc cs)(hx:I64 x)(hr:I64 r)(hl:s.rg.length<=40)(h8:∀l∈s.rg,l.length<=8) :
 Calls Tryz.prog 66 #[.agg #[.slice a s.rg.length ca,.slice b s.rw.length cb],.agg #[.int .i64 x,.int .i64 r],.slice pa cs.length pc] w fun e w'=>e=.returned (.tuple #[.int .i64 (roN s x r cs),.int .i64 (roE s x r cs)])/\Below w.heap.size w w':=by
 have k2:=hm.lenB
 have k3:=hp.lenB
 have hfi:=fun U=>zc1 a ca b cb s x r U k2 hx hr
 have hva:=fun U h1 h2 h3=>zjc a ca b cb s x r pa pc cs U h1 h2 h3 hx hr hl h8
 obtain⟨W,hW,X1,X2,hbW⟩:∃W,W=(w.alloc (.cells #[.slice a s.rg.length ca,.slice b s.rw.length cb] 27)).alloc (.cells #[.int .i64 x,.int .i64 r] 62)/\BxS W w.heap.size (.slice a s.rg.length ca) (.slice b s.rw.length cb)/\BxL W (w.heap.size+1) (.int .i64 x) (.int .i64 r)/\Below w.heap.size w W:=⟨_,rfl,(BxS.new _ _ _).below (bl1 _),BxL.new1 _ _ _ _,bl2 _ _⟩
 replace hg:=hg.below hbW;replace hm:=hm.below hbW;replace hp:=hp.below hbW;clear h8 hx hr
 cases hf:fiS s x r with
 | false =>
  have HE:Hid (roN s x r cs=0/\roE s x r cs=1):=by
   show _/\_
   constructor
   . rw[roN,hf];rfl
   . rw[roE,hf];rfl
  simp only[hf]at hfi
  clear hf hg hm hp hva
  go_enter Tryz.func66,Tryz.ntmps66
  go_wp2_with fail
  rw[<-hW];clear hW
  refine(hfi _).mono ?_
  rintro e u1 ⟨rfl,hb1⟩
  replace hbW:=hbW.trans (hb1.mono hbW.size)
  clear hb1 hfi;go_wp2
  go_ret2
  exact⟨by rw[HE.out.1,HE.out.2];rfl,hbW⟩
 | true =>
  have HE:Hid (roN s x r cs=fldN (vaQ s x r cs+1/2).floor/\roE s x r cs=fldE (vaQ s x r cs+1/2).floor):=by
   show _/\_
   constructor
   . rw[roN,hf];rfl
   . rw[roE,hf];rfl
  simp only[hf]at hfi
  clear hf
  go_enter Tryz.func66,Tryz.ntmps66
  go_wp2_with fail
  rw[<-hW];clear hW
  refine(hfi _).mono ?_
  rintro e u1 ⟨rfl,hb1⟩;replace hg:=hg.below hb1;replace hm:=hm.below hb1;replace hp:=hp.below hb1;replace X1:=X1.below hb1;replace X2:=X2.below hb1
  replace hbW:=hbW.trans (hb1.mono hbW.size)
  clear hb1 hfi;obtain⟨p0,p1,_⟩:=X1.cells;obtain⟨p2,p3,_⟩:=X2.cells
  go_wp2_with fail
  refine(hva _ hg hm hp).mono ?_
  rintro e u2 ⟨v2,rfl,hF2,hb2⟩
  replace hbW:=hbW.trans (hb2.mono hbW.size)
  clear hb2 hva hg hm hp X1 X2 p0 p1 p2 p3
  generalize vaQ s x r cs=q at *
  go_wp2_with fail
  refine(zmx 1003 q _ _ hF2.ct (by decide) (by decide)).mono ?_
  rintro e u3 ⟨rfl,hb3⟩
  replace hbW:=hbW.trans (hb3.mono hbW.size)
  rw[<-HE.out.1,<-HE.out.2];clear hb3 hF2;go_wp2
  go_ret2
  exact⟨rfl,hbW⟩
theorem zig(S:Nat->Prop)(a:Option Addr)(ca:Nat)(l:List Gl)(ga:Option Addr)(gc:Nat)(ma:Option Addr)(mc:Nat)(s:Sr)(g:Int)(pa:Option Addr)(pc:Nat)(cs:List Int)(w:World)(hl:Gr GlE S w a ca l)(hg:Tzz w ga gc s.rg)(hm:Rii w ma mc s.rw)(hp:Ri w pa pc cs)(hi:I64 g)(h40:s.rg.length<=40)(h8:∀l∈s.rg,l.length<=8) :
 Calls Tryz.prog 36 #[.slice a l.length ca,.agg #[.slice ga s.rg.length gc,.slice ma s.rw.length mc],.int .i64 g,.slice pa cs.length pc] w fun e w'=>e=.returned (.tuple #[.int .i64 (avN l s g cs),.int .i64 (avE l s g cs)])/\Below w.heap.size w w':=by
 have kl:=hl.lenB
 have k2:=hm.lenB
 have k3:=hp.lenB
 obtain⟨W,hW,X1,hbW⟩:∃W,W=w.alloc (.cells #[.slice ga s.rg.length gc,.slice ma s.rw.length mc] 27)/\Bk 27 W w.heap.size [.slice ga s.rg.length gc,.slice ma s.rw.length mc]/\Below w.heap.size w W:=⟨_,rfl,Bk.new _ _ _,bl1 _⟩
 obtain⟨x0,x1,_⟩:=X1.two
 cases hgi:isG l.length g with
 | false =>
  have HA:Hid (_):=zkx (s:=s) (cs:=cs) (zhl hgi)
  have h0:=zte (zhl hgi)
  clear hgi
  by_cases h1:g<0
  . have g1:decide (g<0)=true:=decide_eq_true h1
    clear h0
    go_enter Tryz.func36,Tryz.ntmps36
    go_upto_region 1 with fail
    rw[<-hW];clear hW;go_wp2
    go_ret2
    exact⟨by rw[HA.out.1,HA.out.2];rfl,hbW⟩
  have g1:decide (g<0)=false:=decide_eq_false h1
  have g2:decide ((l.length:Int)<=g)=true:=decide_eq_true (by omega)
  clear h0
  go_enter Tryz.func36,Tryz.ntmps36
  go_upto_region 1 with fail
  rw[<-hW];clear hW;go_wp2
  go_ret2
  exact⟨by rw[HA.out.1,HA.out.2];rfl,hbW⟩
 | true =>
  have HA:Hid (_):=zkw (s:=s) (cs:=cs) (zul hgi)
  obtain⟨hg0,hg1⟩:=zhk hgi
  obtain⟨kg,rfl⟩:∃k:Nat,g=(k:Int):=⟨g.toNat,by omega⟩
  rw[Int.toNat_natCast]at HA
  have hkl:kg<l.length:=by omega
  have g1:decide ((kg:Int)<0)=false:=decide_eq_false (by omega)
  have g2:decide ((l.length:Int)<=(kg:Int))=false:=decide_eq_false (by omega)
  have g3:decide (l.length<=kg)=false:=decide_eq_false (by omega)
  obtain⟨b1,off,xa,xc,qa,qc,ta,tc,ea,hb1,hGC,c0,c1,c2,c3,c4,c5⟩:=hl.gl hbW kg hkl
  obtain⟨x,hx⟩:∃x,l.getD kg Gl.none=x:=⟨_,rfl⟩
  rw[hx]at hGC c3 c4 HA;subst ea
  have hro:=fun U hU=>zdk ga gc ma mc s x.ab x.ar pa pc cs U ((hg.below hbW).below hU) ((hm.below hbW).below hU) ((hp.below hbW).below hU) hGC.2.2.2.1 hGC.2.2.2.2 h40 h8
  generalize x.ab=xb at *
  generalize x.ar=xr at *
  have zy6:=X1.lt
  clear hgi hx c0 c1 c2 c5 hg hm hp hl hGC X1
  go_enter Tryz.func36,Tryz.ntmps36
  go_upto_region 1 with fail
  rw[<-hW];clear hW
  go_upto_region 3 with fail
  refine wp_region_held_drew (S:=fun w9=>w9.cell? ⟨w.heap.size,0,none⟩=some (.slice ga s.rg.length gc)/\w9.cell? ⟨w.heap.size,1,none⟩=some (.slice ma s.rw.length mc)/\w9.cell? ⟨b1,off+kg*6+3,none⟩=some (.int .i64 xb)/\w9.cell? ⟨b1,off+kg*6+4,none⟩=some (.int .i64 xr)) (by kernel_rfl) ?_ (fun hH=>?_)
  . (try dsimp only)
    go_keep
  have hdr:Below W.heap.size W W.drew:=Below.drew1
  have zwi:=hro _ hdr
  generalize W.drew=Z at hdr hH zwi ⊢
  have zy2:b1<W.heap.size:=Nat.lt_of_lt_of_le hb1 hbW.size
  replace x0:=(hdr.cell (p:=⟨w.heap.size,0,none⟩) zy6).trans x0
  replace x1:=(hdr.cell (p:=⟨w.heap.size,1,none⟩) zy6).trans x1
  replace c3:=(hdr.cell (p:=⟨b1,off+kg*6+3,none⟩) zy2).trans c3
  replace c4:=(hdr.cell (p:=⟨b1,off+kg*6+4,none⟩) zy2).trans c4
  replace hbW:=hbW.trans (hdr.mono hbW.size)
  have hzs:=hdr.size
  clear hdr hro;refine hT 0 hH ?_;refine hT 1 hH ?_;refine hT 2 hH ?_;refine hT 3 hH ?_;refine hT 4 hH ?_;refine hT 5 hH ?_;refine hT 6 hH ?_
  refine hCall (i:=7) rfl (by kernel_rfl) (by rfl) (fun K hK=>?_)
  go_simp
  refine zwi.mono ?_
  rintro e u ⟨rfl,hb⟩
  replace x0:=(hb.cell (p:=⟨w.heap.size,0,none⟩) (by show w.heap.size<_;omega)).trans x0
  replace x1:=(hb.cell (p:=⟨w.heap.size,1,none⟩) (by show w.heap.size<_;omega)).trans x1
  replace c3:=(hb.cell (p:=⟨b1,off+kg*6+3,none⟩) (by show b1<_;omega)).trans c3
  replace c4:=(hb.cell (p:=⟨b1,off+kg*6+4,none⟩) (by show b1<_;omega)).trans c4
  replace hbW:=hbW.trans (hb.mono hbW.size)
  clear hb zwi
  go_wp2_with fail
  refine hK.out _ _ ?_ (fun hH=>?_)
  . (try dsimp only)
    exact⟨x0,x1,c3,c4⟩
  clear hK K
  try simp only[Act.put,pZ]
  refine hT 8 hH ?_;refine hT 9 hH ?_;refine hT 10 hH ?_;refine hT 11 hH ?_
  refine wpAnyH_done (by kernel_rfl) ?_ _
  clear hH x0 x1 c3 c4;go_wp2
  go_ret2
  exact⟨by rw[HA.out.1,HA.out.2];rfl,hbW⟩
