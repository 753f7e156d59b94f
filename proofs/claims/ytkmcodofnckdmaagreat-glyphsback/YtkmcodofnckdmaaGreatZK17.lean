import Derived.Test.YtkmcodofnckdmaaGreatZK16
set_option maxHeartbeats 4000000
set_option maxRecDepth 100000
set_option linter.unusedSimpArgs false
set_option linter.unusedVariables false
namespace Go.Proofs.YtkmcodofnckdmaaGreat
open Go.RowKit Go.Maps
theorem zfs{q:Rat}(h:sgnQ q=0):q=0:=by
 unfold sgnQ at h
 by_cases h0:q=0
 . exact h0
 . exfalso
   revert h
   simp[h0]
   try (split <;> simp)
theorem zm3(B:Nat->Prop)(v:Value)(T:List (List Rat))(da:OA)(dc:Nat)(ds:List Rat)(p:Rat)(pn:Bool)(pa:OA)(px pc:Nat)(pb:OA)(py pd:Nat)(w:World)(h:Rr B w v 20 T)(hd:Rf w da dc 7 ds)(hdB:∀b o,da=some ⟨b,o,none⟩->¬B b)(hF:Fr w (.agg #[.bool pn,.slice pa px pc,.slice pb py pd]) 10 p)(hl:ds.length=T.length)(hT1:T.length<=1000)(hlen:∀i,i<T.length->(T.getD i []).length<=1000)(hB:∀k,B k->k<w.heap.size) :
 Calls Tryz.prog 181 #[v,.slice da ds.length dc,.agg #[.bool pn,.slice pa px pc,.slice pb py pd]] w fun e w'=>e=.returned (.tuple #[])/\Rr (fun k=>B k\/w.heap.size<=k) w' v 20 (adK T ds p ds.length)/\Kn B w w':=by
 obtain⟨va,vc,rfl,hv1,hv2⟩:=h.slice
 obtain⟨W,hW,X1,hbW⟩:∃W,W=w.alloc (.cells #[.bool pn,.slice pa px pc,.slice pb py pd] 125)/\Bk 125 W w.heap.size [.bool pn,.slice pa px pc,.slice pb py pd]/\Below w.heap.size w W:=⟨_,rfl,Bk.new _ _ _,bl1 _⟩
 have HD:Hid (Rf W da dc 7 ds):=hd.below hbW
 have HDB:Hid (∀b o,da=some ⟨b,o,none⟩->¬B b):=hdB
 have HFP:Hid (Fr W (.agg #[.bool pn,.slice pa px pc,.slice pb py pd]) 10 p):=hF.below hbW
 have HX1:Hid (Bk 125 W w.heap.size [.bool pn,.slice pa px pc,.slice pb py pd]):=X1
 have HBW:Hid (∀k,B k->k<w.heap.size):=hB
 have HRW:Hid (Rr (fun j=>(B j\/W.heap.size<=j)/\j<W.heap.size) W (.slice va T.length vc) 20 T):=(h.below hbW).mono (fun k h1 h2=>⟨.inl h1,h2⟩)
 have hws:w.heap.size<W.heap.size:=X1.lt
 have HLE:Hid (∀i,i<T.length->(T.getD i []).length<=1000):=hlen
 have HLD:Hid (ds.length=T.length):=hl
 have HBK:Hid (Below w.heap.size w W):=hbW
 rw[hl]
 obtain⟨n,hnn⟩:∃n,T.length=n:=⟨_,rfl⟩
 have HL:Hid (T.length=n):=hnn
 rw[hnn]at HRW hv1 hT1 ⊢
 unfold maxLen at hv2
 clear h hd hdB hF hB hbW X1 hl hnn hlen
 go_enter Tryz.func181,Tryz.ntmps181
 go_upto_region 1 with fail
 rw[<-hW];clear hW;go_wp2
 go_loopw [10] (fun i wr=>∃k:Nat,k<=n/\i=.int .i64 k/\Rr (fun j=>(B j\/W.heap.size<=j)/\j<wr.heap.size) wr (.slice va n vc) 20 (adK T ds p k)/\Kn B W wr) (fun i _=>n-(intOf i).toNat)
 case atStart=>exact⟨0,Nat.zero_le _,rfl,HRW.out,Kn.refl _ _⟩
 case round =>
  clear HRW;obtain⟨k,hk,rfl,hR,hkn0⟩:=hrel
  have HKN:Hid (Kn B W wr):=hkn0
  have hWs:=hkn0.size
  clear hkn0
  by_cases hkn:k<n
  . obtain⟨bd,od,x,y,zz,ed,hbd,d0,d1,d2,hFz⟩:=(HD.out.kn HKN.out HDB.out).1.2.2 k (by rw[HLD.out,HL.out];exact hkn)
    subst ed
    have hlk:=HLE.out k (by rw[HL.out];exact hkn)
    have HTL:Hid ((adK T ds p k).length=n):=by show _=_;rw[zmx];exact HL.out
    obtain⟨g,cap,u,ea,hg,hgB,_,_,hc,hfz,hu,hub⟩:=hR.at k (by rw[HTL.out];exact hkn)
    rw[HTL.out]at ea;injection ea with ea _ ec;subst ea ec
    have HS:Hid (adK T ds p (k+1)=(adK T ds p k).set k ((adK T ds p k).getD k []++trm ds p k)):=rfl
    have HSZ:Hid (ds.getD k 0=0->adK T ds p (k+1)=adK T ds p k):=fun e=>by
     rw[HS.out]
     unfold trm
     rw[if_pos e,List.append_nil]
     refine List.ext_getElem (by simp) (fun i h1 h2=>?_)
     rw[List.getElem_set]
     split
     . rename_i h3;subst h3;simp[List.getD,h2]
     . rfl
    have HSN:Hid (ds.getD k 0≠0->trm ds p k=[ds.getD k 0*p]):=fun e=>by unfold trm;rw[if_neg e]
    have hTl0:((adK T ds p k).getD k []).length<=1000:=by rw[zup _ _ _ _ _ (by rw[HL.out];exact hkn),if_neg (by omega)];exact hlk
    obtain⟨z,hz⟩:∃z,ds.getD k 0=z:=⟨_,rfl⟩
    rw[hz]at hFz HSZ HSN
    obtain⟨Tk,hTk⟩:∃t,(adK T ds p k).getD k []=t:=⟨_,rfl⟩
    rw[hTk]at hu HS hTl0;obtain⟨ua,uc,rfl,-⟩:=hu.rf
    have hTl:Tk.length+[z*p].length<=1000000:=by simp;omega
    obtain⟨m9,y1,y2,y3,y4,y5,y6,e9⟩:=hFz.cells3'
    simp only[Value.agg.injEq,Array.mk.injEq,List.cons.injEq,and_true]at e9
    obtain⟨rfl,rfl,rfl⟩:=e9
    obtain⟨V,hV,X0,hb4⟩:∃V,V=wr.alloc (.cells #[.bool m9,.slice y1 y2 y3,.slice y4 y5 y6] 125)/\Bk 125 V wr.heap.size [.bool m9,.slice y1 y2 y3,.slice y4 y5 y6]/\Below wr.heap.size wr V:=⟨_,rfl,Bk.new _ _ _,bl1 _⟩
    have X1:Bk 125 V w.heap.size [.bool pn,.slice pa px pc,.slice pb py pd]:=(HX1.out.kn HKN.out (fun h=>by have:=HBW.out _ h;omega)).below hb4
    have hFp:=(HFP.out.kn HKN.out).below hb4
    replace hFz:=hFz.below hb4
    have hsi:=zgr 7 z _ V hFz.ct (by decide) (by decide)
    obtain⟨p0,p1,p2,_⟩:=X1.three;obtain⟨r0,r1,r2,_⟩:=X0.three
    have i1:(0:Int)<=(k:Int):=by omega
    have i2:(k:Int)<(n:Int):=by omega
    have hgw:g≠w.heap.size:=fun e=>by
     rcases hgB.1 with h|h
     . have:=HBW.out _ h;omega
     . omega
    have hbc:Below wr.heap.size wr V:=hb4
    clear hz hTk hlk
    go_upto_region 4 with fail
    rw[<-hV];clear hV d0 d1 d2 hb4
    by_cases hz0:z=0
    . have HZ:Hid (Rr (fun j=>(B j\/W.heap.size<=j)/\j<wr.heap.size) wr (.slice (some ⟨g,0,none⟩) n vc) 20 (adK T ds p (k+1))):=by show Rr _ _ _ _ _;rw[HSZ.out hz0];exact hR
      have hs0:sgnQ z=0:=by rw[hz0];rfl
      rw[hs0]at hsi;clear HS HSN HSZ hu hR hFp hFz hz0 hs0
      go_wp2_with fail
      refine hsi.mono ?_
      rintro e m1 ⟨rfl,hb1⟩
      replace hbc:=hbc.trans (hb1.mono hbc.size)
      have HR2:Hid (Rr (fun j=>(B j\/W.heap.size<=j)/\j<m1.heap.size) m1 (.slice (some ⟨g,0,none⟩) n vc) 20 (adK T ds p (k+1))):=(HZ.out.below hbc).mono (fun j h1 h2=>⟨h1.1,h2⟩)
      have HK2:Hid (Kn B W m1):=HKN.out.trans (Kn.of (B:=B) hbc) (fun i hi _=>hi)
      clear hb1 hsi HZ p0 p1 p2 r0 r1 r2;go_wp2
      go_roundw
      case rel=>exact⟨k+1,by omega,by go_num,HR2.out,HK2.out⟩
      case measure=>simp[intOf];omega
    . have HS:Hid (adK T ds p (k+1)=(adK T ds p k).set k (Tk++[z*p])):=by show _=_;rw[HS.out,HSN.out hz0]
      have hs0:(sgnQ z != 0)=true:=by rw[bne_iff_ne];exact fun e=>hz0 (zfs e)
      have hs1:¬sgnQ z=0:=fun e=>hz0 (zfs e)
      generalize sgnQ z=sg at *
      clear HSN HSZ hz0
      go_wp2_with fail
      refine hsi.mono ?_
      rintro e m1 ⟨rfl,hb1⟩;replace X1:=X1.below hb1;replace X0:=X0.below hb1
      replace hbc:=hbc.trans (hb1.mono hbc.size)
      replace hFp:=hFp.below hb1;replace hFz:=hFz.below hb1;clear p0 p1 p2 r0 r1 r2 hb1 hsi;obtain⟨p0,p1,p2,_⟩:=X1.three;obtain⟨r0,r1,r2,_⟩:=X0.three
      go_upto_region 5 with fail
      refine wp_region_held_drew (S:=fun w9=>w9.cell? ⟨w.heap.size,0,none⟩=some (.bool pn)/\w9.cell? ⟨w.heap.size,1,none⟩=some (.slice pa px pc)/\w9.cell? ⟨w.heap.size,2,none⟩=some (.slice pb py pd)/\w9.cell? ⟨wr.heap.size,0,none⟩=some (.bool m9)/\w9.cell? ⟨wr.heap.size,1,none⟩=some (.slice y1 y2 y3)/\w9.cell? ⟨wr.heap.size,2,none⟩=some (.slice y4 y5 y6)) (by kernel_rfl) ?_ (fun hH=>?_)
      . (try dsimp only)
        go_keep
      have hdr:Below m1.heap.size m1 m1.drew:=Below.drew1
      generalize m1.drew=ud at hdr hH ⊢
      replace hFp:=hFp.below hdr;replace hFz:=hFz.below hdr;replace X1:=X1.below hdr;replace X0:=X0.below hdr
      replace hbc:=hbc.trans (hdr.mono hbc.size)
      clear hdr p0 p1 p2 r0 r1 r2;obtain⟨p0,p1,p2,_⟩:=X1.three;obtain⟨r0,r1,r2,_⟩:=X0.three;refine hT 0 hH ?_;refine hT 1 hH ?_;refine hT 2 hH ?_;refine hT 3 hH ?_;refine hT 4 hH ?_;refine hT 6 hH ?_;refine hT 7 hH ?_
      refine wpAnyH_ready (rs:=[5,8]) (by kernel_rfl) (by simp) (hCons (i:=5) rfl (by rfl) (fun K hK=>?_) (hCons (i:=8) rfl (by rfl) (fun K hK=>?_) AllReadyH.nil))
      . have hc5:=(hbc.cell (p:=⟨g,k,none⟩) hg).trans hc
        go_simp
        refine hK.out _ _ ?_ (fun hH=>?_)
        . (try dsimp only)
          exact⟨p0,p1,p2,r0,r1,r2⟩
        clear hK K
        try simp only[Act.put,pZ]
        clear hc5
        refine hCall (i:=8) rfl (by kernel_rfl) (by rfl) (fun K hK=>?_)
        go_simp
        refine(zfv 7 10 z p _ _ _ hFz.ct hFp.ct (by decide) (by decide) (by decide) (by decide)).mono ?_
        rintro e u1 ⟨v1,rfl,hF1,hb0⟩
        replace hF1:=hF1.le (show 7+10<=20 by decide)
        obtain⟨z1,x1,x2,x3,x4,x5,x6,rfl⟩:=hF1.cells3';replace X1:=X1.below hb0;replace X0:=X0.below hb0
        replace hbc:=hbc.trans (hb0.mono hbc.size)
        clear p0 p1 p2 r0 r1 r2;obtain⟨p0,p1,p2,_⟩:=X1.three;obtain⟨r0,r1,r2,_⟩:=X0.three
        go_wp2_with fail
        refine hK.out _ _ ?_ (fun hH=>?_)
        . (try dsimp only)
          exact⟨p0,p1,p2,r0,r1,r2⟩
        clear hK K
        try simp only[Act.put,pZ]
        refine hCall (i:=9) rfl (by kernel_rfl) (by rfl) (fun K hK=>?_)
        go_simp
        obtain⟨V1,hV1,A1,hb1⟩:∃V,V=u1.alloc (.cells #[.bool z1,.slice x1 x2 x3,.slice x4 x5 x6] 125)/\Bk 125 V u1.heap.size [.bool z1,.slice x1 x2 x3,.slice x4 x5 x6]/\Below u1.heap.size u1 V:=⟨_,rfl,Bk.new _ _ _,bl1 _⟩
        rw[<-hV1];clear hV1
        have hF2:=hF1.below hb1
        have hsu:=hbc.size
        replace X1:=X1.below hb1;replace X0:=X0.below hb1
        replace hbc:=hbc.trans (hb1.mono hbc.size)
        clear p0 p1 p2 r0 r1 r2;obtain⟨p0,p1,p2,_⟩:=X1.three;obtain⟨r0,r1,r2,_⟩:=X0.three
        refine hK.out _ _ ?_ (fun hH=>?_)
        . (try dsimp only)
          exact⟨p0,p1,p2,r0,r1,r2⟩
        clear hK K
        try simp only[Act.put,pZ]
        have hbq:=hbc
        refine hCall (i:=10) rfl (by kernel_rfl) (by rfl) (fun K hK=>?_)
        obtain⟨t0,t1,t2,_⟩:=A1.three
        have zba:=Rz.one A1.lt t0 t1 t2 hF2
        have hRV:=hR.below hbc
        have hcV:=(hbc.cell (p:=⟨g,k,none⟩) hg).trans hc
        refine zbj 173 125 Tryz.underlying173 zch _ _ rfl 0 (.slice ua Tk.length uc) 20 Tk [z*p] rfl (hu.below hbc) (some ⟨u1.heap.size,0,none⟩) 1 1 rfl rfl zba (fun e=>by cases e) (fun ad e=>by cases e;exact⟨_,_,rfl⟩) hTl (Nat.zero_le _) ?_
        intro v9 w9 hT9 hgrow hown
        obtain⟨va',vc',rfl,-⟩:=hT9.rf
        have zdh:=Rr.put (C:=fun j=>B j\/W.heap.size<=j) hRV k (by rw[HTL.out];exact hkn) (by rw[HTL.out]) hcV hgrow hT9 hown rfl (fun j hj=>hj.1) (.inr (Nat.le_trans hWs hbc.size))
        have hcw:∀b,Value.ownBlock (.slice ua Tk.length uc)=some b->b≠wr.heap.size/\b≠w.heap.size:=fun b e=>⟨fun e2=>by have:=(hub b e).1.2;omega,fun e2=>by
         rcases (hub b e).1.1 with h|h
         . have:=HBW.out b h;omega
         . omega⟩
        replace X1:=X1.grown hgrow (fun e=>(hcw _ e).2 rfl)
        replace X0:=X0.grown hgrow (fun e=>(hcw _ e).1 rfl)
        clear p0 p1 p2 r0 r1 r2;obtain⟨p0,p1,p2,_⟩:=X1.three;obtain⟨r0,r1,r2,_⟩:=X0.three
        have hgb:w9.heap[g]?=V1.heap[g]?:=hgrow.block g (Nat.lt_of_lt_of_le hg hbc.size) (fun e=>(hub g e.symm).2 rfl)
        have hc9:w9.cell? ⟨g,k,none⟩=some (.slice ua Tk.length uc):=(World.cell?_of_block (w:=V1) (a:=⟨g,k,none⟩) hgb).trans hcV
        have hf9:w9.frozen? ⟨g,k,none⟩=false:=(World.frozen?_of_block (w:=V1) (a:=⟨g,k,none⟩) hgb).trans ((hbc.frozen (p:=⟨g,k,none⟩) hg).trans hfz)
        obtain⟨nl,hnl⟩:∃n,(Tk++[z*p]).length=n:=⟨_,rfl⟩
        rw[hnl]at zdh ⊢;clear hnl
        refine hK.out _ _ ?_ (fun hH=>?_)
        . (try dsimp only)
          exact⟨p0,p1,p2,r0,r1,r2⟩
        clear hK K
        try simp only[Act.put,pZ]
        refine hT 11 hH ?_
        refine hCall (i:=12) rfl (by kernel_rfl) (by rfl) (fun K hK=>?_)
        go_simp
        replace X1:=X1.other k (.slice va' nl vc') (show w.heap.size≠g by omega)
        replace X0:=X0.other k (.slice va' nl vc') (show wr.heap.size≠g by omega)
        clear p0 p1 p2 r0 r1 r2 hc9 hf9;obtain⟨p0,p1,p2,_⟩:=X1.three;obtain⟨r0,r1,r2,_⟩:=X0.three
        generalize w9.setCell ⟨g,k,none⟩ (.slice va' nl vc')=wz at zdh X1 X0 p0 p1 p2 r0 r1 r2 ⊢
        refine hK.out _ _ ?_ (fun hH=>?_)
        . (try dsimp only)
          exact⟨p0,p1,p2,r0,r1,r2⟩
        clear hK K
        try simp only[Act.put,pZ]
        refine wpAnyH_done (by kernel_rfl) ?_ _
        clear hH p0 p1 p2 r0 r1 r2 X1 X0
        have HR2:Hid (Rr (fun j=>(B j\/W.heap.size<=j)/\j<wz.heap.size) wz (.slice (some ⟨g,0,none⟩) n vc) 20 (adK T ds p (k+1))):=by
         rw[HS.out]
         exact zdh.1.mono (fun j h1 h2=>⟨h1,h2⟩)
        have HK2:Hid (Kn B W wz):=(HKN.out.trans (Kn.of (B:=B) hbq) (fun i hi _=>hi)).trans zdh.2 (fun i hi hl=>by
         rcases hi.1 with h|h
         . exact h
         . omega)
        clear zdh;go_wp2
        go_roundw
        case rel=>exact⟨k+1,by omega,by go_num,HR2.out,HK2.out⟩
        case measure=>simp[intOf];omega
      . go_simp
        refine(zfv 7 10 z p _ _ _ hFz.ct hFp.ct (by decide) (by decide) (by decide) (by decide)).mono ?_
        rintro e u1 ⟨v1,rfl,hF1,hb0⟩
        replace hF1:=hF1.le (show 7+10<=20 by decide)
        obtain⟨z1,x1,x2,x3,x4,x5,x6,rfl⟩:=hF1.cells3';replace X1:=X1.below hb0;replace X0:=X0.below hb0
        replace hbc:=hbc.trans (hb0.mono hbc.size)
        clear p0 p1 p2 r0 r1 r2;obtain⟨p0,p1,p2,_⟩:=X1.three;obtain⟨r0,r1,r2,_⟩:=X0.three
        go_wp2_with fail
        refine hK.out _ _ ?_ (fun hH=>?_)
        . (try dsimp only)
          exact⟨p0,p1,p2,r0,r1,r2⟩
        clear hK K
        try simp only[Act.put,pZ]
        refine wpAnyH_ready (rs:=[5,9]) (by kernel_rfl) (by simp) (hCons (i:=5) rfl (by rfl) (fun K hK=>?_) (hCons (i:=9) rfl (by rfl) (fun K hK=>?_) AllReadyH.nil))
        . have hc5:=(hbc.cell (p:=⟨g,k,none⟩) hg).trans hc
          go_simp
          refine hK.out _ _ ?_ (fun hH=>?_)
          . (try dsimp only)
            exact⟨p0,p1,p2,r0,r1,r2⟩
          clear hK K
          try simp only[Act.put,pZ]
          clear hc5
          refine hCall (i:=9) rfl (by kernel_rfl) (by rfl) (fun K hK=>?_)
          go_simp
          obtain⟨V1,hV1,A1,hb1⟩:∃V,V=u1.alloc (.cells #[.bool z1,.slice x1 x2 x3,.slice x4 x5 x6] 125)/\Bk 125 V u1.heap.size [.bool z1,.slice x1 x2 x3,.slice x4 x5 x6]/\Below u1.heap.size u1 V:=⟨_,rfl,Bk.new _ _ _,bl1 _⟩
          rw[<-hV1];clear hV1
          have hF2:=hF1.below hb1
          have hsu:=hbc.size
          replace X1:=X1.below hb1;replace X0:=X0.below hb1
          replace hbc:=hbc.trans (hb1.mono hbc.size)
          clear p0 p1 p2 r0 r1 r2;obtain⟨p0,p1,p2,_⟩:=X1.three;obtain⟨r0,r1,r2,_⟩:=X0.three
          refine hK.out _ _ ?_ (fun hH=>?_)
          . (try dsimp only)
            exact⟨p0,p1,p2,r0,r1,r2⟩
          clear hK K
          try simp only[Act.put,pZ]
          have hbq:=hbc
          refine hCall (i:=10) rfl (by kernel_rfl) (by rfl) (fun K hK=>?_)
          obtain⟨t0,t1,t2,_⟩:=A1.three
          have zba:=Rz.one A1.lt t0 t1 t2 hF2
          have hRV:=hR.below hbc
          have hcV:=(hbc.cell (p:=⟨g,k,none⟩) hg).trans hc
          refine zbj 173 125 Tryz.underlying173 zch _ _ rfl 0 (.slice ua Tk.length uc) 20 Tk [z*p] rfl (hu.below hbc) (some ⟨u1.heap.size,0,none⟩) 1 1 rfl rfl zba (fun e=>by cases e) (fun ad e=>by cases e;exact⟨_,_,rfl⟩) hTl (Nat.zero_le _) ?_
          intro v9 w9 hT9 hgrow hown
          obtain⟨va',vc',rfl,-⟩:=hT9.rf
          have zdh:=Rr.put (C:=fun j=>B j\/W.heap.size<=j) hRV k (by rw[HTL.out];exact hkn) (by rw[HTL.out]) hcV hgrow hT9 hown rfl (fun j hj=>hj.1) (.inr (Nat.le_trans hWs hbc.size))
          have hcw:∀b,Value.ownBlock (.slice ua Tk.length uc)=some b->b≠wr.heap.size/\b≠w.heap.size:=fun b e=>⟨fun e2=>by have:=(hub b e).1.2;omega,fun e2=>by
           rcases (hub b e).1.1 with h|h
           . have:=HBW.out b h;omega
           . omega⟩
          replace X1:=X1.grown hgrow (fun e=>(hcw _ e).2 rfl)
          replace X0:=X0.grown hgrow (fun e=>(hcw _ e).1 rfl)
          clear p0 p1 p2 r0 r1 r2;obtain⟨p0,p1,p2,_⟩:=X1.three;obtain⟨r0,r1,r2,_⟩:=X0.three
          have hgb:w9.heap[g]?=V1.heap[g]?:=hgrow.block g (Nat.lt_of_lt_of_le hg hbc.size) (fun e=>(hub g e.symm).2 rfl)
          have hc9:w9.cell? ⟨g,k,none⟩=some (.slice ua Tk.length uc):=(World.cell?_of_block (w:=V1) (a:=⟨g,k,none⟩) hgb).trans hcV
          have hf9:w9.frozen? ⟨g,k,none⟩=false:=(World.frozen?_of_block (w:=V1) (a:=⟨g,k,none⟩) hgb).trans ((hbc.frozen (p:=⟨g,k,none⟩) hg).trans hfz)
          obtain⟨nl,hnl⟩:∃n,(Tk++[z*p]).length=n:=⟨_,rfl⟩
          rw[hnl]at zdh ⊢;clear hnl
          refine hK.out _ _ ?_ (fun hH=>?_)
          . (try dsimp only)
            exact⟨p0,p1,p2,r0,r1,r2⟩
          clear hK K
          try simp only[Act.put,pZ]
          refine hT 11 hH ?_
          refine hCall (i:=12) rfl (by kernel_rfl) (by rfl) (fun K hK=>?_)
          go_simp
          replace X1:=X1.other k (.slice va' nl vc') (show w.heap.size≠g by omega)
          replace X0:=X0.other k (.slice va' nl vc') (show wr.heap.size≠g by omega)
          clear p0 p1 p2 r0 r1 r2 hc9 hf9;obtain⟨p0,p1,p2,_⟩:=X1.three;obtain⟨r0,r1,r2,_⟩:=X0.three
          generalize w9.setCell ⟨g,k,none⟩ (.slice va' nl vc')=wz at zdh X1 X0 p0 p1 p2 r0 r1 r2 ⊢
          refine hK.out _ _ ?_ (fun hH=>?_)
          . (try dsimp only)
            exact⟨p0,p1,p2,r0,r1,r2⟩
          clear hK K
          try simp only[Act.put,pZ]
          refine wpAnyH_done (by kernel_rfl) ?_ _
          clear hH p0 p1 p2 r0 r1 r2 X1 X0
          have HR2:Hid (Rr (fun j=>(B j\/W.heap.size<=j)/\j<wz.heap.size) wz (.slice (some ⟨g,0,none⟩) n vc) 20 (adK T ds p (k+1))):=by
           rw[HS.out]
           exact zdh.1.mono (fun j h1 h2=>⟨h1,h2⟩)
          have HK2:Hid (Kn B W wz):=(HKN.out.trans (Kn.of (B:=B) hbq) (fun i hi _=>hi)).trans zdh.2 (fun i hi hl=>by
           rcases hi.1 with h|h
           . exact h
           . omega)
          clear zdh;go_wp2
          go_roundw
          case rel=>exact⟨k+1,by omega,by go_num,HR2.out,HK2.out⟩
          case measure=>simp[intOf];omega
        . go_simp
          obtain⟨V1,hV1,A1,hb1⟩:∃V,V=u1.alloc (.cells #[.bool z1,.slice x1 x2 x3,.slice x4 x5 x6] 125)/\Bk 125 V u1.heap.size [.bool z1,.slice x1 x2 x3,.slice x4 x5 x6]/\Below u1.heap.size u1 V:=⟨_,rfl,Bk.new _ _ _,bl1 _⟩
          rw[<-hV1];clear hV1
          have hF2:=hF1.below hb1
          have hsu:=hbc.size
          replace X1:=X1.below hb1;replace X0:=X0.below hb1
          replace hbc:=hbc.trans (hb1.mono hbc.size)
          clear p0 p1 p2 r0 r1 r2;obtain⟨p0,p1,p2,_⟩:=X1.three;obtain⟨r0,r1,r2,_⟩:=X0.three
          refine hK.out _ _ ?_ (fun hH=>?_)
          . (try dsimp only)
            exact⟨p0,p1,p2,r0,r1,r2⟩
          clear hK K
          try simp only[Act.put,pZ]
          refine hCall (i:=5) rfl (by kernel_rfl) (by rfl) (fun K hK=>?_)
          have hc5:=(hbc.cell (p:=⟨g,k,none⟩) hg).trans hc
          go_simp
          refine hK.out _ _ ?_ (fun hH=>?_)
          . (try dsimp only)
            exact⟨p0,p1,p2,r0,r1,r2⟩
          clear hK K
          try simp only[Act.put,pZ]
          clear hc5
          have hbq:=hbc
          refine hCall (i:=10) rfl (by kernel_rfl) (by rfl) (fun K hK=>?_)
          obtain⟨t0,t1,t2,_⟩:=A1.three
          have zba:=Rz.one A1.lt t0 t1 t2 hF2
          have hRV:=hR.below hbc
          have hcV:=(hbc.cell (p:=⟨g,k,none⟩) hg).trans hc
          refine zbj 173 125 Tryz.underlying173 zch _ _ rfl 0 (.slice ua Tk.length uc) 20 Tk [z*p] rfl (hu.below hbc) (some ⟨u1.heap.size,0,none⟩) 1 1 rfl rfl zba (fun e=>by cases e) (fun ad e=>by cases e;exact⟨_,_,rfl⟩) hTl (Nat.zero_le _) ?_
          intro v9 w9 hT9 hgrow hown
          obtain⟨va',vc',rfl,-⟩:=hT9.rf
          have zdh:=Rr.put (C:=fun j=>B j\/W.heap.size<=j) hRV k (by rw[HTL.out];exact hkn) (by rw[HTL.out]) hcV hgrow hT9 hown rfl (fun j hj=>hj.1) (.inr (Nat.le_trans hWs hbc.size))
          have hcw:∀b,Value.ownBlock (.slice ua Tk.length uc)=some b->b≠wr.heap.size/\b≠w.heap.size:=fun b e=>⟨fun e2=>by have:=(hub b e).1.2;omega,fun e2=>by
           rcases (hub b e).1.1 with h|h
           . have:=HBW.out b h;omega
           . omega⟩
          replace X1:=X1.grown hgrow (fun e=>(hcw _ e).2 rfl)
          replace X0:=X0.grown hgrow (fun e=>(hcw _ e).1 rfl)
          clear p0 p1 p2 r0 r1 r2;obtain⟨p0,p1,p2,_⟩:=X1.three;obtain⟨r0,r1,r2,_⟩:=X0.three
          have hgb:w9.heap[g]?=V1.heap[g]?:=hgrow.block g (Nat.lt_of_lt_of_le hg hbc.size) (fun e=>(hub g e.symm).2 rfl)
          have hc9:w9.cell? ⟨g,k,none⟩=some (.slice ua Tk.length uc):=(World.cell?_of_block (w:=V1) (a:=⟨g,k,none⟩) hgb).trans hcV
          have hf9:w9.frozen? ⟨g,k,none⟩=false:=(World.frozen?_of_block (w:=V1) (a:=⟨g,k,none⟩) hgb).trans ((hbc.frozen (p:=⟨g,k,none⟩) hg).trans hfz)
          obtain⟨nl,hnl⟩:∃n,(Tk++[z*p]).length=n:=⟨_,rfl⟩
          rw[hnl]at zdh ⊢;clear hnl
          refine hK.out _ _ ?_ (fun hH=>?_)
          . (try dsimp only)
            exact⟨p0,p1,p2,r0,r1,r2⟩
          clear hK K
          try simp only[Act.put,pZ]
          refine hT 11 hH ?_
          refine hCall (i:=12) rfl (by kernel_rfl) (by rfl) (fun K hK=>?_)
          go_simp
          replace X1:=X1.other k (.slice va' nl vc') (show w.heap.size≠g by omega)
          replace X0:=X0.other k (.slice va' nl vc') (show wr.heap.size≠g by omega)
          clear p0 p1 p2 r0 r1 r2 hc9 hf9;obtain⟨p0,p1,p2,_⟩:=X1.three;obtain⟨r0,r1,r2,_⟩:=X0.three
          generalize w9.setCell ⟨g,k,none⟩ (.slice va' nl vc')=wz at zdh X1 X0 p0 p1 p2 r0 r1 r2 ⊢
          refine hK.out _ _ ?_ (fun hH=>?_)
          . (try dsimp only)
            exact⟨p0,p1,p2,r0,r1,r2⟩
          clear hK K
          try simp only[Act.put,pZ]
          refine wpAnyH_done (by kernel_rfl) ?_ _
          clear hH p0 p1 p2 r0 r1 r2 X1 X0
          have HR2:Hid (Rr (fun j=>(B j\/W.heap.size<=j)/\j<wz.heap.size) wz (.slice (some ⟨g,0,none⟩) n vc) 20 (adK T ds p (k+1))):=by
           rw[HS.out]
           exact zdh.1.mono (fun j h1 h2=>⟨h1,h2⟩)
          have HK2:Hid (Kn B W wz):=(HKN.out.trans (Kn.of (B:=B) hbq) (fun i hi _=>hi)).trans zdh.2 (fun i hi hl=>by
           rcases hi.1 with h|h
           . exact h
           . omega)
          clear zdh;go_wp2
          go_roundw
          case rel=>exact⟨k+1,by omega,by go_num,HR2.out,HK2.out⟩
          case measure=>simp[intOf];omega
  . obtain rfl:k=n:=by omega
    have g4:¬(k:Int)<(k:Int):=by omega
    have HR2:Hid (Rr (fun j=>B j\/w.heap.size<=j) wr (.slice va k vc) 20 (adK T ds p k)):=hR.mono (fun j h1 _=>by
     rcases h1.1 with h|h
     . exact .inl h
     . exact .inr (by omega))
    have HK2:Hid (Kn B w wr):=(Kn.of (B:=B) HBK.out).trans HKN.out (fun i hi _=>hi)
    clear hR;go_wp2
    go_end0
    exact⟨rfl,HR2.out,HK2.out⟩
theorem Gr.pnt{S:Nat->Prop}{w wr:World}{a:OA}{cap:Nat}{L:List Pn}(h:Gr PnE S w a cap L)(hb:Below w.heap.size w wr)(k:Nat)(hk:k<L.length):∃b off x y on,a=some ⟨b,off,none⟩/\b<w.heap.size/\L.getD k Pn.none=⟨x,y,on⟩/\I64 x/\I64 y/\wr.cell? ⟨b,off+k*3,none⟩=some (.int .i64 x)/\wr.cell? ⟨b,off+k*3+1,none⟩=some (.int .i64 y)/\wr.cell? ⟨b,off+k*3+2,none⟩=some (.bool on):=by
 obtain⟨b,off,vs,e,h1,hr,hc⟩:=h.at hb k hk
 obtain⟨p,hp⟩:∃p,L.getD k Pn.none=p:=⟨_,rfl⟩
 rw[show L.getD k PnE.dfl=p from hp]at hr
 obtain⟨x,y,on⟩:=p;obtain⟨us,ts,e1,hu,hts⟩:=hr;obtain⟨us2,ts2,e2,hu2,zw5⟩:=hts;rw[hu.1,e2,hu2.1,zw5]at e1;subst e1
 exact⟨b,off,x,y,on,e,h1,hp,hu.2,hu2.2,hc 0 (by decide),hc 1 (by decide),hc 2 (by decide)⟩
theorem z22{cs:List (List Pn)}{k:Nat}(hk:k<cs.length):(endF 0 cs).getD k 0=((ofC cs (k+1):Nat):Int)-1:=by
 have h1:endF 0 cs=endF 0 (cs.take (k+1))++endF (0+(((cs.take (k+1)).flatten).length:Int)) (cs.drop (k+1)):=by rw[<-zg4,List.take_append_drop]
 have h2:=zk2 hk rfl
 have h3:(endF 0 (cs.take k)).length=k:=by rw[zbo,List.length_take];omega
 have h4:=zdp hk
 rw[h1,List.getD_eq_getElem?_getD,List.getElem?_append_left (by rw[zbo,List.length_take];omega),h2,List.getElem?_append_right (by omega),h3,Nat.sub_self]
 show((ofC cs k:Nat):Int)+((cs.getD k []).length:Int)-1=_
 omega
theorem zhn(a:OA)(ca:Nat)(zs:LI)(w:World)(h:Ri w a ca zs)(hl:zs.length<=1000) :
 Calls Tryz.prog 229 #[.slice a zs.length ca] w fun e w'=>∃a' c',e=.returned (.slice a' (zs.map (fun z:Int=>(z:Rat))).length c')/\Rg w.heap.size w' a' c' 7 (zs.map (fun z:Int=>(z:Rat)))/\Below w.heap.size w w':=by
 have HH:Hid (Ri w a ca zs):=h
 have HR:Hid (zs.map (fun z:Int=>(z:Rat))=(List.range zs.length).map (fun j=>((zs.getD j 0:Int):Rat))):=by
  show _=_
  refine List.ext_getElem (by simp) (fun j h1 h2=>?_)
  have hj:j<zs.length:=by simpa using h1
  simp[List.getD,hj]
 rw[HR.out]
 obtain⟨n,hnn⟩:∃n,zs.length=n:=⟨_,rfl⟩
 have HL:Hid (zs.length=n):=hnn
 rw[hnn]at hl ⊢;clear hnn h
 obtain⟨i0,hi0,hz0,hz1,hz2⟩:=info_parts zch
 have hmk:=run_make (P:=Tryz.prog) w 173 125 i0 rtZ Tryz.underlying173 hi0 hz0 .i64 .i64 0 (n:Int) (by omega) (by omega) (by rw[hz2];omega) (by omega)
 rw[hz1]at hmk
 simp only[Int.toNat_zero,Int.toNat_natCast]at hmk
 obtain⟨w1,hw1⟩:∃w1,w.alloc (.cells (madeCells rtZ.cells (n*3)) 125)=w1:=⟨_,rfl⟩
 have hI0:Ro 125 w.heap.size w1 (.slice (some ⟨w.heap.size,0,none⟩) 0 n) 7 ((List.range 0).map (fun j=>((zs.getD j 0:Int):Rat))):=by
  refine⟨[],?_,fun g hg=>?_,fun i hi=>by simp at hi⟩
  . rw[<-hw1]
    have:=World.ownsRow_made (base:=w.heap.size) (e:=125) (size:=3) w (madeCells rtZ.cells (n*3)) n (Nat.le_refl _) (by unfold maxLen;omega) (size_madeCells _ _)
    simpa using this
  . simp[Value.ownBlock]at hg
    subst hg;rw[<-hw1]
    exact NoI.of (heap_alloc_new w _) (zid _)
 have zn9:Below w.heap.size w w1:=by rw[<-hw1];exact bl1 _
 rw[hw1]at hmk;clear hw1 hi0 hz0 hz1 hz2
 go_enter Tryz.func229,Tryz.ntmps229
 go_wp2
 go_loopw [3,11] (fun v i wr=>∃k:Nat,k<=n/\i=.int .i64 k/\Ro 125 w.heap.size wr v 7 ((List.range k).map (fun j=>((zs.getD j 0:Int):Rat)))/\Below w.heap.size w wr) (fun _ i _=>n-(intOf i).toNat)
 case atStart=>exact⟨0,Nat.zero_le _,rfl,hI0,zn9⟩
 case round =>
  obtain⟨k,hk,rfl,hT,hB⟩:=hrel;obtain⟨a2,c2,rfl,hts⟩:=hT.rg
  have hlen:((List.range k).map (fun j=>((zs.getD j 0:Int):Rat))).length=k:=by simp
  have HLN:Hid (((List.range k).map (fun j=>((zs.getD j 0:Int):Rat))).length=k):=hlen
  rw[hlen]at hT ⊢
  have HT2:Hid (Ro 125 w.heap.size wr (.slice a2 k c2) 7 ((List.range k).map (fun j=>((zs.getD j 0:Int):Rat)))):=hT
  have HTS:Hid (Rg w.heap.size wr a2 c2 7 ((List.range k).map (fun j=>((zs.getD j 0:Int):Rat)))):=hts
  clear hT hts hmk hI0 zn9
  have hsz:=hB.size
  by_cases hkn:k<n
  . obtain⟨b0,off,ea,hb,d0⟩:=HH.out.at hB k (by rw[HL.out];exact hkn)
    have hzi:=HH.out.i64 (k:=k) (by rw[HL.out];exact hkn)
    subst ea
    have HS:Hid (_):=zii (fun j=>((zs.getD j 0:Int):Rat)) k
    obtain⟨z,hz⟩:∃z,zs.getD k 0=z:=⟨_,rfl⟩
    rw[hz]at d0 hzi HS
    have hzb:-9223372036854775808<=z/\z<=9223372036854775807:=hzi
    have i1:(0:Int)<=(k:Int):=by omega
    have i2:(k:Int)<(n:Int):=by omega
    generalize (List.range k).map (fun j=>((zs.getD j 0:Int):Rat))=L at *
    clear hz hzi
    go_wp2_with fail
    refine(zae z _ (by omega) (by omega)).mono ?_
    rintro e u1 ⟨v1,rfl,hF1,hb1⟩;obtain⟨z1,x1,x2,x3,x4,x5,x6,rfl⟩:=hF1.cells3'
    obtain⟨V,hV,B4,hb4⟩:∃V,V=u1.alloc (.cells #[.bool z1,.slice x1 x2 x3,.slice x4 x5 x6] 125)/\Box 125 V u1.heap.size (.bool z1) (.slice x1 x2 x3) (.slice x4 x5 x6)/\Below u1.heap.size u1 V:=⟨_,rfl,Box.new _ _ _ _ _,bl1 _⟩
    have hbv:Below wr.heap.size wr V:=hb1.trans (hb4.mono hb1.size)
    obtain⟨r0,r1,r2,_⟩:=B4.cells
    have zba:=Rz.one B4.lt r0 r1 r2 ((hF1.below hb4).le (show 2<=7 by decide))
    have hown:=HT2.out.below hbv
    have hll:L.length+[(z:Rat)].length<=1000000:=by rw[hlen];simp;omega
    have hbs:w.heap.size<=V.heap.size:=Nat.le_trans hsz hbv.size
    have hBV:Below w.heap.size w V:=hB.trans (hbv.mono hsz)
    have z4s:∀g,(Value.slice a2 k c2).ownBlock=some g->w.heap.size<=g:=fun g hg=>(HT2.out.lo hg).1
    clear hF1 hb1 hb4 hbv B4 r0 r1 r2
    go_wp2_with (at_builtin;rw[<-hV];refine zbp 173 125 Tryz.underlying173 zch rfl _ _ rfl w.heap.size (.slice a2 k c2) 7 _ _ rfl hown _ 1 1 rfl rfl zba (fun e=>by cases e) (fun ad e=>by cases e;exact⟨_,_,rfl⟩) hll hbs ?_)
    intro v9 w9 hT9 hgrow _
    rw[<-hV]at hgrow
    have hB9:Below w.heap.size w w9:=hBV.grown hgrow hbs z4s
    rw[<-HS.out]at hT9;clear hgrow hbs hll HS zba hown hV;go_wp2
    go_roundw
    case rel=>exact⟨k+1,by omega,by go_num,hT9,hB9⟩
    case measure=>simp[intOf];omega
  . obtain rfl:k=n:=by omega
    have g4:¬(k:Int)<(k:Int):=by omega
    go_wp2
    go_ret
    exact⟨a2,c2,rfl,HTS.out,hB⟩
theorem zkm{L:List Pn}{k:Nat}(hk:k<L.length)(f:Pn->Int):(L.take (k+1)).map f=(L.take k).map f++[f (L.getD k Pn.none)]:=by
 rw[List.take_add_one,List.getElem?_eq_getElem hk,List.map_append]
 simp[List.getD,hk]
theorem ziz(S:Nat->Prop)(a:OA)(ca:Nat)(vb:Value)(cs:List (List Pn))(w:World)(h:Gr PnE.row S w a ca cs)(hl:cs.flatten.length<=100000)(hv:vb.cells=#[vb]) :
 Calls Tryz.prog 230 #[.agg #[.slice a cs.length ca,vb]] w fun e w'=>∃a1 c1 a2 c2,e=.returned (.tuple #[.slice a1 cs.flatten.length c1,.slice a2 cs.flatten.length c2])/\Ri w' a1 c1 (cs.flatten.map Pn.x)/\Ri w' a2 c2 (cs.flatten.map Pn.y)/\Below w.heap.size w w':=by
 obtain⟨W,hW,X1,hbW⟩:∃W,W=w.alloc (.cells #[.slice a cs.length ca,vb] 57)/\Bk 57 W w.heap.size [.slice a cs.length ca,vb]/\Below w.heap.size w W:=⟨_,rfl,Bk.new _ _ _,bl1 _⟩
 have hpt:=zdj S a ca vb cs W (h.below hbW) hl hv
 obtain⟨p0,p1,_⟩:=X1.two
 generalize cs.flatten=L at *
 clear h X1
 go_enter Tryz.func230,Tryz.ntmps230
 go_upto_region 1 with fail
 rw[<-hW];clear hW
 go_wp2_with fail
 refine hpt.mono ?_
 rintro e m1 ⟨pa,pc,rfl,hgr,-,hb1⟩
 have HG:Hid (Gr PnE (fun _=>True) m1 pa pc L):=hgr
 have HBW:Hid (Below w.heap.size w m1):=hbW.trans (hb1.mono hbW.size)
 clear hpt hgr hb1 hbW p0 p1;go_wp2
 go_loopw [4,5,11] (fun va vb i wr=>∃k:Nat,k<=L.length/\i=.int .i64 k/\Fam El.int 3 m1.heap.size wr [va,vb] [(L.take k).map Pn.x,(L.take k).map Pn.y]/\Below m1.heap.size m1 wr) (fun _ _ i _=>L.length-(intOf i).toNat)
 case atStart=>exact⟨0,Nat.zero_le _,rfl,Fam.two _ _ _ _,Below.refl _ _⟩
 case round =>
  obtain⟨k,hk,rfl,fam,hB⟩:=hrel
  by_cases hkn:k<L.length
  . obtain⟨b0,off,x,y,on,ea,hb,hpn,hxi,hyi,d0,d1,d2⟩:=HG.out.pnt hB k hkn
    subst ea
    have HX:Hid ((L.take (k+1)).map Pn.x=(L.take k).map Pn.x++[x]):=by show _=_;rw[zkm hkn,hpn]
    have HY:Hid ((L.take (k+1)).map Pn.y=(L.take k).map Pn.y++[y]):=by show _=_;rw[zkm hkn,hpn]
    have hz1:I64 x:=hxi
    have hz2:I64 y:=hyi
    have hll1:((L.take k).map Pn.x).length+1<=1000000:=by rw[List.length_map,List.length_take];omega
    have hll2:((L.take k).map Pn.y).length+1<=1000000:=by rw[List.length_map,List.length_take];omega
    have i1:(0:Int)<=(k:Int):=by omega
    have i2:(k:Int)<(L.length:Int):=by omega
    obtain⟨V0,hV0,X0,hb0⟩:∃V,V=wr.alloc (.cells #[.int .i64 x,.int .i64 y,.bool on] 65)/\Bk 65 V wr.heap.size [.int .i64 x,.int .i64 y,.bool on]/\Below wr.heap.size wr V:=⟨_,rfl,Bk.new _ _ _,bl1 _⟩
    obtain⟨p0,p1,p2,_⟩:=X0.three;replace fam:=fam.below hb0
    replace hB:=hB.trans (hb0.mono hB.size)
    clear hpn hxi hyi
    generalize (L.take k).map Pn.x=LX at *
    generalize (L.take k).map Pn.y=LY at *
    go_upto_region 5 with fail
    rw[<-hV0];clear hV0 hb0
    obtain⟨V1,hV1,c1,zw8,hlV1⟩:∃V,V=V0.alloc (.cells #[.int .i64 x] 3)/\V.cell? ⟨V0.heap.size,0,none⟩=some (.int .i64 x)/\Below V0.heap.size V0 V/\V0.heap.size<V.heap.size:=⟨_,rfl,cell_of_row _ _ 0 _ _ (0,0) (heap_alloc_new _ _),bl1 _,by simp⟩
    have famv1:=fam.below zw8
    have hown1:Gw El.int 3 m1.heap.size (fun _=>False) V1 u4 LX:=famv1.row 0 (by simp)
    have hbs1:m1.heap.size<=V1.heap.size:=Nat.le_trans hB.size zw8.size
    have hBV1:Below m1.heap.size m1 V1:=hB.trans (zw8.mono hB.size)
    go_wp2_with (at_builtin;rw[<-hV1];refine zaf rfl _ _ rfl m1.heap.size u4 LX rfl hown1 V0.heap.size x rfl hlV1 c1 hz1 hll1 hbs1 ?_)
    intro v1 y1 hT1 hg1 ho1
    rw[<-hV1]at hg1
    rw[show V0.heap.size+1=V1.heap.size by rw[hV1];simp]at ho1
    replace hB:Below m1.heap.size m1 y1:=hBV1.grown hg1 hbs1 (fun g hg=>(hown1.lo hg).1)
    replace fam:Fam El.int 3 m1.heap.size y1 [v1,u5] [(LX++[x]),LY]:=famv1.grow 0 (by simp) hT1 hg1 ho1
    clear hV1 c1 hlV1 famv1 hbs1 hBV1 hT1 hll1
    have X2:=(X0.below zw8).grown hg1 (Gi.ne hown1 (X0.below zw8) (by decide))
    clear p0 p1 p2;obtain⟨p0,p1,p2,_⟩:=X2.three
    obtain⟨V2,hV2,c2,hbV2,hlV2⟩:∃V,V=y1.alloc (.cells #[.int .i64 y] 3)/\V.cell? ⟨y1.heap.size,0,none⟩=some (.int .i64 y)/\Below y1.heap.size y1 V/\y1.heap.size<V.heap.size:=⟨_,rfl,cell_of_row _ _ 0 _ _ (0,0) (heap_alloc_new _ _),bl1 _,by simp⟩
    have famv2:=fam.below hbV2
    have hown2:Gw El.int 3 m1.heap.size (fun _=>False) V2 u5 LY:=famv2.row 1 (by simp)
    have hbs2:m1.heap.size<=V2.heap.size:=Nat.le_trans hB.size hbV2.size
    have hBV2:Below m1.heap.size m1 V2:=hB.trans (hbV2.mono hB.size)
    go_wp2_with (at_builtin;rw[<-hV2];refine zaf rfl _ _ rfl m1.heap.size u5 LY rfl hown2 y1.heap.size y rfl hlV2 c2 hz2 hll2 hbs2 ?_)
    intro v2 y2 hT2 hg2 ho2
    rw[<-hV2]at hg2
    rw[show y1.heap.size+1=V2.heap.size by rw[hV2];simp]at ho2
    replace hB:Below m1.heap.size m1 y2:=hBV2.grown hg2 hbs2 (fun g hg=>(hown2.lo hg).1)
    replace fam:Fam El.int 3 m1.heap.size y2 [v1,v2] [(LX++[x]),(LY++[y])]:=famv2.grow 1 (by simp) hT2 hg2 ho2
    clear hV2 c2 hlV2 famv2 hbs2 hBV2 hT2 hll2
    have FAM:Hid (Fam El.int 3 m1.heap.size y2 [v1,v2] [(L.take (k+1)).map Pn.x,(L.take (k+1)).map Pn.y]):=by
     rw[HX.out,HY.out]
     exact fam
    have HBB:Hid (Below m1.heap.size m1 y2):=hB
    clear fam hB d0 d1 d2 p0 p1 p2;go_wp2
    go_roundw
    case rel=>exact⟨k+1,by omega,by go_num,FAM.out,HBB.out⟩
    case measure=>simp[intOf];omega
  . obtain rfl:k=L.length:=by omega
    have g4:¬(L.length:Int)<(L.length:Int):=by omega
    have hra:Gi m1.heap.size wr u4 ((L.take L.length).map Pn.x):=fam.row 0 (by simp)
    have hrb:Gi m1.heap.size wr u5 ((L.take L.length).map Pn.y):=fam.row 1 (by simp)
    rw[List.take_length]at hra hrb;obtain⟨aa,cc,rfl,hra,-⟩:=hra.slice;obtain⟨ab,cb,rfl,hrb,-⟩:=hrb.slice
    have HRA:Hid (Ri wr aa cc (L.map Pn.x)):=hra
    have HRB:Hid (Ri wr ab cb (L.map Pn.y)):=hrb
    have HBF:Hid (Below w.heap.size w wr):=HBW.out.trans (hB.mono HBW.out.size)
    rw[List.length_map,List.length_map];clear fam hra hrb hB;go_wp2
    go_ret2
    exact⟨aa,cc,ab,cb,rfl,HRA.out,HRB.out,HBF.out⟩
theorem zd0(f:Pn->Int)(cs:List (List Pn))(ea:OA)(ec:Nat)(na:OA)(nc:Nat)(ta:OA)(tc:Nat)(tch:List Bool)(la:OA)(lc:Nat)(lay:LI)(w:World)(he:Ri w ea ec (endF 0 cs))(hn:Ri w na nc (cs.flatten.map f))(ht:Rl w ta tc tch)(hl:Ri w la lc lay)(h0:∀c∈cs,0<c.length)(h80:cs.flatten.length<=80)(l1:tch.length=cs.flatten.length)(l2:lay.length=cs.flatten.length) :
 Calls Tryz.prog 231 #[.slice ea cs.length ec,.slice na cs.flatten.length nc,.slice ta cs.flatten.length tc,.slice la cs.flatten.length lc] w fun e w'=>∃a' c',e=.returned (.slice a' (conQ f cs lay tch cs.length).length c')/\Rg w.heap.size w' a' c' 7 (conQ f cs lay tch cs.length)/\Below w.heap.size w w':=by
 have HE:Hid (Ri w ea ec (endF 0 cs)):=he
 have HN:Hid (Ri w na nc (cs.flatten.map f)):=hn
 have HT:Hid (Rl w ta tc tch):=ht
 have HL:Hid (Ri w la lc lay):=hl
 have H0:Hid (∀c∈cs,0<c.length):=h0
 have HL1:Hid (tch.length=cs.flatten.length/\lay.length=cs.flatten.length):=⟨l1,l2⟩
 have hc1:cs.flatten.length<=nc:=by have:=hn.2.1;rw[List.length_map]at this;exact this
 have hc2:cs.flatten.length<=tc:=by have:=ht.1;rw[l1]at this;exact this
 have hc3:cs.flatten.length<=lc:=by have:=hl.2.1;rw[l2]at this;exact this
 have k2:cs.length<=9223372036854775807:=by have:=he.lenB;rw[zbo]at this;exact this
 have HCM:Hid (∀k,k<=cs.length->ofC cs k<=cs.flatten.length):=fun k _=>znw cs k
 obtain⟨N,hN⟩:∃N,cs.flatten.length=N:=⟨_,rfl⟩
 have HNN:Hid (cs.flatten.length=N):=hN
 rw[hN]at h80 hc1 hc2 hc3 ⊢
 have b1:=hn.2.2.1
 have b2:=ht.2.1
 have b3:=hl.2.2.1
 unfold maxLen at b1 b2 b3
 clear he hn ht hl h0 l1 l2 hN
 go_enter Tryz.func231,Tryz.ntmps231
 go_wp2
 go_loopw [9,10,16] (fun v s i wr=>∃k:Nat,k<=cs.length/\i=.int .i64 k/\s=.int .i64 (ofC cs k:Int)/\Ro 125 w.heap.size wr v 7 (conQ f cs lay tch k)/\Below w.heap.size w wr) (fun _ _ i _=>cs.length-(intOf i).toNat)
 case atStart=>exact⟨0,Nat.zero_le _,rfl,rfl,Ro.nil _ _ _ _,Below.refl _ _⟩
 case round =>
  obtain⟨k,hk,rfl,rfl,hT,hB⟩:=hrel;obtain⟨a2,c2,rfl,hts⟩:=hT.rg
  have hQl:=zml f cs lay tch k hk
  have hol:=HCM.out k hk
  rw[HNN.out]at hol
  by_cases hkn:k<cs.length
  . have hol2:=HCM.out (k+1) hkn
    rw[HNN.out]at hol2
    have hst:=zdp hkn
    have zfy:0<(cs.getD k []).length:=H0.out _ (by rw[List.getD_eq_getElem?_getD,List.getElem?_eq_getElem hkn];exact List.getElem_mem hkn)
    obtain⟨b0,off,e0,hb,d0⟩:=HE.out.at hB k (by rw[zbo];exact hkn)
    rw[show(endF 0 cs).getD k 0=((ofC cs (k+1):Nat):Int)-1 from z22 hkn]at d0
    subst e0
    have HS:Hid (conQ f cs lay tch (k+1)=conQ f cs lay tch k++segF f cs lay tch k):=zg8 _ _ _ _ _
    have hsl:=zgn f cs lay tch k
    have HSG:Hid (segF f cs lay tch k=fillQ (((cs.flatten.map f).drop (ofC cs k)).take (ofC cs (k+1)-ofC cs k)) ((tch.drop (ofC cs k)).take (ofC cs (k+1)-ofC cs k)) ((lay.drop (ofC cs k)).take (ofC cs (k+1)-ofC cs k))):=by
     show _=_
     have e9:ofC cs (k+1)-ofC cs k=(cs.getD k []).length:=by omega
     rw[e9,<-List.map_drop,<-List.map_take,zof cs k hkn]
     rfl
    have HNX:Hid (ofC cs (k+1)=ofC cs (k+1)):=rfl
    obtain⟨x,hx⟩:∃x,ofC cs k=x:=⟨_,rfl⟩
    obtain⟨y,hy⟩:∃x,ofC cs (k+1)=x:=⟨_,rfl⟩
    rw[hx,hy]at HSG hst;rw[hx]at hol hQl;rw[hy]at d0 hol2;rw[hx]
    have HY:Hid (ofC cs (k+1)=y):=hy
    clear hx hy HNX
    generalize (cs.getD k []).length=m at *
    have hxy:x<y:=by omega
    have hsl2:(segF f cs lay tch k).length<=y-x:=by omega
    clear hst zfy hsl
    obtain⟨nb,no,en,hnb,_⟩:=HN.out.at hB x (by rw[List.length_map,HNN.out];omega)
    subst en
    obtain⟨tb,to',et,htb,_⟩:=HT.out.at hB x (by rw[HL1.out.1,HNN.out];omega)
    subst et
    obtain⟨lb,lo,el,hlb,_⟩:=HL.out.at hB x (by rw[HL1.out.2,HNN.out];omega)
    subst el
    have hfi:=fun U (hb:Below w.heap.size w U)=>zue (some ⟨nb,no+x,none⟩) (nc-x) (((cs.flatten.map f).drop x).take (y-x)) (some ⟨tb,to'+x,none⟩) (tc-x) ((tch.drop x).take (y-x)) (some ⟨lb,lo+x,none⟩) (lc-x) ((lay.drop x).take (y-x)) U (((HN.out.below hb).drop x (by rw[List.length_map,HNN.out];omega)).take _) (Rl.of (by have:=(Gr.from (HT.out.below hb) x (by rw[HL1.out.1,HNN.out];omega)).take (y-x);rw[show x*El.bool.sz=x from Nat.mul_one x]at this;exact this)) (((HL.out.below hb).drop x (by rw[HL1.out.2,HNN.out];omega)).take _)
    rw[<-HSG.out]at hfi
    rw[show(((cs.flatten.map f).drop x).take (y-x)).length=y-x by rw[List.length_take,List.length_drop,List.length_map,HNN.out];omega,show((tch.drop x).take (y-x)).length=y-x by rw[List.length_take,List.length_drop,HL1.out.1,HNN.out];omega,show((lay.drop x).take (y-x)).length=y-x by rw[List.length_take,List.length_drop,HL1.out.2,HNN.out];omega]at hfi
    have hyy:(y:Int)-1+1=(y:Int):=by omega
    have j1:(0:Int)<=(x:Int):=by omega
    have j2:(x:Int)<=(y:Int):=by omega
    have j3:(y:Int)<=(nc:Int):=by omega
    have j4:(y:Int)<=(tc:Int):=by omega
    have j5:(y:Int)<=(lc:Int):=by omega
    have j6:¬nc=x:=by omega
    have j7:¬tc=x:=by omega
    have j8:¬lc=x:=by omega
    have i1:(0:Int)<=(k:Int):=by omega
    have i2:(k:Int)<(cs.length:Int):=by omega
    have hsb:1<=y:=by omega
    generalize conQ f cs lay tch k=QK at *
    generalize segF f cs lay tch k=QS at *
    have HT2:Hid (Ro 125 w.heap.size wr (.slice a2 QK.length c2) 7 QK):=hT
    clear hT hts HSG
    go_wp2_with fail
    refine wp_region_held_drew (S:=fun _=>True) (by kernel_rfl) ?_ (fun hH=>?_)
    . (try dsimp only)
      all_goals go_keep
    have hdr:Below wr.heap.size wr wr.drew:=Below.drew1
    generalize wr.drew=Z at hdr hH ⊢
    have hBZ:Below w.heap.size w Z:=hB.trans (hdr.mono hB.size)
    have hown:=HT2.out.below hdr
    clear hdr;refine hT 0 hH ?_;refine hT 1 hH ?_;refine hT 2 hH ?_;refine hT 3 hH ?_
    refine hTake (i:=4) (v:=.slice (some ⟨nb,no+x,none⟩) (y-x) (nc-x)) rfl (by kernel_rfl) (by kernel_rfl) (by kernel_rfl) (fun _ _ _ h=>h) (Or.inl ⟨by rfl,?y10⟩) hH ?r10
    case y10 =>
     intro w9 hSw
     (try dsimp only at hSw)
     go_simp
    try simp only[Act.put,pZ]
    refine hT 5 hH ?_;refine hT 6 hH ?_;refine hT 7 hH ?_
    refine hTake (i:=8) (v:=.slice (some ⟨tb,to'+x,none⟩) (y-x) (tc-x)) rfl (by kernel_rfl) (by kernel_rfl) (by kernel_rfl) (fun _ _ _ h=>h) (Or.inl ⟨by rfl,?y11⟩) hH ?r11
    case y11 =>
     intro w9 hSw
     (try dsimp only at hSw)
     go_simp
    try simp only[Act.put,pZ]
    refine hT 9 hH ?_;refine hT 10 hH ?_;refine hT 11 hH ?_
    refine hTake (i:=12) (v:=.slice (some ⟨lb,lo+x,none⟩) (y-x) (lc-x)) rfl (by kernel_rfl) (by kernel_rfl) (by kernel_rfl) (fun _ _ _ h=>h) (Or.inl ⟨by rfl,?y12⟩) hH ?r12
    case y12 =>
     intro w9 hSw
     (try dsimp only at hSw)
     go_simp
    try simp only[Act.put,pZ]
    refine hCall (i:=13) rfl (by kernel_rfl) (by rfl) (fun K hK=>?_)
    go_simp
    refine(hfi Z hBZ).mono ?_
    rintro e Y ⟨fa,fc,rfl,hRf,hb5⟩
    replace hBZ:=hBZ.trans (hb5.mono hBZ.size)
    replace hown:=hown.below hb5;clear hb5 hfi
    go_wp2_with fail
    refine hK.out _ _ ?_ (fun hH=>?_)
    . (try dsimp only)
      all_goals trivial
    clear hK K
    try simp only[Act.put,pZ]
    refine hCall (i:=14) rfl (by kernel_rfl) (by rfl) (fun K hK=>?_)
    refine zbj 173 125 Tryz.underlying173 zch _ _ rfl w.heap.size (.slice a2 QK.length c2) 7 QK QS rfl hown fa fc QS.length rfl rfl hRf.1 hRf.2.1 hRf.2.2 (by omega) hBZ.size ?_
    intro v9 w9 hT9 hgrow _
    have hB9:Below w.heap.size w w9:=hBZ.grown hgrow hBZ.size (fun g hg=>(HT2.out.lo hg).1)
    rw[<-HS.out]at hT9
    refine hK.out _ _ ?_ (fun hH=>?_)
    . (try dsimp only)
      all_goals trivial
    clear hK K hgrow hown hRf
    try simp only[Act.put,pZ]
    refine hT 15 hH ?_
    refine wpAnyH_done (by kernel_rfl) ?_ _
    clear hH;go_wp2
    go_roundw
    case rel=>exact⟨k+1,by omega,by go_num,by rw[HY.out],hT9,hB9⟩
    case measure=>simp[intOf];omega
  . obtain rfl:k=cs.length:=by omega
    have g4:¬(cs.length:Int)<(cs.length:Int):=by omega
    have HTS:Hid (Rg w.heap.size wr a2 c2 7 (conQ f cs lay tch cs.length)):=hts
    clear hT hts;go_wp2
    go_ret
    exact⟨a2,c2,rfl,HTS.out,hB⟩
theorem Gr.pn0{S:Nat->Prop}{w:World}{a:OA}{cap:Nat}{l:List Pn}(h:Gr PnE S w a cap l):Gr PnE (fun _=>False) w a cap l:=by
 refine⟨h.1,h.2.1,h.2.2.1,fun i hi=>?_⟩
 obtain⟨b,off,vs,e,hb,hr,hc⟩:=h.2.2.2 i hi
 exact⟨b,off,vs,e,hb,zaz.2 (zaz.1 hr),hc⟩
theorem Gr.pa0{S:Nat->Prop}{w:World}{a:OA}{cap:Nat}{l:List Pa}(h:Gr PaE S w a cap l):Gr PaE (fun _=>False) w a cap l:=by
 refine⟨h.1,h.2.1,h.2.2.1,fun i hi=>?_⟩
 obtain⟨b,off,vs,e,hb,hr,hc⟩:=h.2.2.2 i hi
 exact⟨b,off,vs,e,hb,zcf.2 (zcf.1 hr),hc⟩
theorem Gr.kept{α:Type}{E:El α}{G:Nat->Prop}{w w':World}{a:OA}{cap:Nat}{l:List α}(h:Gr E (fun _=>False) w a cap l)(hk:Keep G w w')(hG:∀b o,a=some ⟨b,o,none⟩->l≠[]->b<w.heap.size->G b):Gr E (fun _=>False) w' a cap l :=
 h.stay hk.size (fun k h1=>h1.elim) (fun b o e hl hb=>hk.block b (hG b o e hl hb))
def wz1(zs:LI):List (List Rat):=zs.map (fun z:Int=>[(z:Rat)])
theorem zfq(zs:LI)(z:Int):wz1 (zs++[z])=wz1 zs++[[(z:Rat)]]:=by unfold wz1;rw[List.map_append];rfl
theorem zh2(zs:LI):(wz1 zs).length=zs.length:=by unfold wz1;rw[List.length_map]
theorem zek{α:Type}{L:List α}{d:α}{k:Nat}(hk:k<L.length)(f:α->Int):(L.take (k+1)).map f=(L.take k).map f++[f (L.getD k d)]:=by
 rw[List.take_add_one,List.getElem?_eq_getElem hk,List.map_append]
 simp[List.getD,hk]
def Bs2(base gx gy:Nat)(W w:World)(X Y:List (List Rat)):Prop :=
 ∃xa xc ya yc,Bk 230 w gx [.slice xa X.length xc]/\Bk 230 w gy [.slice ya Y.length yc]/\R22 base w (.slice xa X.length xc) (.slice ya Y.length yc) 20 X Y/\Keep (fun k=>k<base/\k≠gx/\k≠gy) W w/\base<=w.heap.size
theorem Bs2.below{base gx gy:Nat}{W w w':World}{X Y:List (List Rat)}(h:Bs2 base gx gy W w X Y)(hb:Below w.heap.size w w'):Bs2 base gx gy W w' X Y:=by
 obtain⟨xa,xc,ya,yc,h1,h2,h3,h4,h5⟩:=h
 exact⟨xa,xc,ya,yc,h1.below hb,h2.below hb,h3.below hb,h4.trans (Keep.of_below hb (fun k hk=>by omega)),Nat.le_trans h5 hb.size⟩
theorem Bs2.kp{base gx gy:Nat}{W w:World}{X Y:List (List Rat)}(h:Bs2 base gx gy W w X Y):Keep (fun k=>k<base/\k≠gx/\k≠gy) W w:=by
 obtain⟨xa,xc,ya,yc,h1,h2,h3,h4,h5⟩:=h
 exact h4
theorem zqt(base gx gy:Nat)(x y:Int)(X Y:List (List Rat))(W w:World)(h:Bs2 base gx gy W w X Y)(hgx:gx<base)(hgy:gy<base)(hne:gx≠gy)(hx:I64 x)(hy:I64 y)(hl1:X.length<=1000)(hl2:Y.length<=1000) :
 Calls Tryz.prog 225 #[.int .i64 x,.int .i64 y,.pointer (some ⟨gx,0,none⟩),.pointer (some ⟨gy,0,none⟩)] w fun e w'=>e=.returned (.tuple #[])/\Bs2 base gx gy W w' (X++[[(x:Rat)]]) (Y++[[(y:Rat)]]):=by
 obtain⟨xa,xc,ya,yc,h1,h2,h3,h4,h5⟩:=h
 refine(zo7 base gx gy x y xa xc ya yc X Y w h1 h2 h3 hgx hgy hne h5 hx hy hl1 hl2).mono ?_
 rintro e w' ⟨rfl,xa',xc',ya',yc',k1,k2,k3,k4,k5⟩
 exact⟨rfl,xa',xc',ya',yc',k1,k2,k3,h4.trans k4,k5⟩
theorem zo6(S:Nat->Prop)(a:OA)(ca:Nat)(b:OA)(cb:Nat)(o:Ol)(w:World)(hc:Gr PnE.row S w a ca o.cs)(hp:Gr PaE S w b cb o.ps)(hl:o.cs.flatten.length<=400)(hl2:o.ps.length<=400) :
 Calls Tryz.prog 178 #[.agg #[.slice a o.cs.length ca,.slice b o.ps.length cb]] w fun e w'=>∃vx vy,e=.returned (.tuple #[vx,vy])/\R22 w.heap.size w' vx vy 20 (wz1 (baQ Pn.x Pa.dx o)) (wz1 (baQ Pn.y Pa.dy o))/\Below w.heap.size w w':=by
 obtain⟨W,hW,X1,XX,XY,hbW⟩:∃W,W=((w.alloc (.cells #[.slice a o.cs.length ca,.slice b o.ps.length cb] 57)).alloc (.cells #[.slice none 0 0] 230)).alloc (.cells #[.slice none 0 0] 230)/\Bk 57 W w.heap.size [.slice a o.cs.length ca,.slice b o.ps.length cb]/\Bk 230 W (w.heap.size+1) [.slice none 0 0]/\Bk 230 W (w.heap.size+2) [.slice none 0 0]/\Below w.heap.size w W :=
  ⟨_,rfl,((Bk.new _ _ [.slice a o.cs.length ca,.slice b o.ps.length cb]).below (al1 _)).below (al1 _),(Bk.new1 _ _ _ [.slice none 0 0]).below (al1 _),by
   have h:=Bk.new 230 ((w.alloc (.cells #[.slice a o.cs.length ca,.slice b o.ps.length cb] 57)).alloc (.cells #[.slice none 0 0] 230)) [.slice none 0 0]
   simpa using h,al3 _ _ _⟩
 obtain⟨p0,p1,_⟩:=X1.two
 have hWs:=XY.lt
 have hpt:=zdj S a ca (.slice b o.ps.length cb) o.cs W (hc.below hbW) (by omega) rfl
 have HPS:Hid (Gr PaE (fun _=>False) W b cb o.ps):=(hp.below hbW).pa0
 have HPB:Hid (∀b' o',b=some ⟨b',o',none⟩->o.ps≠[]->b'<w.heap.size):=fun b' o' e hne=>by
  obtain⟨b1,o1,e1,h1⟩:=hp.blk hne
  rw[e]at e1
  cases e1
  exact h1
 have HBW:Hid (Below w.heap.size w W):=hbW
 have HBX:Hid (baQ Pn.x Pa.dx o=o.cs.flatten.map Pn.x++o.ps.map Pa.dx):=rfl
 have HBY:Hid (baQ Pn.y Pa.dy o=o.cs.flatten.map Pn.y++o.ps.map Pa.dy):=rfl
 generalize baQ Pn.x Pa.dx o=bX at *
 generalize baQ Pn.y Pa.dy o=bY at *
 clear hc hp
 generalize o.cs.length=nc at *
 generalize o.cs.flatten=L at *
 generalize o.ps=ps at *
 go_enter Tryz.func178,Tryz.ntmps178
 go_upto_region 2 with fail
 rw[<-hW];clear hW
 go_wp2_with fail
 refine hpt.mono ?_
 rintro e m1 ⟨qa,qc,rfl,hgr,hloc,hb1⟩
 have HQ:Hid (Gr PnE (fun _=>False) m1 qa qc L):=hgr.pn0
 have HQL:Hid (∀b' o',qa=some ⟨b',o',none⟩->W.heap.size<=b'/\b'<m1.heap.size):=hloc
 have HPS1:Hid (Gr PaE (fun _=>False) m1 b cb ps):=HPS.out.below hb1
 have HB1:Hid (Below W.heap.size W m1):=hb1
 have hms:=hb1.size
 have HX1:Hid (Bk 57 m1 w.heap.size [.slice a nc ca,.slice b ps.length cb]):=X1.below hb1
 have HI:Hid (Bs2 m1.heap.size (w.heap.size+1) (w.heap.size+2) m1 m1 (wz1 ((L.take 0).map Pn.x)) (wz1 ((L.take 0).map Pn.y))):=⟨none,0,none,0,XX.below hb1,XY.below hb1,R22.nil _ _ _,Keep.refl _ _,Nat.le_refl _⟩
 obtain⟨base,hbase⟩:∃n,m1.heap.size=n:=⟨_,rfl⟩
 have HBE:Hid (m1.heap.size=base):=hbase
 rw[hbase]at HI hms;clear hpt hgr hloc hb1 X1 XX XY p0 p1 HPS hbase
 have kq:=HQ.out.lenB
 go_wp2
 go_loopw [15] (fun i wr=>∃k:Nat,k<=L.length/\i=.int .i64 k/\Bs2 base (w.heap.size+1) (w.heap.size+2) m1 wr (wz1 ((L.take k).map Pn.x)) (wz1 ((L.take k).map Pn.y))) (fun i _=>L.length-(intOf i).toNat)
 case atStart=>exact⟨0,Nat.zero_le _,rfl,HI.out⟩
 case round =>
  clear HI;obtain⟨k,hk,rfl,hS⟩:=hrel
  by_cases hkn:k<L.length
  . have hQw:=HQ.out.kept hS.kp (fun b' o' e _ hb'=>by have:=HQL.out b' o' e;have:=HBE.out;omega)
    obtain⟨b0,off,x,y,on,ea,hb,hpn,hxi,hyi,d0,d1,d2⟩:=hQw.pnt (Below.refl _ _) k hkn
    subst ea
    have HSX:Hid (wz1 ((L.take (k+1)).map Pn.x)=wz1 ((L.take k).map Pn.x)++[[(x:Rat)]]):=by show _=_;rw[zek (d:=Pn.none) hkn,hpn,zfq]
    have HSY:Hid (wz1 ((L.take (k+1)).map Pn.y)=wz1 ((L.take k).map Pn.y)++[[(y:Rat)]]):=by show _=_;rw[zek (d:=Pn.none) hkn,hpn,zfq]
    have l1:(wz1 ((L.take k).map Pn.x)).length<=1000:=by rw[zh2,List.length_map,List.length_take];omega
    have l2:(wz1 ((L.take k).map Pn.y)).length<=1000:=by rw[zh2,List.length_map,List.length_take];omega
    obtain⟨V,hV,X0,hb0⟩:∃V,V=wr.alloc (.cells #[.int .i64 x,.int .i64 y,.bool on] 65)/\Bk 65 V wr.heap.size [.int .i64 x,.int .i64 y,.bool on]/\Below wr.heap.size wr V:=⟨_,rfl,Bk.new _ _ _,bl1 _⟩
    obtain⟨q0,q1,q2,_⟩:=X0.three
    have hcl:=zqt base (w.heap.size+1) (w.heap.size+2) x y _ _ m1 V (hS.below hb0) (by omega) (by omega) (by omega) hxi hyi l1 l2
    rw[<-HSX.out,<-HSY.out]at hcl
    have i1:(0:Int)<=(k:Int):=by omega
    have i2:(k:Int)<(L.length:Int):=by omega
    clear hpn l1 l2 hS hQw HSX HSY
    go_upto_region 6 with fail
    rw[<-hV];clear hV d0 d1 d2
    go_wp2_with fail
    refine hcl.mono ?_
    rintro e m2 ⟨rfl,hS2⟩;clear hcl q0 q1 q2;go_wp2
    go_roundw
    case rel=>exact⟨k+1,by omega,by go_num,hS2⟩
    case measure=>simp[intOf];omega
  . obtain rfl:k=L.length:=by omega
    have g4:¬(L.length:Int)<(L.length:Int):=by omega
    have hX1:=HX1.out.kept (G:=fun k=>k<base/\k≠w.heap.size+1/\k≠w.heap.size+2) hS.kp (by omega)
    obtain⟨p0,p1,_⟩:=hX1.two
    have HI:Hid (Bs2 base (w.heap.size+1) (w.heap.size+2) m1 wr (wz1 (L.map Pn.x++(ps.take 0).map Pa.dx)) (wz1 (L.map Pn.y++(ps.take 0).map Pa.dy))):=by
     show Bs2 _ _ _ _ _ _ _
     rw[List.take_zero,List.map_nil,List.map_nil,List.append_nil,List.append_nil];rw[List.take_length]at hS
     exact hS
    clear hS hX1;go_wp2;clear p0 p1
    go_loopw [29] (fun i wr=>∃k:Nat,k<=ps.length/\i=.int .i64 k/\Bs2 base (w.heap.size+1) (w.heap.size+2) m1 wr (wz1 (L.map Pn.x++(ps.take k).map Pa.dx)) (wz1 (L.map Pn.y++(ps.take k).map Pa.dy))) (fun i _=>ps.length-(intOf i).toNat)
    case atStart=>exact⟨0,Nat.zero_le _,rfl,HI.out⟩
    case round =>
     clear HI;obtain⟨k,hk,rfl,hS⟩:=hrel
     by_cases hkn:k<ps.length
     . have hQw:=HPS1.out.kept hS.kp (fun b' o' e hne hb'=>by have:=HPB.out b' o' e hne;omega)
       obtain⟨b0,off,ea,hb,hpw,d0,d1,d2⟩:=hQw.pa (Below.refl _ _) k hkn
       subst ea
       have HSX:Hid (wz1 (L.map Pn.x++(ps.take (k+1)).map Pa.dx)=wz1 (L.map Pn.x++(ps.take k).map Pa.dx)++[[(((ps.getD k Pa.none).dx:Int):Rat)]]):=by show _=_;rw[zek (d:=Pa.none) hkn,<-List.append_assoc,zfq]
       have HSY:Hid (wz1 (L.map Pn.y++(ps.take (k+1)).map Pa.dy)=wz1 (L.map Pn.y++(ps.take k).map Pa.dy)++[[(((ps.getD k Pa.none).dy:Int):Rat)]]):=by show _=_;rw[zek (d:=Pa.none) hkn,<-List.append_assoc,zfq]
       obtain⟨pq,hpq⟩:∃q,ps.getD k Pa.none=q:=⟨_,rfl⟩
       rw[hpq]at hpw d0 d1 d2 HSX HSY;obtain⟨gl,x,y⟩:=pq;obtain⟨hgi,hxi,hyi⟩:=hpw
       dsimp only at *
       have l1:(wz1 (L.map Pn.x++(ps.take k).map Pa.dx)).length<=1000:=by rw[zh2,List.length_append,List.length_map,List.length_map,List.length_take];omega
       have l2:(wz1 (L.map Pn.y++(ps.take k).map Pa.dy)).length<=1000:=by rw[zh2,List.length_append,List.length_map,List.length_map,List.length_take];omega
       obtain⟨V,hV,X0,hb0⟩:∃V,V=wr.alloc (.cells #[.int .i64 gl,.int .i64 x,.int .i64 y] 54)/\Bk 54 V wr.heap.size [.int .i64 gl,.int .i64 x,.int .i64 y]/\Below wr.heap.size wr V:=⟨_,rfl,Bk.new _ _ _,bl1 _⟩
       obtain⟨q0,q1,q2,_⟩:=X0.three
       have hcl:=zqt base (w.heap.size+1) (w.heap.size+2) x y _ _ m1 V (hS.below hb0) (by omega) (by omega) (by omega) hxi hyi l1 l2
       rw[<-HSX.out,<-HSY.out]at hcl
       have i1:(0:Int)<=(k:Int):=by omega
       have i2:(k:Int)<(ps.length:Int):=by omega
       clear hpq l1 l2 hS hQw HSX HSY
       go_upto_region 11 with fail
       rw[<-hV];clear hV d0 d1 d2
       go_wp2_with fail
       refine hcl.mono ?_
       rintro e m2 ⟨rfl,hS2⟩;clear hcl q0 q1 q2;go_wp2
       go_roundw
       case rel=>exact⟨k+1,by omega,by go_num,hS2⟩
       case measure=>simp[intOf];omega
     . obtain rfl:k=ps.length:=by omega
       have g5:¬(ps.length:Int)<(ps.length:Int):=by omega
       rw[List.take_length,<-HBX.out,<-HBY.out]at hS;obtain⟨xa,xc,ya,yc,h1,h2,h3,h4,h5⟩:=hS
       have zau:Below w.heap.size w wr:=HBW.out.trans ((HB1.out.mono HBW.out.size).trans (h4.below (B:=w.heap.size) (fun k hk=>by omega)))
       have hR:=h3.lower (base':=w.heap.size) (by omega)
       obtain⟨c1,_⟩:=h1.one1;obtain⟨c2,_⟩:=h2.one1
       have HR:Hid (R22 w.heap.size wr (.slice xa (wz1 bX).length xc) (.slice ya (wz1 bY).length yc) 20 (wz1 bX) (wz1 bY)):=hR
       have HFI:Hid (Below w.heap.size w wr):=zau
       generalize (wz1 bX).length=nx at *
       generalize (wz1 bY).length=ny at *
       clear h1 h2 h3 h4 hR zau
       go_upto_region 13 with fail
       refine wp_region_held_drew (S:=fun w9=>w9.cell? ⟨w.heap.size+1,0,none⟩=some (.slice xa nx xc)/\w9.cell? ⟨w.heap.size+2,0,none⟩=some (.slice ya ny yc)) (by kernel_rfl) ?_ (fun hH=>?_)
       . (try dsimp only)
         go_keep
       have hdr:Below wr.heap.size wr wr.drew:=Below.drew1
       generalize wr.drew=ud at hdr hH ⊢
       refine hT 0 hH ?_;refine hT 1 hH ?_;refine hT 2 hH ?_;refine hT 3 hH ?_
       refine wpAnyH_done (by kernel_rfl) ?_ _
       have HR2:=HR.out.below hdr
       have HF2:=HFI.out.trans (hdr.mono HFI.out.size)
       clear hH c1 c2;go_wp2
       go_ret2
       exact⟨_,_,rfl,HR2,HF2⟩
