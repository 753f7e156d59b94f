import Derived.Test.YtkmcodofnckdmaaGreatZK31
set_option maxHeartbeats 8000000
set_option maxRecDepth 100000
set_option linter.unusedSimpArgs false
set_option linter.unusedVariables false
namespace Go.Proofs.YtkmcodofnckdmaaGreat
open Tryz Go.RowKit Go.Maps
theorem zo5(a:OA)(ca:Nat)(b:OA)(cb:Nat)(s:Sr)(x r:Int)(w:World)(hl:s.rw.length<=9223372036854775807)(hx:I64 x)(hr:I64 r) :
 Calls Tryz.prog 62 #[.agg #[.slice a s.rg.length ca,.slice b s.rw.length cb],.agg #[.int .i64 x,.int .i64 r]] w fun e w'=>e=.returned (.bool (fiS s x r))/\Below w.heap.size w w':=by
 obtain⟨W,hW,X1,X2,hbW⟩:∃W,W=(w.alloc (.cells #[.slice a s.rg.length ca,.slice b s.rw.length cb] 26)).alloc (.cells #[.int .i64 x,.int .i64 r] 60)/\BxS W w.heap.size (.slice a s.rg.length ca) (.slice b s.rw.length cb)/\BxL W (w.heap.size+1) (.int .i64 x) (.int .i64 r)/\Below w.heap.size w W:=⟨_,rfl,(BxS.new _ _ _).below (bl1 _),BxL.new1 _ _ _ _,bl2 _ _⟩;have hif:=fun U=>za6 x U;cases hf:fdB x with
 | false =>
  have HE:Hid (fiS s x r=false):=by show _=_;rw[fiS,hf,Bool.false_and]
  simp only[hf]at hif;clear hf;go_enter func62,ntmps62;go_wp2_with fail
  rw[<-hW];clear hW;refine(hif _).mono ?_;rintro e u1 ⟨rfl,rfl⟩;obtain⟨c0,c1,_⟩:=X1.cells;obtain⟨d0,d1,_⟩:=X2.cells;go_wp2;go_ret;exact⟨zaa HE.out.symm,hbW⟩
 | true =>
  simp only[hf]at hif;by_cases h1:r=-1
  . have HE:Hid (fiS s x r=true):=by show _=_;rw[fiS,hf,Bool.true_and,qC h1,Bool.true_or]
    have g1:(r == -1)=true:=(by simp[h1]);clear h1;clear hf;go_enter func62,ntmps62;go_wp2_with fail
    rw[<-hW];clear hW;refine(hif _).mono ?_;rintro e u1 ⟨rfl,rfl⟩;obtain⟨c0,c1,_⟩:=X1.cells;obtain⟨d0,d1,_⟩:=X2.cells;go_wp2;go_ret;exact⟨zaa HE.out.symm,hbW⟩
  have g1:(r == -1)=false:=by simp[h1]
  have HE0:Hid (fiS s x r=(decide (0<=r)&&(decide (r<(s.rw.length:Int))&&decide (r<400)))):=by show _=_;rw[fiS,hf,Bool.true_and,qB h1,Bool.false_or]
  clear h1;by_cases h2:0<=r
  . have g2:decide (0<=r)=true:=qC h2
    by_cases h3:r<(s.rw.length:Int)
    . have g3:decide (r<(s.rw.length:Int))=true:=qC h3
      have HE:Hid (fiS s x r=decide (r<400)):=(by show _=_;rw[HE0.out,g2,g3,Bool.true_and,Bool.true_and]);clear hf;go_enter func62,ntmps62;go_wp2_with fail
      rw[<-hW];clear hW;refine(hif _).mono ?_;rintro e u1 ⟨rfl,rfl⟩;obtain⟨c0,c1,_⟩:=X1.cells;obtain⟨d0,d1,_⟩:=X2.cells;go_wp2;go_ret;exact⟨zaa HE.out.symm,hbW⟩
    . have g3:decide (r<(s.rw.length:Int))=false:=qB h3
      have HE:Hid (fiS s x r=false):=(by show _=_;rw[HE0.out,g2,g3];rfl);clear hf;go_enter func62,ntmps62;go_wp2_with fail
      rw[<-hW];clear hW;refine(hif _).mono ?_;rintro e u1 ⟨rfl,rfl⟩;obtain⟨c0,c1,_⟩:=X1.cells;obtain⟨d0,d1,_⟩:=X2.cells;go_wp2;go_ret;exact⟨zaa HE.out.symm,hbW⟩
  . have g2:decide (0<=r)=false:=qB h2
    have HE:Hid (fiS s x r=false):=(by show _=_;rw[HE0.out,g2];rfl);clear hf;go_enter func62,ntmps62;go_wp2_with fail
    rw[<-hW];clear hW;refine(hif _).mono ?_;rintro e u1 ⟨rfl,rfl⟩;obtain⟨c0,c1,_⟩:=X1.cells;obtain⟨d0,d1,_⟩:=X2.cells;go_wp2;go_ret;exact⟨zaa HE.out.symm,hbW⟩
theorem zsa{xs ys:LN}(hl:xs.length=ys.length)(h:∀k,k<xs.length->xs.getD k 0=ys.getD k 0):xs=ys:=by
 apply List.ext_getElem hl;intro i h1 h2;have:=h i h1;simpa [List.getD,h1,h2] using this
theorem zcr(a b:OA)(ca cb:Nat)(xs ys:LN)(w:World)(ha:Rb w a ca xs)(hb:Rb w b cb ys) :
 Calls Tryz.prog 25 #[.slice a xs.length ca,.slice b ys.length cb] w fun e w'=>e=.returned (.bool (decide (xs=ys)))/\Below w.heap.size w w':=by
 by_cases hl:xs.length=ys.length;rotate_left
 . have hne:((xs.length:Int) != (ys.length:Int))=true:=by simp;omega
   have hd:decide (xs=ys)=false:=qB (fun e=>hl (by rw[e]));rw[hd];go_enter func25,ntmps25;go_wp2;go_ret;exact⟨rfl,Below.refl _ _⟩
 have k1:=ha.le;have k2:=ha.cap;unfold maxLen at k2;have fa:=ha.fm;have fb:=hb.fm;clear ha hb;have HL:Hid (xs.length=ys.length):=hl;have hne:((xs.length:Int) != (ys.length:Int))=false:=by simp;omega
 obtain⟨ly,hly⟩:∃ly,ys.length=ly:=⟨_,rfl⟩;rw[hly]at hl hne ⊢;have HLY:Hid (ys.length=ly):=hly;subst hl;clear hly;have HD:Hid (∀B:Bool,decide (xs=ys)=B->decide (xs=ys)=B):=fun _ h=>h;generalize hD:decide (xs=ys)=D at *;have HDD:Hid (decide (xs=ys)=D):=hD;clear hD HD;go_enter func25,ntmps25;go_wp2
 go_loopw [5] (fun i wr=>∃k:Nat,k<=xs.length/\i=.int .i64 k/\(∀j,j<k->xs.getD j 0=ys.getD j 0)/\Below w.heap.size w wr) (fun i _=>xs.length-(intOf i).toNat)
 case atStart=>exact⟨0,qD _,rfl,fun j hj=>by omega,Below.refl _ _⟩
 case round =>
  obtain⟨k,hk,rfl,hall,hnx⟩:=hrel;have HALL:Hid (∀j,j<k->xs.getD j 0=ys.getD j 0):=hall;clear hall;by_cases hkn:k<xs.length
  . obtain⟨b1,o1,rfl,_,c1⟩:=fa.at hnx k hkn
    obtain⟨b2,o2,rfl,_,c2⟩:=fb.at hnx k (by rw[HLY.out];exact hkn);obtain⟨x,hx⟩:∃x,xs.getD k 0=x:=⟨_,rfl⟩;obtain⟨y,hy⟩:∃y,ys.getD k 0=y:=⟨_,rfl⟩;rw[hx]at c1;rw[hy]at c2;have HX:Hid (xs.getD k 0=x):=hx;have HY:Hid (ys.getD k 0=y):=hy;clear hx hy;have i1:(0:Int)<=(k:Int):=(by omega);have i2:(k:Int)<(xs.length:Int):=(by omega);by_cases hxy:x=y
    . subst hxy
      have hxx:((x:Int) != (x:Int))=false:=(by simp);go_wp2_with fail
      go_quiet (fail)
      go_wp2;go_roundw
      case rel =>
       refine⟨k+1,by omega,by go_num,fun j hj=>?_,below_drewN hnx _⟩;rcases Nat.lt_or_ge j k with h1|h1
       . exact HALL.out j h1
       . rw[show j=k by omega,HX.out,HY.out]
      case measure=>simp[intOf];omega
    . have hxx:((x:Int) != (y:Int))=true:=by simp;omega
      have hDf:D=false:=by
       rw[<-HDD.out];refine qB (fun e=>?_);have h1:=HX.out;rw[e,HY.out]at h1;exact hxy h1.symm
      clear hxy;go_wp2_with fail
      go_quiet (fail)
      go_wp2;go_ret;exact⟨zaa (by rw[hDf]),below_drewN hnx _⟩
  . obtain rfl:k=xs.length:=by omega
    have hDt:D=true:=by
     rw[<-HDD.out];exact qC (zsa (by rw[HLY.out]) HALL.out)
    go_wp2;go_ret;exact⟨zaa (by rw[hDt]),hnx⟩
theorem za7{B b:Nat}{w u:World}(h:Below B w u)(hb:B<=b)(y0 y1 y2 y3 y4:Value):Below B w (((((u.setCell ⟨b,0,none⟩ y0).setCell ⟨b,1,none⟩ y1).setCell ⟨b,2,none⟩ y2).setCell ⟨b,3,none⟩ y3).setCell ⟨b,4,none⟩ y4):=((((h.setCell (p:=⟨b,0,none⟩) hb _).setCell (p:=⟨b,1,none⟩) hb _).setCell (p:=⟨b,2,none⟩) hb _).setCell (p:=⟨b,3,none⟩) hb _).setCell (p:=⟨b,4,none⟩) hb _
theorem zcq(a:OA)(ca:Nat)(b:OA)(cb:Nat)(l:LI)(w:World)(ha:Ri w a ca l)(hb:Ri w b cb l) :
 Calls Tryz.prog 98 #[.slice a l.length ca,.slice b l.length cb] w fun e w'=>e=.returned (.bool true)/\Below w.heap.size w w':=by
 have k1:=ha.lenB;have g1:((l.length:Int) != (l.length:Int))=false:=by simp
 go_enter func98,ntmps98;go_wp2;clear g1
 go_loopw [5] (fun i wr=>∃k:Nat,k<=l.length/\i=.int .i64 k/\Below w.heap.size w wr) (fun i _=>l.length-(intOf i).toNat)
 case atStart=>exact⟨0,qD _,rfl,Below.refl _ _⟩
 case round =>
  obtain⟨k,hk,rfl,hnx⟩:=hrel;by_cases hkn:k<l.length
  . obtain⟨b1,o1,ea,_,d1⟩:=ha.at hnx k hkn
    obtain⟨b2,o2,eb,_,d2⟩:=hb.at hnx k hkn;generalize l.getD k 0=z at *;have i1:(0:Int)<=(k:Int):=(by omega);have i2:(k:Int)<(l.length:Int):=(by omega);subst ea eb;go_wp2_with fail
    go_quiet (fail)
    go_wp2;go_roundw
    case rel=>exact⟨k+1,by omega,by go_num,below_drewN hnx _⟩
    case measure=>simp[intOf];omega
  . have g1:¬(k:Int)<(l.length:Int):=by omega
    go_wp2;go_ret;exact⟨rfl,hnx⟩
theorem zoz(S S2:Nat->Prop)(a:OA)(ca:Nat)(b:OA)(cb:Nat)(l:List Tu)(w:World)(ha:Gr TuE S w a ca l)(hb:Gr TuE S2 w b cb l) :
 Calls Tryz.prog 56 #[.slice a l.length ca,.slice b l.length cb] w fun e w'=>e=.returned (.bool true)/\Below w.heap.size w w':=by
 have k1:=ha.lenB;have g1:((l.length:Int) != (l.length:Int))=false:=by simp
 obtain⟨W,hW⟩:∃W,W=w:=⟨_,rfl⟩;rw[<-hW]at ha hb ⊢;clear hW;go_enter func56,ntmps56;go_wp2;clear g1
 go_loopw [5] (fun i wr=>∃k:Nat,k<=l.length/\i=.int .i64 k/\Below W.heap.size W wr) (fun i _=>l.length-(intOf i).toNat)
 case atStart=>exact⟨0,qD _,rfl,Below.refl _ _⟩
 case round =>
  obtain⟨k,hk,rfl,hB⟩:=hrel;by_cases hkn:k<l.length
  . obtain⟨b1,o1,ra,rc,pa,pc,xa,xc,ya,yc,ea,hl1,ht1,c0,c1,c2,c3,c4⟩:=ha.tu (Below.refl _ _) k hkn
    obtain⟨b2,o2,ra',rc',pa',pc',xa',xc',ya',yc',eb,hl2,ht2,d0,d1,d2,d3,d4⟩:=hb.tu (Below.refl _ _) k hkn;obtain⟨t,htt⟩:∃t,l.getD k Tu.none=t:=⟨_,rfl⟩;rw[htt]at ht1 ht2 c0 c1 c2 c3 c4 d0 d1 d2 d3 d4;clear htt;obtain⟨n1,n2,n3,n4⟩:=ht1.len;have HT1:Hid (∀U,Below W.heap.size W U->TuC S U ra rc pa pc xa xc ya yc t):=fun U hU=>ht1.below hU;have HT2:Hid (∀U,Below W.heap.size W U->TuC S2 U ra' rc' pa' pc' xa' xc' ya' yc' t):=fun U hU=>ht2.below hU;have zt6:Hid (∀u,Below W.heap.size W u->u.cell? ⟨b1,o1+k*5,none⟩=some (.slice ra t.rg.length rc)/\u.cell? ⟨b1,o1+k*5+1,none⟩=some (.bool t.al)/\u.cell? ⟨b1,o1+k*5+2,none⟩=some (.slice pa t.pts.length pc)/\u.cell? ⟨b1,o1+k*5+3,none⟩=some (.slice xa t.dx.length xc)/\u.cell? ⟨b1,o1+k*5+4,none⟩=some (.slice ya t.dy.length yc)/\u.cell? ⟨b2,o2+k*5,none⟩=some (.slice ra' t.rg.length rc')/\u.cell? ⟨b2,o2+k*5+1,none⟩=some (.bool t.al)/\u.cell? ⟨b2,o2+k*5+2,none⟩=some (.slice pa' t.pts.length pc')/\u.cell? ⟨b2,o2+k*5+3,none⟩=some (.slice xa' t.dx.length xc')/\u.cell? ⟨b2,o2+k*5+4,none⟩=some (.slice ya' t.dy.length yc')):=fun u hU=>⟨(hU.cell (p:=⟨b1,o1+k*5,none⟩) hl1).trans c0,(hU.cell (p:=⟨b1,o1+k*5+1,none⟩) hl1).trans c1,(hU.cell (p:=⟨b1,o1+k*5+2,none⟩) hl1).trans c2,(hU.cell (p:=⟨b1,o1+k*5+3,none⟩) hl1).trans c3,(hU.cell (p:=⟨b1,o1+k*5+4,none⟩) hl1).trans c4,(hU.cell (p:=⟨b2,o2+k*5,none⟩) hl2).trans d0,(hU.cell (p:=⟨b2,o2+k*5+1,none⟩) hl2).trans d1,(hU.cell (p:=⟨b2,o2+k*5+2,none⟩) hl2).trans d2,(hU.cell (p:=⟨b2,o2+k*5+3,none⟩) hl2).trans d3,(hU.cell (p:=⟨b2,o2+k*5+4,none⟩) hl2).trans d4⟩;have i1:(0:Int)<=(k:Int):=(by omega);have i2:(k:Int)<(l.length:Int):=(by omega);subst ea eb;clear ht1 ht2 c0 c1 c2 c3 c4 d0 d1 d2 d3 d4;go_upto_region 6 with fail
    have hTN:=zt6.out wr hB;refine wp_region_held_drew (S:=(fun u=>u.cell? ⟨b1,o1+k*5,none⟩=some (.slice ra t.rg.length rc)/\u.cell? ⟨b1,o1+k*5+1,none⟩=some (.bool t.al)/\u.cell? ⟨b1,o1+k*5+2,none⟩=some (.slice pa t.pts.length pc)/\u.cell? ⟨b1,o1+k*5+3,none⟩=some (.slice xa t.dx.length xc)/\u.cell? ⟨b1,o1+k*5+4,none⟩=some (.slice ya t.dy.length yc)/\u.cell? ⟨b2,o2+k*5,none⟩=some (.slice ra' t.rg.length rc')/\u.cell? ⟨b2,o2+k*5+1,none⟩=some (.bool t.al)/\u.cell? ⟨b2,o2+k*5+2,none⟩=some (.slice pa' t.pts.length pc')/\u.cell? ⟨b2,o2+k*5+3,none⟩=some (.slice xa' t.dx.length xc')/\u.cell? ⟨b2,o2+k*5+4,none⟩=some (.slice ya' t.dy.length yc'))) (by kernel_rfl) ?_ (fun hH=>?_)
    . (try dsimp only)
      exact zt6.out _ (hB.trans (Below.drew1.mono hB.size))
    have hdr:Below wr.heap.size wr wr.drew:=Below.drew1;generalize wr.drew=ud at hdr hH ⊢;replace hB:=hB.trans (hdr.mono hB.size);clear hdr hTN;refine hT 0 hH ?_;refine hT 1 hH ?_;refine hT 2 hH ?_;refine hT 3 hH ?_;refine hT 4 hH ?_;refine hT 5 hH ?_;refine hT 6 hH ?_;refine hT 7 hH ?_;refine wpAnyH_ready (rs:=[8,9]) (by kernel_rfl) (by simp) (hCons (i:=8) rfl (by rfl) (fun K hK=>?_) (hCons (i:=9) rfl (by rfl) (fun K hK=>?_) AllReadyH.nil))
    . go_simp
      obtain⟨U1,hU,X6,hbA⟩:∃V,V=ud.alloc (.cells #[.slice none 0 0,.bool false,.slice none 0 0,.slice none 0 0,.slice none 0 0] 144)/\Bk 144 V ud.heap.size [.slice none 0 0,.bool false,.slice none 0 0,.slice none 0 0,.slice none 0 0]/\Below ud.heap.size ud V:=⟨_,rfl,Bk.new _ _ _,bl1 _⟩;rw[<-hU];have hge6:W.heap.size<=ud.heap.size:=hB.size;replace hB:=hB.trans (hbA.mono hB.size);clear hU hbA;generalize ud.heap.size=g6 at *;refine hK.out _ _ ?_ (fun hH=>?_)
      . (try dsimp only)
        exact zt6.out _ hB
      clear hK K;try simp only[Act.put,pZ]
      refine hCall (i:=9) rfl (by kernel_rfl) (by rfl) (fun K hK=>?_);go_simp;obtain⟨U2,hU,X7,hbA⟩:∃V,V=U1.alloc (.cells #[.slice none 0 0,.bool false,.slice none 0 0,.slice none 0 0,.slice none 0 0] 144)/\Bk 144 V U1.heap.size [.slice none 0 0,.bool false,.slice none 0 0,.slice none 0 0,.slice none 0 0]/\Below U1.heap.size U1 V:=⟨_,rfl,Bk.new _ _ _,bl1 _⟩;rw[<-hU];have hne:U1.heap.size≠g6:=(by have:=X6.lt;omega);replace X6:=X6.below hbA;have hge7:W.heap.size<=U1.heap.size:=hB.size;replace hB:=hB.trans (hbA.mono hB.size);clear hU hbA;generalize U1.heap.size=g7 at *;refine hK.out _ _ ?_ (fun hH=>?_)
      . (try dsimp only)
        exact zt6.out _ hB
      clear hK K;try simp only[Act.put,pZ]
      have hge:W.heap.size<=g6/\W.heap.size<=g7:=⟨hge6,hge7⟩;refine hCall (i:=10) rfl (by kernel_rfl) (by rfl) (fun K hK=>?_);obtain⟨y0,y1,y2,y3,y4,f0,f1,f2,f3,f4⟩:=X6.five;go_simp;replace X6:=X6.set5U (.slice ra t.rg.length rc) (.bool t.al) (.slice pa t.pts.length pc) (.slice xa t.dx.length xc) (.slice ya t.dy.length yc);replace X7:=X7.other5 (b:=g6) (hne) (.slice ra t.rg.length rc) (.bool t.al) (.slice pa t.pts.length pc) (.slice xa t.dx.length xc) (.slice ya t.dy.length yc);replace hB:=za7 (b:=g6) hB hge.1 (.slice ra t.rg.length rc) (.bool t.al) (.slice pa t.pts.length pc) (.slice xa t.dx.length xc) (.slice ya t.dy.length yc);clear y0 y1 y2 y3 y4 f0 f1 f2 f3 f4;generalize (((((U2.setCell ⟨g6,0,none⟩ (.slice ra t.rg.length rc)).setCell ⟨g6,1,none⟩ (.bool t.al)).setCell ⟨g6,2,none⟩ (.slice pa t.pts.length pc)).setCell ⟨g6,3,none⟩ (.slice xa t.dx.length xc)).setCell ⟨g6,4,none⟩ (.slice ya t.dy.length yc))=U3 at *;refine hK.out _ _ ?_ (fun hH=>?_)
      . (try dsimp only)
        exact zt6.out _ hB
      clear hK K;try simp only[Act.put,pZ]
      refine hCall (i:=11) rfl (by kernel_rfl) (by rfl) (fun K hK=>?_);obtain⟨y0,y1,y2,y3,y4,f0,f1,f2,f3,f4⟩:=X7.five;go_simp;replace X7:=X7.set5U (.slice ra' t.rg.length rc') (.bool t.al) (.slice pa' t.pts.length pc') (.slice xa' t.dx.length xc') (.slice ya' t.dy.length yc');replace X6:=X6.other5 (b:=g7) (fun e=>hne e.symm) (.slice ra' t.rg.length rc') (.bool t.al) (.slice pa' t.pts.length pc') (.slice xa' t.dx.length xc') (.slice ya' t.dy.length yc');replace hB:=za7 (b:=g7) hB hge.2 (.slice ra' t.rg.length rc') (.bool t.al) (.slice pa' t.pts.length pc') (.slice xa' t.dx.length xc') (.slice ya' t.dy.length yc');clear y0 y1 y2 y3 y4 f0 f1 f2 f3 f4;generalize (((((U3.setCell ⟨g7,0,none⟩ (.slice ra' t.rg.length rc')).setCell ⟨g7,1,none⟩ (.bool t.al)).setCell ⟨g7,2,none⟩ (.slice pa' t.pts.length pc')).setCell ⟨g7,3,none⟩ (.slice xa' t.dx.length xc')).setCell ⟨g7,4,none⟩ (.slice ya' t.dy.length yc'))=U4 at *;refine hK.out _ _ ?_ (fun hH=>?_)
      . (try dsimp only)
        exact zt6.out _ hB
      clear hK K;try simp only[Act.put,pZ]
      refine wpAnyH_done (by kernel_rfl) ?_ _;clear hH hne;have h1:=zcq pa pc pa' pc' t.pts U4 (HT1.out U4 hB).pts (HT2.out U4 hB).pts;have h2:=fun U hU=>zcq xa xc xa' xc' t.dx U (HT1.out U hU).dx (HT2.out U hU).dx;have h3:=fun U hU=>zcq ya yc ya' yc' t.dy U (HT1.out U hU).dy (HT2.out U hU).dy;have gl:((t.rg.length:Int) != (t.rg.length:Int))=false:=(by simp);have gb:(t.al != t.al)=false:=(by simp);obtain⟨y0,y1,y2,y3,y4,-⟩:=X6.five;obtain⟨z0,z1,z2,z3,z4,-⟩:=X7.five;go_wp2_with fail
      refine h1.mono ?_;rintro e v1 ⟨rfl,hb⟩;replace X6:=X6.below hb;replace X7:=X7.below hb;replace hB:=hB.trans (hb.mono hB.size);clear h1 hb y0 y1 y2 y3 y4 z0 z1 z2 z3 z4;obtain⟨y0,y1,y2,y3,y4,-⟩:=X6.five;obtain⟨z0,z1,z2,z3,z4,-⟩:=X7.five;go_wp2_with fail
      refine(h2 v1 hB).mono ?_;rintro e v2 ⟨rfl,hb⟩;replace X6:=X6.below hb;replace X7:=X7.below hb;replace hB:=hB.trans (hb.mono hB.size);clear h2 hb y0 y1 y2 y3 y4 z0 z1 z2 z3 z4;obtain⟨y0,y1,y2,y3,y4,-⟩:=X6.five;obtain⟨z0,z1,z2,z3,z4,-⟩:=X7.five;go_wp2_with fail
      refine(h3 v2 hB).mono ?_;rintro e v3 ⟨rfl,hb⟩;replace X6:=X6.below hb;replace X7:=X7.below hb;replace hB:=hB.trans (hb.mono hB.size);clear h3 hb y0 y1 y2 y3 y4 z0 z1 z2 z3 z4;obtain⟨y0,y1,y2,y3,y4,-⟩:=X6.five;obtain⟨z0,z1,z2,z3,z4,-⟩:=X7.five;have HX6:Hid (Bk 144 v3 g6 [.slice ra t.rg.length rc,.bool t.al,.slice pa t.pts.length pc,.slice xa t.dx.length xc,.slice ya t.dy.length yc]):=X6;have HX7:Hid (Bk 144 v3 g7 [.slice ra' t.rg.length rc',.bool t.al,.slice pa' t.pts.length pc',.slice xa' t.dx.length xc',.slice ya' t.dy.length yc']):=X7;have HP1:Hid (Tz v3 ra rc t.rg):=(HT1.out v3 hB).tz;have HP2:Hid (Tz v3 ra' rc' t.rg):=(HT2.out v3 hB).tz;have HBV:Hid (Below W.heap.size W v3):=hB;clear X6 X7 hB;go_wp2;clear y0 y1 y2 y3 y4 z0 z1 z2 z3 z4 gl gb
      go_loopw [8] (fun i wr2=>∃j:Nat,j<=t.rg.length/\i=.int .i64 j/\Below v3.heap.size v3 wr2) (fun i _=>t.rg.length-(intOf i).toNat)
      case atStart=>exact⟨0,qD _,rfl,Below.refl _ _⟩
      case round =>
       obtain⟨j,hj,rfl,hny⟩:=hrel;obtain⟨y0,-⟩:=(HX6.out.below hny).five;obtain⟨z0,-⟩:=(HX7.out.below hny).five;by_cases hjn:j<t.rg.length
       . obtain⟨b3,o3,ec,_,m0,m1,m2⟩:=HP1.out.at hny j hjn
         obtain⟨b4,o4,ed,_,d0,d1,d2⟩:=HP2.out.at hny j hjn;generalize t.rg.getD j Te.none=te at *;obtain⟨x,y,z⟩:=te;dsimp only at m0 m1 m2 d0 d1 d2;subst ec ed;have i3:(0:Int)<=(j:Int):=(by omega);have i4:(j:Int)<(t.rg.length:Int):=(by omega);go_wp2_with fail
         go_quiet (fail)
         go_wp2;go_roundw
         case rel=>exact⟨j+1,by omega,by go_num,below_drewN hny _⟩
         case measure=>simp[intOf];omega
       . have g1:¬(j:Int)<(t.rg.length:Int):=by omega
         have hBf:Below W.heap.size W wr:=HBV.out.trans (hny.mono HBV.out.size);go_wp2;go_roundw
         case rel=>exact⟨k+1,by omega,by go_num,hBf⟩
         case measure=>simp[intOf];omega
    . go_simp
      obtain⟨U1,hU,X7,hbA⟩:∃V,V=ud.alloc (.cells #[.slice none 0 0,.bool false,.slice none 0 0,.slice none 0 0,.slice none 0 0] 144)/\Bk 144 V ud.heap.size [.slice none 0 0,.bool false,.slice none 0 0,.slice none 0 0,.slice none 0 0]/\Below ud.heap.size ud V:=⟨_,rfl,Bk.new _ _ _,bl1 _⟩;rw[<-hU];have hge7:W.heap.size<=ud.heap.size:=hB.size;replace hB:=hB.trans (hbA.mono hB.size);clear hU hbA;generalize ud.heap.size=g7 at *;refine hK.out _ _ ?_ (fun hH=>?_)
      . (try dsimp only)
        exact zt6.out _ hB
      clear hK K;try simp only[Act.put,pZ]
      refine hCall (i:=8) rfl (by kernel_rfl) (by rfl) (fun K hK=>?_);go_simp;obtain⟨U2,hU,X6,hbA⟩:∃V,V=U1.alloc (.cells #[.slice none 0 0,.bool false,.slice none 0 0,.slice none 0 0,.slice none 0 0] 144)/\Bk 144 V U1.heap.size [.slice none 0 0,.bool false,.slice none 0 0,.slice none 0 0,.slice none 0 0]/\Below U1.heap.size U1 V:=⟨_,rfl,Bk.new _ _ _,bl1 _⟩;rw[<-hU];have hne:U1.heap.size≠g7:=(by have:=X7.lt;omega);replace X7:=X7.below hbA;have hge6:W.heap.size<=U1.heap.size:=hB.size;replace hB:=hB.trans (hbA.mono hB.size);clear hU hbA;generalize U1.heap.size=g6 at *;refine hK.out _ _ ?_ (fun hH=>?_)
      . (try dsimp only)
        exact zt6.out _ hB
      clear hK K;try simp only[Act.put,pZ]
      have hge:W.heap.size<=g6/\W.heap.size<=g7:=⟨hge6,hge7⟩;refine hCall (i:=10) rfl (by kernel_rfl) (by rfl) (fun K hK=>?_);obtain⟨y0,y1,y2,y3,y4,f0,f1,f2,f3,f4⟩:=X6.five;go_simp;replace X6:=X6.set5U (.slice ra t.rg.length rc) (.bool t.al) (.slice pa t.pts.length pc) (.slice xa t.dx.length xc) (.slice ya t.dy.length yc);replace X7:=X7.other5 (b:=g6) (fun e=>hne e.symm) (.slice ra t.rg.length rc) (.bool t.al) (.slice pa t.pts.length pc) (.slice xa t.dx.length xc) (.slice ya t.dy.length yc);replace hB:=za7 (b:=g6) hB hge.1 (.slice ra t.rg.length rc) (.bool t.al) (.slice pa t.pts.length pc) (.slice xa t.dx.length xc) (.slice ya t.dy.length yc);clear y0 y1 y2 y3 y4 f0 f1 f2 f3 f4;generalize (((((U2.setCell ⟨g6,0,none⟩ (.slice ra t.rg.length rc)).setCell ⟨g6,1,none⟩ (.bool t.al)).setCell ⟨g6,2,none⟩ (.slice pa t.pts.length pc)).setCell ⟨g6,3,none⟩ (.slice xa t.dx.length xc)).setCell ⟨g6,4,none⟩ (.slice ya t.dy.length yc))=U3 at *;refine hK.out _ _ ?_ (fun hH=>?_)
      . (try dsimp only)
        exact zt6.out _ hB
      clear hK K;try simp only[Act.put,pZ]
      refine hCall (i:=11) rfl (by kernel_rfl) (by rfl) (fun K hK=>?_);obtain⟨y0,y1,y2,y3,y4,f0,f1,f2,f3,f4⟩:=X7.five;go_simp;replace X7:=X7.set5U (.slice ra' t.rg.length rc') (.bool t.al) (.slice pa' t.pts.length pc') (.slice xa' t.dx.length xc') (.slice ya' t.dy.length yc');replace X6:=X6.other5 (b:=g7) (hne) (.slice ra' t.rg.length rc') (.bool t.al) (.slice pa' t.pts.length pc') (.slice xa' t.dx.length xc') (.slice ya' t.dy.length yc');replace hB:=za7 (b:=g7) hB hge.2 (.slice ra' t.rg.length rc') (.bool t.al) (.slice pa' t.pts.length pc') (.slice xa' t.dx.length xc') (.slice ya' t.dy.length yc');clear y0 y1 y2 y3 y4 f0 f1 f2 f3 f4;generalize (((((U3.setCell ⟨g7,0,none⟩ (.slice ra' t.rg.length rc')).setCell ⟨g7,1,none⟩ (.bool t.al)).setCell ⟨g7,2,none⟩ (.slice pa' t.pts.length pc')).setCell ⟨g7,3,none⟩ (.slice xa' t.dx.length xc')).setCell ⟨g7,4,none⟩ (.slice ya' t.dy.length yc'))=U4 at *;refine hK.out _ _ ?_ (fun hH=>?_)
      . (try dsimp only)
        exact zt6.out _ hB
      clear hK K;try simp only[Act.put,pZ]
      refine wpAnyH_done (by kernel_rfl) ?_ _;clear hH hne;have h1:=zcq pa pc pa' pc' t.pts U4 (HT1.out U4 hB).pts (HT2.out U4 hB).pts;have h2:=fun U hU=>zcq xa xc xa' xc' t.dx U (HT1.out U hU).dx (HT2.out U hU).dx;have h3:=fun U hU=>zcq ya yc ya' yc' t.dy U (HT1.out U hU).dy (HT2.out U hU).dy;have gl:((t.rg.length:Int) != (t.rg.length:Int))=false:=(by simp);have gb:(t.al != t.al)=false:=(by simp);obtain⟨y0,y1,y2,y3,y4,-⟩:=X6.five;obtain⟨z0,z1,z2,z3,z4,-⟩:=X7.five;go_wp2_with fail
      refine h1.mono ?_;rintro e v1 ⟨rfl,hb⟩;replace X6:=X6.below hb;replace X7:=X7.below hb;replace hB:=hB.trans (hb.mono hB.size);clear h1 hb y0 y1 y2 y3 y4 z0 z1 z2 z3 z4;obtain⟨y0,y1,y2,y3,y4,-⟩:=X6.five;obtain⟨z0,z1,z2,z3,z4,-⟩:=X7.five;go_wp2_with fail
      refine(h2 v1 hB).mono ?_;rintro e v2 ⟨rfl,hb⟩;replace X6:=X6.below hb;replace X7:=X7.below hb;replace hB:=hB.trans (hb.mono hB.size);clear h2 hb y0 y1 y2 y3 y4 z0 z1 z2 z3 z4;obtain⟨y0,y1,y2,y3,y4,-⟩:=X6.five;obtain⟨z0,z1,z2,z3,z4,-⟩:=X7.five;go_wp2_with fail
      refine(h3 v2 hB).mono ?_;rintro e v3 ⟨rfl,hb⟩;replace X6:=X6.below hb;replace X7:=X7.below hb;replace hB:=hB.trans (hb.mono hB.size);clear h3 hb y0 y1 y2 y3 y4 z0 z1 z2 z3 z4;obtain⟨y0,y1,y2,y3,y4,-⟩:=X6.five;obtain⟨z0,z1,z2,z3,z4,-⟩:=X7.five;have HX6:Hid (Bk 144 v3 g6 [.slice ra t.rg.length rc,.bool t.al,.slice pa t.pts.length pc,.slice xa t.dx.length xc,.slice ya t.dy.length yc]):=X6;have HX7:Hid (Bk 144 v3 g7 [.slice ra' t.rg.length rc',.bool t.al,.slice pa' t.pts.length pc',.slice xa' t.dx.length xc',.slice ya' t.dy.length yc']):=X7;have HP1:Hid (Tz v3 ra rc t.rg):=(HT1.out v3 hB).tz;have HP2:Hid (Tz v3 ra' rc' t.rg):=(HT2.out v3 hB).tz;have HBV:Hid (Below W.heap.size W v3):=hB;clear X6 X7 hB;go_wp2;clear y0 y1 y2 y3 y4 z0 z1 z2 z3 z4 gl gb
      go_loopw [8] (fun i wr2=>∃j:Nat,j<=t.rg.length/\i=.int .i64 j/\Below v3.heap.size v3 wr2) (fun i _=>t.rg.length-(intOf i).toNat)
      case atStart=>exact⟨0,qD _,rfl,Below.refl _ _⟩
      case round =>
       obtain⟨j,hj,rfl,hny⟩:=hrel;obtain⟨y0,-⟩:=(HX6.out.below hny).five;obtain⟨z0,-⟩:=(HX7.out.below hny).five;by_cases hjn:j<t.rg.length
       . obtain⟨b3,o3,ec,_,m0,m1,m2⟩:=HP1.out.at hny j hjn
         obtain⟨b4,o4,ed,_,d0,d1,d2⟩:=HP2.out.at hny j hjn;generalize t.rg.getD j Te.none=te at *;obtain⟨x,y,z⟩:=te;dsimp only at m0 m1 m2 d0 d1 d2;subst ec ed;have i3:(0:Int)<=(j:Int):=(by omega);have i4:(j:Int)<(t.rg.length:Int):=(by omega);go_wp2_with fail
         go_quiet (fail)
         go_wp2;go_roundw
         case rel=>exact⟨j+1,by omega,by go_num,below_drewN hny _⟩
         case measure=>simp[intOf];omega
       . have g1:¬(j:Int)<(t.rg.length:Int):=by omega
         have hBf:Below W.heap.size W wr:=HBV.out.trans (hny.mono HBV.out.size);go_wp2;go_roundw
         case rel=>exact⟨k+1,by omega,by go_num,hBf⟩
         case measure=>simp[intOf];omega
  . have g1:¬(k:Int)<(l.length:Int):=by omega
    go_wp2;go_ret;exact⟨rfl,hB⟩
def axI(d sh sm:Int):Int:=if d=0 then sm else if 0<d/\d<256 then sh+sm else if d<0/\-256<d then sh else 0
theorem axI_x(d:Int):axI d 2 16=(axF d 2 16:Int):=by unfold axI axF;split <;> (try split) <;> (try split) <;> rfl
theorem axI_y(d:Int):axI d 4 32=(axF d 4 32:Int):=by unfold axI axF;split <;> (try split) <;> (try split) <;> rfl
theorem zlj(d sh sm:Int):axI d sh sm=sm\/axI d sh sm=sh+sm\/axI d sh sm=sh\/axI d sh sm=0:=by
 unfold axI;split <;> (try split) <;> (try split) <;> simp
theorem or_xy(d e:Int):bits BinOp.or IntKind.i64 (axI d 2 16) (axI e 4 32)=axI d 2 16+axI e 4 32/\bits BinOp.or IntKind.i64 (axI d 2 16+axI e 4 32) 1=axI d 2 16+axI e 4 32+1/\0<=axI d 2 16+axI e 4 32/\axI d 2 16+axI e 4 32<=62:=by
 rcases zlj d 2 16 with h|h|h|h <;> rcases zlj e 4 32 with k|k|k|k <;> rw[h,k] <;> decide
theorem or_x:bits BinOp.or IntKind.i64 2 16=2+16:=by decide
theorem or_y:bits BinOp.or IntKind.i64 4 32=4+32:=by decide
theorem zlg(d sh sm:Int)(w:World)(hor:bits BinOp.or IntKind.i64 sh sm=sh+sm) :
 Calls Tryz.prog 186 #[.int .i64 d,.int .i64 sh,.int .i64 sm] w fun e w'=>e=.returned (.int .i64 (axI d sh sm))/\w=w':=by
 by_cases h0:d=0
 . have HE:Hid (axI d sh sm=sm):=if_pos h0
   have g1:(d==0)=true:=(by simp[h0]);clear h0;go_enter func186,ntmps186;go_wp2;go_ret;exact⟨by rw[HE.out];rfl,rfl⟩
 have g1:(d==0)=false:=by simp[h0]
 by_cases h1:0<d
 . have g2:decide (0<d)=true:=qC h1
   have g4:decide (d<0)=false:=qB (by omega);by_cases h2:d<=255
   . have HE:Hid (axI d sh sm=sh+sm):=by show _=_;rw[axI,if_neg h0,if_pos (by omega)]
     have g3:decide (d<=255)=true:=qC h2;clear h0 h1 h2;go_enter func186,ntmps186;go_wp2;go_ret;exact⟨by rw[HE.out];rfl,rfl⟩
   . have HE:Hid (axI d sh sm=0):=by show _=_;rw[axI,if_neg h0,if_neg (by omega),if_neg (by omega)]
     have g3:decide (d<=255)=false:=qB h2;clear h0 h1 h2;go_enter func186,ntmps186;go_wp2;go_ret;exact⟨by rw[HE.out];rfl,rfl⟩
 . have g2:decide (0<d)=false:=qB h1
   have g4:decide (d<0)=true:=qC (by omega);by_cases h2:-255<=d
   . have HE:Hid (axI d sh sm=sh):=by show _=_;rw[axI,if_neg h0,if_neg (by omega),if_pos (by omega)]
     have g3:decide (-255<=d)=true:=qC h2;clear h0 h1 h2;go_enter func186,ntmps186;go_wp2;go_ret;exact⟨by rw[HE.out];rfl,rfl⟩
   . have HE:Hid (axI d sh sm=0):=by show _=_;rw[axI,if_neg h0,if_neg (by omega),if_neg (by omega)]
     have g3:decide (-255<=d)=false:=qB h2;clear h0 h1 h2;go_enter func186,ntmps186;go_wp2;go_ret;exact⟨by rw[HE.out];rfl,rfl⟩
def stX(l:List Pn):LI:=(difs 0 0 l).map (fun t=>t.1)
def stY(l:List Pn):LI:=(difs 0 0 l).map (fun t=>t.2.1)
def ahP(l:List Pn)(k:Nat):Pn:=if k=0 then Pn.none else l.getD (k-1) Pn.none
theorem zhe(l:List Pn):(stX l).length=l.length:=by unfold stX;rw[qK,za8]
theorem zhd(l:List Pn):(stY l).length=l.length:=by unfold stY;rw[qK,za8]
theorem ze4{α β:Type}(f:α->β)(l:List α)(k:Nat)(d:α)(e:β)(hk:k<l.length):(l.map f).getD k e=f (l.getD k d):=by simp[List.getD,hk]
theorem zyb{l:List Pn}{k:Nat}(hk:k<l.length):(stX l).getD k 0=(l.getD k Pn.none).x-(ahP l k).x:=by
 unfold stX ahP;rw[ze4 _ _ _ (0,0,false) _ (by rw[za8];exact hk),zgr l 0 0 k hk];by_cases h0:k=0
 . simp[h0,Pn.none]
 . simp[h0]
theorem zya{l:List Pn}{k:Nat}(hk:k<l.length):(stY l).getD k 0=(l.getD k Pn.none).y-(ahP l k).y:=by
 unfold stY ahP;rw[ze4 _ _ _ (0,0,false) _ (by rw[za8];exact hk),zgr l 0 0 k hk];by_cases h0:k=0
 . simp[h0,Pn.none]
 . simp[h0]
theorem zz6{l:List Pn}{k:Nat}(hk:k<l.length):(flL l).getD k 0=axI ((stX l).getD k 0) 2 16+axI ((stY l).getD k 0) 4 32+(if (l.getD k Pn.none).on then 1 else 0):=by
 have hd:k<(difs 0 0 l).length:=by rw[za8];exact hk
 unfold flL stX stY;rw[ze4 _ _ _ (0,0,false) _ hd,ze4 _ _ _ (0,0,false) _ hd,ze4 _ _ _ (0,0,false) _ hd,axI_x,axI_y];have:=zgr l 0 0 k hk;have h2:((difs 0 0 l).getD k (0,0,false)).2.2=(l.getD k Pn.none).on:=by rw[this]
 unfold flg;rw[h2];cases (l.getD k Pn.none).on <;> simp
def PnF(p:Pn):Prop:=(-32768<=p.x/\p.x<=32767)/\(-32768<=p.y/\p.y<=32767)
theorem ahP_F{l:List Pn}(h:∀k,k<l.length->PnF (l.getD k Pn.none)){k:Nat}(hk:k<=l.length):PnF (ahP l k):=by
 unfold ahP;split
 . exact⟨by decide,by decide⟩
 . exact h _ (by omega)
theorem zwl(l:List Pn)(k:Nat):ahP l (k+1)=l.getD k Pn.none:=by unfold ahP;rw[if_neg (by omega),Nat.add_sub_cancel]
def PaF(p:Pa):Prop:=(0<=p.g/\p.g<=65535)/\(-32768<=p.dx/\p.dx<=32767)/\(-32768<=p.dy/\p.dy<=32767)
theorem zoa{z:Int}(h:fdB z=false):¬(-32768<=z/\z<=32767):=fun h1=>by rw[zbc.2 h1]at h;cases h
theorem ziq(S:Nat->Prop)(a:OA)(ca:Nat)(b:OA)(cb:Nat)(o:Ol)(w:World)(hc:Gr PnE.row S w a ca o.cs)(hp:Gr PaE S w b cb o.ps)(hl:o.cs.flatten.length<=100000) :
 Calls Tryz.prog 82 #[.agg #[.slice a o.cs.length ca,.slice b o.ps.length cb]] w fun e w'=>e=.returned (.bool (foB o))/\Below w.heap.size w w':=by
 have k1:=hc.lenB;have k2:=hp.lenB;have HNO:Hid (¬FoP o->false=foB o):=fun h=>(Bool.eq_false_iff.2 (fun h1=>h (zbg.1 h1))).symm;have HYE:Hid (FoP o->true=foB o):=fun h=>(zbg.2 h).symm;obtain⟨W,hW,X1,hbW⟩:∃W,W=w.alloc (.cells #[.slice a o.cs.length ca,.slice b o.ps.length cb] 57)/\Bk 57 W w.heap.size [.slice a o.cs.length ca,.slice b o.ps.length cb]/\Below w.heap.size w W:=⟨_,rfl,Bk.new _ _ _,bl1 _⟩;have HC:Hid (Gr PnE.row S W a ca o.cs):=hc.below hbW;have HP:Hid (Gr PaE S W b cb o.ps):=hp.below hbW;have HX:Hid (Bk 57 W w.heap.size [.slice a o.cs.length ca,.slice b o.ps.length cb]):=X1;have HBW:Hid (Below w.heap.size w W):=hbW;have hpt:=fun U h1=>zby S a ca (.slice b o.ps.length cb) o.cs U h1 hl rfl;obtain⟨x0,x1,_⟩:=X1.two;clear hc hp X1;have HNA:Hid (¬(¬(0<o.cs.length/\0<o.ps.length)/\o.cs.length<=10/\o.ps.length<=6)->false=foB o):=fun h=>HNO.out (fun h1=>h ⟨by have:=h1.1;omega,h1.2.1,h1.2.2.1⟩);go_enter func82,ntmps82;go_upto_region 1 with fail
 rw[<-hW];clear hW
 go_cut [29]from 8 (fun s29 wx=>∃q:Bool,s29=.bool q/\wx=W/\(q=true->false=foB o)/\(q=false->¬(0<o.cs.length/\0<o.ps.length)/\o.cs.length<=10/\o.ps.length<=6))
 case first =>
  clear HNO HYE hpt HC HP HX hbW HBW
  have fin:∀q:Bool,(q=true ↔ ¬(¬(0<o.cs.length/\0<o.ps.length)/\o.cs.length<=10/\o.ps.length<=6))->(q=true->false=foB o)/\(q=false->¬(0<o.cs.length/\0<o.ps.length)/\o.cs.length<=10/\o.ps.length<=6):=fun q h=>⟨fun h1=>HNA.out (h.1 h1),fun h1=>by
   by_cases h2:¬(0<o.cs.length/\0<o.ps.length)/\o.cs.length<=10/\o.ps.length<=6
   . exact h2
   . rw[h.2 h2]at h1;cases h1⟩
  have HFN:Hid (_):=fin;clear fin HNA;by_cases c0:0<o.cs.length
  . have g1:decide ((0:Int)<(o.cs.length:Int))=true:=qC (by omega)
    by_cases p0:0<o.ps.length
    . have g2:decide ((0:Int)<(o.ps.length:Int))=true:=qC (by omega)
      go_wp2_with fail
      go_meet;exact⟨true,rfl,rfl,HFN.out true (by constructor <;> intro _ <;> first | omega | rfl)⟩
    . have g2:decide ((0:Int)<(o.ps.length:Int))=false:=qB (by omega)
      by_cases c10:10<o.cs.length
      . have g3:decide ((10:Int)<(o.cs.length:Int))=true:=qC (by omega)
        go_wp2_with fail
        go_meet;exact⟨true,rfl,rfl,HFN.out true (by constructor <;> intro _ <;> first | omega | rfl)⟩
      . have g3:decide ((10:Int)<(o.cs.length:Int))=false:=qB (by omega)
        have g4:decide ((6:Int)<(o.ps.length:Int))=false:=qB (by omega);go_wp2_with fail
        go_meet;exact⟨false,rfl,rfl,HFN.out false (by constructor;(intro h;cases h);(intro h;omega))⟩
  . have g1:decide ((0:Int)<(o.cs.length:Int))=false:=qB (by omega)
    have g3:decide ((10:Int)<(o.cs.length:Int))=false:=qB (by omega);by_cases p6:6<o.ps.length
    . have g4:decide ((6:Int)<(o.ps.length:Int))=true:=qC (by omega)
      go_wp2_with fail
      go_meet;exact⟨true,rfl,rfl,HFN.out true (by constructor <;> intro _ <;> first | omega | rfl)⟩
    . have g4:decide ((6:Int)<(o.ps.length:Int))=false:=qB (by omega)
      go_wp2_with fail
      go_meet;exact⟨false,rfl,rfl,HFN.out false (by constructor;(intro h;cases h);(intro h;omega))⟩
 case rest =>
 obtain⟨q,rfl,rfl,hq1,hq2⟩:=hcut;cases q with
 | true =>
  have HF:Hid (false=foB o):=hq1 rfl;clear hq1 hq2 HNO HYE HNA hpt HC HP HX;go_wp2;go_ret;exact⟨zaa HF.out,hbW⟩
 | false =>
 have HA:Hid (_):=hq2 rfl;have hc10:=HA.out.2.1;have hp6:=HA.out.2.2;clear hq1 hq2 HNA x0 x1 hbW;go_wp2
 go_loopw [3] (fun i wr=>∃k:Nat,k<=o.cs.length/\i=.int .i64 k/\(∀j,j<k->0<(o.cs.getD j []).length)/\Below wc.heap.size wc wr) (fun i _=>o.cs.length-(intOf i).toNat)
 case atStart=>exact⟨0,qD _,rfl,(fun j hj=>by omega),Below.refl _ _⟩
 case round =>
  obtain⟨k,hk,rfl,hok,hB⟩:=hrel;have HOK:Hid (∀j,j<k->0<(o.cs.getD j []).length):=hok;clear hok;obtain⟨x0,x1,_⟩:=(HX.out.below hB).two;have hbW:Below w.heap.size w wr:=HBW.out.trans (hB.mono HBW.out.size);by_cases hkn:k<o.cs.length
  . obtain⟨b1,o1,a1,c1,ea,hb1,d0,_,hlb,_⟩:=HC.out.rw hB k hkn
    subst ea;have HN:Hid ((o.cs.getD k []).length=0->false=foB o):=fun h=>HNO.out (fun h1=>by have:=h1.2.2.2.1 _ (zla hkn);omega);have HS:Hid (0<(o.cs.getD k []).length->∀j,j<k+1->0<(o.cs.getD j []).length):=fun h j hj=>by
     rcases Nat.lt_or_ge j k with h1|h1
     . exact HOK.out j h1
     . rw[show j=k by omega];exact h
    generalize (o.cs.getD k []).length=n at *;have i1:(0:Int)<=(k:Int):=(by omega);have i2:(k:Int)<(o.cs.length:Int):=(by omega);clear hpt HOK;rcases Nat.eq_zero_or_pos n with h0|h0
    . subst h0
      have HF:Hid (false=foB o):=HN.out rfl;go_wp2;go_ret;exact⟨zaa HF.out,hbW⟩
    . have HS2:Hid (_):=HS.out h0
      have g1:¬(n:Int)=0:=(by omega);have g2:((n:Int)==0)=false:=(by simp;omega);clear HS HN;go_wp2;go_roundw
      case rel=>exact⟨k+1,by omega,by go_num,HS2.out,hB⟩
      case measure=>simp[intOf];omega
  . obtain rfl:k=o.cs.length:=by omega
    have HNE:Hid (∀c∈o.cs,0<c.length):=zfw HOK.out;have g1:¬(o.cs.length:Int)<(o.cs.length:Int):=(by omega);have hc1:=HC.out.below hB;have hx:=HX.out.below hB;have hp1:=HP.out.below hB;clear HOK HC HX HP HBW hB;go_wp2_with fail
    refine(hpt _ hc1).mono ?_;rintro e u1 ⟨a1,c1,rfl,hL,_,hb1⟩;have HX:Hid (Bk 57 u1 w.heap.size [.slice a o.cs.length ca,.slice b o.ps.length cb]):=hx.below hb1;have HP:Hid (Gr PaE S u1 b cb o.ps):=hp1.below hb1;have HB1:Hid (Below w.heap.size w u1):=hbW.trans (hb1.mono hbW.size);have HL:Hid (Gr PnE (fun _=>True) u1 a1 c1 o.cs.flatten):=hL;have HF6:Hid (∀p∈o.ps,PaF p->True):=fun _ _ _=>trivial;have HFP:Hid (FoP o↔(o.cs.flatten.length<=80/\(∀p∈o.cs.flatten,PnF p)/\∀p∈o.ps,PaF p)):=⟨fun h=>⟨h.2.2.2.2.1,h.2.2.2.2.2.1,h.2.2.2.2.2.2⟩,fun h=>⟨by have:=HA.out.1;omega,hc10,hp6,HNE.out,h.1,h.2.1,h.2.2⟩⟩;clear hpt hc1 hx hp1 hb1 hL x0 x1 HF6 HA HNE hbW;generalize o.cs.flatten=L at *;by_cases h80:80<L.length
    . have HF:Hid (false=foB o):=HNO.out (fun h=>by have:=(HFP.out.1 h).1;omega)
      have g2:(80:Int)<(L.length:Int):=(by omega);go_wp2;go_ret;exact⟨zaa HF.out,HB1.out⟩
    have g2:¬(80:Int)<(L.length:Int):=(by omega);go_wp2
    go_loopw [5] (fun i wr=>∃k:Nat,k<=L.length/\i=.int .i64 k/\(∀j,j<k->PnF (L.getD j Pn.none))/\Below u1.heap.size u1 wr) (fun i _=>L.length-(intOf i).toNat)
    case atStart=>exact⟨0,qD _,rfl,(fun j hj=>by omega),Below.refl _ _⟩
    case round =>
     obtain⟨k,hk,rfl,hok,hB⟩:=hrel;have HOK:Hid (∀j,j<k->PnF (L.getD j Pn.none)):=hok;clear hok;have hbW:Below w.heap.size w wr:=HB1.out.trans (hB.mono HB1.out.size);by_cases hkn:k<L.length
     . obtain⟨b2,o2,ea,hb2,_,d0,d1,_⟩:=HL.out.pn hB k hkn
       subst ea;have HN:Hid (¬PnF (L.getD k Pn.none)->false=foB o):=fun h=>HNO.out (fun h1=>h ((HFP.out.1 h1).2.1 _ (zbm hkn)));have HS:Hid (PnF (L.getD k Pn.none)->∀j,j<k+1->PnF (L.getD j Pn.none)):=fun h j hj=>by
        rcases Nat.lt_or_ge j k with h1|h1
        . exact HOK.out j h1
        . rw[show j=k by omega];exact h
       generalize L.getD k Pn.none=p at *;obtain⟨x,y,on⟩:=p;dsimp only at d0 d1;have i1:(0:Int)<=(k:Int):=(by omega);have i2:(k:Int)<(L.length:Int):=(by omega);clear HOK;go_wp2_with fail
       refine(za6 x _).mono ?_;rintro e u2 ⟨rfl,rfl⟩;cases hx:fdB x with
       | false =>
        have HF:Hid (false=foB o):=HN.out (fun h=>zoa hx h.1);clear hx HN HS;go_wp2;go_ret;exact⟨zaa HF.out,hbW⟩
       | true =>
        go_wp2_with fail
        refine(za6 y _).mono ?_;rintro e u2 ⟨rfl,rfl⟩;cases hy:fdB y with
        | false =>
         have HF:Hid (false=foB o):=HN.out (fun h=>zoa hy h.2);clear hx hy HN HS;go_wp2;go_ret;exact⟨zaa HF.out,hbW⟩
        | true =>
         have HS2:Hid (_):=HS.out ⟨zbc.1 hx,zbc.1 hy⟩;clear hx hy HN HS;go_wp2;go_roundw
         case rel=>exact⟨k+1,by omega,by go_num,HS2.out,hB⟩
         case measure=>simp[intOf];omega
     . obtain rfl:k=L.length:=by omega
       have HNE:Hid (∀c∈L,PnF c):=zfw HOK.out;have g1:¬(L.length:Int)<(L.length:Int):=(by omega);have HX2:Hid (Bk 57 wr w.heap.size [.slice a o.cs.length ca,.slice b o.ps.length cb]):=HX.out.below hB;have HP2:Hid (Gr PaE S wr b cb o.ps):=HP.out.below hB;have HB2:Hid (Below w.heap.size w wr):=hbW;have HFQ:Hid (FoP o ↔ ∀p∈o.ps,PaF p):=⟨fun h=>(HFP.out.1 h).2.2,fun h=>HFP.out.2 ⟨by omega,HNE.out,h⟩⟩;clear HOK HX HP hB hbW HB1 HFP HNE HL;obtain⟨u3,rfl⟩:∃u3,u3=wr:=⟨_,rfl⟩;go_wp2
       go_loopw [6] (fun i wr=>∃k:Nat,k<=o.ps.length/\i=.int .i64 k/\(∀j,j<k->PaF (o.ps.getD j Pa.none))/\Below u3.heap.size u3 wr) (fun i _=>o.ps.length-(intOf i).toNat)
       case atStart=>exact⟨0,qD _,rfl,(fun j hj=>by omega),Below.refl _ _⟩
       case round =>
        obtain⟨k,hk,rfl,hok,hB⟩:=hrel;have HOK:Hid (∀j,j<k->PaF (o.ps.getD j Pa.none)):=hok;clear hok;obtain⟨x0,x1,_⟩:=(HX2.out.below hB).two;by_cases hkn:k<o.ps.length
        . obtain⟨b2,o2,ea,hb2,_,d0,d1,d2⟩:=HP2.out.pa hB k hkn
          subst ea;have HN:Hid (¬PaF (o.ps.getD k Pa.none)->false=foB o):=fun h=>HNO.out (fun h1=>h (HFQ.out.1 h1 _ (zbm hkn)));have HS:Hid (PaF (o.ps.getD k Pa.none)->∀j,j<k+1->PaF (o.ps.getD j Pa.none)):=fun h j hj=>by
           rcases Nat.lt_or_ge j k with h1|h1
           . exact HOK.out j h1
           . rw[show j=k by omega];exact h
          generalize o.ps.getD k Pa.none=p at *;obtain⟨gg,x,y⟩:=p;dsimp only at d0 d1 d2;have i1:(0:Int)<=(k:Int):=(by omega);have i2:(k:Int)<(o.ps.length:Int):=(by omega);obtain⟨V,hV,Y1,hbV⟩:∃V,V=wr.alloc (.cells #[.int .i64 gg,.int .i64 x,.int .i64 y] 54)/\Bk 54 V wr.heap.size [.int .i64 gg,.int .i64 x,.int .i64 y]/\Below u3.heap.size u3 V:=⟨_,rfl,Bk.new _ _ _,hB.alloc hB.size _⟩;have hbW:Below w.heap.size w V:=HB2.out.trans (hbV.mono HB2.out.size);obtain⟨y0,y1,y2,_⟩:=Y1.three;clear HOK Y1 hB;go_upto_region 20 with fail
          rw[<-hV];clear hV x0 x1 d0 d1 d2;by_cases hg0:gg<0
          . have HF:Hid (false=foB o):=HN.out (fun h=>by have h1:0<=gg:=h.1.1;omega)
            have g3:decide (gg<0)=true:=qC hg0;clear HN HS;go_wp2;go_ret;exact⟨zaa HF.out,hbW⟩
          have g3:decide (gg<0)=false:=qB hg0;by_cases hg1:65535<gg
          . have HF:Hid (false=foB o):=HN.out (fun h=>by have h1:gg<=65535:=h.1.2;omega)
            have g4:decide (65535<gg)=true:=qC hg1;clear HN HS;go_wp2;go_ret;exact⟨zaa HF.out,hbW⟩
          have g4:decide (65535<gg)=false:=qB hg1;go_wp2_with fail
          refine(za6 x _).mono ?_;rintro e u5 ⟨rfl,rfl⟩;cases hx:fdB x with
          | false =>
           have HF:Hid (false=foB o):=HN.out (fun h=>zoa hx h.2.1);clear hx HN HS;go_wp2;go_ret;exact⟨zaa HF.out,hbW⟩
          | true =>
           go_wp2_with fail
           refine(za6 y _).mono ?_;rintro e u5 ⟨rfl,rfl⟩;cases hy:fdB y with
           | false =>
            have HF:Hid (false=foB o):=HN.out (fun h=>zoa hy h.2.2);clear hx hy HN HS;go_wp2;go_ret;exact⟨zaa HF.out,hbW⟩
           | true =>
            have HS2:Hid (_):=HS.out ⟨⟨by omega,by omega⟩,zbc.1 hx,zbc.1 hy⟩;clear hx hy HN HS;go_wp2;go_roundw
            case rel=>exact⟨k+1,by omega,by go_num,HS2.out,hbV⟩
            case measure=>simp[intOf];omega
        . obtain rfl:k=o.ps.length:=by omega
          have HF:Hid (true=foB o):=HYE.out (HFQ.out.2 (zfw HOK.out));have g5:¬(o.ps.length:Int)<(o.ps.length:Int):=(by omega);have hbW:Below w.heap.size w wr:=HB2.out.trans (hB.mono HB2.out.size);go_wp2;go_ret;exact⟨zaa HF.out,hbW⟩
