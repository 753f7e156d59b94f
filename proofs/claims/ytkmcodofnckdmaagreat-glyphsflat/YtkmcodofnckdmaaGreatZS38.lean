import Derived.Test.YtkmcodofnckdmaaGreatZS37
set_option maxHeartbeats 8000000
set_option maxRecDepth 100000
set_option linter.unusedSimpArgs false
set_option linter.unusedVariables false
namespace Go.Proofs.YtkmcodofnckdmaaGreat
open Go.RowKit Go.Maps
theorem zwe{o:Ol}{l:List Tu}{ax:Int}(h:foB o=false):foT o l ax=false:=by unfold foT;rw[h];rfl
theorem zq5{o:Ol}{l:List Tu}{ax:Int}(h:¬(0<=ax/\ax<=4)):foT o l ax=false:=by unfold foT;rw[decide_eq_false h];simp
theorem zwd{o:Ol}{l:List Tu}{ax:Int}(h:¬l.length<=40):foT o l ax=false:=by unfold foT;rw[decide_eq_false h];simp
theorem zwc{o:Ol}{l:List Tu}{ax:Int}{k:Nat}(hk:k<l.length)(h:tuB (l.getD k Tu.none) (cntO o) ax=false):foT o l ax=false:=by
 cases hf:foT o l ax with
 | false=>rfl
 | true =>
  have:=(zcv.1 hf).2.2.2 k hk
  rw[h]at this
  cases this
theorem zn5(S:Nat->Prop)(a:Option Addr)(ca:Nat)(b:Option Addr)(cb:Nat)(o:Ol)(S2:Nat->Prop)(la:Option Addr)(lc:Nat)(l:List Tu)(ax:Int)(w:World)(hc:Gr PnE.row S w a ca o.cs)(hp:Gr PaE S w b cb o.ps)(hl:Gr TuE S2 w la lc l)(hfl:o.cs.flatten.length<=100000)(hpl:o.ps.length<=100000)(hi:I64 ax) :
 Calls Tryz.prog 61 #[.agg #[.slice a o.cs.length ca,.slice b o.ps.length cb],.slice la l.length lc,.int .i64 ax] w fun e w'=>e=.returned (.bool (foT o l ax))/\Below w.heap.size w w':=by
 have kl:=hl.lenB
 have kc:=hc.lenB
 obtain⟨W,hW,X1,hbW⟩:∃W,W=w.alloc (.cells #[.slice a o.cs.length ca,.slice b o.ps.length cb] 57)/\Bk 57 W w.heap.size [.slice a o.cs.length ca,.slice b o.ps.length cb]/\Below w.heap.size w W:=⟨_,rfl,Bk.new _ _ _,bl1 _⟩
 replace hc:=hc.below hbW;replace hp:=hp.below hbW;replace hl:=hl.below hbW;obtain⟨p0,p1,_⟩:=X1.two
 have hfo:=zhg S a ca b cb o W hc hp hfl
 go_enter Tryz.func61,Tryz.ntmps61
 go_upto_region 1 with fail
 rw[<-hW];clear hW
 cases hf:foB o with
 | false =>
  rw[hf]at hfo
  have HE:Hid (foT o l ax=false):=zwe hf
  clear hf
  go_wp2_with fail
  refine hfo.mono ?_
  rintro e m1 ⟨rfl,hb1⟩
  replace hbW:=hbW.trans (hb1.mono hbW.size)
  clear hb1 hfo;go_wp2
  go_ret
  exact⟨zaa HE.out.symm,hbW⟩
 | true =>
 rw[hf]at hfo
 have HF:Hid (foB o=true):=hf
 clear hf
 go_wp2_with fail
 refine hfo.mono ?_
 rintro e m1 ⟨rfl,hb1⟩
 replace hbW:=hbW.trans (hb1.mono hbW.size)
 replace hc:=hc.below hb1;replace hp:=hp.below hb1;replace hl:=hl.below hb1;replace X1:=X1.below hb1;clear hb1 hfo p0 p1
 by_cases h0:ax<0
 . have HE:Hid (foT o l ax=false):=zq5 (by omega)
   go_wp2
   go_ret
   exact⟨zaa HE.out.symm,hbW⟩
 by_cases h4:4<ax
 . have HE:Hid (foT o l ax=false):=zq5 (by omega)
   go_wp2
   go_ret
   exact⟨zaa HE.out.symm,hbW⟩
 by_cases h40:(40:Int)<(l.length:Int)
 . have HE:Hid (foT o l ax=false):=zwd (by omega)
   go_wp2
   go_ret
   exact⟨zaa HE.out.symm,hbW⟩
 have HX1:Hid (Bk 57 m1 w.heap.size [.slice a o.cs.length ca,.slice b o.ps.length cb]):=X1
 have HC:Hid (Gr PnE.row S m1 a ca o.cs):=hc
 have HP:Hid (Gr PaE S m1 b cb o.ps):=hp
 have HL:Hid (Gr TuE S2 m1 la lc l):=hl
 have HBW:Hid (Below w.heap.size w m1):=hbW
 clear hc hp hl X1;go_wp2
 go_loopw [7] (fun i wr=>∃k:Nat,k<=l.length/\i=.int .i64 k/\(∀j,j<k->tuB (l.getD j Tu.none) (cntO o) ax=true)/\Below m1.heap.size m1 wr) (fun i _=>l.length-(intOf i).toNat)
 case atStart=>exact⟨0,Nat.zero_le _,rfl,(fun j hj=>by omega),Below.refl _ _⟩
 case round =>
  obtain⟨k,hk,rfl,hok,hB⟩:=hrel
  have HOK:Hid (∀j,j<k->tuB (l.getD j Tu.none) (cntO o) ax=true):=hok
  clear hok hbW
  by_cases hkn:k<l.length
  . obtain⟨b1,o1,ra,rc,pa,pc,xa,xc,ya,yc,ea,hl1,ht1,c0,c1,c2,c3,c4⟩:=HL.out.tu (Below.refl _ _) k hkn
    have HN4:Hid (tuB (l.getD k Tu.none) (cntO o) ax=false->foT o l ax=false):=fun h=>zwc hkn h
    have HY:Hid (tuB (l.getD k Tu.none) (cntO o) ax=true->∀j,j<k+1->tuB (l.getD j Tu.none) (cntO o) ax=true):=fun h j hj=>by
     rcases Nat.lt_or_ge j k with h1|h1
     . exact HOK.out j h1
     . rw[show j=k by omega];exact h
    obtain⟨t,htt⟩:∃t,l.getD k Tu.none=t:=⟨_,rfl⟩
    rw[htt]at ht1 c0 c1 c2 c3 c4 HN4 HY;clear htt
    have HSE:Hid (∀u,Below m1.heap.size m1 u->u.cell? ⟨b1,o1+k*5,none⟩=some (.slice ra t.rg.length rc)/\u.cell? ⟨b1,o1+k*5+1,none⟩=some (.bool t.al)/\u.cell? ⟨b1,o1+k*5+2,none⟩=some (.slice pa t.pts.length pc)/\u.cell? ⟨b1,o1+k*5+3,none⟩=some (.slice xa t.dx.length xc)/\u.cell? ⟨b1,o1+k*5+4,none⟩=some (.slice ya t.dy.length yc)/\u.cell? ⟨w.heap.size,0,none⟩=some (.slice a o.cs.length ca)/\u.cell? ⟨w.heap.size,1,none⟩=some (.slice b o.ps.length cb)):=fun u hU=>⟨(hU.cell (p:=⟨b1,o1+k*5,none⟩) hl1).trans c0,(hU.cell (p:=⟨b1,o1+k*5+1,none⟩) hl1).trans c1,(hU.cell (p:=⟨b1,o1+k*5+2,none⟩) hl1).trans c2,(hU.cell (p:=⟨b1,o1+k*5+3,none⟩) hl1).trans c3,(hU.cell (p:=⟨b1,o1+k*5+4,none⟩) hl1).trans c4,(HX1.out.below hU).two.1,(HX1.out.below hU).two.2.1⟩
    have hcc:=fun U (hU:Below m1.heap.size m1 U)=>zfg S a ca b cb o U (HC.out.below hU) hfl hpl
    have hcl:=zgy HF.out
    obtain⟨N,hN⟩:∃N,cntO o=N:=⟨_,rfl⟩
    rw[hN]at hcc hcl HN4 HY
    have HRL:Hid (cntO o=N):=hN
    have hon:=fun U (hU:Below m1.heap.size m1 U)=>zpm S2 ra rc pa pc xa xc ya yc t N ax U (ht1.below hU) (by omega)
    obtain⟨bt,hbt⟩:∃x,tuB t N ax=x:=⟨_,rfl⟩
    rw[hbt]at hon HN4 HY;clear hbt hN ht1 c0 c1 c2 c3 c4 HOK
    obtain⟨gw,hgw⟩:∃g,w.heap.size=g:=⟨_,rfl⟩
    rw[hgw]at HSE ⊢;clear hgw
    have i1:(0:Int)<=(k:Int):=by omega
    have i2:(k:Int)<(l.length:Int):=by omega
    subst ea
    go_upto_region 6 with fail
    refine wp_region_held_drew (S:=(fun u=>u.cell? ⟨b1,o1+k*5,none⟩=some (.slice ra t.rg.length rc)/\u.cell? ⟨b1,o1+k*5+1,none⟩=some (.bool t.al)/\u.cell? ⟨b1,o1+k*5+2,none⟩=some (.slice pa t.pts.length pc)/\u.cell? ⟨b1,o1+k*5+3,none⟩=some (.slice xa t.dx.length xc)/\u.cell? ⟨b1,o1+k*5+4,none⟩=some (.slice ya t.dy.length yc)/\u.cell? ⟨gw,0,none⟩=some (.slice a o.cs.length ca)/\u.cell? ⟨gw,1,none⟩=some (.slice b o.ps.length cb))) (by kernel_rfl) ?_ (fun hH=>?_)
    . (try dsimp only)
      exact HSE.out _ (hB.trans (Below.drew1.mono hB.size))
    have hdr:Below wr.heap.size wr wr.drew:=Below.drew1
    generalize wr.drew=ud at hdr hH ⊢
    replace hB:=hB.trans (hdr.mono hB.size)
    clear hdr;refine hT 0 hH ?_;refine hT 1 hH ?_;refine hT 2 hH ?_;refine hT 3 hH ?_;refine hT 4 hH ?_;refine hT 6 hH ?_
    refine hCall (i:=5) rfl (by kernel_rfl) (by rfl) (fun K hK=>?_)
    go_simp
    refine(hcc _ hB).mono ?_
    rintro e u1 ⟨rfl,hb1⟩
    replace hB:=hB.trans (hb1.mono hB.size)
    clear hcc hb1
    go_wp2_with fail
    refine hK.out _ _ ?_ (fun hH=>?_)
    . (try dsimp only)
      exact HSE.out _ hB
    clear hK K
    try simp only[Act.put,pZ]
    refine hCall (i:=7) rfl (by kernel_rfl) (by rfl) (fun K hK=>?_)
    go_simp
    refine(hon _ hB).mono ?_
    rintro e u2 ⟨rfl,hb1⟩
    replace hB:=hB.trans (hb1.mono hB.size)
    clear hon hb1
    go_wp2_with fail
    refine hK.out _ _ ?_ (fun hH=>?_)
    . (try dsimp only)
      exact HSE.out _ hB
    clear hK K
    try simp only[Act.put,pZ]
    refine hT 8 hH ?_
    refine wpAnyH_done (by kernel_rfl) ?_ _
    clear hH HSE
    cases bt with
    | false =>
     have HE:Hid (foT o l ax=false):=HN4.out rfl
     have hbW:=HBW.out.trans (hB.mono HBW.out.size)
     clear HN4 HY;go_wp2
     go_ret
     exact⟨zaa HE.out.symm,hbW⟩
    | true =>
     have zdl:Hid (∀j,j<k+1->tuB (l.getD j Tu.none) (cntO o) ax=true):=by
      rw[HRL.out]
      exact HY.out rfl
     clear HN4 HY;go_wp2
     go_roundw
     case rel=>exact⟨k+1,by omega,by go_num,zdl.out,hB⟩
     case measure=>simp[intOf];omega
  . have ek:k=l.length:=by omega
    rw[ek]at HOK ⊢
    have g1:¬(l.length:Int)<(l.length:Int):=by omega
    have HE:Hid (foT o l ax=true):=zcv.2 ⟨HF.out,⟨by omega,by omega⟩,by omega,HOK.out⟩
    have hbW:=HBW.out.trans (hB.mono HBW.out.size)
    clear ek hk hkn HOK;go_wp2
    go_ret
    exact⟨zaa HE.out.symm,hbW⟩
theorem zpj(t:Te)(c:Int)(w:World)(hc:I64 c) :
 Calls Tryz.prog 183 #[.agg #[.int .i64 t.st,.int .i64 t.pk,.int .i64 t.en],.int .i64 c] w fun e w'=>∃v',e=.returned v'/\Fr w' v' 2 (paQ t c)/\Below w.heap.size w w':=by
 have hfo:=fun U=>zhf t U
 obtain⟨W,hW,X1,B1,hbW⟩:=zuo 146 130 w (.int .i64 t.st) (.int .i64 t.pk) (.int .i64 t.en) (.bool false) (.slice none 0 0) (.slice none 0 0)
 cases hf:tfB t with
 | false =>
  have HP:Hid ((0:Rat)=paQ t c):=(zmm (fun h=>by rw[hf]at h;cases h.1)).symm
  simp only[hf]at hfo
  clear hf;obtain⟨st,pk,en⟩:=t
  dsimp only at *
  go_enter Tryz.func183,Tryz.ntmps183
  go_wp2_with fail
  rw[<-hW];clear hW
  refine(hfo _).mono ?_
  rintro e u1 ⟨rfl,hb1⟩;replace X1:=X1.below hb1;replace B1:=B1.below hb1
  replace hbW:=hbW.trans (hb1.mono hbW.size)
  clear hb1 hfo;obtain⟨p0,p1,p2,_⟩:=X1.cells
  go_wp2_with fail
  refine(zba _).mono ?_
  rintro e u3 ⟨v3,rfl,hF3,hb3⟩;replace B1:=B1.below hb3
  replace hbW:=hbW.trans (hb3.mono hbW.size)
  rw[HP.out]at hF3;clear hb3 X1;obtain⟨n3,xs,ys,⟨a3,c3,b3,d3,rfl,hx3,hy3⟩,f1,f2,f3,f4⟩:=hF3;obtain⟨q1,q2,q3,q4,q5,q6⟩:=B1.cells
  have hs:=B1.lt
  go_wp2
  refine ret3 (v:=.agg #[.bool n3,.slice a3 xs.length c3,.slice b3 ys.length d3]) B1 rfl (fun U hU=>by obtain⟨r1,r2,r3,_⟩:=hU.cells;simp[results,Tryz.results183,go_sem,r1,r2,r3]) (fun U hU hK=>⟨_,rfl,⟨_,_,_,⟨_,_,_,_,rfl,hK _ _ _ hx3,hK _ _ _ hy3⟩,f1,f2,f3,f4⟩,hU _ _ hbW (by omega)⟩)
 | true =>
  have hbd:=zc0.1 hf
  unfold TfT at hbd
  simp only[hf]at hfo
  cases hcc:crd c with
  | false =>
   have HP:Hid ((0:Rat)=paQ t c):=(zmm (fun h=>by rw[hcc]at h;cases h.2)).symm
   clear hf hbd;obtain⟨st,pk,en⟩:=t
   dsimp only at *
   go_enter Tryz.func183,Tryz.ntmps183
   go_wp2_with fail
   rw[<-hW];clear hW
   refine(hfo _).mono ?_
   rintro e u1 ⟨rfl,hb1⟩;replace X1:=X1.below hb1;replace B1:=B1.below hb1
   replace hbW:=hbW.trans (hb1.mono hbW.size)
   clear hb1 hfo;obtain⟨p0,p1,p2,_⟩:=X1.cells
   go_wp2_with fail
   refine(zac c _).mono ?_
   rintro e u2 ⟨rfl,rfl⟩;rw[hcc];clear hcc
   go_wp2_with fail
   refine(zba _).mono ?_
   rintro e u3 ⟨v3,rfl,hF3,hb3⟩;replace B1:=B1.below hb3
   replace hbW:=hbW.trans (hb3.mono hbW.size)
   rw[HP.out]at hF3;clear hb3 X1;obtain⟨n3,xs,ys,⟨a3,c3,b3,d3,rfl,hx3,hy3⟩,f1,f2,f3,f4⟩:=hF3;obtain⟨q1,q2,q3,q4,q5,q6⟩:=B1.cells
   have hs:=B1.lt
   go_wp2
   refine ret3 (v:=.agg #[.bool n3,.slice a3 xs.length c3,.slice b3 ys.length d3]) B1 rfl (fun U hU=>by obtain⟨r1,r2,r3,_⟩:=hU.cells;simp[results,Tryz.results183,go_sem,r1,r2,r3]) (fun U hU hK=>⟨_,rfl,⟨_,_,_,⟨_,_,_,_,rfl,hK _ _ _ hx3,hK _ _ _ hy3⟩,f1,f2,f3,f4⟩,hU _ _ hbW (by omega)⟩)
  | true =>
   have hcd:=crdT.1 hcc
   by_cases h1:t.pk=0
   . have HP:Hid (((1:Int):Rat)=paQ t c):=zib hf hcc (.inl h1)
     have g1:(t.pk==0)=true:=by simp[h1]
     clear hf hbd hcd h1;obtain⟨st,pk,en⟩:=t
     dsimp only at *
     go_enter Tryz.func183,Tryz.ntmps183
     go_wp2_with fail
     rw[<-hW];clear hW
     refine(hfo _).mono ?_
     rintro e u1 ⟨rfl,hb1⟩;replace X1:=X1.below hb1;replace B1:=B1.below hb1
     replace hbW:=hbW.trans (hb1.mono hbW.size)
     clear hb1 hfo;obtain⟨p0,p1,p2,_⟩:=X1.cells
     go_wp2_with fail
     refine(zac c _).mono ?_
     rintro e u2 ⟨rfl,rfl⟩;rw[hcc];clear hcc
     go_wp2_with fail
     refine(zam 1 _ (by decide) (by decide)).mono ?_
     rintro e u3 ⟨v3,rfl,hF3,hb3⟩;replace B1:=B1.below hb3
     replace hbW:=hbW.trans (hb3.mono hbW.size)
     rw[HP.out]at hF3;clear hb3 X1;obtain⟨n3,xs,ys,⟨a3,c3,b3,d3,rfl,hx3,hy3⟩,f1,f2,f3,f4⟩:=hF3;obtain⟨q1,q2,q3,q4,q5,q6⟩:=B1.cells
     have hs:=B1.lt
     go_wp2
     refine ret3 (v:=.agg #[.bool n3,.slice a3 xs.length c3,.slice b3 ys.length d3]) B1 rfl (fun U hU=>by obtain⟨r1,r2,r3,_⟩:=hU.cells;simp[results,Tryz.results183,go_sem,r1,r2,r3]) (fun U hU hK=>⟨_,rfl,⟨_,_,_,⟨_,_,_,_,rfl,hK _ _ _ hx3,hK _ _ _ hy3⟩,f1,f2,f3,f4⟩,hU _ _ hbW (by omega)⟩)
   . by_cases h2:c=t.pk
     . have HP:Hid (((1:Int):Rat)=paQ t c):=zib hf hcc (.inr h2)
       have g1:(t.pk==0)=false:=by simp[h1]
       have g2:(c==t.pk)=true:=by simp[h2]
       clear h1 h2 hf hbd hcd;obtain⟨st,pk,en⟩:=t
       dsimp only at *
       go_enter Tryz.func183,Tryz.ntmps183
       go_wp2_with fail
       rw[<-hW];clear hW
       refine(hfo _).mono ?_
       rintro e u1 ⟨rfl,hb1⟩;replace X1:=X1.below hb1;replace B1:=B1.below hb1
       replace hbW:=hbW.trans (hb1.mono hbW.size)
       clear hb1 hfo;obtain⟨p0,p1,p2,_⟩:=X1.cells
       go_wp2_with fail
       refine(zac c _).mono ?_
       rintro e u2 ⟨rfl,rfl⟩;rw[hcc];clear hcc
       go_wp2_with fail
       refine(zam 1 _ (by decide) (by decide)).mono ?_
       rintro e u3 ⟨v3,rfl,hF3,hb3⟩;replace B1:=B1.below hb3
       replace hbW:=hbW.trans (hb3.mono hbW.size)
       rw[HP.out]at hF3;clear hb3 X1;obtain⟨n3,xs,ys,⟨a3,c3,b3,d3,rfl,hx3,hy3⟩,f1,f2,f3,f4⟩:=hF3;obtain⟨q1,q2,q3,q4,q5,q6⟩:=B1.cells
       have hs:=B1.lt
       go_wp2
       refine ret3 (v:=.agg #[.bool n3,.slice a3 xs.length c3,.slice b3 ys.length d3]) B1 rfl (fun U hU=>by obtain⟨r1,r2,r3,_⟩:=hU.cells;simp[results,Tryz.results183,go_sem,r1,r2,r3]) (fun U hU hK=>⟨_,rfl,⟨_,_,_,⟨_,_,_,_,rfl,hK _ _ _ hx3,hK _ _ _ hy3⟩,f1,f2,f3,f4⟩,hU _ _ hbW (by omega)⟩)
     . have h12:¬(t.pk=0\/c=t.pk):=by omega
       by_cases h3:c<=t.st
       . have HP:Hid ((0:Rat)=paQ t c):=zic hf hcc h12 (.inl h3)
         have g1:(t.pk==0)=false:=by simp[h1]
         have g2:(c==t.pk)=false:=by simp[h2]
         have g3:decide (c<=t.st)=true:=decide_eq_true h3
         clear h1 h2 hf hbd hcd h12;obtain⟨st,pk,en⟩:=t
         dsimp only at *
         go_enter Tryz.func183,Tryz.ntmps183
         go_wp2_with fail
         rw[<-hW];clear hW
         refine(hfo _).mono ?_
         rintro e u1 ⟨rfl,hb1⟩;replace X1:=X1.below hb1;replace B1:=B1.below hb1
         replace hbW:=hbW.trans (hb1.mono hbW.size)
         clear hb1 hfo;obtain⟨p0,p1,p2,_⟩:=X1.cells
         go_wp2_with fail
         refine(zac c _).mono ?_
         rintro e u2 ⟨rfl,rfl⟩;rw[hcc];clear hcc
         go_wp2_with fail
         refine(zba _).mono ?_
         rintro e u3 ⟨v3,rfl,hF3,hb3⟩;replace B1:=B1.below hb3
         replace hbW:=hbW.trans (hb3.mono hbW.size)
         rw[HP.out]at hF3;clear hb3 X1;obtain⟨n3,xs,ys,⟨a3,c3,b3,d3,rfl,hx3,hy3⟩,f1,f2,f3,f4⟩:=hF3;obtain⟨q1,q2,q3,q4,q5,q6⟩:=B1.cells
         have hs:=B1.lt
         go_wp2
         refine ret3 (v:=.agg #[.bool n3,.slice a3 xs.length c3,.slice b3 ys.length d3]) B1 rfl (fun U hU=>by obtain⟨r1,r2,r3,_⟩:=hU.cells;simp[results,Tryz.results183,go_sem,r1,r2,r3]) (fun U hU hK=>⟨_,rfl,⟨_,_,_,⟨_,_,_,_,rfl,hK _ _ _ hx3,hK _ _ _ hy3⟩,f1,f2,f3,f4⟩,hU _ _ hbW (by omega)⟩)
       . by_cases h4:t.en<=c
         . have HP:Hid ((0:Rat)=paQ t c):=zic hf hcc h12 (.inr h4)
           have g1:(t.pk==0)=false:=by simp[h1]
           have g2:(c==t.pk)=false:=by simp[h2]
           have g3:decide (c<=t.st)=false:=decide_eq_false h3
           have g4:decide (t.en<=c)=true:=decide_eq_true h4
           clear h1 h2 hf hbd hcd h12;obtain⟨st,pk,en⟩:=t
           dsimp only at *
           go_enter Tryz.func183,Tryz.ntmps183
           go_wp2_with fail
           rw[<-hW];clear hW
           refine(hfo _).mono ?_
           rintro e u1 ⟨rfl,hb1⟩;replace X1:=X1.below hb1;replace B1:=B1.below hb1
           replace hbW:=hbW.trans (hb1.mono hbW.size)
           clear hb1 hfo;obtain⟨p0,p1,p2,_⟩:=X1.cells
           go_wp2_with fail
           refine(zac c _).mono ?_
           rintro e u2 ⟨rfl,rfl⟩;rw[hcc];clear hcc
           go_wp2_with fail
           refine(zba _).mono ?_
           rintro e u3 ⟨v3,rfl,hF3,hb3⟩;replace B1:=B1.below hb3
           replace hbW:=hbW.trans (hb3.mono hbW.size)
           rw[HP.out]at hF3;clear hb3 X1;obtain⟨n3,xs,ys,⟨a3,c3,b3,d3,rfl,hx3,hy3⟩,f1,f2,f3,f4⟩:=hF3;obtain⟨q1,q2,q3,q4,q5,q6⟩:=B1.cells
           have hs:=B1.lt
           go_wp2
           refine ret3 (v:=.agg #[.bool n3,.slice a3 xs.length c3,.slice b3 ys.length d3]) B1 rfl (fun U hU=>by obtain⟨r1,r2,r3,_⟩:=hU.cells;simp[results,Tryz.results183,go_sem,r1,r2,r3]) (fun U hU hK=>⟨_,rfl,⟨_,_,_,⟨_,_,_,_,rfl,hK _ _ _ hx3,hK _ _ _ hy3⟩,f1,f2,f3,f4⟩,hU _ _ hbW (by omega)⟩)
         . have h34:¬(c<=t.st\/t.en<=c):=by omega
           by_cases h5:c<t.pk
           . have HP:Hid (((c-t.st:Int):Rat)/((t.pk-t.st:Int):Rat)=paQ t c):=zt9 hf hcc h12 h34 h5
             have g1:(t.pk==0)=false:=by simp[h1]
             have g2:(c==t.pk)=false:=by simp[h2]
             have g3:decide (c<=t.st)=false:=decide_eq_false h3
             have g4:decide (t.en<=c)=false:=decide_eq_false h4
             clear hf h12 h34
             have k1:IntKind.i64.wrap (c-t.st)=c-t.st:=zbr (by omega) (by omega)
             have k2:IntKind.i64.wrap (t.pk-t.st)=t.pk-t.st:=zbr (by omega) (by omega)
             have hm:=fun U=>zec (c-t.st) (t.pk-t.st) U (by omega) (by omega) (by omega) (by omega)
             clear h1 h2 hbd hcd;obtain⟨st,pk,en⟩:=t
             dsimp only at *
             go_enter Tryz.func183,Tryz.ntmps183
             go_wp2_with fail
             rw[<-hW];clear hW
             refine(hfo _).mono ?_
             rintro e u1 ⟨rfl,hb1⟩;replace X1:=X1.below hb1;replace B1:=B1.below hb1
             replace hbW:=hbW.trans (hb1.mono hbW.size)
             clear hb1 hfo;obtain⟨p0,p1,p2,_⟩:=X1.cells
             go_wp2_with fail
             refine(zac c _).mono ?_
             rintro e u2 ⟨rfl,rfl⟩;rw[hcc];clear hcc
             go_wp2_with fail
             refine(hm _).mono ?_
             rintro e u3 ⟨v3,rfl,hF3,hb3⟩;replace B1:=B1.below hb3
             replace hbW:=hbW.trans (hb3.mono hbW.size)
             rw[HP.out]at hF3;clear hb3 X1;obtain⟨n3,xs,ys,⟨a3,c3,b3,d3,rfl,hx3,hy3⟩,f1,f2,f3,f4⟩:=hF3;obtain⟨q1,q2,q3,q4,q5,q6⟩:=B1.cells
             have hs:=B1.lt
             go_wp2
             refine ret3 (v:=.agg #[.bool n3,.slice a3 xs.length c3,.slice b3 ys.length d3]) B1 rfl (fun U hU=>by obtain⟨r1,r2,r3,_⟩:=hU.cells;simp[results,Tryz.results183,go_sem,r1,r2,r3]) (fun U hU hK=>⟨_,rfl,⟨_,_,_,⟨_,_,_,_,rfl,hK _ _ _ hx3,hK _ _ _ hy3⟩,f1,f2,f3,f4⟩,hU _ _ hbW (by omega)⟩)
           . have HP:Hid (((t.en-c:Int):Rat)/((t.en-t.pk:Int):Rat)=paQ t c):=zmn hf hcc h12 h34 h5
             have g1:(t.pk==0)=false:=by simp[h1]
             have g2:(c==t.pk)=false:=by simp[h2]
             have g3:decide (c<=t.st)=false:=decide_eq_false h3
             have g4:decide (t.en<=c)=false:=decide_eq_false h4
             clear hf h12 h34
             have k1:IntKind.i64.wrap (t.en-c)=t.en-c:=zbr (by omega) (by omega)
             have k2:IntKind.i64.wrap (t.en-t.pk)=t.en-t.pk:=zbr (by omega) (by omega)
             have hm:=fun U=>zec (t.en-c) (t.en-t.pk) U (by omega) (by omega) (by omega) (by omega)
             clear h1 h2 hbd hcd;obtain⟨st,pk,en⟩:=t
             dsimp only at *
             go_enter Tryz.func183,Tryz.ntmps183
             go_wp2_with fail
             rw[<-hW];clear hW
             refine(hfo _).mono ?_
             rintro e u1 ⟨rfl,hb1⟩;replace X1:=X1.below hb1;replace B1:=B1.below hb1
             replace hbW:=hbW.trans (hb1.mono hbW.size)
             clear hb1 hfo;obtain⟨p0,p1,p2,_⟩:=X1.cells
             go_wp2_with fail
             refine(zac c _).mono ?_
             rintro e u2 ⟨rfl,rfl⟩;rw[hcc];clear hcc
             go_wp2_with fail
             refine(hm _).mono ?_
             rintro e u3 ⟨v3,rfl,hF3,hb3⟩;replace B1:=B1.below hb3
             replace hbW:=hbW.trans (hb3.mono hbW.size)
             rw[HP.out]at hF3;clear hb3 X1;obtain⟨n3,xs,ys,⟨a3,c3,b3,d3,rfl,hx3,hy3⟩,f1,f2,f3,f4⟩:=hF3;obtain⟨q1,q2,q3,q4,q5,q6⟩:=B1.cells
             have hs:=B1.lt
             go_wp2
             refine ret3 (v:=.agg #[.bool n3,.slice a3 xs.length c3,.slice b3 ys.length d3]) B1 rfl (fun U hU=>by obtain⟨r1,r2,r3,_⟩:=hU.cells;simp[results,Tryz.results183,go_sem,r1,r2,r3]) (fun U hU hK=>⟨_,rfl,⟨_,_,_,⟨_,_,_,_,rfl,hK _ _ _ hx3,hK _ _ _ hy3⟩,f1,f2,f3,f4⟩,hU _ _ hbW (by omega)⟩)
theorem zjm(a:Option Addr)(cap:Nat)(l:List Te)(pa:Option Addr)(pc:Nat)(cs:List Int)(w:World)(h:Tz w a cap l)(hp:Ri w pa pc cs)(hl:l.length<=1000) :
 Calls Tryz.prog 122 #[.slice a l.length cap,.slice pa cs.length pc] w fun e w'=>∃v',e=.returned v'/\Fr w' v' (2+2*l.length) (alQ l cs)/\Below w.heap.size w w':=by
 have k2:=h.lenB
 have k3:=hp.lenB
 have HH:Hid (Tz w a cap l):=h
 have HP:Hid (Ri w pa pc cs):=hp
 obtain⟨W0,hW0,B0,hbW⟩:∃W,W=w.alloc (.cells #[.bool false,.slice none 0 0,.slice none 0 0] 130)/\Box 130 W w.heap.size (.bool false) (.slice none 0 0) (.slice none 0 0)/\Below w.heap.size w W:=⟨_,rfl,Box.new _ _ _ _ _,al1 _⟩
 clear h hp
 go_enter Tryz.func122,Tryz.ntmps122
 go_wp2_with fail
 rw[<-hW0];clear hW0
 refine(zam 1 _ (by decide) (by decide)).mono ?_
 rintro e U1 ⟨v5,rfl,hF5,hb5⟩;replace B0:=B0.below hb5
 replace hbW:=hbW.trans (hb5.mono hbW.size)
 clear hb5;obtain⟨n5,x5,y5,⟨a5,c5,b5,d5,rfl,hx5,hy5⟩,hF5⟩:=hF5
 have hlt:=B0.lt
 have P5:=Box.new 130 U1 (.bool n5) (.slice a5 x5.length c5) (.slice b5 y5.length d5)
 have hF5:Fr (U1.alloc (.cells #[.bool n5,.slice a5 x5.length c5,.slice b5 y5.length d5] 130)) (.agg #[.bool n5,.slice a5 x5.length c5,.slice b5 y5.length d5]) (2+2*0) (alK l cs 0):=Fr.below ⟨_,_,_,⟨_,_,_,_,rfl,hx5,hy5⟩,hF5⟩ (al1 _)
 replace B0:=B0.alloc (.cells #[.bool n5,.slice a5 x5.length c5,.slice b5 y5.length d5] 130)
 replace hbW:=hbW.alloc hbW.size (.cells #[.bool n5,.slice a5 x5.length c5,.slice b5 y5.length d5] 130)
 clear hx5 hy5;go_wp2
 go_loopw [6] (fun i wr=>∃(k:Nat) (n5:Bool) (a5:Option Addr) (x5 c5:Nat) (b5:Option Addr) (y5 d5:Nat),k<=l.length/\i=.int .i64 (k:Int)/\Box 130 wr U1.heap.size (.bool n5) (.slice a5 x5 c5) (.slice b5 y5 d5)/\Fr wr (.agg #[.bool n5,.slice a5 x5 c5,.slice b5 y5 d5]) (2+2*k) (alK l cs k)/\Box 130 wr w.heap.size (.bool false) (.slice none 0 0) (.slice none 0 0)/\Below w.heap.size w wr) (fun i _=>l.length-(intOf i).toNat)
 case atStart=>exact⟨0,_,_,_,_,_,_,_,Nat.zero_le _,rfl,P5,hF5,B0,hbW⟩
 case round =>
  clear P5 hF5 B0 hbW;obtain⟨k,n5,a5,x5,c5,b5,y5,d5,hk,rfl,P5,hF5,B0,hbW⟩:=hrel
  by_cases hkn:k<l.length
  . obtain⟨b0,off,ea,hb0,e0,e1,e2⟩:=HH.out.at hbW k hkn
    subst ea
    obtain⟨z,hz⟩:∃z,cs.getD k 0=z:=⟨_,rfl⟩
    have hzi:I64 z:=by
     by_cases h1:k<cs.length
     . rw[<-hz];exact HP.out.i64 h1
     . rw[<-hz,List.getD_eq_getElem?_getD,List.getElem?_eq_none (by omega)];exact⟨by decide,by decide⟩
    obtain⟨t,ht⟩:∃t,l.getD k Te.none=t:=⟨_,rfl⟩
    have HK:Hid (alK l cs (k+1)=alK l cs k*paQ t z):=by show _=_;rw[zi3,ht,hz]
    rw[ht]at e0 e1 e2;clear ht
    have hpa:=fun U=>zpj t z U hzi
    obtain⟨q,hq⟩:∃q,paQ t z=q:=⟨_,rfl⟩
    simp only[hq]at hpa HK
    clear hq hzi;obtain⟨st,pk,en⟩:=t
    dsimp only at *
    have s1:=P5.lt
    have s2:=hbW.size
    have A0:Cl wr b0 (off+k*3) (.int .i64 st):=⟨Nat.lt_of_lt_of_le hb0 hbW.size,e0⟩
    have A1:Cl wr b0 (off+k*3+1) (.int .i64 pk):=⟨Nat.lt_of_lt_of_le hb0 hbW.size,e1⟩
    have A2:Cl wr b0 (off+k*3+2) (.int .i64 en):=⟨Nat.lt_of_lt_of_le hb0 hbW.size,e2⟩
    have hwr:IntKind.i64.wrap (k:Int)=k:=zbr (by omega) (by omega)
    have HCZ:Hid (¬k<cs.length->z=0):=fun h1=>by rw[<-hz,List.getD_eq_getElem?_getD,List.getElem?_eq_none (by omega)];rfl
    have HCY:Hid (cs.getD k 0=z):=hz
    clear hz
    by_cases hkc:k<cs.length
    . have gg:(k:Int)<(cs.length:Int):=by omega
      obtain⟨pb,poff,ep,hpb,dz⟩:=HP.out.at hbW k hkc
      subst ep;rw[HCY.out]at dz;clear HCY HCZ
      have HA:Hid (∀U,Below w.heap.size w U->Cl U b0 (off+k*3) (.int .i64 st)/\Cl U b0 (off+k*3+1) (.int .i64 pk)/\Cl U b0 (off+k*3+2) (.int .i64 en)):=fun U hU=>by
       have e:∀o,U.cell? ⟨b0,o,none⟩=wr.cell? ⟨b0,o,none⟩:=fun o=>(hU.cell (p:=⟨b0,o,none⟩) hb0).trans (hbW.cell (p:=⟨b0,o,none⟩) hb0).symm
       exact⟨⟨Nat.lt_of_lt_of_le hb0 hU.size,(e _).trans e0⟩,⟨Nat.lt_of_lt_of_le hb0 hU.size,(e _).trans e1⟩,⟨Nat.lt_of_lt_of_le hb0 hU.size,(e _).trans e2⟩⟩
      go_upto_region 8 with fail
      obtain⟨p00,p01,p02,_⟩:=P5.cells
      refine wp_region_held_drew (S:=(fun u=>u.cell? ⟨b0,off+k*3,none⟩=some (.int .i64 st)/\u.cell? ⟨b0,off+k*3+1,none⟩=some (.int .i64 pk)/\u.cell? ⟨b0,off+k*3+2,none⟩=some (.int .i64 en))) (by kernel_rfl) ?_ (fun hH=>?_)
      . (try dsimp only)
        go_keep
      have hdr:Below wr.heap.size wr wr.drew:=Below.drew1
      generalize wr.drew=ud2 at hdr hH ⊢
      replace A0:=A0.below hdr;replace A1:=A1.below hdr;replace A2:=A2.below hdr;replace hF5:=hF5.below hdr;replace B0:=B0.below hdr;replace P5:=P5.below hdr
      replace hbW:Below w.heap.size w ud2:=hbW.trans (hdr.mono hbW.size)
      clear hdr;clear p00 p01 p02;obtain⟨p00,p01,p02,_⟩:=P5.cells;refine hT 1 hH ?_;refine hT 2 hH ?_;refine hT 3 hH ?_;refine hT 4 hH ?_;refine hT 5 hH ?_
      refine wpAnyH_ready (rs:=[0,6]) (by kernel_rfl) (by simp) (hCons (i:=0) rfl (by rfl) (fun K hK=>?_) (hCons (i:=6) rfl (by rfl) (fun K hK=>?_) AllReadyH.nil))
      . go_simp
        refine hK.out _ _ ?_ (fun hH=>?_)
        . (try dsimp only)
          exact⟨A0.2,A1.2,A2.2⟩
        clear hK K
        try simp only[Act.put,pZ]
        refine hCall (i:=6) rfl (by kernel_rfl) (by rfl) (fun K hK=>?_)
        go_simp
        refine(hpa _).mono ?_
        rintro e u1 ⟨v8,rfl,hF8,hb1⟩;replace A0:=A0.below hb1;replace A1:=A1.below hb1;replace A2:=A2.below hb1;replace hF5:=hF5.below hb1;replace B0:=B0.below hb1;replace P5:=P5.below hb1
        replace hbW:Below w.heap.size w u1:=hbW.trans (hb1.mono hbW.size)
        clear hb1;clear p00 p01 p02;obtain⟨p00,p01,p02,_⟩:=P5.cells
        go_wp2_with fail
        refine hK.out _ _ ?_ (fun hH=>?_)
        . (try dsimp only)
          exact⟨A0.2,A1.2,A2.2⟩
        clear hK K
        try simp only[Act.put,pZ]
        refine hCall (i:=7) rfl (by kernel_rfl) (by rfl) (fun K hK=>?_)
        go_simp
        refine(zbl (2+2*k) 2 (alK l cs k) q _ _ _ hF5.ct hF8.ct (by omega) (by decide) (by omega) (by decide)).mono ?_
        rintro e u2 ⟨v9,rfl,hF9,hb2⟩;replace A0:=A0.below hb2;replace A1:=A1.below hb2;replace A2:=A2.below hb2;replace hF5:=hF5.below hb2;replace B0:=B0.below hb2;replace hF8:=hF8.below hb2;replace P5:=P5.below hb2
        replace hbW:Below w.heap.size w u2:=hbW.trans (hb2.mono hbW.size)
        clear hb2;rw[<-HK.out]at hF9;obtain⟨n9,x9,y9,⟨a9,c9,b9,d9,rfl,hx9,hy9⟩,hF9⟩:=hF9;clear p00 p01 p02;obtain⟨p00,p01,p02,_⟩:=P5.cells
        go_wp2_with fail
        refine hK.out _ _ ?_ (fun hH=>?_)
        . (try dsimp only)
          exact⟨A0.2,A1.2,A2.2⟩
        clear hK K
        try simp only[Act.put,pZ]
        refine hCall (i:=8) rfl (by kernel_rfl) (by rfl) (fun K hK=>?_)
        go_simp
        have hs:=P5.lt
        obtain⟨f1,f2,f3,f4,f5,f6⟩:=P5.cells
        try go_simp
        obtain⟨u63,hU,C5,hbU,hK9,ho⟩:=zai P5 (.bool n9) (.slice a9 x9.length c9) (.slice b9 y9.length d9)
        rw[<-hU];clear hU f1 f2 f3 f4 f5 f6
        replace B0:=B0.other ho (by omega)
        replace hbW:=hbU _ _ hbW (by omega)
        have hF9:Fr u63 (.agg #[.bool n9,.slice a9 x9.length c9,.slice b9 y9.length d9]) (2+2*(k+1)) (alK l cs (k+1)):=Fr.le (k:=2+2*k+2) ⟨_,_,_,⟨_,_,_,_,rfl,hK9 _ _ _ hx9,hK9 _ _ _ hy9⟩,hF9⟩ (by omega)
        clear hbU hK9 ho hx9 hy9 A0 A1 A2
        obtain⟨A0,A1,A2⟩:=HA.out _ hbW
        refine hK.out _ _ ?_ (fun hH=>?_)
        . (try dsimp only)
          exact⟨A0.2,A1.2,A2.2⟩
        clear hK K
        try simp only[Act.put,pZ]
        refine wpAnyH_done (by kernel_rfl) ?_ _
        clear hH;go_wp2
        go_roundw
        case rel=>exact⟨k+1,_,_,_,_,_,_,_,by omega,by go_num,C5,hF9,B0,hbW⟩
        case measure=>simp[intOf];omega
      . go_simp
        refine(hpa _).mono ?_
        rintro e u1 ⟨v8,rfl,hF8,hb1⟩;replace A0:=A0.below hb1;replace A1:=A1.below hb1;replace A2:=A2.below hb1;replace hF5:=hF5.below hb1;replace B0:=B0.below hb1;replace P5:=P5.below hb1
        replace hbW:Below w.heap.size w u1:=hbW.trans (hb1.mono hbW.size)
        clear hb1;clear p00 p01 p02;obtain⟨p00,p01,p02,_⟩:=P5.cells
        go_wp2_with fail
        refine hK.out _ _ ?_ (fun hH=>?_)
        . (try dsimp only)
          exact⟨A0.2,A1.2,A2.2⟩
        clear hK K
        try simp only[Act.put,pZ]
        refine hCall (i:=0) rfl (by kernel_rfl) (by rfl) (fun K hK=>?_)
        go_simp
        refine hK.out _ _ ?_ (fun hH=>?_)
        . (try dsimp only)
          exact⟨A0.2,A1.2,A2.2⟩
        clear hK K
        try simp only[Act.put,pZ]
        refine hCall (i:=7) rfl (by kernel_rfl) (by rfl) (fun K hK=>?_)
        go_simp
        refine(zbl (2+2*k) 2 (alK l cs k) q _ _ _ hF5.ct hF8.ct (by omega) (by decide) (by omega) (by decide)).mono ?_
        rintro e u2 ⟨v9,rfl,hF9,hb2⟩;replace A0:=A0.below hb2;replace A1:=A1.below hb2;replace A2:=A2.below hb2;replace hF5:=hF5.below hb2;replace B0:=B0.below hb2;replace hF8:=hF8.below hb2;replace P5:=P5.below hb2
        replace hbW:Below w.heap.size w u2:=hbW.trans (hb2.mono hbW.size)
        clear hb2;rw[<-HK.out]at hF9;obtain⟨n9,x9,y9,⟨a9,c9,b9,d9,rfl,hx9,hy9⟩,hF9⟩:=hF9;clear p00 p01 p02;obtain⟨p00,p01,p02,_⟩:=P5.cells
        go_wp2_with fail
        refine hK.out _ _ ?_ (fun hH=>?_)
        . (try dsimp only)
          exact⟨A0.2,A1.2,A2.2⟩
        clear hK K
        try simp only[Act.put,pZ]
        refine hCall (i:=8) rfl (by kernel_rfl) (by rfl) (fun K hK=>?_)
        go_simp
        have hs:=P5.lt
        obtain⟨f1,f2,f3,f4,f5,f6⟩:=P5.cells
        try go_simp
        obtain⟨u63,hU,C5,hbU,hK9,ho⟩:=zai P5 (.bool n9) (.slice a9 x9.length c9) (.slice b9 y9.length d9)
        rw[<-hU];clear hU f1 f2 f3 f4 f5 f6
        replace B0:=B0.other ho (by omega)
        replace hbW:=hbU _ _ hbW (by omega)
        have hF9:Fr u63 (.agg #[.bool n9,.slice a9 x9.length c9,.slice b9 y9.length d9]) (2+2*(k+1)) (alK l cs (k+1)):=Fr.le (k:=2+2*k+2) ⟨_,_,_,⟨_,_,_,_,rfl,hK9 _ _ _ hx9,hK9 _ _ _ hy9⟩,hF9⟩ (by omega)
        clear hbU hK9 ho hx9 hy9 A0 A1 A2
        obtain⟨A0,A1,A2⟩:=HA.out _ hbW
        refine hK.out _ _ ?_ (fun hH=>?_)
        . (try dsimp only)
          exact⟨A0.2,A1.2,A2.2⟩
        clear hK K
        try simp only[Act.put,pZ]
        refine wpAnyH_done (by kernel_rfl) ?_ _
        clear hH;go_wp2
        go_roundw
        case rel=>exact⟨k+1,_,_,_,_,_,_,_,by omega,by go_num,C5,hF9,B0,hbW⟩
        case measure=>simp[intOf];omega
    . have gg:¬(k:Int)<(cs.length:Int):=by omega
      obtain rfl:z=0:=HCZ.out hkc
      clear HCY HCZ
      have HA:Hid (∀U,Below w.heap.size w U->Cl U b0 (off+k*3) (.int .i64 st)/\Cl U b0 (off+k*3+1) (.int .i64 pk)/\Cl U b0 (off+k*3+2) (.int .i64 en)):=fun U hU=>by
       have e:∀o,U.cell? ⟨b0,o,none⟩=wr.cell? ⟨b0,o,none⟩:=fun o=>(hU.cell (p:=⟨b0,o,none⟩) hb0).trans (hbW.cell (p:=⟨b0,o,none⟩) hb0).symm
       exact⟨⟨Nat.lt_of_lt_of_le hb0 hU.size,(e _).trans e0⟩,⟨Nat.lt_of_lt_of_le hb0 hU.size,(e _).trans e1⟩,⟨Nat.lt_of_lt_of_le hb0 hU.size,(e _).trans e2⟩⟩
      go_upto_region 8 with fail
      obtain⟨p00,p01,p02,_⟩:=P5.cells
      refine wp_region_held_drew (S:=(fun u=>u.cell? ⟨b0,off+k*3,none⟩=some (.int .i64 st)/\u.cell? ⟨b0,off+k*3+1,none⟩=some (.int .i64 pk)/\u.cell? ⟨b0,off+k*3+2,none⟩=some (.int .i64 en))) (by kernel_rfl) ?_ (fun hH=>?_)
      . (try dsimp only)
        go_keep
      have hdr:Below wr.heap.size wr wr.drew:=Below.drew1
      generalize wr.drew=ud3 at hdr hH ⊢
      replace A0:=A0.below hdr;replace A1:=A1.below hdr;replace A2:=A2.below hdr;replace hF5:=hF5.below hdr;replace B0:=B0.below hdr;replace P5:=P5.below hdr
      replace hbW:Below w.heap.size w ud3:=hbW.trans (hdr.mono hbW.size)
      clear hdr;clear p00 p01 p02;obtain⟨p00,p01,p02,_⟩:=P5.cells;refine hT 1 hH ?_;refine hT 2 hH ?_;refine hT 3 hH ?_;refine hT 4 hH ?_;refine hT 5 hH ?_
      refine wpAnyH_ready (rs:=[0,6]) (by kernel_rfl) (by simp) (hCons (i:=0) rfl (by rfl) (fun K hK=>?_) (hCons (i:=6) rfl (by rfl) (fun K hK=>?_) AllReadyH.nil))
      . go_simp
        refine hK.out _ _ ?_ (fun hH=>?_)
        . (try dsimp only)
          exact⟨A0.2,A1.2,A2.2⟩
        clear hK K
        try simp only[Act.put,pZ]
        refine hCall (i:=6) rfl (by kernel_rfl) (by rfl) (fun K hK=>?_)
        go_simp
        refine(hpa _).mono ?_
        rintro e u1 ⟨v8,rfl,hF8,hb1⟩;replace A0:=A0.below hb1;replace A1:=A1.below hb1;replace A2:=A2.below hb1;replace hF5:=hF5.below hb1;replace B0:=B0.below hb1;replace P5:=P5.below hb1
        replace hbW:Below w.heap.size w u1:=hbW.trans (hb1.mono hbW.size)
        clear hb1;clear p00 p01 p02;obtain⟨p00,p01,p02,_⟩:=P5.cells
        go_wp2_with fail
        refine hK.out _ _ ?_ (fun hH=>?_)
        . (try dsimp only)
          exact⟨A0.2,A1.2,A2.2⟩
        clear hK K
        try simp only[Act.put,pZ]
        refine hCall (i:=7) rfl (by kernel_rfl) (by rfl) (fun K hK=>?_)
        go_simp
        refine(zbl (2+2*k) 2 (alK l cs k) q _ _ _ hF5.ct hF8.ct (by omega) (by decide) (by omega) (by decide)).mono ?_
        rintro e u2 ⟨v9,rfl,hF9,hb2⟩;replace A0:=A0.below hb2;replace A1:=A1.below hb2;replace A2:=A2.below hb2;replace hF5:=hF5.below hb2;replace B0:=B0.below hb2;replace hF8:=hF8.below hb2;replace P5:=P5.below hb2
        replace hbW:Below w.heap.size w u2:=hbW.trans (hb2.mono hbW.size)
        clear hb2;rw[<-HK.out]at hF9;obtain⟨n9,x9,y9,⟨a9,c9,b9,d9,rfl,hx9,hy9⟩,hF9⟩:=hF9;clear p00 p01 p02;obtain⟨p00,p01,p02,_⟩:=P5.cells
        go_wp2_with fail
        refine hK.out _ _ ?_ (fun hH=>?_)
        . (try dsimp only)
          exact⟨A0.2,A1.2,A2.2⟩
        clear hK K
        try simp only[Act.put,pZ]
        refine hCall (i:=8) rfl (by kernel_rfl) (by rfl) (fun K hK=>?_)
        go_simp
        have hs:=P5.lt
        obtain⟨f1,f2,f3,f4,f5,f6⟩:=P5.cells
        try go_simp
        obtain⟨u63,hU,C5,hbU,hK9,ho⟩:=zai P5 (.bool n9) (.slice a9 x9.length c9) (.slice b9 y9.length d9)
        rw[<-hU];clear hU f1 f2 f3 f4 f5 f6
        replace B0:=B0.other ho (by omega)
        replace hbW:=hbU _ _ hbW (by omega)
        have hF9:Fr u63 (.agg #[.bool n9,.slice a9 x9.length c9,.slice b9 y9.length d9]) (2+2*(k+1)) (alK l cs (k+1)):=Fr.le (k:=2+2*k+2) ⟨_,_,_,⟨_,_,_,_,rfl,hK9 _ _ _ hx9,hK9 _ _ _ hy9⟩,hF9⟩ (by omega)
        clear hbU hK9 ho hx9 hy9 A0 A1 A2
        obtain⟨A0,A1,A2⟩:=HA.out _ hbW
        refine hK.out _ _ ?_ (fun hH=>?_)
        . (try dsimp only)
          exact⟨A0.2,A1.2,A2.2⟩
        clear hK K
        try simp only[Act.put,pZ]
        refine wpAnyH_done (by kernel_rfl) ?_ _
        clear hH;go_wp2
        go_roundw
        case rel=>exact⟨k+1,_,_,_,_,_,_,_,by omega,by go_num,C5,hF9,B0,hbW⟩
        case measure=>simp[intOf];omega
      . go_simp
        refine(hpa _).mono ?_
        rintro e u1 ⟨v8,rfl,hF8,hb1⟩;replace A0:=A0.below hb1;replace A1:=A1.below hb1;replace A2:=A2.below hb1;replace hF5:=hF5.below hb1;replace B0:=B0.below hb1;replace P5:=P5.below hb1
        replace hbW:Below w.heap.size w u1:=hbW.trans (hb1.mono hbW.size)
        clear hb1;clear p00 p01 p02;obtain⟨p00,p01,p02,_⟩:=P5.cells
        go_wp2_with fail
        refine hK.out _ _ ?_ (fun hH=>?_)
        . (try dsimp only)
          exact⟨A0.2,A1.2,A2.2⟩
        clear hK K
        try simp only[Act.put,pZ]
        refine hCall (i:=0) rfl (by kernel_rfl) (by rfl) (fun K hK=>?_)
        go_simp
        refine hK.out _ _ ?_ (fun hH=>?_)
        . (try dsimp only)
          exact⟨A0.2,A1.2,A2.2⟩
        clear hK K
        try simp only[Act.put,pZ]
        refine hCall (i:=7) rfl (by kernel_rfl) (by rfl) (fun K hK=>?_)
        go_simp
        refine(zbl (2+2*k) 2 (alK l cs k) q _ _ _ hF5.ct hF8.ct (by omega) (by decide) (by omega) (by decide)).mono ?_
        rintro e u2 ⟨v9,rfl,hF9,hb2⟩;replace A0:=A0.below hb2;replace A1:=A1.below hb2;replace A2:=A2.below hb2;replace hF5:=hF5.below hb2;replace B0:=B0.below hb2;replace hF8:=hF8.below hb2;replace P5:=P5.below hb2
        replace hbW:Below w.heap.size w u2:=hbW.trans (hb2.mono hbW.size)
        clear hb2;rw[<-HK.out]at hF9;obtain⟨n9,x9,y9,⟨a9,c9,b9,d9,rfl,hx9,hy9⟩,hF9⟩:=hF9;clear p00 p01 p02;obtain⟨p00,p01,p02,_⟩:=P5.cells
        go_wp2_with fail
        refine hK.out _ _ ?_ (fun hH=>?_)
        . (try dsimp only)
          exact⟨A0.2,A1.2,A2.2⟩
        clear hK K
        try simp only[Act.put,pZ]
        refine hCall (i:=8) rfl (by kernel_rfl) (by rfl) (fun K hK=>?_)
        go_simp
        have hs:=P5.lt
        obtain⟨f1,f2,f3,f4,f5,f6⟩:=P5.cells
        try go_simp
        obtain⟨u63,hU,C5,hbU,hK9,ho⟩:=zai P5 (.bool n9) (.slice a9 x9.length c9) (.slice b9 y9.length d9)
        rw[<-hU];clear hU f1 f2 f3 f4 f5 f6
        replace B0:=B0.other ho (by omega)
        replace hbW:=hbU _ _ hbW (by omega)
        have hF9:Fr u63 (.agg #[.bool n9,.slice a9 x9.length c9,.slice b9 y9.length d9]) (2+2*(k+1)) (alK l cs (k+1)):=Fr.le (k:=2+2*k+2) ⟨_,_,_,⟨_,_,_,_,rfl,hK9 _ _ _ hx9,hK9 _ _ _ hy9⟩,hF9⟩ (by omega)
        clear hbU hK9 ho hx9 hy9 A0 A1 A2
        obtain⟨A0,A1,A2⟩:=HA.out _ hbW
        refine hK.out _ _ ?_ (fun hH=>?_)
        . (try dsimp only)
          exact⟨A0.2,A1.2,A2.2⟩
        clear hK K
        try simp only[Act.put,pZ]
        refine wpAnyH_done (by kernel_rfl) ?_ _
        clear hH;go_wp2
        go_roundw
        case rel=>exact⟨k+1,_,_,_,_,_,_,_,by omega,by go_num,C5,hF9,B0,hbW⟩
        case measure=>simp[intOf];omega
  . obtain rfl:k=l.length:=by omega
    obtain⟨p0,p1,p2,_⟩:=P5.cells;obtain⟨q1,q2,q3,q4,q5,q6⟩:=B0.cells
    have hs:=B0.lt
    go_wp2
    refine ret3 (v:=.agg #[.bool n5,.slice a5 x5 c5,.slice b5 y5 d5]) B0 rfl (fun U hU=>by obtain⟨r1,r2,r3,_⟩:=hU.cells;simp[results,Tryz.results122,go_sem,r1,r2,r3]) (fun U hU hK=>⟨_,rfl,hF5.moved hK,hU _ _ hbW (by omega)⟩)
