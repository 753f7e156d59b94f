import Derived.Test.YtkmcodofnckdmaaGreatZK7
import Derived.Laws.EntriesVeiled
set_option maxHeartbeats 4000000
set_option maxRecDepth 100000
set_option linter.unusedSimpArgs false
set_option linter.unusedVariables false
namespace Go.Proofs.YtkmcodofnckdmaaGreat
open Go.RowKit Go.Maps
def R22(base:Nat)(w:World)(vx vy:Value)(K:Nat)(X Y:List (List Rat)):Prop :=
 ∃BX BY:Nat->Prop,Rr BX w vx K X/\Rr BY w vy K Y/\(∀k,BX k->¬BY k)/\(∀k,BX k->base<=k/\k<w.heap.size)/\(∀k,BY k->base<=k/\k<w.heap.size)
theorem R22.nil(base:Nat)(w:World)(K:Nat):R22 base w (.slice none 0 0) (.slice none 0 0) K [] []:=⟨fun _=>False,fun _=>False,Rr.nil _ _ _,Rr.nil _ _ _,(fun k h=>h.elim),(fun k h=>h.elim),(fun k h=>h.elim)⟩
theorem R22.below{base:Nat}{w w':World}{vx vy:Value}{K:Nat}{X Y:List (List Rat)}(h:R22 base w vx vy K X Y)(hb:Below w.heap.size w w'):R22 base w' vx vy K X Y:=by
 obtain⟨BX,BY,h1,h2,h3,h4,h5⟩:=h
 exact⟨BX,BY,h1.below hb,h2.below hb,h3,(fun k hk=>⟨(h4 k hk).1,Nat.lt_of_lt_of_le (h4 k hk).2 hb.size⟩),(fun k hk=>⟨(h5 k hk).1,Nat.lt_of_lt_of_le (h5 k hk).2 hb.size⟩)⟩
theorem R22.swap{base:Nat}{w:World}{vx vy:Value}{K:Nat}{X Y:List (List Rat)}(h:R22 base w vx vy K X Y):R22 base w vy vx K Y X:=by
 obtain⟨BX,BY,h1,h2,h3,h4,h5⟩:=h
 exact⟨BY,BX,h2,h1,fun k hk hx=>h3 k hx hk,h5,h4⟩
theorem R22.lower{base base':Nat}{w:World}{vx vy:Value}{K:Nat}{X Y:List (List Rat)}(h:R22 base w vx vy K X Y)(hb:base'<=base):R22 base' w vx vy K X Y:=by
 obtain⟨BX,BY,h1,h2,h3,h4,h5⟩:=h
 exact⟨BX,BY,h1,h2,h3,(fun k hk=>⟨Nat.le_trans hb (h4 k hk).1,(h4 k hk).2⟩),(fun k hk=>⟨Nat.le_trans hb (h5 k hk).1,(h5 k hk).2⟩)⟩
theorem R22.turn{base:Nat}{w w':World}{vy vx':Value}{K:Nat}{Y X':List (List Rat)}{BX BY C D:Nat->Prop}(h2:Rr BY w vy K Y)(h3:∀k,BX k->¬BY k)(h4:∀k,BX k->base<=k/\k<w.heap.size)(h5:∀k,BY k->base<=k/\k<w.heap.size)(hx:Rr C w' vx' K X')(hC:∀k,C k->BX k\/w.heap.size<=k)(hk:Kn D w w')(hD:∀k,BY k->¬D k)(hb:base<=w.heap.size):R22 base w' vx' vy K X' Y:=by
 refine⟨fun k=>C k/\k<w'.heap.size,BY,hx.mono (fun k h1 h2=>⟨h1,h2⟩),h2.kn hk hD,fun k hk hy=>?_,fun k hk=>?_,fun k hy=>⟨(h5 k hy).1,Nat.lt_of_lt_of_le (h5 k hy).2 hk.size⟩⟩
 . rcases hC k hk.1 with h|h
   . exact h3 k h hy
   . have:=(h5 k hy).2
     omega
 . rcases hC k hk.1 with h|h
   . exact⟨(h4 k h).1,hk.2⟩
   . exact⟨Nat.le_trans hb h,hk.2⟩
theorem Bk.noI1{t:TypeId}{w:World}{g:Nat}{a:OA}{n c:Nat}(h:Bk t w g [.slice a n c]):NoI w g:=NoI.of h (fun v hv=>by simp at hv;rw[hv];rfl)
theorem Bk.one1{t:TypeId}{w:World}{g:Nat}{x:Value}(h:Bk t w g [x]):w.cell? ⟨g,0,none⟩=some x/\w.frozen? ⟨g,0,none⟩=false:=⟨h.cell 0 (by simp),h.fz 0⟩
theorem R22.put{t:TypeId}{base gx gy:Nat}{w V w9:World}{vy v':Value}{K:Nat}{X' Y:List (List Rat)}{BX BY:Nat->Prop}{xa:OA}{xn xc:Nat}(h2:Rr BY w vy K Y)(h3:∀k,BX k->¬BY k)(h4:∀k,BX k->base<=k/\k<w.heap.size)(h5:∀k,BY k->base<=k/\k<w.heap.size)(hbase:base<=w.heap.size)(hgx:gx<base)(hgy:gy<base)(hne:gx≠gy)(hbV:Below w.heap.size w V)(hkn:Kn BX V w9)(hR:Rr (fun k=>BX k\/w.heap.size<=k) w9 v' K X')(hx:Bk t w9 gx [.slice xa xn xc])(hy:Bk t w9 gy [vy]) :
 Bk t (w9.setCell ⟨gx,0,none⟩ v') gx [v']/\Bk t (w9.setCell ⟨gx,0,none⟩ v') gy [vy]/\R22 base (w9.setCell ⟨gx,0,none⟩ v') v' vy K X' Y/\Keep (fun k=>k<base/\k≠gx) w (w9.setCell ⟨gx,0,none⟩ v')/\base<=(w9.setCell ⟨gx,0,none⟩ v').heap.size:=by
 have hkw:Kn (fun k=>k=gx) w9 (w9.setCell ⟨gx,0,none⟩ v'):=Kn.set (B:=fun k=>k=gx) ⟨rfl,hx.noI1⟩ 0 _
 have k1:Kn (fun k=>BX k\/k=gx) w w9:=(Kn.of hbV).trans hkn (fun i hi _=>.inl hi)
 have k2:Kn (fun k=>BX k\/k=gx) w (w9.setCell ⟨gx,0,none⟩ v'):=k1.trans hkw (fun i hi _=>.inr hi)
 refine⟨hx.set 0 _,hy.other 0 _ (fun e=>hne e.symm),R22.turn h2 h3 h4 h5 (hR.kn hkw (fun k hk e=>?_)) (fun k hk=>hk) k2 (fun k hk hd=>?_) hbase,Keep.mono k2 (fun k hk=>⟨by omega,fun hc=>?_⟩),Nat.le_trans hbase k2.size⟩
 . rcases hk with hk|hk
   . have:=(h4 k hk).1;omega
   . omega
 . rcases hd with hd|hd
   . exact h3 k hd hk
   . have:=(h5 k hk).1;omega
 . rcases hc.1 with hd|hd
   . have:=(h4 k hd).1;omega
   . exact hk.2 hd
theorem zpa(base gx gy:Nat)(x y:Int)(xa:OA)(xc:Nat)(ya:OA)(yc:Nat)(X Y:List (List Rat))(w:World)(hX:Bk 230 w gx [.slice xa X.length xc])(hY:Bk 230 w gy [.slice ya Y.length yc])(h:R22 base w (.slice xa X.length xc) (.slice ya Y.length yc) 20 X Y)(hgx:gx<base)(hgy:gy<base)(hne:gx≠gy)(hbase:base<=w.heap.size)(hx:I64 x)(hy:I64 y)(hl1:X.length<=1000)(hl2:Y.length<=1000) :
 Calls Tryz.prog 225 #[.int .i64 x,.int .i64 y,.pointer (some ⟨gx,0,none⟩),.pointer (some ⟨gy,0,none⟩)] w fun e w'=>e=.returned (.tuple #[])/\∃xa' xc' ya' yc',Bk 230 w' gx [.slice xa' (X++[[(x:Rat)]]).length xc']/\Bk 230 w' gy [.slice ya' (Y++[[(y:Rat)]]).length yc']/\R22 base w' (.slice xa' (X++[[(x:Rat)]]).length xc') (.slice ya' (Y++[[(y:Rat)]]).length yc') 20 (X++[[(x:Rat)]]) (Y++[[(y:Rat)]])/\Keep (fun k=>k<base/\k≠gx/\k≠gy) w w'/\base<=w'.heap.size:=by
 unfold I64 at hx hy
 obtain⟨BX,BY,h1,h2,h3,h4,h5⟩:=h
 go_enter Tryz.func225,Tryz.ntmps225
 go_upto_region 0 with fail
 go_cut []from 6 to 11 (fun wx=>∃xa' xc',Bk 230 wx gx [.slice xa' (X++[[(x:Rat)]]).length xc']/\Bk 230 wx gy [.slice ya Y.length yc]/\R22 base wx (.slice xa' (X++[[(x:Rat)]]).length xc') (.slice ya Y.length yc) 20 (X++[[(x:Rat)]]) Y/\Keep (fun k=>k<base/\k≠gx) w wx/\base<=wx.heap.size)
 case first =>
  refine wp_region_held_drew (S:=(fun _=>True)) (by kernel_rfl) ?_ (fun hH=>?_)
  . (try dsimp only)
    all_goals go_keep
  have hbc:Below w.heap.size w w.drew:=Below.drew1
  generalize w.drew=ud at hbc hH ⊢
  refine hT 1 hH ?_
  refine wpAnyH_ready (rs:=[0,2]) (by kernel_rfl) (by simp) (hCons (i:=0) rfl (by rfl) (fun K hK=>?_) (hCons (i:=2) rfl (by rfl) (fun K hK=>?_) AllReadyH.nil))
  . obtain⟨c0,f0⟩:=(hX.below hbc).one1
    have hlt:=(hX.below hbc).lt
    go_simp
    refine hK.out _ _ ?_ (fun hH=>?_)
    . (try dsimp only)
      all_goals trivial
    clear hK K
    try simp only[Act.put,pZ]
    clear c0 f0 hlt
    refine hCall (i:=2) rfl (by kernel_rfl) (by rfl) (fun K hK=>?_)
    go_simp
    refine(zae x _ (by omega) (by omega)).mono ?_
    rintro e u1 ⟨v1,rfl,hF1,hb0⟩
    replace hF1:=hF1.le (show 2<=20 by decide)
    obtain⟨z1,x1,x2,x3,x4,x5,x6,rfl⟩:=hF1.cells3'
    replace hbc:=hbc.trans (hb0.mono hbc.size)
    have hs1:=hbc.size
    go_wp2_with fail
    refine hK.out _ _ ?_ (fun hH=>?_)
    . (try dsimp only)
      all_goals trivial
    clear hK K
    try simp only[Act.put,pZ]
    refine hCall (i:=3) rfl (by kernel_rfl) (by rfl) (fun K hK=>?_)
    go_simp
    obtain⟨V1,hV1,A1,hb1⟩:∃V,V=u1.alloc (.cells #[.bool z1,.slice x1 x2 x3,.slice x4 x5 x6] 125)/\Bk 125 V u1.heap.size [.bool z1,.slice x1 x2 x3,.slice x4 x5 x6]/\Below u1.heap.size u1 V:=⟨_,rfl,Bk.new _ _ _,bl1 _⟩
    rw[<-hV1];clear hV1
    have hF2:=hF1.below hb1
    replace hbc:=hbc.trans (hb1.mono hbc.size)
    have hs2:=hb1.size
    have hs3:=A1.lt
    refine hK.out _ _ ?_ (fun hH=>?_)
    . (try dsimp only)
      all_goals trivial
    clear hK K
    try simp only[Act.put,pZ]
    refine hCall (i:=4) rfl (by kernel_rfl) (by rfl) (fun K hK=>?_)
    go_simp
    obtain⟨V2,hV2,A2,hb2⟩:∃V,V=V1.alloc (.cells #[.slice (some ⟨u1.heap.size,0,none⟩) 1 1] 173)/\Bk 173 V V1.heap.size [.slice (some ⟨u1.heap.size,0,none⟩) 1 1]/\Below V1.heap.size V1 V:=⟨_,rfl,Bk.new _ _ _,bl1 _⟩
    rw[<-hV2];clear hV2
    have hrow:=Ro.one (A1.below hb2) (hF2.below hb2)
    replace hbc:=hbc.trans (hb2.mono hbc.size)
    have hs4:=hb2.size
    refine hK.out _ _ ?_ (fun hH=>?_)
    . (try dsimp only)
      all_goals trivial
    clear hK K
    try simp only[Act.put,pZ]
    have hr1:=h1.below hbc
    have BX2:=hX.below hbc
    have BY2:=hY.below hbc
    refine hCall (i:=5) rfl (by kernel_rfl) (by rfl) (fun K hK=>?_)
    refine zax _ _ rfl BX (fun k=>BX k\/w.heap.size<=k) _ 20 X rfl hr1 V1.heap.size rfl (.slice (some ⟨u1.heap.size,0,none⟩) 1 1) [(x:Rat)] A2.one1.1 hrow ⟨rfl,rfl⟩ (fun b e=>by
     have e:some u1.heap.size=some b:=e
     injection e with e
     exact⟨fun hb=>by have:=(h4 b hb).2;omega,.inr (by omega)⟩) (fun k hk=>.inl hk) (.inr (by omega)) (by omega) ?_
    intro v' w9 hR hkn _
    have BX3:=BX2.kn hkn (fun hb=>by have:=(h4 _ hb).1;omega)
    have BY3:=BY2.kn hkn (fun hb=>by have:=(h4 _ hb).1;omega)
    obtain⟨va',vc',rfl,-,-⟩:=hR.slice
    have zbs:=R22.put h2 h3 h4 h5 hbase (gx:=gx) (gy:=gy) (by omega) (by omega) (by omega) hbc hkn hR BX3 BY3
    refine hK.out _ _ ?_ (fun hH=>?_)
    . (try dsimp only)
      all_goals trivial
    clear hK K
    try simp only[Act.put,pZ]
    refine hCall (i:=6) rfl (by kernel_rfl) (by rfl) (fun K hK=>?_)
    obtain⟨c0,f0⟩:=BX3.one1
    have hlt:=BX3.lt
    obtain⟨nl,hnl⟩:∃n,(X++[[(x:Rat)]]).length=n:=⟨_,rfl⟩
    have HNL:Hid ((X++[[(x:Rat)]]).length=nl):=hnl
    rw[hnl]at zbs ⊢;clear hnl;go_simp
    generalize w9.setCell ⟨gx,0,none⟩ (.slice va' nl vc')=wz at zbs ⊢
    refine hK.out _ _ ?_ (fun hH=>?_)
    . (try dsimp only)
      all_goals trivial
    clear hK K
    try simp only[Act.put,pZ]
    refine wpAnyH_done (by kernel_rfl) ?_ _
    clear hH
    go_wp2_with fail
    go_meet
    rw[<-HNL.out]at zbs
    exact⟨va',vc',zbs⟩
  . go_simp
    refine(zae x _ (by omega) (by omega)).mono ?_
    rintro e u1 ⟨v1,rfl,hF1,hb0⟩
    replace hF1:=hF1.le (show 2<=20 by decide)
    obtain⟨z1,x1,x2,x3,x4,x5,x6,rfl⟩:=hF1.cells3'
    replace hbc:=hbc.trans (hb0.mono hbc.size)
    have hs1:=hbc.size
    go_wp2_with fail
    refine hK.out _ _ ?_ (fun hH=>?_)
    . (try dsimp only)
      all_goals trivial
    clear hK K
    try simp only[Act.put,pZ]
    refine wpAnyH_ready (rs:=[0,3]) (by kernel_rfl) (by simp) (hCons (i:=0) rfl (by rfl) (fun K hK=>?_) (hCons (i:=3) rfl (by rfl) (fun K hK=>?_) AllReadyH.nil))
    . obtain⟨c0,f0⟩:=(hX.below hbc).one1
      have hlt:=(hX.below hbc).lt
      go_simp
      refine hK.out _ _ ?_ (fun hH=>?_)
      . (try dsimp only)
        all_goals trivial
      clear hK K
      try simp only[Act.put,pZ]
      clear c0 f0 hlt
      refine hCall (i:=3) rfl (by kernel_rfl) (by rfl) (fun K hK=>?_)
      go_simp
      obtain⟨V1,hV1,A1,hb1⟩:∃V,V=u1.alloc (.cells #[.bool z1,.slice x1 x2 x3,.slice x4 x5 x6] 125)/\Bk 125 V u1.heap.size [.bool z1,.slice x1 x2 x3,.slice x4 x5 x6]/\Below u1.heap.size u1 V:=⟨_,rfl,Bk.new _ _ _,bl1 _⟩
      rw[<-hV1];clear hV1
      have hF2:=hF1.below hb1
      replace hbc:=hbc.trans (hb1.mono hbc.size)
      have hs2:=hb1.size
      have hs3:=A1.lt
      refine hK.out _ _ ?_ (fun hH=>?_)
      . (try dsimp only)
        all_goals trivial
      clear hK K
      try simp only[Act.put,pZ]
      refine hCall (i:=4) rfl (by kernel_rfl) (by rfl) (fun K hK=>?_)
      go_simp
      obtain⟨V2,hV2,A2,hb2⟩:∃V,V=V1.alloc (.cells #[.slice (some ⟨u1.heap.size,0,none⟩) 1 1] 173)/\Bk 173 V V1.heap.size [.slice (some ⟨u1.heap.size,0,none⟩) 1 1]/\Below V1.heap.size V1 V:=⟨_,rfl,Bk.new _ _ _,bl1 _⟩
      rw[<-hV2];clear hV2
      have hrow:=Ro.one (A1.below hb2) (hF2.below hb2)
      replace hbc:=hbc.trans (hb2.mono hbc.size)
      have hs4:=hb2.size
      refine hK.out _ _ ?_ (fun hH=>?_)
      . (try dsimp only)
        all_goals trivial
      clear hK K
      try simp only[Act.put,pZ]
      have hr1:=h1.below hbc
      have BX2:=hX.below hbc
      have BY2:=hY.below hbc
      refine hCall (i:=5) rfl (by kernel_rfl) (by rfl) (fun K hK=>?_)
      refine zax _ _ rfl BX (fun k=>BX k\/w.heap.size<=k) _ 20 X rfl hr1 V1.heap.size rfl (.slice (some ⟨u1.heap.size,0,none⟩) 1 1) [(x:Rat)] A2.one1.1 hrow ⟨rfl,rfl⟩ (fun b e=>by
       have e:some u1.heap.size=some b:=e
       injection e with e
       exact⟨fun hb=>by have:=(h4 b hb).2;omega,.inr (by omega)⟩) (fun k hk=>.inl hk) (.inr (by omega)) (by omega) ?_
      intro v' w9 hR hkn _
      have BX3:=BX2.kn hkn (fun hb=>by have:=(h4 _ hb).1;omega)
      have BY3:=BY2.kn hkn (fun hb=>by have:=(h4 _ hb).1;omega)
      obtain⟨va',vc',rfl,-,-⟩:=hR.slice
      have zbs:=R22.put h2 h3 h4 h5 hbase (gx:=gx) (gy:=gy) (by omega) (by omega) (by omega) hbc hkn hR BX3 BY3
      refine hK.out _ _ ?_ (fun hH=>?_)
      . (try dsimp only)
        all_goals trivial
      clear hK K
      try simp only[Act.put,pZ]
      refine hCall (i:=6) rfl (by kernel_rfl) (by rfl) (fun K hK=>?_)
      obtain⟨c0,f0⟩:=BX3.one1
      have hlt:=BX3.lt
      obtain⟨nl,hnl⟩:∃n,(X++[[(x:Rat)]]).length=n:=⟨_,rfl⟩
      have HNL:Hid ((X++[[(x:Rat)]]).length=nl):=hnl
      rw[hnl]at zbs ⊢;clear hnl;go_simp
      generalize w9.setCell ⟨gx,0,none⟩ (.slice va' nl vc')=wz at zbs ⊢
      refine hK.out _ _ ?_ (fun hH=>?_)
      . (try dsimp only)
        all_goals trivial
      clear hK K
      try simp only[Act.put,pZ]
      refine wpAnyH_done (by kernel_rfl) ?_ _
      clear hH
      go_wp2_with fail
      go_meet
      rw[<-HNL.out]at zbs
      exact⟨va',vc',zbs⟩
    . go_simp
      obtain⟨V1,hV1,A1,hb1⟩:∃V,V=u1.alloc (.cells #[.bool z1,.slice x1 x2 x3,.slice x4 x5 x6] 125)/\Bk 125 V u1.heap.size [.bool z1,.slice x1 x2 x3,.slice x4 x5 x6]/\Below u1.heap.size u1 V:=⟨_,rfl,Bk.new _ _ _,bl1 _⟩
      rw[<-hV1];clear hV1
      have hF2:=hF1.below hb1
      replace hbc:=hbc.trans (hb1.mono hbc.size)
      have hs2:=hb1.size
      have hs3:=A1.lt
      refine hK.out _ _ ?_ (fun hH=>?_)
      . (try dsimp only)
        all_goals trivial
      clear hK K
      try simp only[Act.put,pZ]
      refine wpAnyH_ready (rs:=[0,4]) (by kernel_rfl) (by simp) (hCons (i:=0) rfl (by rfl) (fun K hK=>?_) (hCons (i:=4) rfl (by rfl) (fun K hK=>?_) AllReadyH.nil))
      . obtain⟨c0,f0⟩:=(hX.below hbc).one1
        have hlt:=(hX.below hbc).lt
        go_simp
        refine hK.out _ _ ?_ (fun hH=>?_)
        . (try dsimp only)
          all_goals trivial
        clear hK K
        try simp only[Act.put,pZ]
        clear c0 f0 hlt
        refine hCall (i:=4) rfl (by kernel_rfl) (by rfl) (fun K hK=>?_)
        go_simp
        obtain⟨V2,hV2,A2,hb2⟩:∃V,V=V1.alloc (.cells #[.slice (some ⟨u1.heap.size,0,none⟩) 1 1] 173)/\Bk 173 V V1.heap.size [.slice (some ⟨u1.heap.size,0,none⟩) 1 1]/\Below V1.heap.size V1 V:=⟨_,rfl,Bk.new _ _ _,bl1 _⟩
        rw[<-hV2];clear hV2
        have hrow:=Ro.one (A1.below hb2) (hF2.below hb2)
        replace hbc:=hbc.trans (hb2.mono hbc.size)
        have hs4:=hb2.size
        refine hK.out _ _ ?_ (fun hH=>?_)
        . (try dsimp only)
          all_goals trivial
        clear hK K
        try simp only[Act.put,pZ]
        have hr1:=h1.below hbc
        have BX2:=hX.below hbc
        have BY2:=hY.below hbc
        refine hCall (i:=5) rfl (by kernel_rfl) (by rfl) (fun K hK=>?_)
        refine zax _ _ rfl BX (fun k=>BX k\/w.heap.size<=k) _ 20 X rfl hr1 V1.heap.size rfl (.slice (some ⟨u1.heap.size,0,none⟩) 1 1) [(x:Rat)] A2.one1.1 hrow ⟨rfl,rfl⟩ (fun b e=>by
         have e:some u1.heap.size=some b:=e
         injection e with e
         exact⟨fun hb=>by have:=(h4 b hb).2;omega,.inr (by omega)⟩) (fun k hk=>.inl hk) (.inr (by omega)) (by omega) ?_
        intro v' w9 hR hkn _
        have BX3:=BX2.kn hkn (fun hb=>by have:=(h4 _ hb).1;omega)
        have BY3:=BY2.kn hkn (fun hb=>by have:=(h4 _ hb).1;omega)
        obtain⟨va',vc',rfl,-,-⟩:=hR.slice
        have zbs:=R22.put h2 h3 h4 h5 hbase (gx:=gx) (gy:=gy) (by omega) (by omega) (by omega) hbc hkn hR BX3 BY3
        refine hK.out _ _ ?_ (fun hH=>?_)
        . (try dsimp only)
          all_goals trivial
        clear hK K
        try simp only[Act.put,pZ]
        refine hCall (i:=6) rfl (by kernel_rfl) (by rfl) (fun K hK=>?_)
        obtain⟨c0,f0⟩:=BX3.one1
        have hlt:=BX3.lt
        obtain⟨nl,hnl⟩:∃n,(X++[[(x:Rat)]]).length=n:=⟨_,rfl⟩
        have HNL:Hid ((X++[[(x:Rat)]]).length=nl):=hnl
        rw[hnl]at zbs ⊢;clear hnl;go_simp
        generalize w9.setCell ⟨gx,0,none⟩ (.slice va' nl vc')=wz at zbs ⊢
        refine hK.out _ _ ?_ (fun hH=>?_)
        . (try dsimp only)
          all_goals trivial
        clear hK K
        try simp only[Act.put,pZ]
        refine wpAnyH_done (by kernel_rfl) ?_ _
        clear hH
        go_wp2_with fail
        go_meet
        rw[<-HNL.out]at zbs
        exact⟨va',vc',zbs⟩
      . go_simp
        obtain⟨V2,hV2,A2,hb2⟩:∃V,V=V1.alloc (.cells #[.slice (some ⟨u1.heap.size,0,none⟩) 1 1] 173)/\Bk 173 V V1.heap.size [.slice (some ⟨u1.heap.size,0,none⟩) 1 1]/\Below V1.heap.size V1 V:=⟨_,rfl,Bk.new _ _ _,bl1 _⟩
        rw[<-hV2];clear hV2
        have hrow:=Ro.one (A1.below hb2) (hF2.below hb2)
        replace hbc:=hbc.trans (hb2.mono hbc.size)
        have hs4:=hb2.size
        refine hK.out _ _ ?_ (fun hH=>?_)
        . (try dsimp only)
          all_goals trivial
        clear hK K
        try simp only[Act.put,pZ]
        refine hCall (i:=0) rfl (by kernel_rfl) (by rfl) (fun K hK=>?_)
        obtain⟨c0,f0⟩:=(hX.below hbc).one1
        have hlt:=(hX.below hbc).lt
        go_simp
        refine hK.out _ _ ?_ (fun hH=>?_)
        . (try dsimp only)
          all_goals trivial
        clear hK K
        try simp only[Act.put,pZ]
        clear c0 f0 hlt
        have hr1:=h1.below hbc
        have BX2:=hX.below hbc
        have BY2:=hY.below hbc
        refine hCall (i:=5) rfl (by kernel_rfl) (by rfl) (fun K hK=>?_)
        refine zax _ _ rfl BX (fun k=>BX k\/w.heap.size<=k) _ 20 X rfl hr1 V1.heap.size rfl (.slice (some ⟨u1.heap.size,0,none⟩) 1 1) [(x:Rat)] A2.one1.1 hrow ⟨rfl,rfl⟩ (fun b e=>by
         have e:some u1.heap.size=some b:=e
         injection e with e
         exact⟨fun hb=>by have:=(h4 b hb).2;omega,.inr (by omega)⟩) (fun k hk=>.inl hk) (.inr (by omega)) (by omega) ?_
        intro v' w9 hR hkn _
        have BX3:=BX2.kn hkn (fun hb=>by have:=(h4 _ hb).1;omega)
        have BY3:=BY2.kn hkn (fun hb=>by have:=(h4 _ hb).1;omega)
        obtain⟨va',vc',rfl,-,-⟩:=hR.slice
        have zbs:=R22.put h2 h3 h4 h5 hbase (gx:=gx) (gy:=gy) (by omega) (by omega) (by omega) hbc hkn hR BX3 BY3
        refine hK.out _ _ ?_ (fun hH=>?_)
        . (try dsimp only)
          all_goals trivial
        clear hK K
        try simp only[Act.put,pZ]
        refine hCall (i:=6) rfl (by kernel_rfl) (by rfl) (fun K hK=>?_)
        obtain⟨c0,f0⟩:=BX3.one1
        have hlt:=BX3.lt
        obtain⟨nl,hnl⟩:∃n,(X++[[(x:Rat)]]).length=n:=⟨_,rfl⟩
        have HNL:Hid ((X++[[(x:Rat)]]).length=nl):=hnl
        rw[hnl]at zbs ⊢;clear hnl;go_simp
        generalize w9.setCell ⟨gx,0,none⟩ (.slice va' nl vc')=wz at zbs ⊢
        refine hK.out _ _ ?_ (fun hH=>?_)
        . (try dsimp only)
          all_goals trivial
        clear hK K
        try simp only[Act.put,pZ]
        refine wpAnyH_done (by kernel_rfl) ?_ _
        clear hH
        go_wp2_with fail
        go_meet
        rw[<-HNL.out]at zbs
        exact⟨va',vc',zbs⟩
 case rest =>
  obtain⟨xa2,xc2,hX2,hY2,h22,hkp,zn6⟩:=hcut;clear h1 h2 h3 h4 h5 hX hY hbase;obtain⟨BX',BY',h1,h2,h3,h4,h5⟩:=h22.swap
  obtain⟨X',hX'⟩:∃l,X++[[(x:Rat)]]=l:=⟨_,rfl⟩
  have HX':Hid (X++[[(x:Rat)]]=X'):=hX'
  rw[hX']at hX2 h22 h2;clear hX'
  go_upto_region 1 with fail
  refine wp_region_held_drew (S:=(fun _=>True)) (by kernel_rfl) ?_ (fun hH=>?_)
  . (try dsimp only)
    all_goals go_keep
  have hbc:Below wc.heap.size wc wc.drew:=Below.drew1
  generalize wc.drew=ud at hbc hH ⊢
  refine hT 1 hH ?_
  refine wpAnyH_ready (rs:=[0,2]) (by kernel_rfl) (by simp) (hCons (i:=0) rfl (by rfl) (fun K hK=>?_) (hCons (i:=2) rfl (by rfl) (fun K hK=>?_) AllReadyH.nil))
  . obtain⟨c0,f0⟩:=(hY2.below hbc).one1
    have hlt:=(hY2.below hbc).lt
    go_simp
    refine hK.out _ _ ?_ (fun hH=>?_)
    . (try dsimp only)
      all_goals trivial
    clear hK K
    try simp only[Act.put,pZ]
    clear c0 f0 hlt
    refine hCall (i:=2) rfl (by kernel_rfl) (by rfl) (fun K hK=>?_)
    go_simp
    refine(zae y _ (by omega) (by omega)).mono ?_
    rintro e u1 ⟨v1,rfl,hF1,hb0⟩
    replace hF1:=hF1.le (show 2<=20 by decide)
    obtain⟨z1,x1,x2,x3,x4,x5,x6,rfl⟩:=hF1.cells3'
    replace hbc:=hbc.trans (hb0.mono hbc.size)
    have hs1:=hbc.size
    go_wp2_with fail
    refine hK.out _ _ ?_ (fun hH=>?_)
    . (try dsimp only)
      all_goals trivial
    clear hK K
    try simp only[Act.put,pZ]
    refine hCall (i:=3) rfl (by kernel_rfl) (by rfl) (fun K hK=>?_)
    go_simp
    obtain⟨V1,hV1,A1,hb1⟩:∃V,V=u1.alloc (.cells #[.bool z1,.slice x1 x2 x3,.slice x4 x5 x6] 125)/\Bk 125 V u1.heap.size [.bool z1,.slice x1 x2 x3,.slice x4 x5 x6]/\Below u1.heap.size u1 V:=⟨_,rfl,Bk.new _ _ _,bl1 _⟩
    rw[<-hV1];clear hV1
    have hF2:=hF1.below hb1
    replace hbc:=hbc.trans (hb1.mono hbc.size)
    have hs2:=hb1.size
    have hs3:=A1.lt
    refine hK.out _ _ ?_ (fun hH=>?_)
    . (try dsimp only)
      all_goals trivial
    clear hK K
    try simp only[Act.put,pZ]
    refine hCall (i:=4) rfl (by kernel_rfl) (by rfl) (fun K hK=>?_)
    go_simp
    obtain⟨V2,hV2,A2,hb2⟩:∃V,V=V1.alloc (.cells #[.slice (some ⟨u1.heap.size,0,none⟩) 1 1] 173)/\Bk 173 V V1.heap.size [.slice (some ⟨u1.heap.size,0,none⟩) 1 1]/\Below V1.heap.size V1 V:=⟨_,rfl,Bk.new _ _ _,bl1 _⟩
    rw[<-hV2];clear hV2
    have hrow:=Ro.one (A1.below hb2) (hF2.below hb2)
    replace hbc:=hbc.trans (hb2.mono hbc.size)
    have hs4:=hb2.size
    refine hK.out _ _ ?_ (fun hH=>?_)
    . (try dsimp only)
      all_goals trivial
    clear hK K
    try simp only[Act.put,pZ]
    have hr1:=h1.below hbc
    have BX2:=hY2.below hbc
    have BY2:=hX2.below hbc
    refine hCall (i:=5) rfl (by kernel_rfl) (by rfl) (fun K hK=>?_)
    refine zax _ _ rfl BX' (fun k=>BX' k\/wc.heap.size<=k) _ 20 Y rfl hr1 V1.heap.size rfl (.slice (some ⟨u1.heap.size,0,none⟩) 1 1) [(y:Rat)] A2.one1.1 hrow ⟨rfl,rfl⟩ (fun b e=>by
     have e:some u1.heap.size=some b:=e
     injection e with e
     exact⟨fun hb=>by have:=(h4 b hb).2;omega,.inr (by omega)⟩) (fun k hk=>.inl hk) (.inr (by omega)) (by omega) ?_
    intro v' w9 hR hkn _
    have BX3:=BX2.kn hkn (fun hb=>by have:=(h4 _ hb).1;omega)
    have BY3:=BY2.kn hkn (fun hb=>by have:=(h4 _ hb).1;omega)
    obtain⟨va',vc',rfl,-,-⟩:=hR.slice
    have zbs:=R22.put h2 h3 h4 h5 zn6 (gx:=gy) (gy:=gx) (by omega) (by omega) (by omega) hbc hkn hR BX3 BY3
    refine hK.out _ _ ?_ (fun hH=>?_)
    . (try dsimp only)
      all_goals trivial
    clear hK K
    try simp only[Act.put,pZ]
    refine hCall (i:=6) rfl (by kernel_rfl) (by rfl) (fun K hK=>?_)
    obtain⟨c0,f0⟩:=BX3.one1
    have hlt:=BX3.lt
    obtain⟨nl,hnl⟩:∃n,(Y++[[(y:Rat)]]).length=n:=⟨_,rfl⟩
    have HNL:Hid ((Y++[[(y:Rat)]]).length=nl):=hnl
    rw[hnl]at zbs ⊢;clear hnl;go_simp
    generalize w9.setCell ⟨gy,0,none⟩ (.slice va' nl vc')=wz at zbs ⊢
    refine hK.out _ _ ?_ (fun hH=>?_)
    . (try dsimp only)
      all_goals trivial
    clear hK K
    try simp only[Act.put,pZ]
    refine wpAnyH_done (by kernel_rfl) ?_ _
    clear hH;clear hX2 hY2 BX2 BY2 BX3 BY3;go_wp2
    go_end0
    rw[<-HNL.out,<-HX'.out]at zbs
    exact⟨rfl,xa2,xc2,va',vc',zbs.2.1,zbs.1,zbs.2.2.1.swap,Keep.trans (hkp.mono (fun k hk=>⟨hk.1,hk.2.1⟩)) (zbs.2.2.2.1.mono (fun k hk=>⟨hk.1,hk.2.2⟩)),zbs.2.2.2.2⟩
  . go_simp
    refine(zae y _ (by omega) (by omega)).mono ?_
    rintro e u1 ⟨v1,rfl,hF1,hb0⟩
    replace hF1:=hF1.le (show 2<=20 by decide)
    obtain⟨z1,x1,x2,x3,x4,x5,x6,rfl⟩:=hF1.cells3'
    replace hbc:=hbc.trans (hb0.mono hbc.size)
    have hs1:=hbc.size
    go_wp2_with fail
    refine hK.out _ _ ?_ (fun hH=>?_)
    . (try dsimp only)
      all_goals trivial
    clear hK K
    try simp only[Act.put,pZ]
    refine wpAnyH_ready (rs:=[0,3]) (by kernel_rfl) (by simp) (hCons (i:=0) rfl (by rfl) (fun K hK=>?_) (hCons (i:=3) rfl (by rfl) (fun K hK=>?_) AllReadyH.nil))
    . obtain⟨c0,f0⟩:=(hY2.below hbc).one1
      have hlt:=(hY2.below hbc).lt
      go_simp
      refine hK.out _ _ ?_ (fun hH=>?_)
      . (try dsimp only)
        all_goals trivial
      clear hK K
      try simp only[Act.put,pZ]
      clear c0 f0 hlt
      refine hCall (i:=3) rfl (by kernel_rfl) (by rfl) (fun K hK=>?_)
      go_simp
      obtain⟨V1,hV1,A1,hb1⟩:∃V,V=u1.alloc (.cells #[.bool z1,.slice x1 x2 x3,.slice x4 x5 x6] 125)/\Bk 125 V u1.heap.size [.bool z1,.slice x1 x2 x3,.slice x4 x5 x6]/\Below u1.heap.size u1 V:=⟨_,rfl,Bk.new _ _ _,bl1 _⟩
      rw[<-hV1];clear hV1
      have hF2:=hF1.below hb1
      replace hbc:=hbc.trans (hb1.mono hbc.size)
      have hs2:=hb1.size
      have hs3:=A1.lt
      refine hK.out _ _ ?_ (fun hH=>?_)
      . (try dsimp only)
        all_goals trivial
      clear hK K
      try simp only[Act.put,pZ]
      refine hCall (i:=4) rfl (by kernel_rfl) (by rfl) (fun K hK=>?_)
      go_simp
      obtain⟨V2,hV2,A2,hb2⟩:∃V,V=V1.alloc (.cells #[.slice (some ⟨u1.heap.size,0,none⟩) 1 1] 173)/\Bk 173 V V1.heap.size [.slice (some ⟨u1.heap.size,0,none⟩) 1 1]/\Below V1.heap.size V1 V:=⟨_,rfl,Bk.new _ _ _,bl1 _⟩
      rw[<-hV2];clear hV2
      have hrow:=Ro.one (A1.below hb2) (hF2.below hb2)
      replace hbc:=hbc.trans (hb2.mono hbc.size)
      have hs4:=hb2.size
      refine hK.out _ _ ?_ (fun hH=>?_)
      . (try dsimp only)
        all_goals trivial
      clear hK K
      try simp only[Act.put,pZ]
      have hr1:=h1.below hbc
      have BX2:=hY2.below hbc
      have BY2:=hX2.below hbc
      refine hCall (i:=5) rfl (by kernel_rfl) (by rfl) (fun K hK=>?_)
      refine zax _ _ rfl BX' (fun k=>BX' k\/wc.heap.size<=k) _ 20 Y rfl hr1 V1.heap.size rfl (.slice (some ⟨u1.heap.size,0,none⟩) 1 1) [(y:Rat)] A2.one1.1 hrow ⟨rfl,rfl⟩ (fun b e=>by
       have e:some u1.heap.size=some b:=e
       injection e with e
       exact⟨fun hb=>by have:=(h4 b hb).2;omega,.inr (by omega)⟩) (fun k hk=>.inl hk) (.inr (by omega)) (by omega) ?_
      intro v' w9 hR hkn _
      have BX3:=BX2.kn hkn (fun hb=>by have:=(h4 _ hb).1;omega)
      have BY3:=BY2.kn hkn (fun hb=>by have:=(h4 _ hb).1;omega)
      obtain⟨va',vc',rfl,-,-⟩:=hR.slice
      have zbs:=R22.put h2 h3 h4 h5 zn6 (gx:=gy) (gy:=gx) (by omega) (by omega) (by omega) hbc hkn hR BX3 BY3
      refine hK.out _ _ ?_ (fun hH=>?_)
      . (try dsimp only)
        all_goals trivial
      clear hK K
      try simp only[Act.put,pZ]
      refine hCall (i:=6) rfl (by kernel_rfl) (by rfl) (fun K hK=>?_)
      obtain⟨c0,f0⟩:=BX3.one1
      have hlt:=BX3.lt
      obtain⟨nl,hnl⟩:∃n,(Y++[[(y:Rat)]]).length=n:=⟨_,rfl⟩
      have HNL:Hid ((Y++[[(y:Rat)]]).length=nl):=hnl
      rw[hnl]at zbs ⊢;clear hnl;go_simp
      generalize w9.setCell ⟨gy,0,none⟩ (.slice va' nl vc')=wz at zbs ⊢
      refine hK.out _ _ ?_ (fun hH=>?_)
      . (try dsimp only)
        all_goals trivial
      clear hK K
      try simp only[Act.put,pZ]
      refine wpAnyH_done (by kernel_rfl) ?_ _
      clear hH;clear hX2 hY2 BX2 BY2 BX3 BY3;go_wp2
      go_end0
      rw[<-HNL.out,<-HX'.out]at zbs
      exact⟨rfl,xa2,xc2,va',vc',zbs.2.1,zbs.1,zbs.2.2.1.swap,Keep.trans (hkp.mono (fun k hk=>⟨hk.1,hk.2.1⟩)) (zbs.2.2.2.1.mono (fun k hk=>⟨hk.1,hk.2.2⟩)),zbs.2.2.2.2⟩
    . go_simp
      obtain⟨V1,hV1,A1,hb1⟩:∃V,V=u1.alloc (.cells #[.bool z1,.slice x1 x2 x3,.slice x4 x5 x6] 125)/\Bk 125 V u1.heap.size [.bool z1,.slice x1 x2 x3,.slice x4 x5 x6]/\Below u1.heap.size u1 V:=⟨_,rfl,Bk.new _ _ _,bl1 _⟩
      rw[<-hV1];clear hV1
      have hF2:=hF1.below hb1
      replace hbc:=hbc.trans (hb1.mono hbc.size)
      have hs2:=hb1.size
      have hs3:=A1.lt
      refine hK.out _ _ ?_ (fun hH=>?_)
      . (try dsimp only)
        all_goals trivial
      clear hK K
      try simp only[Act.put,pZ]
      refine wpAnyH_ready (rs:=[0,4]) (by kernel_rfl) (by simp) (hCons (i:=0) rfl (by rfl) (fun K hK=>?_) (hCons (i:=4) rfl (by rfl) (fun K hK=>?_) AllReadyH.nil))
      . obtain⟨c0,f0⟩:=(hY2.below hbc).one1
        have hlt:=(hY2.below hbc).lt
        go_simp
        refine hK.out _ _ ?_ (fun hH=>?_)
        . (try dsimp only)
          all_goals trivial
        clear hK K
        try simp only[Act.put,pZ]
        clear c0 f0 hlt
        refine hCall (i:=4) rfl (by kernel_rfl) (by rfl) (fun K hK=>?_)
        go_simp
        obtain⟨V2,hV2,A2,hb2⟩:∃V,V=V1.alloc (.cells #[.slice (some ⟨u1.heap.size,0,none⟩) 1 1] 173)/\Bk 173 V V1.heap.size [.slice (some ⟨u1.heap.size,0,none⟩) 1 1]/\Below V1.heap.size V1 V:=⟨_,rfl,Bk.new _ _ _,bl1 _⟩
        rw[<-hV2];clear hV2
        have hrow:=Ro.one (A1.below hb2) (hF2.below hb2)
        replace hbc:=hbc.trans (hb2.mono hbc.size)
        have hs4:=hb2.size
        refine hK.out _ _ ?_ (fun hH=>?_)
        . (try dsimp only)
          all_goals trivial
        clear hK K
        try simp only[Act.put,pZ]
        have hr1:=h1.below hbc
        have BX2:=hY2.below hbc
        have BY2:=hX2.below hbc
        refine hCall (i:=5) rfl (by kernel_rfl) (by rfl) (fun K hK=>?_)
        refine zax _ _ rfl BX' (fun k=>BX' k\/wc.heap.size<=k) _ 20 Y rfl hr1 V1.heap.size rfl (.slice (some ⟨u1.heap.size,0,none⟩) 1 1) [(y:Rat)] A2.one1.1 hrow ⟨rfl,rfl⟩ (fun b e=>by
         have e:some u1.heap.size=some b:=e
         injection e with e
         exact⟨fun hb=>by have:=(h4 b hb).2;omega,.inr (by omega)⟩) (fun k hk=>.inl hk) (.inr (by omega)) (by omega) ?_
        intro v' w9 hR hkn _
        have BX3:=BX2.kn hkn (fun hb=>by have:=(h4 _ hb).1;omega)
        have BY3:=BY2.kn hkn (fun hb=>by have:=(h4 _ hb).1;omega)
        obtain⟨va',vc',rfl,-,-⟩:=hR.slice
        have zbs:=R22.put h2 h3 h4 h5 zn6 (gx:=gy) (gy:=gx) (by omega) (by omega) (by omega) hbc hkn hR BX3 BY3
        refine hK.out _ _ ?_ (fun hH=>?_)
        . (try dsimp only)
          all_goals trivial
        clear hK K
        try simp only[Act.put,pZ]
        refine hCall (i:=6) rfl (by kernel_rfl) (by rfl) (fun K hK=>?_)
        obtain⟨c0,f0⟩:=BX3.one1
        have hlt:=BX3.lt
        obtain⟨nl,hnl⟩:∃n,(Y++[[(y:Rat)]]).length=n:=⟨_,rfl⟩
        have HNL:Hid ((Y++[[(y:Rat)]]).length=nl):=hnl
        rw[hnl]at zbs ⊢;clear hnl;go_simp
        generalize w9.setCell ⟨gy,0,none⟩ (.slice va' nl vc')=wz at zbs ⊢
        refine hK.out _ _ ?_ (fun hH=>?_)
        . (try dsimp only)
          all_goals trivial
        clear hK K
        try simp only[Act.put,pZ]
        refine wpAnyH_done (by kernel_rfl) ?_ _
        clear hH;clear hX2 hY2 BX2 BY2 BX3 BY3;go_wp2
        go_end0
        rw[<-HNL.out,<-HX'.out]at zbs
        exact⟨rfl,xa2,xc2,va',vc',zbs.2.1,zbs.1,zbs.2.2.1.swap,Keep.trans (hkp.mono (fun k hk=>⟨hk.1,hk.2.1⟩)) (zbs.2.2.2.1.mono (fun k hk=>⟨hk.1,hk.2.2⟩)),zbs.2.2.2.2⟩
      . go_simp
        obtain⟨V2,hV2,A2,hb2⟩:∃V,V=V1.alloc (.cells #[.slice (some ⟨u1.heap.size,0,none⟩) 1 1] 173)/\Bk 173 V V1.heap.size [.slice (some ⟨u1.heap.size,0,none⟩) 1 1]/\Below V1.heap.size V1 V:=⟨_,rfl,Bk.new _ _ _,bl1 _⟩
        rw[<-hV2];clear hV2
        have hrow:=Ro.one (A1.below hb2) (hF2.below hb2)
        replace hbc:=hbc.trans (hb2.mono hbc.size)
        have hs4:=hb2.size
        refine hK.out _ _ ?_ (fun hH=>?_)
        . (try dsimp only)
          all_goals trivial
        clear hK K
        try simp only[Act.put,pZ]
        refine hCall (i:=0) rfl (by kernel_rfl) (by rfl) (fun K hK=>?_)
        obtain⟨c0,f0⟩:=(hY2.below hbc).one1
        have hlt:=(hY2.below hbc).lt
        go_simp
        refine hK.out _ _ ?_ (fun hH=>?_)
        . (try dsimp only)
          all_goals trivial
        clear hK K
        try simp only[Act.put,pZ]
        clear c0 f0 hlt
        have hr1:=h1.below hbc
        have BX2:=hY2.below hbc
        have BY2:=hX2.below hbc
        refine hCall (i:=5) rfl (by kernel_rfl) (by rfl) (fun K hK=>?_)
        refine zax _ _ rfl BX' (fun k=>BX' k\/wc.heap.size<=k) _ 20 Y rfl hr1 V1.heap.size rfl (.slice (some ⟨u1.heap.size,0,none⟩) 1 1) [(y:Rat)] A2.one1.1 hrow ⟨rfl,rfl⟩ (fun b e=>by
         have e:some u1.heap.size=some b:=e
         injection e with e
         exact⟨fun hb=>by have:=(h4 b hb).2;omega,.inr (by omega)⟩) (fun k hk=>.inl hk) (.inr (by omega)) (by omega) ?_
        intro v' w9 hR hkn _
        have BX3:=BX2.kn hkn (fun hb=>by have:=(h4 _ hb).1;omega)
        have BY3:=BY2.kn hkn (fun hb=>by have:=(h4 _ hb).1;omega)
        obtain⟨va',vc',rfl,-,-⟩:=hR.slice
        have zbs:=R22.put h2 h3 h4 h5 zn6 (gx:=gy) (gy:=gx) (by omega) (by omega) (by omega) hbc hkn hR BX3 BY3
        refine hK.out _ _ ?_ (fun hH=>?_)
        . (try dsimp only)
          all_goals trivial
        clear hK K
        try simp only[Act.put,pZ]
        refine hCall (i:=6) rfl (by kernel_rfl) (by rfl) (fun K hK=>?_)
        obtain⟨c0,f0⟩:=BX3.one1
        have hlt:=BX3.lt
        obtain⟨nl,hnl⟩:∃n,(Y++[[(y:Rat)]]).length=n:=⟨_,rfl⟩
        have HNL:Hid ((Y++[[(y:Rat)]]).length=nl):=hnl
        rw[hnl]at zbs ⊢;clear hnl;go_simp
        generalize w9.setCell ⟨gy,0,none⟩ (.slice va' nl vc')=wz at zbs ⊢
        refine hK.out _ _ ?_ (fun hH=>?_)
        . (try dsimp only)
          all_goals trivial
        clear hK K
        try simp only[Act.put,pZ]
        refine wpAnyH_done (by kernel_rfl) ?_ _
        clear hH;clear hX2 hY2 BX2 BY2 BX3 BY3;go_wp2
        go_end0
        rw[<-HNL.out,<-HX'.out]at zbs
        exact⟨rfl,xa2,xc2,va',vc',zbs.2.1,zbs.1,zbs.2.2.1.swap,Keep.trans (hkp.mono (fun k hk=>⟨hk.1,hk.2.1⟩)) (zbs.2.2.2.1.mono (fun k hk=>⟨hk.1,hk.2.2⟩)),zbs.2.2.2.2⟩
theorem zfs{q:Rat}(h:sgnQ q=0):q=0:=by
 unfold sgnQ at h
 by_cases h0:q=0
 . exact h0
 . exfalso
   revert h
   simp[h0]
   try (split <;> simp)
theorem zm5(B:Nat->Prop)(v:Value)(T:List (List Rat))(da:OA)(dc:Nat)(ds:List Rat)(p:Rat)(pn:Bool)(pa:OA)(px pc:Nat)(pb:OA)(py pd:Nat)(w:World)(h:Rr B w v 20 T)(hd:Rf w da dc 7 ds)(hdB:∀b o,da=some ⟨b,o,none⟩->¬B b)(hF:Fr w (.agg #[.bool pn,.slice pa px pc,.slice pb py pd]) 10 p)(hl:ds.length=T.length)(hT1:T.length<=1000)(hlen:∀i,i<T.length->(T.getD i []).length<=1000)(hB:∀k,B k->k<w.heap.size) :
 Calls Tryz.prog 181 #[v,.slice da ds.length dc,.agg #[.bool pn,.slice pa px pc,.slice pb py pd]] w fun e w'=>e=.returned (.tuple #[])/\Rr (fun k=>B k\/w.heap.size<=k) w' v 20 (adK T ds p ds.length)/\Kn B w w':=by
 obtain⟨va,vc,rfl,hv1,hv2⟩:=h.slice
 obtain⟨W,hW,X1,hbW⟩:∃W,W=w.alloc (.cells #[.bool pn,.slice pa px pc,.slice pb py pd] 125)/\Bk 125 W w.heap.size [.bool pn,.slice pa px pc,.slice pb py pd]/\Below w.heap.size w W:=⟨_,rfl,Bk.new _ _ _,bl1 _⟩
 have HD:Hid (Rf W da dc 7 ds):=hd.below hbW
 have HDB:Hid (∀b o,da=some ⟨b,o,none⟩->¬B b):=hdB
 have HFP:Hid (Fr W (.agg #[.bool pn,.slice pa px pc,.slice pb py pd]) 10 p):=hF.below hbW
 have HX1:Hid (Bk 125 W w.heap.size [.bool pn,.slice pa px pc,.slice pb py pd]):=X1
 have HBW:Hid (∀k,B k->k<w.heap.size):=hB
 have HRW:Hid (Rr (fun j=>(B j\/W.heap.size<=j)/\j<W.heap.size) W (.slice va T.length vc) 20 T):=(h.below hbW).mono (fun k h1 h2=>⟨.inl h1,h2⟩)
 have hws:w.heap.size<W.heap.size:=X1.lt
 have HLE:Hid (∀i,i<T.length->(T.getD i []).length<=1000):=hlen
 have HLD:Hid (ds.length=T.length):=hl
 have HBK:Hid (Below w.heap.size w W):=hbW
 rw[hl]
 obtain⟨n,hnn⟩:∃n,T.length=n:=⟨_,rfl⟩
 have HL:Hid (T.length=n):=hnn
 rw[hnn]at HRW hv1 hT1 ⊢
 unfold maxLen at hv2
 clear h hd hdB hF hB hbW X1 hl hnn hlen
 go_enter Tryz.func181,Tryz.ntmps181
 go_upto_region 1 with fail
 rw[<-hW];clear hW;go_wp2
 go_loopw [10] (fun i wr=>∃k:Nat,k<=n/\i=.int .i64 k/\Rr (fun j=>(B j\/W.heap.size<=j)/\j<wr.heap.size) wr (.slice va n vc) 20 (adK T ds p k)/\Kn B W wr) (fun i _=>n-(intOf i).toNat)
 case atStart=>exact⟨0,Nat.zero_le _,rfl,HRW.out,Kn.refl _ _⟩
 case round =>
  clear HRW;obtain⟨k,hk,rfl,hR,hkn0⟩:=hrel
  have HKN:Hid (Kn B W wr):=hkn0
  have hWs:=hkn0.size
  clear hkn0
  by_cases hkn:k<n
  . obtain⟨bd,od,x,y,zz,ed,hbd,d0,d1,d2,hFz⟩:=(HD.out.kn HKN.out HDB.out).1.2.2 k (by rw[HLD.out,HL.out];exact hkn)
    subst ed
    have hlk:=HLE.out k (by rw[HL.out];exact hkn)
    have HTL:Hid ((adK T ds p k).length=n):=by show _=_;rw[zmz];exact HL.out
    obtain⟨g,cap,u,ea,hg,hgB,_,_,hc,hfz,hu,hub⟩:=hR.at k (by rw[HTL.out];exact hkn)
    rw[HTL.out]at ea;injection ea with ea _ ec;subst ea ec
    have HS:Hid (adK T ds p (k+1)=(adK T ds p k).set k ((adK T ds p k).getD k []++trm ds p k)):=rfl
    have HSZ:Hid (ds.getD k 0=0->adK T ds p (k+1)=adK T ds p k):=fun e=>by
     rw[HS.out]
     unfold trm
     rw[if_pos e,List.append_nil]
     refine List.ext_getElem (by simp) (fun i h1 h2=>?_)
     rw[List.getElem_set]
     split
     . rename_i h3;subst h3;simp[List.getD,h2]
     . rfl
    have HSN:Hid (ds.getD k 0≠0->trm ds p k=[ds.getD k 0*p]):=fun e=>by unfold trm;rw[if_neg e]
    have hTl0:((adK T ds p k).getD k []).length<=1000:=by rw[zuu _ _ _ _ _ (by rw[HL.out];exact hkn),if_neg (by omega)];exact hlk
    obtain⟨z,hz⟩:∃z,ds.getD k 0=z:=⟨_,rfl⟩
    rw[hz]at hFz HSZ HSN
    obtain⟨Tk,hTk⟩:∃t,(adK T ds p k).getD k []=t:=⟨_,rfl⟩
    rw[hTk]at hu HS hTl0;obtain⟨ua,uc,rfl,-⟩:=hu.rf
    have hTl:Tk.length+[z*p].length<=1000000:=by simp;omega
    obtain⟨m9,y1,y2,y3,y4,y5,y6,e9⟩:=hFz.cells3'
    simp only[Value.agg.injEq,Array.mk.injEq,List.cons.injEq,and_true]at e9
    obtain⟨rfl,rfl,rfl⟩:=e9
    obtain⟨V,hV,X0,hb4⟩:∃V,V=wr.alloc (.cells #[.bool m9,.slice y1 y2 y3,.slice y4 y5 y6] 125)/\Bk 125 V wr.heap.size [.bool m9,.slice y1 y2 y3,.slice y4 y5 y6]/\Below wr.heap.size wr V:=⟨_,rfl,Bk.new _ _ _,bl1 _⟩
    have X1:Bk 125 V w.heap.size [.bool pn,.slice pa px pc,.slice pb py pd]:=(HX1.out.kn HKN.out (fun h=>by have:=HBW.out _ h;omega)).below hb4
    have hFp:=(HFP.out.kn HKN.out).below hb4
    replace hFz:=hFz.below hb4
    have hsi:=zgr 7 z _ V hFz.ct (by decide) (by decide)
    obtain⟨p0,p1,p2,_⟩:=X1.three;obtain⟨r0,r1,r2,_⟩:=X0.three
    have i1:(0:Int)<=(k:Int):=by omega
    have i2:(k:Int)<(n:Int):=by omega
    have hgw:g≠w.heap.size:=fun e=>by
     rcases hgB.1 with h|h
     . have:=HBW.out _ h;omega
     . omega
    have hbc:Below wr.heap.size wr V:=hb4
    clear hz hTk hlk
    go_upto_region 4 with fail
    rw[<-hV];clear hV d0 d1 d2 hb4
    by_cases hz0:z=0
    . have HZ:Hid (Rr (fun j=>(B j\/W.heap.size<=j)/\j<wr.heap.size) wr (.slice (some ⟨g,0,none⟩) n vc) 20 (adK T ds p (k+1))):=by show Rr _ _ _ _ _;rw[HSZ.out hz0];exact hR
      have hs0:sgnQ z=0:=by rw[hz0];rfl
      rw[hs0]at hsi;clear HS HSN HSZ hu hR hFp hFz hz0 hs0
      go_wp2_with fail
      refine hsi.mono ?_
      rintro e m1 ⟨rfl,hb1⟩
      replace hbc:=hbc.trans (hb1.mono hbc.size)
      have HR2:Hid (Rr (fun j=>(B j\/W.heap.size<=j)/\j<m1.heap.size) m1 (.slice (some ⟨g,0,none⟩) n vc) 20 (adK T ds p (k+1))):=(HZ.out.below hbc).mono (fun j h1 h2=>⟨h1.1,h2⟩)
      have HK2:Hid (Kn B W m1):=HKN.out.trans (Kn.of (B:=B) hbc) (fun i hi _=>hi)
      clear hb1 hsi HZ p0 p1 p2 r0 r1 r2;go_wp2
      go_roundw
      case rel=>exact⟨k+1,by omega,by go_num,HR2.out,HK2.out⟩
      case measure=>simp[intOf];omega
    . have HS:Hid (adK T ds p (k+1)=(adK T ds p k).set k (Tk++[z*p])):=by show _=_;rw[HS.out,HSN.out hz0]
      have hs0:(sgnQ z != 0)=true:=by rw[bne_iff_ne];exact fun e=>hz0 (zfs e)
      have hs1:¬sgnQ z=0:=fun e=>hz0 (zfs e)
      generalize sgnQ z=sg at *
      clear HSN HSZ hz0
      go_wp2_with fail
      refine hsi.mono ?_
      rintro e m1 ⟨rfl,hb1⟩;replace X1:=X1.below hb1;replace X0:=X0.below hb1
      replace hbc:=hbc.trans (hb1.mono hbc.size)
      replace hFp:=hFp.below hb1;replace hFz:=hFz.below hb1;clear p0 p1 p2 r0 r1 r2 hb1 hsi;obtain⟨p0,p1,p2,_⟩:=X1.three;obtain⟨r0,r1,r2,_⟩:=X0.three
      go_upto_region 5 with fail
      refine wp_region_held_drew (S:=fun w9=>w9.cell? ⟨w.heap.size,0,none⟩=some (.bool pn)/\w9.cell? ⟨w.heap.size,1,none⟩=some (.slice pa px pc)/\w9.cell? ⟨w.heap.size,2,none⟩=some (.slice pb py pd)/\w9.cell? ⟨wr.heap.size,0,none⟩=some (.bool m9)/\w9.cell? ⟨wr.heap.size,1,none⟩=some (.slice y1 y2 y3)/\w9.cell? ⟨wr.heap.size,2,none⟩=some (.slice y4 y5 y6)) (by kernel_rfl) ?_ (fun hH=>?_)
      . (try dsimp only)
        go_keep
      have hdr:Below m1.heap.size m1 m1.drew:=Below.drew1
      generalize m1.drew=ud at hdr hH ⊢
      replace hFp:=hFp.below hdr;replace hFz:=hFz.below hdr;replace X1:=X1.below hdr;replace X0:=X0.below hdr
      replace hbc:=hbc.trans (hdr.mono hbc.size)
      clear hdr p0 p1 p2 r0 r1 r2;obtain⟨p0,p1,p2,_⟩:=X1.three;obtain⟨r0,r1,r2,_⟩:=X0.three;refine hT 0 hH ?_;refine hT 1 hH ?_;refine hT 2 hH ?_;refine hT 3 hH ?_;refine hT 4 hH ?_;refine hT 6 hH ?_;refine hT 7 hH ?_
      refine wpAnyH_ready (rs:=[5,8]) (by kernel_rfl) (by simp) (hCons (i:=5) rfl (by rfl) (fun K hK=>?_) (hCons (i:=8) rfl (by rfl) (fun K hK=>?_) AllReadyH.nil))
      . have hc5:=(hbc.cell (p:=⟨g,k,none⟩) hg).trans hc
        go_simp
        refine hK.out _ _ ?_ (fun hH=>?_)
        . (try dsimp only)
          exact⟨p0,p1,p2,r0,r1,r2⟩
        clear hK K
        try simp only[Act.put,pZ]
        clear hc5
        refine hCall (i:=8) rfl (by kernel_rfl) (by rfl) (fun K hK=>?_)
        go_simp
        refine(zfv 7 10 z p _ _ _ hFz.ct hFp.ct (by decide) (by decide) (by decide) (by decide)).mono ?_
        rintro e u1 ⟨v1,rfl,hF1,hb0⟩
        replace hF1:=hF1.le (show 7+10<=20 by decide)
        obtain⟨z1,x1,x2,x3,x4,x5,x6,rfl⟩:=hF1.cells3';replace X1:=X1.below hb0;replace X0:=X0.below hb0
        replace hbc:=hbc.trans (hb0.mono hbc.size)
        clear p0 p1 p2 r0 r1 r2;obtain⟨p0,p1,p2,_⟩:=X1.three;obtain⟨r0,r1,r2,_⟩:=X0.three
        go_wp2_with fail
        refine hK.out _ _ ?_ (fun hH=>?_)
        . (try dsimp only)
          exact⟨p0,p1,p2,r0,r1,r2⟩
        clear hK K
        try simp only[Act.put,pZ]
        refine hCall (i:=9) rfl (by kernel_rfl) (by rfl) (fun K hK=>?_)
        go_simp
        obtain⟨V1,hV1,A1,hb1⟩:∃V,V=u1.alloc (.cells #[.bool z1,.slice x1 x2 x3,.slice x4 x5 x6] 125)/\Bk 125 V u1.heap.size [.bool z1,.slice x1 x2 x3,.slice x4 x5 x6]/\Below u1.heap.size u1 V:=⟨_,rfl,Bk.new _ _ _,bl1 _⟩
        rw[<-hV1];clear hV1
        have hF2:=hF1.below hb1
        have hsu:=hbc.size
        replace X1:=X1.below hb1;replace X0:=X0.below hb1
        replace hbc:=hbc.trans (hb1.mono hbc.size)
        clear p0 p1 p2 r0 r1 r2;obtain⟨p0,p1,p2,_⟩:=X1.three;obtain⟨r0,r1,r2,_⟩:=X0.three
        refine hK.out _ _ ?_ (fun hH=>?_)
        . (try dsimp only)
          exact⟨p0,p1,p2,r0,r1,r2⟩
        clear hK K
        try simp only[Act.put,pZ]
        have hbq:=hbc
        refine hCall (i:=10) rfl (by kernel_rfl) (by rfl) (fun K hK=>?_)
        obtain⟨t0,t1,t2,_⟩:=A1.three
        have zba:=Rz.one A1.lt t0 t1 t2 hF2
        have hRV:=hR.below hbc
        have hcV:=(hbc.cell (p:=⟨g,k,none⟩) hg).trans hc
        refine zbj 173 125 Tryz.underlying173 zch _ _ rfl 0 (.slice ua Tk.length uc) 20 Tk [z*p] rfl (hu.below hbc) (some ⟨u1.heap.size,0,none⟩) 1 1 rfl rfl zba (fun e=>by cases e) (fun ad e=>by cases e;exact⟨_,_,rfl⟩) hTl (Nat.zero_le _) ?_
        intro v9 w9 hT9 hgrow hown
        obtain⟨va',vc',rfl,-⟩:=hT9.rf
        have zdh:=Rr.put (C:=fun j=>B j\/W.heap.size<=j) hRV k (by rw[HTL.out];exact hkn) (by rw[HTL.out]) hcV hgrow hT9 hown rfl (fun j hj=>hj.1) (.inr (Nat.le_trans hWs hbc.size))
        have hcw:∀b,Value.ownBlock (.slice ua Tk.length uc)=some b->b≠wr.heap.size/\b≠w.heap.size:=fun b e=>⟨fun e2=>by have:=(hub b e).1.2;omega,fun e2=>by
         rcases (hub b e).1.1 with h|h
         . have:=HBW.out b h;omega
         . omega⟩
        replace X1:=X1.grown hgrow (fun e=>(hcw _ e).2 rfl)
        replace X0:=X0.grown hgrow (fun e=>(hcw _ e).1 rfl)
        clear p0 p1 p2 r0 r1 r2;obtain⟨p0,p1,p2,_⟩:=X1.three;obtain⟨r0,r1,r2,_⟩:=X0.three
        have hgb:w9.heap[g]?=V1.heap[g]?:=hgrow.block g (Nat.lt_of_lt_of_le hg hbc.size) (fun e=>(hub g e.symm).2 rfl)
        have hc9:w9.cell? ⟨g,k,none⟩=some (.slice ua Tk.length uc):=(World.cell?_of_block (w:=V1) (a:=⟨g,k,none⟩) hgb).trans hcV
        have hf9:w9.frozen? ⟨g,k,none⟩=false:=(World.frozen?_of_block (w:=V1) (a:=⟨g,k,none⟩) hgb).trans ((hbc.frozen (p:=⟨g,k,none⟩) hg).trans hfz)
        obtain⟨nl,hnl⟩:∃n,(Tk++[z*p]).length=n:=⟨_,rfl⟩
        rw[hnl]at zdh ⊢;clear hnl
        refine hK.out _ _ ?_ (fun hH=>?_)
        . (try dsimp only)
          exact⟨p0,p1,p2,r0,r1,r2⟩
        clear hK K
        try simp only[Act.put,pZ]
        refine hT 11 hH ?_
        refine hCall (i:=12) rfl (by kernel_rfl) (by rfl) (fun K hK=>?_)
        go_simp
        replace X1:=X1.other k (.slice va' nl vc') (show w.heap.size≠g by omega)
        replace X0:=X0.other k (.slice va' nl vc') (show wr.heap.size≠g by omega)
        clear p0 p1 p2 r0 r1 r2 hc9 hf9;obtain⟨p0,p1,p2,_⟩:=X1.three;obtain⟨r0,r1,r2,_⟩:=X0.three
        generalize w9.setCell ⟨g,k,none⟩ (.slice va' nl vc')=wz at zdh X1 X0 p0 p1 p2 r0 r1 r2 ⊢
        refine hK.out _ _ ?_ (fun hH=>?_)
        . (try dsimp only)
          exact⟨p0,p1,p2,r0,r1,r2⟩
        clear hK K
        try simp only[Act.put,pZ]
        refine wpAnyH_done (by kernel_rfl) ?_ _
        clear hH p0 p1 p2 r0 r1 r2 X1 X0
        have HR2:Hid (Rr (fun j=>(B j\/W.heap.size<=j)/\j<wz.heap.size) wz (.slice (some ⟨g,0,none⟩) n vc) 20 (adK T ds p (k+1))):=by
         rw[HS.out]
         exact zdh.1.mono (fun j h1 h2=>⟨h1,h2⟩)
        have HK2:Hid (Kn B W wz):=(HKN.out.trans (Kn.of (B:=B) hbq) (fun i hi _=>hi)).trans zdh.2 (fun i hi hl=>by
         rcases hi.1 with h|h
         . exact h
         . omega)
        clear zdh;go_wp2
        go_roundw
        case rel=>exact⟨k+1,by omega,by go_num,HR2.out,HK2.out⟩
        case measure=>simp[intOf];omega
      . go_simp
        refine(zfv 7 10 z p _ _ _ hFz.ct hFp.ct (by decide) (by decide) (by decide) (by decide)).mono ?_
        rintro e u1 ⟨v1,rfl,hF1,hb0⟩
        replace hF1:=hF1.le (show 7+10<=20 by decide)
        obtain⟨z1,x1,x2,x3,x4,x5,x6,rfl⟩:=hF1.cells3';replace X1:=X1.below hb0;replace X0:=X0.below hb0
        replace hbc:=hbc.trans (hb0.mono hbc.size)
        clear p0 p1 p2 r0 r1 r2;obtain⟨p0,p1,p2,_⟩:=X1.three;obtain⟨r0,r1,r2,_⟩:=X0.three
        go_wp2_with fail
        refine hK.out _ _ ?_ (fun hH=>?_)
        . (try dsimp only)
          exact⟨p0,p1,p2,r0,r1,r2⟩
        clear hK K
        try simp only[Act.put,pZ]
        refine wpAnyH_ready (rs:=[5,9]) (by kernel_rfl) (by simp) (hCons (i:=5) rfl (by rfl) (fun K hK=>?_) (hCons (i:=9) rfl (by rfl) (fun K hK=>?_) AllReadyH.nil))
        . have hc5:=(hbc.cell (p:=⟨g,k,none⟩) hg).trans hc
          go_simp
          refine hK.out _ _ ?_ (fun hH=>?_)
          . (try dsimp only)
            exact⟨p0,p1,p2,r0,r1,r2⟩
          clear hK K
          try simp only[Act.put,pZ]
          clear hc5
          refine hCall (i:=9) rfl (by kernel_rfl) (by rfl) (fun K hK=>?_)
          go_simp
          obtain⟨V1,hV1,A1,hb1⟩:∃V,V=u1.alloc (.cells #[.bool z1,.slice x1 x2 x3,.slice x4 x5 x6] 125)/\Bk 125 V u1.heap.size [.bool z1,.slice x1 x2 x3,.slice x4 x5 x6]/\Below u1.heap.size u1 V:=⟨_,rfl,Bk.new _ _ _,bl1 _⟩
          rw[<-hV1];clear hV1
          have hF2:=hF1.below hb1
          have hsu:=hbc.size
          replace X1:=X1.below hb1;replace X0:=X0.below hb1
          replace hbc:=hbc.trans (hb1.mono hbc.size)
          clear p0 p1 p2 r0 r1 r2;obtain⟨p0,p1,p2,_⟩:=X1.three;obtain⟨r0,r1,r2,_⟩:=X0.three
          refine hK.out _ _ ?_ (fun hH=>?_)
          . (try dsimp only)
            exact⟨p0,p1,p2,r0,r1,r2⟩
          clear hK K
          try simp only[Act.put,pZ]
          have hbq:=hbc
          refine hCall (i:=10) rfl (by kernel_rfl) (by rfl) (fun K hK=>?_)
          obtain⟨t0,t1,t2,_⟩:=A1.three
          have zba:=Rz.one A1.lt t0 t1 t2 hF2
          have hRV:=hR.below hbc
          have hcV:=(hbc.cell (p:=⟨g,k,none⟩) hg).trans hc
          refine zbj 173 125 Tryz.underlying173 zch _ _ rfl 0 (.slice ua Tk.length uc) 20 Tk [z*p] rfl (hu.below hbc) (some ⟨u1.heap.size,0,none⟩) 1 1 rfl rfl zba (fun e=>by cases e) (fun ad e=>by cases e;exact⟨_,_,rfl⟩) hTl (Nat.zero_le _) ?_
          intro v9 w9 hT9 hgrow hown
          obtain⟨va',vc',rfl,-⟩:=hT9.rf
          have zdh:=Rr.put (C:=fun j=>B j\/W.heap.size<=j) hRV k (by rw[HTL.out];exact hkn) (by rw[HTL.out]) hcV hgrow hT9 hown rfl (fun j hj=>hj.1) (.inr (Nat.le_trans hWs hbc.size))
          have hcw:∀b,Value.ownBlock (.slice ua Tk.length uc)=some b->b≠wr.heap.size/\b≠w.heap.size:=fun b e=>⟨fun e2=>by have:=(hub b e).1.2;omega,fun e2=>by
           rcases (hub b e).1.1 with h|h
           . have:=HBW.out b h;omega
           . omega⟩
          replace X1:=X1.grown hgrow (fun e=>(hcw _ e).2 rfl)
          replace X0:=X0.grown hgrow (fun e=>(hcw _ e).1 rfl)
          clear p0 p1 p2 r0 r1 r2;obtain⟨p0,p1,p2,_⟩:=X1.three;obtain⟨r0,r1,r2,_⟩:=X0.three
          have hgb:w9.heap[g]?=V1.heap[g]?:=hgrow.block g (Nat.lt_of_lt_of_le hg hbc.size) (fun e=>(hub g e.symm).2 rfl)
          have hc9:w9.cell? ⟨g,k,none⟩=some (.slice ua Tk.length uc):=(World.cell?_of_block (w:=V1) (a:=⟨g,k,none⟩) hgb).trans hcV
          have hf9:w9.frozen? ⟨g,k,none⟩=false:=(World.frozen?_of_block (w:=V1) (a:=⟨g,k,none⟩) hgb).trans ((hbc.frozen (p:=⟨g,k,none⟩) hg).trans hfz)
          obtain⟨nl,hnl⟩:∃n,(Tk++[z*p]).length=n:=⟨_,rfl⟩
          rw[hnl]at zdh ⊢;clear hnl
          refine hK.out _ _ ?_ (fun hH=>?_)
          . (try dsimp only)
            exact⟨p0,p1,p2,r0,r1,r2⟩
          clear hK K
          try simp only[Act.put,pZ]
          refine hT 11 hH ?_
          refine hCall (i:=12) rfl (by kernel_rfl) (by rfl) (fun K hK=>?_)
          go_simp
          replace X1:=X1.other k (.slice va' nl vc') (show w.heap.size≠g by omega)
          replace X0:=X0.other k (.slice va' nl vc') (show wr.heap.size≠g by omega)
          clear p0 p1 p2 r0 r1 r2 hc9 hf9;obtain⟨p0,p1,p2,_⟩:=X1.three;obtain⟨r0,r1,r2,_⟩:=X0.three
          generalize w9.setCell ⟨g,k,none⟩ (.slice va' nl vc')=wz at zdh X1 X0 p0 p1 p2 r0 r1 r2 ⊢
          refine hK.out _ _ ?_ (fun hH=>?_)
          . (try dsimp only)
            exact⟨p0,p1,p2,r0,r1,r2⟩
          clear hK K
          try simp only[Act.put,pZ]
          refine wpAnyH_done (by kernel_rfl) ?_ _
          clear hH p0 p1 p2 r0 r1 r2 X1 X0
          have HR2:Hid (Rr (fun j=>(B j\/W.heap.size<=j)/\j<wz.heap.size) wz (.slice (some ⟨g,0,none⟩) n vc) 20 (adK T ds p (k+1))):=by
           rw[HS.out]
           exact zdh.1.mono (fun j h1 h2=>⟨h1,h2⟩)
          have HK2:Hid (Kn B W wz):=(HKN.out.trans (Kn.of (B:=B) hbq) (fun i hi _=>hi)).trans zdh.2 (fun i hi hl=>by
           rcases hi.1 with h|h
           . exact h
           . omega)
          clear zdh;go_wp2
          go_roundw
          case rel=>exact⟨k+1,by omega,by go_num,HR2.out,HK2.out⟩
          case measure=>simp[intOf];omega
        . go_simp
          obtain⟨V1,hV1,A1,hb1⟩:∃V,V=u1.alloc (.cells #[.bool z1,.slice x1 x2 x3,.slice x4 x5 x6] 125)/\Bk 125 V u1.heap.size [.bool z1,.slice x1 x2 x3,.slice x4 x5 x6]/\Below u1.heap.size u1 V:=⟨_,rfl,Bk.new _ _ _,bl1 _⟩
          rw[<-hV1];clear hV1
          have hF2:=hF1.below hb1
          have hsu:=hbc.size
          replace X1:=X1.below hb1;replace X0:=X0.below hb1
          replace hbc:=hbc.trans (hb1.mono hbc.size)
          clear p0 p1 p2 r0 r1 r2;obtain⟨p0,p1,p2,_⟩:=X1.three;obtain⟨r0,r1,r2,_⟩:=X0.three
          refine hK.out _ _ ?_ (fun hH=>?_)
          . (try dsimp only)
            exact⟨p0,p1,p2,r0,r1,r2⟩
          clear hK K
          try simp only[Act.put,pZ]
          refine hCall (i:=5) rfl (by kernel_rfl) (by rfl) (fun K hK=>?_)
          have hc5:=(hbc.cell (p:=⟨g,k,none⟩) hg).trans hc
          go_simp
          refine hK.out _ _ ?_ (fun hH=>?_)
          . (try dsimp only)
            exact⟨p0,p1,p2,r0,r1,r2⟩
          clear hK K
          try simp only[Act.put,pZ]
          clear hc5
          have hbq:=hbc
          refine hCall (i:=10) rfl (by kernel_rfl) (by rfl) (fun K hK=>?_)
          obtain⟨t0,t1,t2,_⟩:=A1.three
          have zba:=Rz.one A1.lt t0 t1 t2 hF2
          have hRV:=hR.below hbc
          have hcV:=(hbc.cell (p:=⟨g,k,none⟩) hg).trans hc
          refine zbj 173 125 Tryz.underlying173 zch _ _ rfl 0 (.slice ua Tk.length uc) 20 Tk [z*p] rfl (hu.below hbc) (some ⟨u1.heap.size,0,none⟩) 1 1 rfl rfl zba (fun e=>by cases e) (fun ad e=>by cases e;exact⟨_,_,rfl⟩) hTl (Nat.zero_le _) ?_
          intro v9 w9 hT9 hgrow hown
          obtain⟨va',vc',rfl,-⟩:=hT9.rf
          have zdh:=Rr.put (C:=fun j=>B j\/W.heap.size<=j) hRV k (by rw[HTL.out];exact hkn) (by rw[HTL.out]) hcV hgrow hT9 hown rfl (fun j hj=>hj.1) (.inr (Nat.le_trans hWs hbc.size))
          have hcw:∀b,Value.ownBlock (.slice ua Tk.length uc)=some b->b≠wr.heap.size/\b≠w.heap.size:=fun b e=>⟨fun e2=>by have:=(hub b e).1.2;omega,fun e2=>by
           rcases (hub b e).1.1 with h|h
           . have:=HBW.out b h;omega
           . omega⟩
          replace X1:=X1.grown hgrow (fun e=>(hcw _ e).2 rfl)
          replace X0:=X0.grown hgrow (fun e=>(hcw _ e).1 rfl)
          clear p0 p1 p2 r0 r1 r2;obtain⟨p0,p1,p2,_⟩:=X1.three;obtain⟨r0,r1,r2,_⟩:=X0.three
          have hgb:w9.heap[g]?=V1.heap[g]?:=hgrow.block g (Nat.lt_of_lt_of_le hg hbc.size) (fun e=>(hub g e.symm).2 rfl)
          have hc9:w9.cell? ⟨g,k,none⟩=some (.slice ua Tk.length uc):=(World.cell?_of_block (w:=V1) (a:=⟨g,k,none⟩) hgb).trans hcV
          have hf9:w9.frozen? ⟨g,k,none⟩=false:=(World.frozen?_of_block (w:=V1) (a:=⟨g,k,none⟩) hgb).trans ((hbc.frozen (p:=⟨g,k,none⟩) hg).trans hfz)
          obtain⟨nl,hnl⟩:∃n,(Tk++[z*p]).length=n:=⟨_,rfl⟩
          rw[hnl]at zdh ⊢;clear hnl
          refine hK.out _ _ ?_ (fun hH=>?_)
          . (try dsimp only)
            exact⟨p0,p1,p2,r0,r1,r2⟩
          clear hK K
          try simp only[Act.put,pZ]
          refine hT 11 hH ?_
          refine hCall (i:=12) rfl (by kernel_rfl) (by rfl) (fun K hK=>?_)
          go_simp
          replace X1:=X1.other k (.slice va' nl vc') (show w.heap.size≠g by omega)
          replace X0:=X0.other k (.slice va' nl vc') (show wr.heap.size≠g by omega)
          clear p0 p1 p2 r0 r1 r2 hc9 hf9;obtain⟨p0,p1,p2,_⟩:=X1.three;obtain⟨r0,r1,r2,_⟩:=X0.three
          generalize w9.setCell ⟨g,k,none⟩ (.slice va' nl vc')=wz at zdh X1 X0 p0 p1 p2 r0 r1 r2 ⊢
          refine hK.out _ _ ?_ (fun hH=>?_)
          . (try dsimp only)
            exact⟨p0,p1,p2,r0,r1,r2⟩
          clear hK K
          try simp only[Act.put,pZ]
          refine wpAnyH_done (by kernel_rfl) ?_ _
          clear hH p0 p1 p2 r0 r1 r2 X1 X0
          have HR2:Hid (Rr (fun j=>(B j\/W.heap.size<=j)/\j<wz.heap.size) wz (.slice (some ⟨g,0,none⟩) n vc) 20 (adK T ds p (k+1))):=by
           rw[HS.out]
           exact zdh.1.mono (fun j h1 h2=>⟨h1,h2⟩)
          have HK2:Hid (Kn B W wz):=(HKN.out.trans (Kn.of (B:=B) hbq) (fun i hi _=>hi)).trans zdh.2 (fun i hi hl=>by
           rcases hi.1 with h|h
           . exact h
           . omega)
          clear zdh;go_wp2
          go_roundw
          case rel=>exact⟨k+1,by omega,by go_num,HR2.out,HK2.out⟩
          case measure=>simp[intOf];omega
  . obtain rfl:k=n:=by omega
    have g4:¬(k:Int)<(k:Int):=by omega
    have HR2:Hid (Rr (fun j=>B j\/w.heap.size<=j) wr (.slice va k vc) 20 (adK T ds p k)):=hR.mono (fun j h1 _=>by
     rcases h1.1 with h|h
     . exact .inl h
     . exact .inr (by omega))
    have HK2:Hid (Kn B w wr):=(Kn.of (B:=B) HBK.out).trans HKN.out (fun i hi _=>hi)
    clear hR;go_wp2
    go_end0
    exact⟨rfl,HR2.out,HK2.out⟩
theorem Gr.pnt{S:Nat->Prop}{w wr:World}{a:OA}{cap:Nat}{L:List Pn}(h:Gr PnE S w a cap L)(hb:Below w.heap.size w wr)(k:Nat)(hk:k<L.length):∃b off x y on,a=some ⟨b,off,none⟩/\b<w.heap.size/\L.getD k Pn.none=⟨x,y,on⟩/\I64 x/\I64 y/\wr.cell? ⟨b,off+k*3,none⟩=some (.int .i64 x)/\wr.cell? ⟨b,off+k*3+1,none⟩=some (.int .i64 y)/\wr.cell? ⟨b,off+k*3+2,none⟩=some (.bool on):=by
 obtain⟨b,off,vs,e,h1,hr,hc⟩:=h.at hb k hk
 obtain⟨p,hp⟩:∃p,L.getD k Pn.none=p:=⟨_,rfl⟩
 rw[show L.getD k PnE.dfl=p from hp]at hr
 obtain⟨x,y,on⟩:=p;obtain⟨us,ts,e1,hu,hts⟩:=hr;obtain⟨us2,ts2,e2,hu2,zxa⟩:=hts;rw[hu.1,e2,hu2.1,zxa]at e1;subst e1
 exact⟨b,off,x,y,on,e,h1,hp,hu.2,hu2.2,hc 0 (by decide),hc 1 (by decide),hc 2 (by decide)⟩
theorem z27{cs:List (List Pn)}{k:Nat}(hk:k<cs.length):(endF 0 cs).getD k 0=((ofC cs (k+1):Nat):Int)-1:=by
 have h1:endF 0 cs=endF 0 (cs.take (k+1))++endF (0+(((cs.take (k+1)).flatten).length:Int)) (cs.drop (k+1)):=by rw[<-zg4,List.take_append_drop]
 have h2:=zk4 hk rfl
 have h3:(endF 0 (cs.take k)).length=k:=by rw[zbo,List.length_take];omega
 have h4:=zdp hk
 rw[h1,List.getD_eq_getElem?_getD,List.getElem?_append_left (by rw[zbo,List.length_take];omega),h2,List.getElem?_append_right (by omega),h3,Nat.sub_self]
 show((ofC cs k:Nat):Int)+((cs.getD k []).length:Int)-1=_
 omega
theorem zhn(a:OA)(ca:Nat)(zs:List Int)(w:World)(h:Ri w a ca zs)(hl:zs.length<=1000) :
 Calls Tryz.prog 229 #[.slice a zs.length ca] w fun e w'=>∃a' c',e=.returned (.slice a' (zs.map (fun z:Int=>(z:Rat))).length c')/\Rg w.heap.size w' a' c' 7 (zs.map (fun z:Int=>(z:Rat)))/\Below w.heap.size w w':=by
 have HH:Hid (Ri w a ca zs):=h
 have HR:Hid (zs.map (fun z:Int=>(z:Rat))=(List.range zs.length).map (fun j=>((zs.getD j 0:Int):Rat))):=by
  show _=_
  refine List.ext_getElem (by simp) (fun j h1 h2=>?_)
  have hj:j<zs.length:=by simpa using h1
  simp[List.getD,hj]
 rw[HR.out]
 obtain⟨n,hnn⟩:∃n,zs.length=n:=⟨_,rfl⟩
 have HL:Hid (zs.length=n):=hnn
 rw[hnn]at hl ⊢;clear hnn h
 obtain⟨i0,hi0,hz0,hz1,hz2⟩:=info_parts zch
 have hmk:=run_make (P:=Tryz.prog) w 173 125 i0 rtZ Tryz.underlying173 hi0 hz0 .i64 .i64 0 (n:Int) (by omega) (by omega) (by rw[hz2];omega) (by omega)
 rw[hz1]at hmk
 simp only[Int.toNat_zero,Int.toNat_natCast]at hmk
 obtain⟨w1,hw1⟩:∃w1,w.alloc (.cells (madeCells rtZ.cells (n*3)) 125)=w1:=⟨_,rfl⟩
 have hI0:Ro 125 w.heap.size w1 (.slice (some ⟨w.heap.size,0,none⟩) 0 n) 7 ((List.range 0).map (fun j=>((zs.getD j 0:Int):Rat))):=by
  refine⟨[],?_,fun g hg=>?_,fun i hi=>by simp at hi⟩
  . rw[<-hw1]
    have:=World.ownsRow_made (base:=w.heap.size) (e:=125) (size:=3) w (madeCells rtZ.cells (n*3)) n (Nat.le_refl _) (by unfold maxLen;omega) (size_madeCells _ _)
    simpa using this
  . simp[Value.ownBlock]at hg
    subst hg;rw[<-hw1]
    exact NoI.of (heap_alloc_new w _) (zie _)
 have zob:Below w.heap.size w w1:=by rw[<-hw1];exact bl1 _
 rw[hw1]at hmk;clear hw1 hi0 hz0 hz1 hz2
 go_enter Tryz.func229,Tryz.ntmps229
 go_wp2
 go_loopw [3,11] (fun v i wr=>∃k:Nat,k<=n/\i=.int .i64 k/\Ro 125 w.heap.size wr v 7 ((List.range k).map (fun j=>((zs.getD j 0:Int):Rat)))/\Below w.heap.size w wr) (fun _ i _=>n-(intOf i).toNat)
 case atStart=>exact⟨0,Nat.zero_le _,rfl,hI0,zob⟩
 case round =>
  obtain⟨k,hk,rfl,hT,hB⟩:=hrel;obtain⟨a2,c2,rfl,hts⟩:=hT.rg
  have hlen:((List.range k).map (fun j=>((zs.getD j 0:Int):Rat))).length=k:=by simp
  have HLN:Hid (((List.range k).map (fun j=>((zs.getD j 0:Int):Rat))).length=k):=hlen
  rw[hlen]at hT ⊢
  have HT2:Hid (Ro 125 w.heap.size wr (.slice a2 k c2) 7 ((List.range k).map (fun j=>((zs.getD j 0:Int):Rat)))):=hT
  have HTS:Hid (Rg w.heap.size wr a2 c2 7 ((List.range k).map (fun j=>((zs.getD j 0:Int):Rat)))):=hts
  clear hT hts hmk hI0 zob
  have hsz:=hB.size
  by_cases hkn:k<n
  . obtain⟨b0,off,ea,hb,d0⟩:=HH.out.at hB k (by rw[HL.out];exact hkn)
    have hzi:=HH.out.i64 (k:=k) (by rw[HL.out];exact hkn)
    subst ea
    have HS:Hid (_):=zij (fun j=>((zs.getD j 0:Int):Rat)) k
    obtain⟨z,hz⟩:∃z,zs.getD k 0=z:=⟨_,rfl⟩
    rw[hz]at d0 hzi HS
    have hzb:-9223372036854775808<=z/\z<=9223372036854775807:=hzi
    have i1:(0:Int)<=(k:Int):=by omega
    have i2:(k:Int)<(n:Int):=by omega
    generalize (List.range k).map (fun j=>((zs.getD j 0:Int):Rat))=L at *
    clear hz hzi
    go_wp2_with fail
    refine(zae z _ (by omega) (by omega)).mono ?_
    rintro e u1 ⟨v1,rfl,hF1,hb1⟩;obtain⟨z1,x1,x2,x3,x4,x5,x6,rfl⟩:=hF1.cells3'
    obtain⟨V,hV,B4,hb4⟩:∃V,V=u1.alloc (.cells #[.bool z1,.slice x1 x2 x3,.slice x4 x5 x6] 125)/\Box 125 V u1.heap.size (.bool z1) (.slice x1 x2 x3) (.slice x4 x5 x6)/\Below u1.heap.size u1 V:=⟨_,rfl,Box.new _ _ _ _ _,bl1 _⟩
    have hbv:Below wr.heap.size wr V:=hb1.trans (hb4.mono hb1.size)
    obtain⟨r0,r1,r2,_⟩:=B4.cells
    have zba:=Rz.one B4.lt r0 r1 r2 ((hF1.below hb4).le (show 2<=7 by decide))
    have hown:=HT2.out.below hbv
    have hll:L.length+[(z:Rat)].length<=1000000:=by rw[hlen];simp;omega
    have hbs:w.heap.size<=V.heap.size:=Nat.le_trans hsz hbv.size
    have hBV:Below w.heap.size w V:=hB.trans (hbv.mono hsz)
    have z4x:∀g,(Value.slice a2 k c2).ownBlock=some g->w.heap.size<=g:=fun g hg=>(HT2.out.lo hg).1
    clear hF1 hb1 hb4 hbv B4 r0 r1 r2
    go_wp2_with (at_builtin;rw[<-hV];refine zbp 173 125 Tryz.underlying173 zch rfl _ _ rfl w.heap.size (.slice a2 k c2) 7 _ _ rfl hown _ 1 1 rfl rfl zba (fun e=>by cases e) (fun ad e=>by cases e;exact⟨_,_,rfl⟩) hll hbs ?_)
    intro v9 w9 hT9 hgrow _
    rw[<-hV]at hgrow
    have hB9:Below w.heap.size w w9:=hBV.grown hgrow hbs z4x
    rw[<-HS.out]at hT9;clear hgrow hbs hll HS zba hown hV;go_wp2
    go_roundw
    case rel=>exact⟨k+1,by omega,by go_num,hT9,hB9⟩
    case measure=>simp[intOf];omega
  . obtain rfl:k=n:=by omega
    have g4:¬(k:Int)<(k:Int):=by omega
    go_wp2
    go_ret
    exact⟨a2,c2,rfl,HTS.out,hB⟩
theorem zko{L:List Pn}{k:Nat}(hk:k<L.length)(f:Pn->Int):(L.take (k+1)).map f=(L.take k).map f++[f (L.getD k Pn.none)]:=by
 rw[List.take_add_one,List.getElem?_eq_getElem hk,List.map_append]
 simp[List.getD,hk]
theorem zi0(S:Nat->Prop)(a:OA)(ca:Nat)(vb:Value)(cs:List (List Pn))(w:World)(h:Gr PnE.row S w a ca cs)(hl:cs.flatten.length<=100000)(hv:vb.cells=#[vb]) :
 Calls Tryz.prog 230 #[.agg #[.slice a cs.length ca,vb]] w fun e w'=>∃a1 c1 a2 c2,e=.returned (.tuple #[.slice a1 cs.flatten.length c1,.slice a2 cs.flatten.length c2])/\Ri w' a1 c1 (cs.flatten.map Pn.x)/\Ri w' a2 c2 (cs.flatten.map Pn.y)/\Below w.heap.size w w':=by
 obtain⟨W,hW,X1,hbW⟩:∃W,W=w.alloc (.cells #[.slice a cs.length ca,vb] 57)/\Bk 57 W w.heap.size [.slice a cs.length ca,vb]/\Below w.heap.size w W:=⟨_,rfl,Bk.new _ _ _,bl1 _⟩
 have hpt:=zdj S a ca vb cs W (h.below hbW) hl hv
 obtain⟨p0,p1,_⟩:=X1.two
 generalize cs.flatten=L at *
 clear h X1
 go_enter Tryz.func230,Tryz.ntmps230
 go_upto_region 1 with fail
 rw[<-hW];clear hW
 go_wp2_with fail
 refine hpt.mono ?_
 rintro e m1 ⟨pa,pc,rfl,hgr,-,hb1⟩
 have HG:Hid (Gr PnE (fun _=>True) m1 pa pc L):=hgr
 have HBW:Hid (Below w.heap.size w m1):=hbW.trans (hb1.mono hbW.size)
 clear hpt hgr hb1 hbW p0 p1;go_wp2
 go_loopw [4,5,11] (fun va vb i wr=>∃k:Nat,k<=L.length/\i=.int .i64 k/\Fam El.int 3 m1.heap.size wr [va,vb] [(L.take k).map Pn.x,(L.take k).map Pn.y]/\Below m1.heap.size m1 wr) (fun _ _ i _=>L.length-(intOf i).toNat)
 case atStart=>exact⟨0,Nat.zero_le _,rfl,Fam.two _ _ _ _,Below.refl _ _⟩
 case round =>
  obtain⟨k,hk,rfl,fam,hB⟩:=hrel
  by_cases hkn:k<L.length
  . obtain⟨b0,off,x,y,on,ea,hb,hpn,hxi,hyi,d0,d1,d2⟩:=HG.out.pnt hB k hkn
    subst ea
    have HX:Hid ((L.take (k+1)).map Pn.x=(L.take k).map Pn.x++[x]):=by show _=_;rw[zko hkn,hpn]
    have HY:Hid ((L.take (k+1)).map Pn.y=(L.take k).map Pn.y++[y]):=by show _=_;rw[zko hkn,hpn]
    have hz1:I64 x:=hxi
    have hz2:I64 y:=hyi
    have hll1:((L.take k).map Pn.x).length+1<=1000000:=by rw[List.length_map,List.length_take];omega
    have hll2:((L.take k).map Pn.y).length+1<=1000000:=by rw[List.length_map,List.length_take];omega
    have i1:(0:Int)<=(k:Int):=by omega
    have i2:(k:Int)<(L.length:Int):=by omega
    obtain⟨V0,hV0,X0,hb0⟩:∃V,V=wr.alloc (.cells #[.int .i64 x,.int .i64 y,.bool on] 65)/\Bk 65 V wr.heap.size [.int .i64 x,.int .i64 y,.bool on]/\Below wr.heap.size wr V:=⟨_,rfl,Bk.new _ _ _,bl1 _⟩
    obtain⟨p0,p1,p2,_⟩:=X0.three;replace fam:=fam.below hb0
    replace hB:=hB.trans (hb0.mono hB.size)
    clear hpn hxi hyi
    generalize (L.take k).map Pn.x=LX at *
    generalize (L.take k).map Pn.y=LY at *
    go_upto_region 5 with fail
    rw[<-hV0];clear hV0 hb0
    obtain⟨V1,hV1,c1,zxd,hlV1⟩:∃V,V=V0.alloc (.cells #[.int .i64 x] 3)/\V.cell? ⟨V0.heap.size,0,none⟩=some (.int .i64 x)/\Below V0.heap.size V0 V/\V0.heap.size<V.heap.size:=⟨_,rfl,cell_of_row _ _ 0 _ _ (0,0) (heap_alloc_new _ _),bl1 _,by simp⟩
    have famv1:=fam.below zxd
    have hown1:Gw El.int 3 m1.heap.size (fun _=>False) V1 u4 LX:=famv1.row 0 (by simp)
    have hbs1:m1.heap.size<=V1.heap.size:=Nat.le_trans hB.size zxd.size
    have hBV1:Below m1.heap.size m1 V1:=hB.trans (zxd.mono hB.size)
    go_wp2_with (at_builtin;rw[<-hV1];refine zaf rfl _ _ rfl m1.heap.size u4 LX rfl hown1 V0.heap.size x rfl hlV1 c1 hz1 hll1 hbs1 ?_)
    intro v1 y1 hT1 hg1 ho1
    rw[<-hV1]at hg1
    rw[show V0.heap.size+1=V1.heap.size by rw[hV1];simp]at ho1
    replace hB:Below m1.heap.size m1 y1:=hBV1.grown hg1 hbs1 (fun g hg=>(hown1.lo hg).1)
    replace fam:Fam El.int 3 m1.heap.size y1 [v1,u5] [(LX++[x]),LY]:=famv1.grow 0 (by simp) hT1 hg1 ho1
    clear hV1 c1 hlV1 famv1 hbs1 hBV1 hT1 hll1
    have X2:=(X0.below zxd).grown hg1 (Gi.ne hown1 (X0.below zxd) (by decide))
    clear p0 p1 p2;obtain⟨p0,p1,p2,_⟩:=X2.three
    obtain⟨V2,hV2,c2,hbV2,hlV2⟩:∃V,V=y1.alloc (.cells #[.int .i64 y] 3)/\V.cell? ⟨y1.heap.size,0,none⟩=some (.int .i64 y)/\Below y1.heap.size y1 V/\y1.heap.size<V.heap.size:=⟨_,rfl,cell_of_row _ _ 0 _ _ (0,0) (heap_alloc_new _ _),bl1 _,by simp⟩
    have famv2:=fam.below hbV2
    have hown2:Gw El.int 3 m1.heap.size (fun _=>False) V2 u5 LY:=famv2.row 1 (by simp)
    have hbs2:m1.heap.size<=V2.heap.size:=Nat.le_trans hB.size hbV2.size
    have hBV2:Below m1.heap.size m1 V2:=hB.trans (hbV2.mono hB.size)
    go_wp2_with (at_builtin;rw[<-hV2];refine zaf rfl _ _ rfl m1.heap.size u5 LY rfl hown2 y1.heap.size y rfl hlV2 c2 hz2 hll2 hbs2 ?_)
    intro v2 y2 hT2 hg2 ho2
    rw[<-hV2]at hg2
    rw[show y1.heap.size+1=V2.heap.size by rw[hV2];simp]at ho2
    replace hB:Below m1.heap.size m1 y2:=hBV2.grown hg2 hbs2 (fun g hg=>(hown2.lo hg).1)
    replace fam:Fam El.int 3 m1.heap.size y2 [v1,v2] [(LX++[x]),(LY++[y])]:=famv2.grow 1 (by simp) hT2 hg2 ho2
    clear hV2 c2 hlV2 famv2 hbs2 hBV2 hT2 hll2
    have FAM:Hid (Fam El.int 3 m1.heap.size y2 [v1,v2] [(L.take (k+1)).map Pn.x,(L.take (k+1)).map Pn.y]):=by
     rw[HX.out,HY.out]
     exact fam
    have HBB:Hid (Below m1.heap.size m1 y2):=hB
    clear fam hB d0 d1 d2 p0 p1 p2;go_wp2
    go_roundw
    case rel=>exact⟨k+1,by omega,by go_num,FAM.out,HBB.out⟩
    case measure=>simp[intOf];omega
  . obtain rfl:k=L.length:=by omega
    have g4:¬(L.length:Int)<(L.length:Int):=by omega
    have hra:Gi m1.heap.size wr u4 ((L.take L.length).map Pn.x):=fam.row 0 (by simp)
    have hrb:Gi m1.heap.size wr u5 ((L.take L.length).map Pn.y):=fam.row 1 (by simp)
    rw[List.take_length]at hra hrb;obtain⟨aa,cc,rfl,hra,-⟩:=hra.slice;obtain⟨ab,cb,rfl,hrb,-⟩:=hrb.slice
    have HRA:Hid (Ri wr aa cc (L.map Pn.x)):=hra
    have HRB:Hid (Ri wr ab cb (L.map Pn.y)):=hrb
    have HBF:Hid (Below w.heap.size w wr):=HBW.out.trans (hB.mono HBW.out.size)
    rw[List.length_map,List.length_map];clear fam hra hrb hB;go_wp2
    go_ret2
    exact⟨aa,cc,ab,cb,rfl,HRA.out,HRB.out,HBF.out⟩
theorem zd0(f:Pn->Int)(cs:List (List Pn))(ea:OA)(ec:Nat)(na:OA)(nc:Nat)(ta:OA)(tc:Nat)(tch:List Bool)(la:OA)(lc:Nat)(lay:List Int)(w:World)(he:Ri w ea ec (endF 0 cs))(hn:Ri w na nc (cs.flatten.map f))(ht:Rl w ta tc tch)(hl:Ri w la lc lay)(h0:∀c∈cs,0<c.length)(h80:cs.flatten.length<=80)(l1:tch.length=cs.flatten.length)(l2:lay.length=cs.flatten.length) :
 Calls Tryz.prog 231 #[.slice ea cs.length ec,.slice na cs.flatten.length nc,.slice ta cs.flatten.length tc,.slice la cs.flatten.length lc] w fun e w'=>∃a' c',e=.returned (.slice a' (conQ f cs lay tch cs.length).length c')/\Rg w.heap.size w' a' c' 7 (conQ f cs lay tch cs.length)/\Below w.heap.size w w':=by
 have HE:Hid (Ri w ea ec (endF 0 cs)):=he
 have HN:Hid (Ri w na nc (cs.flatten.map f)):=hn
 have HT:Hid (Rl w ta tc tch):=ht
 have HL:Hid (Ri w la lc lay):=hl
 have H0:Hid (∀c∈cs,0<c.length):=h0
 have HL1:Hid (tch.length=cs.flatten.length/\lay.length=cs.flatten.length):=⟨l1,l2⟩
 have hc1:cs.flatten.length<=nc:=by have:=hn.2.1;rw[List.length_map]at this;exact this
 have hc2:cs.flatten.length<=tc:=by have:=ht.1;rw[l1]at this;exact this
 have hc3:cs.flatten.length<=lc:=by have:=hl.2.1;rw[l2]at this;exact this
 have k2:cs.length<=9223372036854775807:=by have:=he.lenB;rw[zbo]at this;exact this
 have HCM:Hid (∀k,k<=cs.length->ofC cs k<=cs.flatten.length):=fun k _=>zny cs k
 obtain⟨N,hN⟩:∃N,cs.flatten.length=N:=⟨_,rfl⟩
 have HNN:Hid (cs.flatten.length=N):=hN
 rw[hN]at h80 hc1 hc2 hc3 ⊢
 have b1:=hn.2.2.1
 have b2:=ht.2.1
 have b3:=hl.2.2.1
 unfold maxLen at b1 b2 b3
 clear he hn ht hl h0 l1 l2 hN
 go_enter Tryz.func231,Tryz.ntmps231
 go_wp2
 go_loopw [9,10,16] (fun v s i wr=>∃k:Nat,k<=cs.length/\i=.int .i64 k/\s=.int .i64 (ofC cs k:Int)/\Ro 125 w.heap.size wr v 7 (conQ f cs lay tch k)/\Below w.heap.size w wr) (fun _ _ i _=>cs.length-(intOf i).toNat)
 case atStart=>exact⟨0,Nat.zero_le _,rfl,rfl,Ro.nil _ _ _ _,Below.refl _ _⟩
 case round =>
  obtain⟨k,hk,rfl,rfl,hT,hB⟩:=hrel;obtain⟨a2,c2,rfl,hts⟩:=hT.rg
  have hQl:=zmn f cs lay tch k hk
  have hol:=HCM.out k hk
  rw[HNN.out]at hol
  by_cases hkn:k<cs.length
  . have hol2:=HCM.out (k+1) hkn
    rw[HNN.out]at hol2
    have hst:=zdp hkn
    have zfy:0<(cs.getD k []).length:=H0.out _ (by rw[List.getD_eq_getElem?_getD,List.getElem?_eq_getElem hkn];exact List.getElem_mem hkn)
    obtain⟨b0,off,e0,hb,d0⟩:=HE.out.at hB k (by rw[zbo];exact hkn)
    rw[show(endF 0 cs).getD k 0=((ofC cs (k+1):Nat):Int)-1 from z27 hkn]at d0
    subst e0
    have HS:Hid (conQ f cs lay tch (k+1)=conQ f cs lay tch k++segF f cs lay tch k):=zg8 _ _ _ _ _
    have hsl:=zgn f cs lay tch k
    have HSG:Hid (segF f cs lay tch k=fillQ (((cs.flatten.map f).drop (ofC cs k)).take (ofC cs (k+1)-ofC cs k)) ((tch.drop (ofC cs k)).take (ofC cs (k+1)-ofC cs k)) ((lay.drop (ofC cs k)).take (ofC cs (k+1)-ofC cs k))):=by
     show _=_
     have e9:ofC cs (k+1)-ofC cs k=(cs.getD k []).length:=by omega
     rw[e9,<-List.map_drop,<-List.map_take,zoh cs k hkn]
     rfl
    have HNX:Hid (ofC cs (k+1)=ofC cs (k+1)):=rfl
    obtain⟨x,hx⟩:∃x,ofC cs k=x:=⟨_,rfl⟩
    obtain⟨y,hy⟩:∃x,ofC cs (k+1)=x:=⟨_,rfl⟩
    rw[hx,hy]at HSG hst;rw[hx]at hol hQl;rw[hy]at d0 hol2;rw[hx]
    have HY:Hid (ofC cs (k+1)=y):=hy
    clear hx hy HNX
    generalize (cs.getD k []).length=m at *
    have hxy:x<y:=by omega
    have hsl2:(segF f cs lay tch k).length<=y-x:=by omega
    clear hst zfy hsl
    obtain⟨nb,no,en,hnb,_⟩:=HN.out.at hB x (by rw[List.length_map,HNN.out];omega)
    subst en
    obtain⟨tb,to',et,htb,_⟩:=HT.out.at hB x (by rw[HL1.out.1,HNN.out];omega)
    subst et
    obtain⟨lb,lo,el,hlb,_⟩:=HL.out.at hB x (by rw[HL1.out.2,HNN.out];omega)
    subst el
    have hfi:=fun U (hb:Below w.heap.size w U)=>zuh (some ⟨nb,no+x,none⟩) (nc-x) (((cs.flatten.map f).drop x).take (y-x)) (some ⟨tb,to'+x,none⟩) (tc-x) ((tch.drop x).take (y-x)) (some ⟨lb,lo+x,none⟩) (lc-x) ((lay.drop x).take (y-x)) U (((HN.out.below hb).drop x (by rw[List.length_map,HNN.out];omega)).take _) (Rl.of (by have:=(Gr.from (HT.out.below hb) x (by rw[HL1.out.1,HNN.out];omega)).take (y-x);rw[show x*El.bool.sz=x from Nat.mul_one x]at this;exact this)) (((HL.out.below hb).drop x (by rw[HL1.out.2,HNN.out];omega)).take _)
    rw[<-HSG.out]at hfi
    rw[show(((cs.flatten.map f).drop x).take (y-x)).length=y-x by rw[List.length_take,List.length_drop,List.length_map,HNN.out];omega,show((tch.drop x).take (y-x)).length=y-x by rw[List.length_take,List.length_drop,HL1.out.1,HNN.out];omega,show((lay.drop x).take (y-x)).length=y-x by rw[List.length_take,List.length_drop,HL1.out.2,HNN.out];omega]at hfi
    have hyy:(y:Int)-1+1=(y:Int):=by omega
    have j1:(0:Int)<=(x:Int):=by omega
    have j2:(x:Int)<=(y:Int):=by omega
    have j3:(y:Int)<=(nc:Int):=by omega
    have j4:(y:Int)<=(tc:Int):=by omega
    have j5:(y:Int)<=(lc:Int):=by omega
    have j6:¬nc=x:=by omega
    have j7:¬tc=x:=by omega
    have j8:¬lc=x:=by omega
    have i1:(0:Int)<=(k:Int):=by omega
    have i2:(k:Int)<(cs.length:Int):=by omega
    have hsb:1<=y:=by omega
    generalize conQ f cs lay tch k=QK at *
    generalize segF f cs lay tch k=QS at *
    have HT2:Hid (Ro 125 w.heap.size wr (.slice a2 QK.length c2) 7 QK):=hT
    clear hT hts HSG
    go_wp2_with fail
    refine wp_region_held_drew (S:=fun _=>True) (by kernel_rfl) ?_ (fun hH=>?_)
    . (try dsimp only)
      all_goals go_keep
    have hdr:Below wr.heap.size wr wr.drew:=Below.drew1
    generalize wr.drew=Z at hdr hH ⊢
    have hBZ:Below w.heap.size w Z:=hB.trans (hdr.mono hB.size)
    have hown:=HT2.out.below hdr
    clear hdr;refine hT 0 hH ?_;refine hT 1 hH ?_;refine hT 2 hH ?_;refine hT 3 hH ?_
    refine hTake (i:=4) (v:=.slice (some ⟨nb,no+x,none⟩) (y-x) (nc-x)) rfl (by kernel_rfl) (by kernel_rfl) (by kernel_rfl) (fun _ _ _ h=>h) (Or.inl ⟨by rfl,?y10⟩) hH ?r10
    case y10 =>
     intro w9 hSw
     (try dsimp only at hSw)
     go_simp
    try simp only[Act.put,pZ]
    refine hT 5 hH ?_;refine hT 6 hH ?_;refine hT 7 hH ?_
    refine hTake (i:=8) (v:=.slice (some ⟨tb,to'+x,none⟩) (y-x) (tc-x)) rfl (by kernel_rfl) (by kernel_rfl) (by kernel_rfl) (fun _ _ _ h=>h) (Or.inl ⟨by rfl,?y11⟩) hH ?r11
    case y11 =>
     intro w9 hSw
     (try dsimp only at hSw)
     go_simp
    try simp only[Act.put,pZ]
    refine hT 9 hH ?_;refine hT 10 hH ?_;refine hT 11 hH ?_
    refine hTake (i:=12) (v:=.slice (some ⟨lb,lo+x,none⟩) (y-x) (lc-x)) rfl (by kernel_rfl) (by kernel_rfl) (by kernel_rfl) (fun _ _ _ h=>h) (Or.inl ⟨by rfl,?y12⟩) hH ?r12
    case y12 =>
     intro w9 hSw
     (try dsimp only at hSw)
     go_simp
    try simp only[Act.put,pZ]
    refine hCall (i:=13) rfl (by kernel_rfl) (by rfl) (fun K hK=>?_)
    go_simp
    refine(hfi Z hBZ).mono ?_
    rintro e Y ⟨fa,fc,rfl,hRf,hb5⟩
    replace hBZ:=hBZ.trans (hb5.mono hBZ.size)
    replace hown:=hown.below hb5;clear hb5 hfi
    go_wp2_with fail
    refine hK.out _ _ ?_ (fun hH=>?_)
    . (try dsimp only)
      all_goals trivial
    clear hK K
    try simp only[Act.put,pZ]
    refine hCall (i:=14) rfl (by kernel_rfl) (by rfl) (fun K hK=>?_)
    refine zbj 173 125 Tryz.underlying173 zch _ _ rfl w.heap.size (.slice a2 QK.length c2) 7 QK QS rfl hown fa fc QS.length rfl rfl hRf.1 hRf.2.1 hRf.2.2 (by omega) hBZ.size ?_
    intro v9 w9 hT9 hgrow _
    have hB9:Below w.heap.size w w9:=hBZ.grown hgrow hBZ.size (fun g hg=>(HT2.out.lo hg).1)
    rw[<-HS.out]at hT9
    refine hK.out _ _ ?_ (fun hH=>?_)
    . (try dsimp only)
      all_goals trivial
    clear hK K hgrow hown hRf
    try simp only[Act.put,pZ]
    refine hT 15 hH ?_
    refine wpAnyH_done (by kernel_rfl) ?_ _
    clear hH;go_wp2
    go_roundw
    case rel=>exact⟨k+1,by omega,by go_num,by rw[HY.out],hT9,hB9⟩
    case measure=>simp[intOf];omega
  . obtain rfl:k=cs.length:=by omega
    have g4:¬(cs.length:Int)<(cs.length:Int):=by omega
    have HTS:Hid (Rg w.heap.size wr a2 c2 7 (conQ f cs lay tch cs.length)):=hts
    clear hT hts;go_wp2
    go_ret
    exact⟨a2,c2,rfl,HTS.out,hB⟩
theorem Gr.pn0{S:Nat->Prop}{w:World}{a:OA}{cap:Nat}{l:List Pn}(h:Gr PnE S w a cap l):Gr PnE (fun _=>False) w a cap l:=by
 refine⟨h.1,h.2.1,h.2.2.1,fun i hi=>?_⟩
 obtain⟨b,off,vs,e,hb,hr,hc⟩:=h.2.2.2 i hi
 exact⟨b,off,vs,e,hb,zaz.2 (zaz.1 hr),hc⟩
theorem Gr.pa0{S:Nat->Prop}{w:World}{a:OA}{cap:Nat}{l:List Pa}(h:Gr PaE S w a cap l):Gr PaE (fun _=>False) w a cap l:=by
 refine⟨h.1,h.2.1,h.2.2.1,fun i hi=>?_⟩
 obtain⟨b,off,vs,e,hb,hr,hc⟩:=h.2.2.2 i hi
 exact⟨b,off,vs,e,hb,zcf.2 (zcf.1 hr),hc⟩
theorem Gr.kept{α:Type}{E:El α}{G:Nat->Prop}{w w':World}{a:OA}{cap:Nat}{l:List α}(h:Gr E (fun _=>False) w a cap l)(hk:Keep G w w')(hG:∀b o,a=some ⟨b,o,none⟩->l≠[]->b<w.heap.size->G b):Gr E (fun _=>False) w' a cap l :=
 h.stay hk.size (fun k h1=>h1.elim) (fun b o e hl hb=>hk.block b (hG b o e hl hb))
def wz1(zs:List Int):List (List Rat):=zs.map (fun z:Int=>[(z:Rat)])
theorem zfq(zs:List Int)(z:Int):wz1 (zs++[z])=wz1 zs++[[(z:Rat)]]:=by unfold wz1;rw[List.map_append];rfl
theorem zh3(zs:List Int):(wz1 zs).length=zs.length:=by unfold wz1;rw[List.length_map]
theorem zek{α:Type}{L:List α}{d:α}{k:Nat}(hk:k<L.length)(f:α->Int):(L.take (k+1)).map f=(L.take k).map f++[f (L.getD k d)]:=by
 rw[List.take_add_one,List.getElem?_eq_getElem hk,List.map_append]
 simp[List.getD,hk]
def Bs2(base gx gy:Nat)(W w:World)(X Y:List (List Rat)):Prop :=
 ∃xa xc ya yc,Bk 230 w gx [.slice xa X.length xc]/\Bk 230 w gy [.slice ya Y.length yc]/\R22 base w (.slice xa X.length xc) (.slice ya Y.length yc) 20 X Y/\Keep (fun k=>k<base/\k≠gx/\k≠gy) W w/\base<=w.heap.size
theorem Bs2.below{base gx gy:Nat}{W w w':World}{X Y:List (List Rat)}(h:Bs2 base gx gy W w X Y)(hb:Below w.heap.size w w'):Bs2 base gx gy W w' X Y:=by
 obtain⟨xa,xc,ya,yc,h1,h2,h3,h4,h5⟩:=h
 exact⟨xa,xc,ya,yc,h1.below hb,h2.below hb,h3.below hb,h4.trans (Keep.of_below hb (fun k hk=>by omega)),Nat.le_trans h5 hb.size⟩
theorem Bs2.kp{base gx gy:Nat}{W w:World}{X Y:List (List Rat)}(h:Bs2 base gx gy W w X Y):Keep (fun k=>k<base/\k≠gx/\k≠gy) W w:=by
 obtain⟨xa,xc,ya,yc,h1,h2,h3,h4,h5⟩:=h
 exact h4
theorem zqw(base gx gy:Nat)(x y:Int)(X Y:List (List Rat))(W w:World)(h:Bs2 base gx gy W w X Y)(hgx:gx<base)(hgy:gy<base)(hne:gx≠gy)(hx:I64 x)(hy:I64 y)(hl1:X.length<=1000)(hl2:Y.length<=1000) :
 Calls Tryz.prog 225 #[.int .i64 x,.int .i64 y,.pointer (some ⟨gx,0,none⟩),.pointer (some ⟨gy,0,none⟩)] w fun e w'=>e=.returned (.tuple #[])/\Bs2 base gx gy W w' (X++[[(x:Rat)]]) (Y++[[(y:Rat)]]):=by
 obtain⟨xa,xc,ya,yc,h1,h2,h3,h4,h5⟩:=h
 refine(zpa base gx gy x y xa xc ya yc X Y w h1 h2 h3 hgx hgy hne h5 hx hy hl1 hl2).mono ?_
 rintro e w' ⟨rfl,xa',xc',ya',yc',k1,k2,k3,k4,k5⟩
 exact⟨rfl,xa',xc',ya',yc',k1,k2,k3,h4.trans k4,k5⟩
theorem zo9(S:Nat->Prop)(a:OA)(ca:Nat)(b:OA)(cb:Nat)(o:Ol)(w:World)(hc:Gr PnE.row S w a ca o.cs)(hp:Gr PaE S w b cb o.ps)(hl:o.cs.flatten.length<=400)(hl2:o.ps.length<=400) :
 Calls Tryz.prog 178 #[.agg #[.slice a o.cs.length ca,.slice b o.ps.length cb]] w fun e w'=>∃vx vy,e=.returned (.tuple #[vx,vy])/\R22 w.heap.size w' vx vy 20 (wz1 (baQ Pn.x Pa.dx o)) (wz1 (baQ Pn.y Pa.dy o))/\Below w.heap.size w w':=by
 obtain⟨W,hW,X1,XX,XY,hbW⟩:∃W,W=((w.alloc (.cells #[.slice a o.cs.length ca,.slice b o.ps.length cb] 57)).alloc (.cells #[.slice none 0 0] 230)).alloc (.cells #[.slice none 0 0] 230)/\Bk 57 W w.heap.size [.slice a o.cs.length ca,.slice b o.ps.length cb]/\Bk 230 W (w.heap.size+1) [.slice none 0 0]/\Bk 230 W (w.heap.size+2) [.slice none 0 0]/\Below w.heap.size w W :=
  ⟨_,rfl,((Bk.new _ _ [.slice a o.cs.length ca,.slice b o.ps.length cb]).below (al1 _)).below (al1 _),(Bk.new1 _ _ _ [.slice none 0 0]).below (al1 _),by
   have h:=Bk.new 230 ((w.alloc (.cells #[.slice a o.cs.length ca,.slice b o.ps.length cb] 57)).alloc (.cells #[.slice none 0 0] 230)) [.slice none 0 0]
   simpa using h,al3 _ _ _⟩
 obtain⟨p0,p1,_⟩:=X1.two
 have hWs:=XY.lt
 have hpt:=zdj S a ca (.slice b o.ps.length cb) o.cs W (hc.below hbW) (by omega) rfl
 have HPS:Hid (Gr PaE (fun _=>False) W b cb o.ps):=(hp.below hbW).pa0
 have HPB:Hid (∀b' o',b=some ⟨b',o',none⟩->o.ps≠[]->b'<w.heap.size):=fun b' o' e hne=>by
  obtain⟨b1,o1,e1,h1⟩:=hp.blk hne
  rw[e]at e1
  cases e1
  exact h1
 have HBW:Hid (Below w.heap.size w W):=hbW
 have HBX:Hid (baQ Pn.x Pa.dx o=o.cs.flatten.map Pn.x++o.ps.map Pa.dx):=rfl
 have HBY:Hid (baQ Pn.y Pa.dy o=o.cs.flatten.map Pn.y++o.ps.map Pa.dy):=rfl
 generalize baQ Pn.x Pa.dx o=bX at *
 generalize baQ Pn.y Pa.dy o=bY at *
 clear hc hp
 generalize o.cs.length=nc at *
 generalize o.cs.flatten=L at *
 generalize o.ps=ps at *
 go_enter Tryz.func178,Tryz.ntmps178
 go_upto_region 2 with fail
 rw[<-hW];clear hW
 go_wp2_with fail
 refine hpt.mono ?_
 rintro e m1 ⟨qa,qc,rfl,hgr,hloc,hb1⟩
 have HQ:Hid (Gr PnE (fun _=>False) m1 qa qc L):=hgr.pn0
 have HQL:Hid (∀b' o',qa=some ⟨b',o',none⟩->W.heap.size<=b'/\b'<m1.heap.size):=hloc
 have HPS1:Hid (Gr PaE (fun _=>False) m1 b cb ps):=HPS.out.below hb1
 have HB1:Hid (Below W.heap.size W m1):=hb1
 have hms:=hb1.size
 have HX1:Hid (Bk 57 m1 w.heap.size [.slice a nc ca,.slice b ps.length cb]):=X1.below hb1
 have HI:Hid (Bs2 m1.heap.size (w.heap.size+1) (w.heap.size+2) m1 m1 (wz1 ((L.take 0).map Pn.x)) (wz1 ((L.take 0).map Pn.y))):=⟨none,0,none,0,XX.below hb1,XY.below hb1,R22.nil _ _ _,Keep.refl _ _,Nat.le_refl _⟩
 obtain⟨base,hbase⟩:∃n,m1.heap.size=n:=⟨_,rfl⟩
 have HBE:Hid (m1.heap.size=base):=hbase
 rw[hbase]at HI hms;clear hpt hgr hloc hb1 X1 XX XY p0 p1 HPS hbase
 have kq:=HQ.out.lenB
 go_wp2
 go_loopw [15] (fun i wr=>∃k:Nat,k<=L.length/\i=.int .i64 k/\Bs2 base (w.heap.size+1) (w.heap.size+2) m1 wr (wz1 ((L.take k).map Pn.x)) (wz1 ((L.take k).map Pn.y))) (fun i _=>L.length-(intOf i).toNat)
 case atStart=>exact⟨0,Nat.zero_le _,rfl,HI.out⟩
 case round =>
  clear HI;obtain⟨k,hk,rfl,hS⟩:=hrel
  by_cases hkn:k<L.length
  . have hQw:=HQ.out.kept hS.kp (fun b' o' e _ hb'=>by have:=HQL.out b' o' e;have:=HBE.out;omega)
    obtain⟨b0,off,x,y,on,ea,hb,hpn,hxi,hyi,d0,d1,d2⟩:=hQw.pnt (Below.refl _ _) k hkn
    subst ea
    have HSX:Hid (wz1 ((L.take (k+1)).map Pn.x)=wz1 ((L.take k).map Pn.x)++[[(x:Rat)]]):=by show _=_;rw[zek (d:=Pn.none) hkn,hpn,zfq]
    have HSY:Hid (wz1 ((L.take (k+1)).map Pn.y)=wz1 ((L.take k).map Pn.y)++[[(y:Rat)]]):=by show _=_;rw[zek (d:=Pn.none) hkn,hpn,zfq]
    have l1:(wz1 ((L.take k).map Pn.x)).length<=1000:=by rw[zh3,List.length_map,List.length_take];omega
    have l2:(wz1 ((L.take k).map Pn.y)).length<=1000:=by rw[zh3,List.length_map,List.length_take];omega
    obtain⟨V,hV,X0,hb0⟩:∃V,V=wr.alloc (.cells #[.int .i64 x,.int .i64 y,.bool on] 65)/\Bk 65 V wr.heap.size [.int .i64 x,.int .i64 y,.bool on]/\Below wr.heap.size wr V:=⟨_,rfl,Bk.new _ _ _,bl1 _⟩
    obtain⟨q0,q1,q2,_⟩:=X0.three
    have hcl:=zqw base (w.heap.size+1) (w.heap.size+2) x y _ _ m1 V (hS.below hb0) (by omega) (by omega) (by omega) hxi hyi l1 l2
    rw[<-HSX.out,<-HSY.out]at hcl
    have i1:(0:Int)<=(k:Int):=by omega
    have i2:(k:Int)<(L.length:Int):=by omega
    clear hpn l1 l2 hS hQw HSX HSY
    go_upto_region 6 with fail
    rw[<-hV];clear hV d0 d1 d2
    go_wp2_with fail
    refine hcl.mono ?_
    rintro e m2 ⟨rfl,hS2⟩;clear hcl q0 q1 q2;go_wp2
    go_roundw
    case rel=>exact⟨k+1,by omega,by go_num,hS2⟩
    case measure=>simp[intOf];omega
  . obtain rfl:k=L.length:=by omega
    have g4:¬(L.length:Int)<(L.length:Int):=by omega
    have hX1:=HX1.out.kept (G:=fun k=>k<base/\k≠w.heap.size+1/\k≠w.heap.size+2) hS.kp (by omega)
    obtain⟨p0,p1,_⟩:=hX1.two
    have HI:Hid (Bs2 base (w.heap.size+1) (w.heap.size+2) m1 wr (wz1 (L.map Pn.x++(ps.take 0).map Pa.dx)) (wz1 (L.map Pn.y++(ps.take 0).map Pa.dy))):=by
     show Bs2 _ _ _ _ _ _ _
     rw[List.take_zero,List.map_nil,List.map_nil,List.append_nil,List.append_nil];rw[List.take_length]at hS
     exact hS
    clear hS hX1;go_wp2;clear p0 p1
    go_loopw [29] (fun i wr=>∃k:Nat,k<=ps.length/\i=.int .i64 k/\Bs2 base (w.heap.size+1) (w.heap.size+2) m1 wr (wz1 (L.map Pn.x++(ps.take k).map Pa.dx)) (wz1 (L.map Pn.y++(ps.take k).map Pa.dy))) (fun i _=>ps.length-(intOf i).toNat)
    case atStart=>exact⟨0,Nat.zero_le _,rfl,HI.out⟩
    case round =>
     clear HI;obtain⟨k,hk,rfl,hS⟩:=hrel
     by_cases hkn:k<ps.length
     . have hQw:=HPS1.out.kept hS.kp (fun b' o' e hne hb'=>by have:=HPB.out b' o' e hne;omega)
       obtain⟨b0,off,ea,hb,hpw,d0,d1,d2⟩:=hQw.pa (Below.refl _ _) k hkn
       subst ea
       have HSX:Hid (wz1 (L.map Pn.x++(ps.take (k+1)).map Pa.dx)=wz1 (L.map Pn.x++(ps.take k).map Pa.dx)++[[(((ps.getD k Pa.none).dx:Int):Rat)]]):=by show _=_;rw[zek (d:=Pa.none) hkn,<-List.append_assoc,zfq]
       have HSY:Hid (wz1 (L.map Pn.y++(ps.take (k+1)).map Pa.dy)=wz1 (L.map Pn.y++(ps.take k).map Pa.dy)++[[(((ps.getD k Pa.none).dy:Int):Rat)]]):=by show _=_;rw[zek (d:=Pa.none) hkn,<-List.append_assoc,zfq]
       obtain⟨pq,hpq⟩:∃q,ps.getD k Pa.none=q:=⟨_,rfl⟩
       rw[hpq]at hpw d0 d1 d2 HSX HSY;obtain⟨gl,x,y⟩:=pq;obtain⟨hgi,hxi,hyi⟩:=hpw
       dsimp only at *
       have l1:(wz1 (L.map Pn.x++(ps.take k).map Pa.dx)).length<=1000:=by rw[zh3,List.length_append,List.length_map,List.length_map,List.length_take];omega
       have l2:(wz1 (L.map Pn.y++(ps.take k).map Pa.dy)).length<=1000:=by rw[zh3,List.length_append,List.length_map,List.length_map,List.length_take];omega
       obtain⟨V,hV,X0,hb0⟩:∃V,V=wr.alloc (.cells #[.int .i64 gl,.int .i64 x,.int .i64 y] 54)/\Bk 54 V wr.heap.size [.int .i64 gl,.int .i64 x,.int .i64 y]/\Below wr.heap.size wr V:=⟨_,rfl,Bk.new _ _ _,bl1 _⟩
       obtain⟨q0,q1,q2,_⟩:=X0.three
       have hcl:=zqw base (w.heap.size+1) (w.heap.size+2) x y _ _ m1 V (hS.below hb0) (by omega) (by omega) (by omega) hxi hyi l1 l2
       rw[<-HSX.out,<-HSY.out]at hcl
       have i1:(0:Int)<=(k:Int):=by omega
       have i2:(k:Int)<(ps.length:Int):=by omega
       clear hpq l1 l2 hS hQw HSX HSY
       go_upto_region 11 with fail
       rw[<-hV];clear hV d0 d1 d2
       go_wp2_with fail
       refine hcl.mono ?_
       rintro e m2 ⟨rfl,hS2⟩;clear hcl q0 q1 q2;go_wp2
       go_roundw
       case rel=>exact⟨k+1,by omega,by go_num,hS2⟩
       case measure=>simp[intOf];omega
     . obtain rfl:k=ps.length:=by omega
       have g5:¬(ps.length:Int)<(ps.length:Int):=by omega
       rw[List.take_length,<-HBX.out,<-HBY.out]at hS;obtain⟨xa,xc,ya,yc,h1,h2,h3,h4,h5⟩:=hS
       have zau:Below w.heap.size w wr:=HBW.out.trans ((HB1.out.mono HBW.out.size).trans (h4.below (B:=w.heap.size) (fun k hk=>by omega)))
       have hR:=h3.lower (base':=w.heap.size) (by omega)
       obtain⟨c1,_⟩:=h1.one1;obtain⟨c2,_⟩:=h2.one1
       have HR:Hid (R22 w.heap.size wr (.slice xa (wz1 bX).length xc) (.slice ya (wz1 bY).length yc) 20 (wz1 bX) (wz1 bY)):=hR
       have HFI:Hid (Below w.heap.size w wr):=zau
       generalize (wz1 bX).length=nx at *
       generalize (wz1 bY).length=ny at *
       clear h1 h2 h3 h4 hR zau
       go_upto_region 13 with fail
       refine wp_region_held_drew (S:=fun w9=>w9.cell? ⟨w.heap.size+1,0,none⟩=some (.slice xa nx xc)/\w9.cell? ⟨w.heap.size+2,0,none⟩=some (.slice ya ny yc)) (by kernel_rfl) ?_ (fun hH=>?_)
       . (try dsimp only)
         go_keep
       have hdr:Below wr.heap.size wr wr.drew:=Below.drew1
       generalize wr.drew=ud at hdr hH ⊢
       refine hT 0 hH ?_;refine hT 1 hH ?_;refine hT 2 hH ?_;refine hT 3 hH ?_
       refine wpAnyH_done (by kernel_rfl) ?_ _
       have HR2:=HR.out.below hdr
       have HF2:=HFI.out.trans (hdr.mono HFI.out.size)
       clear hH c1 c2;go_wp2
       go_ret2
       exact⟨_,_,rfl,HR2,HF2⟩
def spL(f:Pn->Int)(o:Ol)(pts told dx dy:List Int):List Rat:=if spB o pts dx dy=true then spQ f o pts told else []
def spE(o:Ol)(pts dx dy:List Int):Int:=if spB o pts dx dy=true then 0 else 1
theorem zyu{f:Pn->Int}{o:Ol}{pts told dx dy:List Int}(h:spB o pts dx dy=false):spL f o pts told dx dy=[]:=by unfold spL;rw[h];rfl
theorem z34{o:Ol}{pts dx dy:List Int}(h:spB o pts dx dy=false):spE o pts dx dy=1:=by unfold spE;rw[h];rfl
theorem zid{f:Pn->Int}{o:Ol}{pts told dx dy:List Int}(h:spB o pts dx dy=true):spL f o pts told dx dy=spQ f o pts told:=if_pos h
theorem zrg{o:Ol}{pts dx dy:List Int}(h:spB o pts dx dy=true):spE o pts dx dy=0:=if_pos h
theorem spB_1{o:Ol}{pts dx dy:List Int}(h:foB o=false):spB o pts dx dy=false:=by unfold spB;rw[h];rfl
theorem spB_2{o:Ol}{pts dx dy:List Int}(h:risB pts (cntO o)=false):spB o pts dx dy=false:=by unfold spB;rw[h];simp
theorem spB_3{o:Ol}{pts dx dy:List Int}(h:¬dx.length=pts.length):spB o pts dx dy=false:=by unfold spB;rw[decide_eq_false h];simp
theorem spB_4{o:Ol}{pts dx dy:List Int}(h:¬dy.length=pts.length):spB o pts dx dy=false:=by unfold spB;rw[decide_eq_false h];simp
theorem spB_5{o:Ol}{pts dx dy:List Int}(h:dx.all fdB=false):spB o pts dx dy=false:=by unfold spB;rw[h];simp
theorem spB_6{o:Ol}{pts dx dy:List Int}(h:dy.all fdB=false):spB o pts dx dy=false:=by unfold spB;rw[h];simp
theorem zk5(S:Nat->Prop)(a:OA)(ca:Nat)(b:OA)(cb:Nat)(o:Ol)(pa:OA)(pc:Nat)(pts:List Int)(xa:OA)(xc:Nat)(dx:List Int)(ya:OA)(yc:Nat)(dy:List Int)(w:World)(hc:Gr PnE.row S w a ca o.cs)(hp:Gr PaE S w b cb o.ps)(hP:Ri w pa pc pts)(hX:Ri w xa xc dx)(hY:Ri w ya yc dy)(hl:o.cs.flatten.length<=100000)(hl1:o.cs.length<=100000)(hl2:o.ps.length<=100000) :
 Calls Tryz.prog 179 #[.agg #[.slice a o.cs.length ca,.slice b o.ps.length cb],.slice pa pts.length pc,.slice xa dx.length xc,.slice ya dy.length yc] w fun e w'=>∃a1 c1 a2 c2,e=.returned (.tuple #[.slice a1 (spL Pn.x o pts dx dx dy).length c1,.slice a2 (spL Pn.y o pts dy dx dy).length c2,.int .i64 (spE o pts dx dy)])/\Rg w.heap.size w' a1 c1 7 (spL Pn.x o pts dx dx dy)/\Rg w.heap.size w' a2 c2 7 (spL Pn.y o pts dy dx dy)/\Below w.heap.size w w':=by
 have b1:=hP.lenB
 have b2:=hX.lenB
 have b3:=hY.lenB
 obtain⟨W,hW,X1,hbW⟩:∃W,W=w.alloc (.cells #[.slice a o.cs.length ca,.slice b o.ps.length cb] 57)/\Bk 57 W w.heap.size [.slice a o.cs.length ca,.slice b o.ps.length cb]/\Below w.heap.size w W:=⟨_,rfl,Bk.new _ _ _,bl1 _⟩
 have hcn:cntO o<=200000:=by unfold cntO;omega
 replace hc:=hc.below hbW;replace hp:=hp.below hbW;replace hP:=hP.below hbW;replace hX:=hX.below hbW;replace hY:=hY.below hbW;obtain⟨p0,p1,_⟩:=X1.two
 have HNO:Hid (spB o pts dx dy=false->∀W',Below w.heap.size w W'->∃a1 c1 a2 c2,(Ending.returned (.tuple #[.slice none 0 0,.slice none 0 0,.int .i64 1]))=.returned (.tuple #[.slice a1 (spL Pn.x o pts dx dx dy).length c1,.slice a2 (spL Pn.y o pts dy dx dy).length c2,.int .i64 (spE o pts dx dy)])/\Rg w.heap.size W' a1 c1 7 (spL Pn.x o pts dx dx dy)/\Rg w.heap.size W' a2 c2 7 (spL Pn.y o pts dy dx dy)/\Below w.heap.size w W'):=fun h W' hb=>by
  rw[zyu h,zyu h,z34 h]
  exact⟨none,0,none,0,rfl,Rg.nil _ _ _,Rg.nil _ _ _,hb⟩
 go_enter Tryz.func179,Tryz.ntmps179
 go_upto_region 1 with fail
 rw[<-hW];clear hW
 go_wp2_with fail
 refine(zfb S a ca b cb o _ hc hp hl hl2).mono ?_
 rintro e m1 ⟨rfl,hb1⟩;replace hc:=hc.below hb1;replace hp:=hp.below hb1;replace hP:=hP.below hb1;replace hX:=hX.below hb1;replace hY:=hY.below hb1;replace X1:=X1.below hb1
 replace hbW:=hbW.trans (hb1.mono hbW.size)
 clear hb1 p0 p1;obtain⟨p0,p1,_⟩:=X1.two
 have hf1:=zfa S a ca b cb o m1 hc hp
 cases hfo:foB o with
 | false =>
  have hno:=HNO.out (spB_1 hfo)
  rw[hfo]at hf1;clear hfo
  go_wp2_with fail
  refine hf1.mono ?_
  rintro e m2 ⟨rfl,hb1⟩
  have zau:=hno m2 (hbW.trans (hb1.mono hbW.size))
  clear hb1 hf1 hno;go_wp2
  exact bodyPost_ret (v:=.tuple #[.slice none 0 0,.slice none 0 0,.int .i64 1]) (by simp[results,Tryz.results179,go_sem]) rfl zau
 | true =>
 have hFO:=za1.1 hfo
 rw[hfo]at hf1
 go_wp2_with fail
 refine hf1.mono ?_
 rintro e m2 ⟨rfl,hb1⟩;replace hc:=hc.below hb1;replace hp:=hp.below hb1;replace hP:=hP.below hb1;replace hX:=hX.below hb1;replace hY:=hY.below hb1;replace X1:=X1.below hb1
 replace hbW:=hbW.trans (hb1.mono hbW.size)
 clear hb1 p0 p1;obtain⟨p0,p1,_⟩:=X1.two;clear hf1
 have hr1:=zpj pa pc pts (cntO o) m2 hP (by omega)
 cases hri:risB pts (cntO o) with
 | false =>
  have zau:=HNO.out (spB_2 hri) m2 hbW
  rw[hri]at hr1;clear hri
  go_wp2_with fail
  refine hr1.mono ?_
  rintro e m3 ⟨rfl,rfl⟩;clear hr1;go_wp2
  exact bodyPost_ret (v:=.tuple #[.slice none 0 0,.slice none 0 0,.int .i64 1]) (by simp[results,Tryz.results179,go_sem]) rfl zau
 | true =>
 rw[hri]at hr1
 go_wp2_with fail
 refine hr1.mono ?_
 rintro e m3 ⟨rfl,rfl⟩;clear hr1
 by_cases hx:dx.length=pts.length
 rotate_left
 . have zau:=HNO.out (spB_3 hx) m2 hbW
   have g2:((dx.length:Int) != (pts.length:Int))=true:=by simp;omega
   go_wp2
   exact bodyPost_ret (v:=.tuple #[.slice none 0 0,.slice none 0 0,.int .i64 1]) (by simp[results,Tryz.results179,go_sem]) rfl zau
 by_cases hy:dy.length=pts.length
 rotate_left
 . have zau:=HNO.out (spB_4 hy) m2 hbW
   have g2:((dy.length:Int) != (pts.length:Int))=true:=by simp;omega
   rw[hx];go_wp2
   exact bodyPost_ret (v:=.tuple #[.slice none 0 0,.slice none 0 0,.int .i64 1]) (by simp[results,Tryz.results179,go_sem]) rfl zau
 have hq1:=zbr xa xc dx m2 hX
 have hq2:=zbr ya yc dy m2 hY
 cases hfx:dx.all fdB with
 | false =>
  have zau:=HNO.out (spB_5 hfx) m2 hbW
  rw[hfx]at hq1;rw[hx]at hq1 ⊢;rw[hy];clear hfx
  go_wp2_with fail
  refine hq1.mono ?_
  rintro e m3 ⟨rfl,rfl⟩;go_wp2
  exact bodyPost_ret (v:=.tuple #[.slice none 0 0,.slice none 0 0,.int .i64 1]) (by simp[results,Tryz.results179,go_sem]) rfl zau
 | true =>
 cases hfy:dy.all fdB with
 | false =>
  have zau:=HNO.out (spB_6 hfy) m2 hbW
  rw[hfx]at hq1;rw[hfy]at hq2;rw[hx]at hq1 ⊢;rw[hy]at hq2 ⊢;clear hfx hfy
  go_wp2_with fail
  refine hq1.mono ?_
  rintro e m3 ⟨rfl,rfl⟩
  go_wp2_with fail
  refine hq2.mono ?_
  rintro e m3 ⟨rfl,rfl⟩;go_wp2
  exact bodyPost_ret (v:=.tuple #[.slice none 0 0,.slice none 0 0,.int .i64 1]) (by simp[results,Tryz.results179,go_sem]) rfl zau
 | true =>
 have hsp:spB o pts dx dy=true:=by unfold spB;rw[hfo,hri,decide_eq_true hx,decide_eq_true hy,hfx,hfy];rfl
 rw[hfx]at hq1;rw[hfy]at hq2
 have HE1:Hid (spL Pn.x o pts dx dx dy=spQ Pn.x o pts dx):=zid hsp
 have HE2:Hid (spL Pn.y o pts dy dx dy=spQ Pn.y o pts dy):=zid hsp
 have HE3:Hid (spE o pts dx dy=0):=zrg hsp
 have hcs:cntO o<=86:=by have h1:=hFO.2.2.1;have h2:=hFO.2.2.2.2.1;unfold cntO;omega
 have hla:=fun U (h1:Ri U pa pc pts) (h2:Ri U xa xc dx)=>zgv pa pc pts xa xc dx (cntO o) U h1 h2 hx hri (by omega)
 have hlb:=fun U (h1:Ri U pa pc pts) (h2:Ri U ya yc dy)=>zgv pa pc pts ya yc dy (cntO o) U h1 h2 hy hri (by omega)
 have HRI:Hid (∀k,k<pts.length->risP pts (cntO o) k):=zcu.1 hri
 simp only[za8]at hla hlb
 rw[hx]at hq1 hla ⊢;rw[hy]at hq2 hlb ⊢;clear hfx hfy hfo hri hsp HNO
 go_wp2_with fail
 refine hq1.mono ?_
 rintro e m3 ⟨rfl,rfl⟩
 go_wp2_with fail
 refine hq2.mono ?_
 rintro e m3 ⟨rfl,rfl⟩;clear hq1 hq2
 go_wp2_with fail
 refine(hla _ hP hX).mono ?_
 rintro e m3 ⟨qa,qc,rfl,hR1,hb1⟩;replace hc:=hc.below hb1;replace hp:=hp.below hb1;replace hP:=hP.below hb1;replace hX:=hX.below hb1;replace hY:=hY.below hb1;replace X1:=X1.below hb1
 replace hbW:=hbW.trans (hb1.mono hbW.size)
 clear hb1 p0 p1;obtain⟨p0,p1,_⟩:=X1.two;clear hla
 go_wp2_with fail
 refine(hlb _ hP hY).mono ?_
 rintro e m4 ⟨ra,rc,rfl,hR2,hb1⟩;replace hc:=hc.below hb1;replace hp:=hp.below hb1;replace hP:=hP.below hb1;replace hX:=hX.below hb1;replace hY:=hY.below hb1;replace X1:=X1.below hb1;replace hR1:=hR1.below hb1
 replace hbW:=hbW.trans (hb1.mono hbW.size)
 clear hb1 p0 p1;obtain⟨p0,p1,_⟩:=X1.two;clear hlb
 by_cases hps:0<o.ps.length
 . have gp:(o.ps.length:Int) > 0:=by omega
   have HQ1:Hid (spQ Pn.x o pts dx=(layI pts dx (cntO o) pts.length).map (fun z:Int=>(z:Rat))):=zgm hps
   have HQ2:Hid (spQ Pn.y o pts dy=(layI pts dy (cntO o) pts.length).map (fun z:Int=>(z:Rat))):=zgm hps
   have hw1:=fun U (h:Ri U qa qc (layI pts dx (cntO o) pts.length))=>zhn qa qc _ U h (by rw[za8];omega)
   have hw2:=fun U (h:Ri U ra rc (layI pts dy (cntO o) pts.length))=>zhn ra rc _ U h (by rw[za8];omega)
   rw[<-HQ1.out,<-HE1.out,za8]at hw1;rw[<-HQ2.out,<-HE2.out,za8]at hw2
   go_wp2_with fail
   refine(hw1 _ hR1).mono ?_
   rintro e m5 ⟨s1,t1,rfl,hZ1,hb1⟩
   replace hZ1:=hZ1.lower hbW.size
   replace hR2:=hR2.below hb1
   replace hbW:=hbW.trans (hb1.mono hbW.size)
   clear hb1 hw1
   go_wp2_with fail
   refine(hw2 _ hR2).mono ?_
   rintro e m6 ⟨s2,t2,rfl,hZ2,hb1⟩
   replace hZ2:=hZ2.lower hbW.size
   replace hZ1:=hZ1.below hb1
   replace hbW:=hbW.trans (hb1.mono hbW.size)
   clear hb1 hw2;go_wp2
   exact bodyPost_ret (v:=.tuple #[.slice s1 (spL Pn.x o pts dx dx dy).length t1,.slice s2 (spL Pn.y o pts dy dx dy).length t2,.int .i64 0]) (by simp[results,Tryz.results179,go_sem]) rfl ⟨s1,t1,s2,t2,by rw[HE3.out],hZ1,hZ2,hbW⟩
 . have gp:¬(o.ps.length:Int) > 0:=by omega
   have hco:cntO o=o.cs.flatten.length:=by unfold cntO;omega
   have HQ1:Hid (spQ Pn.x o pts dx=conQ Pn.x o.cs (layI pts dx (cntO o) pts.length) (tchI pts (cntO o) pts.length) o.cs.length):=zic hps
   have HQ2:Hid (spQ Pn.y o pts dy=conQ Pn.y o.cs (layI pts dy (cntO o) pts.length) (tchI pts (cntO o) pts.length) o.cs.length):=zic hps
   obtain⟨n,hnn⟩:∃n,cntO o=n:=⟨_,rfl⟩
   rw[hnn]at HQ1 HQ2 HRI hR1 hR2 hco hcs hcn ⊢
   have HX1:Hid (Bk 57 m4 w.heap.size [.slice a o.cs.length ca,.slice b o.ps.length cb]):=X1
   have HP:Hid (Ri m4 pa pc pts):=hP
   have HC:Hid (Gr PnE.row S m4 a ca o.cs):=hc
   have HR1:Hid (Ri m4 qa qc (layI pts dx n pts.length)):=hR1
   have HR2:Hid (Ri m4 ra rc (layI pts dy n pts.length)):=hR2
   have HBW:Hid (Below w.heap.size w m4):=hbW
   have HFO:Hid ((∀c∈o.cs,0<c.length)/\o.cs.flatten.length<=80):=⟨hFO.2.2.2.1,hFO.2.2.2.2.1⟩
   have HCO:Hid (n=o.cs.flatten.length):=hco
   clear hnn hco hP hc hR1 hR2 hbW hX hY hp hFO hx hy
   obtain⟨i0,hi0,hz0,hz1,hz2⟩:=info_parts zhs
   have hmk:=run_make (P:=Tryz.prog) m4 238 4 i0 (.bool false) Tryz.underlying238 hi0 hz0 .i64 .i64 (n:Int) (n:Int) (by omega) (by omega) (by rw[hz2];omega) (by omega)
   rw[hz1]at hmk
   simp only[Int.toNat_natCast,Nat.mul_one]at hmk
   have hI0:Gw El.bool 4 m4.heap.size (fun _=>False) (m4.alloc (.cells (madeCells #[.bool false] n) 4)) (.slice (some ⟨m4.heap.size,0,none⟩) n n) (tchI pts n 0):=Gw.mk1 m4 n false (.bool false) rfl rfl (fun S w=>rfl) (by omega)
   have hB0:Below m4.heap.size m4 (m4.alloc (.cells (madeCells #[.bool false] n) 4)):=bl1 _
   replace hmk:(Instr.makeSlice 238 (.int .i64 (n:Int)) (.int .i64 (n:Int))).run Tryz.prog m4=.ok (.slice (some ⟨m4.heap.size,0,none⟩) n n) (m4.alloc (.cells (madeCells #[.bool false] n) 4)):=hmk
   generalize m4.alloc (.cells (madeCells #[.bool false] n) 4)=w1 at *
   clear hi0 hz0 hz1 hz2 X1;go_wp2;clear p0 p1
   go_loopw [73] (fun i wr=>∃k:Nat,k<=pts.length/\i=.int .i64 k/\Gw El.bool 4 m4.heap.size (fun _=>False) wr (.slice (some ⟨m4.heap.size,0,none⟩) n n) (tchI pts n k)/\Below m4.heap.size m4 wr) (fun i _=>pts.length-(intOf i).toNat)
   case atStart=>exact⟨0,Nat.zero_le _,rfl,hI0,hB0⟩
   case round =>
    clear hI0 hB0 hmk;obtain⟨k,hk,rfl,hG,hB⟩:=hrel
    by_cases hkn:k<pts.length
    . obtain⟨b0,off,ea,hb,d0⟩:=HP.out.at hB k hkn
      subst ea
      have hpn:=zct k (fun j hj=>HRI.out j (by omega))
      have HS:Hid (tchI pts n (k+1)=(tchI pts n k).set (pts.getD k 0).toNat true):=rfl
      obtain⟨p,hpp⟩:∃p:Nat,pts.getD k 0=(p:Int):=⟨(pts.getD k 0).toNat,by omega⟩
      rw[hpp]at d0 hpn HS;rw[Int.toNat_natCast]at HS
      have hne:tchI pts n k≠[]:=fun e=>by have:=zcs pts n k;rw[e]at this;simp at this;omega
      obtain⟨g,cap,e5,h5,h6,h7,hfz,hrd,zks⟩:=hG.own hne
      injection e5 with e5 e6 e7;injection e5 with e5;injection e5 with e5;subst e5
      have hfp:=hfz p
      have hsw:=zks p 0 (.bool true) true (by rw[zcs];omega) Nat.one_pos (fun S' vs hv=>by rw[show vs=_ from hv];rfl)
      rw[show p*El.bool.sz+0=p from Nat.mul_one p,<-HS.out]at hsw
      obtain⟨vs,hrx,hcx⟩:=hrd p (by rw[zcs];omega)
      have hc0:=hcx 0 Nat.one_pos
      rw[show vs=_ from hrx,show p*El.bool.sz+0=p from Nat.mul_one p]at hc0
      have hBs:Below m4.heap.size m4 (wr.setCell ⟨m4.heap.size,p,none⟩ (.bool true)):=hB.setCell (p:=⟨m4.heap.size,p,none⟩) (Nat.le_refl _) _
      have i1:(0:Int)<=(k:Int):=by omega
      have i2:(k:Int)<(pts.length:Int):=by omega
      have i3:(0:Int)<=(p:Int):=by omega
      have i4:(p:Int)<(n:Int):=by omega
      have HSW:Hid (Gw El.bool 4 m4.heap.size (fun _=>False) (wr.setCell ⟨m4.heap.size,p,none⟩ (.bool true)) (.slice (some ⟨m4.heap.size,0,none⟩) n n) (tchI pts n (k+1))):=hsw
      have HBS:Hid (Below m4.heap.size m4 (wr.setCell ⟨m4.heap.size,p,none⟩ (.bool true))):=hBs
      clear zks hfz hrd hsw hBs hpp hcx hrx hG hne e6 e7 h7;go_wp2
      go_roundw
      case rel=>exact⟨k+1,by omega,by go_num,HSW.out,HBS.out⟩
      case measure=>simp[intOf];omega
    . obtain rfl:k=pts.length:=by omega
      have g1:¬(pts.length:Int)<(pts.length:Int):=by omega
      obtain⟨a9,c9,e9,hg9,-⟩:=hG.slice
      have HLL:Hid ((tchI pts n pts.length).length=n):=zcs _ _ _
      rw[HLL.out]at e9;injection e9 with e1 e2 e3;subst e1 e3
      have hTT:Rl wr (some ⟨m4.heap.size,0,none⟩) n (tchI pts n pts.length):=Rl.of hg9
      have hX1:=HX1.out.below hB
      obtain⟨p0,p1,_⟩:=hX1.two
      have hno:=zi0 S a ca (.slice b o.ps.length cb) o.cs wr (HC.out.below hB) (by omega) rfl
      rw[<-HCO.out]at hno;clear hg9 hG
      go_wp2_with fail
      refine hno.mono ?_
      rintro e m5 ⟨na,nc,ya',yc',rfl,hN1,hN2,hb1⟩;replace hTT:=hTT.below hb1;replace hX1:=hX1.below hb1
      replace hB:=hB.trans (hb1.mono hB.size)
      clear hb1 hno p0 p1;obtain⟨p0,p1,_⟩:=hX1.two
      have hen:=zk9 S a ca (.slice b o.ps.length cb) o.cs m5 (HC.out.below hB) (by omega) hl1 rfl
      rw[zbo]at hen
      go_wp2_with fail
      refine hen.mono ?_
      rintro e m6 ⟨ea,ec,rfl,hE,-,hb1⟩;replace hTT:=hTT.below hb1;replace hN1:=hN1.below hb1;replace hN2:=hN2.below hb1
      replace hB:=hB.trans (hb1.mono hB.size)
      clear hb1 hen p0 p1 hX1
      have hby1:=zd0 Pn.x o.cs ea ec na nc (some ⟨m4.heap.size,0,none⟩) n (tchI pts n pts.length) qa qc (layI pts dx n pts.length) m6 hE hN1 hTT (HR1.out.below hB) HFO.out.1 HFO.out.2 (by rw[zcs];exact HCO.out) (by rw[za8];exact HCO.out)
      have hby2:=fun U (hb:Below m6.heap.size m6 U)=>zd0 Pn.y o.cs ea ec ya' yc' (some ⟨m4.heap.size,0,none⟩) n (tchI pts n pts.length) ra rc (layI pts dy n pts.length) U (hE.below hb) (hN2.below hb) (hTT.below hb) ((HR2.out.below hB).below hb) HFO.out.1 HFO.out.2 (by rw[zcs];exact HCO.out) (by rw[za8];exact HCO.out)
      rw[<-HQ1.out,<-HE1.out,<-HCO.out]at hby1;rw[<-HQ2.out,<-HE2.out,<-HCO.out]at hby2
      have hBF:=HBW.out.trans (hB.mono HBW.out.size)
      clear hE hN1 hN2 hTT
      go_wp2_with fail
      refine hby1.mono ?_
      rintro e m7 ⟨s1,t1,rfl,hZ1,hb1⟩
      replace hZ1:=hZ1.lower hBF.size
      clear hby1
      go_wp2_with fail
      refine(hby2 _ hb1).mono ?_
      rintro e m8 ⟨s2,t2,rfl,hZ2,hb2⟩
      replace hZ2:=hZ2.lower (Nat.le_trans hBF.size hb1.size)
      replace hZ1:=hZ1.below hb2
      have hBG:=(hBF.trans (hb1.mono hBF.size)).trans (hb2.mono (Nat.le_trans hBF.size hb1.size))
      clear hby2 hb1 hb2;go_wp2
      exact bodyPost_ret (v:=.tuple #[.slice s1 (spL Pn.x o pts dx dx dy).length t1,.slice s2 (spL Pn.y o pts dy dx dy).length t2,.int .i64 0]) (by simp[results,Tryz.results179,go_sem]) rfl ⟨s1,t1,s2,t2,by rw[HE3.out],hZ1,hZ2,hBG⟩
theorem zsi{t:Te}{c:Int}(h1:tfB t=true)(h2:crd c=true)(h:t.pk=0\/c=t.pk):((1:Int):Rat)=paQ t c:=by
 rw[zix h1 h2,if_pos h]
 rfl
theorem zsj{t:Te}{c:Int}(h1:tfB t=true)(h2:crd c=true)(h:¬(t.pk=0\/c=t.pk))(h3:c<=t.st\/t.en<=c):((0:Int):Rat)=paQ t c:=by
 rw[zix h1 h2,if_neg h,if_pos h3]
 rfl
theorem z4j{t:Te}{c:Int}(h1:tfB t=true)(h2:crd c=true)(h:¬(t.pk=0\/c=t.pk))(h3:¬(c<=t.st\/t.en<=c))(h4:c<t.pk):((c-t.st:Int):Rat)/((t.pk-t.st:Int):Rat)=paQ t c:=by
 rw[zix h1 h2,if_neg h,if_neg h3,if_pos h4]
theorem zwi{t:Te}{c:Int}(h1:tfB t=true)(h2:crd c=true)(h:¬(t.pk=0\/c=t.pk))(h3:¬(c<=t.st\/t.en<=c))(h4:¬c<t.pk):((t.en-c:Int):Rat)/((t.en-t.pk:Int):Rat)=paQ t c:=by
 rw[zix h1 h2,if_neg h,if_neg h3,if_neg h4]
