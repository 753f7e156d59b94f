import Derived.Test.YtgbhidcokobmmaaGreatDoorZL26
set_option maxHeartbeats 8000000
set_option maxRecDepth 100000
set_option linter.unusedSimpArgs false
set_option linter.unusedVariables false
namespace Go.Proofs.YtgbhidcokobmmaaGreatDoor
open Go.RowKit Go.Maps
theorem zeo(S:Nat->Prop)(a:Option Addr)(ca:Nat)(l:List Lk)(ga:Option Addr)(gc:Nat)(ma:Option Addr)(mc:Nat)(s:Sr)(g:Int)(w:World)(hl:Gr LkE S w a ca l)(k2:s.rw.length<=9223372036854775807)(hg:I64 g) :
 Calls Tryz.prog 42 #[.slice a l.length ca,.agg #[.slice ga s.rg.length gc,.slice ma s.rw.length mc],.int .i64 g] w fun e w'=>e=.returned (.bool (foM20 (fiS s) l g))/\Below w.heap.size w w':=by
 have kl:=hl.lenB
 obtain⟨W,hW,X2,hbW⟩:∃W,W=w.alloc (.cells #[.slice ga s.rg.length gc,.slice ma s.rw.length mc] 27)/\Bk 27 W w.heap.size [.slice ga s.rg.length gc,.slice ma s.rw.length mc]/\Below w.heap.size w W:=⟨_,rfl,Bk.new _ _ _,bl1 _⟩
 by_cases hn1:10<l.length
 . have HF:Hid (foM20 (fiS s) l g=false):=zgk hn1
   have g2:(10:Int)<(l.length:Int):=by omega
   clear hn1 hl X2
   go_enter Tryz.func42,Tryz.ntmps42
   go_upto_region 1 with fail
   rw[<-hW];clear hW;go_wp2
   go_ret
   exact⟨zaa HF.out.symm,hbW⟩
 have g2:¬(10:Int)<(l.length:Int):=by omega
 have HL:Hid (Gr LkE S W a ca l):=hl.below hbW
 have HX2:Hid (Bk 27 W w.heap.size [.slice ga s.rg.length gc,.slice ma s.rw.length mc]):=X2
 have HBW:Hid (Below w.heap.size w W):=hbW
 obtain⟨R,hR⟩:∃R,foM20 (fiS s) l g=R:=⟨_,rfl⟩
 have HBD:Hid (∀k,k<l.length->plF (fiS s) g (l.getD k Lk.none)=false->R=false):=fun k hk h=>by rw[<-hR];exact zi4 hk h
 have HYS:Hid ((∀k,k<l.length->plF (fiS s) g (l.getD k Lk.none)=true)->R=true):=fun h=>by rw[<-hR];exact zd0.2 ⟨by omega,h⟩
 rw[hR];clear hR hn1 hl
 go_enter Tryz.func42,Tryz.ntmps42
 go_upto_region 1 with fail
 rw[<-hW];clear hW X2 hbW;go_wp2;clear g2
 go_loopw [7] (fun i wr=>∃k:Nat,k<=l.length/\i=.int .i64 k/\Hid (∀j,j<k->plF (fiS s) g (l.getD j Lk.none)=true)/\Below W.heap.size W wr) (fun i _=>l.length-(intOf i).toNat)
 case atStart=>exact⟨0,Nat.zero_le _,rfl,(fun j hj=>by omega),Below.refl _ _⟩
 case round =>
  obtain⟨k,hk,rfl,HOK,hB⟩:=hrel
  by_cases hkn:k<l.length
  . obtain⟨b,off,ra,rc,ea,hkd,hall⟩:=HL.out.lkAll k hkn
    have zav:Hid (plF (fiS s) g (l.getD k Lk.none)=false->R=false):=HBD.out k hkn
    have za9:Hid (plF (fiS s) g (l.getD k Lk.none)=true->∀j,j<k+1->plF (fiS s) g (l.getD j Lk.none)=true):=fun h j hj=>by
     rcases Nat.lt_or_ge j k with h1|h1
     . exact HOK.out j h1
     . rw[show j=k by omega];exact h
    obtain⟨x,hx⟩:∃x,l.getD k Lk.none=x:=⟨_,rfl⟩
    rw[hx]at hkd hall zav za9;clear hx HOK;obtain⟨kd,sk,rs⟩:=x;dsimp only at hkd hall
    have zcp:Hid (∀u,Below W.heap.size W u->Gr RuE S u ra rc rs/\u.cell? ⟨b,off+k*3,none⟩=some (.int .i64 kd)/\u.cell? ⟨b,off+k*3+1,none⟩=some (.bool sk)/\u.cell? ⟨b,off+k*3+2,none⟩=some (.slice ra rs.length rc)):=hall
    obtain⟨hrs,d0,d1,d2⟩:=hall wr hB
    have kr:=hrs.lenB
    have i1:(0:Int)<=(k:Int):=by omega
    have i2:(k:Int)<(l.length:Int):=by omega
    subst ea
    have zdw:=zen kd wr hkd
    clear hrs hall
    cases hp:mvB kd with
    | false =>
     rw[hp]at zdw
     have ze7:Hid (∀j,j<k+1->plF (fiS s) g (l.getD j Lk.none)=true):=za9.out (zio (x:=⟨kd,sk,rs⟩) hp)
     clear hp zav za9
     go_wp2_with fail
     refine zdw.mono ?_
     rintro e u ⟨rfl,rfl⟩;clear zdw d0 d1 d2;go_wp2
     go_roundw
     case rel=>exact⟨k+1,by omega,by go_num,ze7,hB⟩
     case measure=>simp[intOf];omega
    | true =>
     rw[hp]at zdw
     have hlo:plF (fiS s) g ⟨kd,sk,rs⟩=lfB (fiS s) g kd sk rs:=zt6 (x:=⟨kd,sk,rs⟩) hp
     rw[hlo]at zav za9;clear hp hlo
     by_cases hn4:40<rs.length
     . have g3:decide ((40:Int)<(rs.length:Int))=true:=decide_eq_true (by omega)
       have HF:Hid (R=false):=zav.out (zly hn4)
       have hBw:Below w.heap.size w wr:=HBW.out.trans (hB.mono HBW.out.size)
       clear zav za9 hn4
       go_wp2_with fail
       refine zdw.mono ?_
       rintro e u ⟨rfl,rfl⟩;clear zdw;go_wp2
       go_ret
       exact⟨zaa HF.out.symm,hBw⟩
     have g3:decide ((40:Int)<(rs.length:Int))=false:=decide_eq_false (by omega)
     have zxi:Hid (∀j,j<rs.length->prB (fiS s) kd sk (rs.getD j Ru.none) g=false->R=false):=fun j hj h=>zav.out (zp6 hj h)
     have ze7:Hid ((∀j,j<rs.length->prB (fiS s) kd sk (rs.getD j Ru.none) g=true)->∀j,j<k+1->plF (fiS s) g (l.getD j Lk.none)=true):=fun h=>za9.out (zp5 (show rs.length<=40 by omega) h)
     clear zav za9 hn4
     go_wp2_with fail
     refine zdw.mono ?_
     rintro e u ⟨rfl,rfl⟩;clear zdw;go_wp2;clear d0 d1 d2 g3
     go_loopw [8] (fun i wr=>∃j:Nat,j<=rs.length/\i=.int .i64 j/\Hid (∀i,i<j->prB (fiS s) kd sk (rs.getD i Ru.none) g=true)/\Below W.heap.size W wr) (fun i _=>rs.length-(intOf i).toNat)
     case atStart=>exact⟨0,Nat.zero_le _,rfl,(fun j hj=>by omega),hB⟩
     case round =>
      clear hB;obtain⟨j,hj,rfl,HOJ,hB⟩:=hrel
      obtain⟨hrs,d0,d1,d2⟩:=zcp.out wr hB
      by_cases hjn:j<rs.length
      . have i3:(0:Int)<=(j:Int):=by omega
        have i4:(j:Int)<(rs.length:Int):=by omega
        obtain⟨rb,ro,a1,c1,a2,c2,er,hrb,hI,hin,hou,k0,k1,k2',k3,k4,k5,k6,k7,k8,k9⟩:=hrs.ru10 (Below.refl _ _) j hjn
        obtain⟨r,hrr⟩:∃r,rs.getD j Ru.none=r:=⟨_,rfl⟩
        have HRR:Hid (rs.getD j Ru.none=r):=hrr
        rw[hrr]at hI hin hou k0 k1 k2' k3 k4 k5 k6 k7 k8 k9;clear hrr;obtain⟨inn,out,ap,lk,⟨x1,x2⟩,⟨y1,y2⟩,⟨w1,w2⟩⟩:=r;dsimp only at k0 k1 k2' k3 k4 k5 k6 k7 k8 k9 hin hou;obtain⟨j1,j2,j34,j56,j78⟩:=hI;dsimp only at j1 j2 j34 j56 j78;subst er
        have zh2:Hid (prB (fiS s) kd sk ⟨inn,out,ap,lk,(x1,x2),(y1,y2),(w1,w2)⟩ g=false->R=false):=fun h=>zxi.out j hjn (by rw[HRR.out];exact h)
        have ztu:Hid (prB (fiS s) kd sk ⟨inn,out,ap,lk,(x1,x2),(y1,y2),(w1,w2)⟩ g=true->∀i,i<j+1->prB (fiS s) kd sk (rs.getD i Ru.none) g=true):=fun h i hi=>by
         rcases Nat.lt_or_ge i j with h1|h1
         . exact HOJ.out i h1
         . rw[show i=j by omega,HRR.out];exact h
        have hrc:=fun Z (hZ:Below wr.heap.size wr Z)=>zjg kd sk (some ⟨rb,ro,none⟩) rs.length rc a1 c1 a2 c2 inn out ap lk x1 x2 y1 y2 w1 w2 ga gc ma mc s g Z (hin.below hZ).ri hou.lenB k2 hg j34 j56 j78
        generalize prB (fiS s) kd sk ⟨inn,out,ap,lk,(x1,x2),(y1,y2),(w1,w2)⟩ g=A at hrc zh2 ztu
        have X2:=HX2.out.below hB
        obtain⟨z0,z1,-⟩:=X2.two
        have hlt:=X2.lt
        clear HOJ HRR hin hou hrs X2
        go_wp2_with fail
        refine wp_region_held_drew (S:=fun u=>(u.cell? ⟨b,off+k*3,none⟩=some (.int .i64 kd)/\u.cell? ⟨b,off+k*3+1,none⟩=some (.bool sk)/\u.cell? ⟨b,off+k*3+2,none⟩=some (.slice (some ⟨rb,ro,none⟩) rs.length rc)) /\
         (u.cell? ⟨rb,ro+j*10,none⟩=some (.slice a1 inn.length c1)/\u.cell? ⟨rb,ro+j*10+1,none⟩=some (.slice a2 out.length c2)/\u.cell? ⟨rb,ro+j*10+2,none⟩=some (.int .i64 ap)/\u.cell? ⟨rb,ro+j*10+3,none⟩=some (.int .i64 lk)/\u.cell? ⟨rb,ro+j*10+4,none⟩=some (.int .i64 x1)/\u.cell? ⟨rb,ro+j*10+5,none⟩=some (.int .i64 x2)/\u.cell? ⟨rb,ro+j*10+6,none⟩=some (.int .i64 y1)/\u.cell? ⟨rb,ro+j*10+7,none⟩=some (.int .i64 y2)/\u.cell? ⟨rb,ro+j*10+8,none⟩=some (.int .i64 w1)/\u.cell? ⟨rb,ro+j*10+9,none⟩=some (.int .i64 w2)) /\
         u.cell? ⟨w.heap.size,0,none⟩=some (.slice ga s.rg.length gc)/\u.cell? ⟨w.heap.size,1,none⟩=some (.slice ma s.rw.length mc))
         (by kernel_rfl) ⟨⟨d0,d1,d2⟩,⟨k0,k1,k2',k3,k4,k5,k6,k7,k8,k9⟩,z0,z1⟩ (fun hH=>?_)
        have hdr:Below wr.heap.size wr wr.drew:=(Below.refl _ _).drew
        generalize wr.drew=Z at hdr hH ⊢
        refine hT 0 hH ?_;refine hT 1 hH ?_;refine hT 2 hH ?_;refine hT 3 hH ?_;refine hT 4 hH ?_;refine hT 5 hH ?_;refine hT 6 hH ?_;refine hT 7 hH ?_;refine hT 8 hH ?_;refine hT 9 hH ?_;refine hT 10 hH ?_;refine hT 11 hH ?_;refine hT 12 hH ?_;refine hT 13 hH ?_
        refine hCall (i:=14) rfl (by kernel_rfl) (by rfl) (fun K hK=>?_)
        go_simp
        refine(hrc Z hdr).mono ?_
        rintro e u ⟨rfl,hbu⟩
        have hUu:=hdr.trans (hbu.mono hdr.size)
        have zaf:=hB.trans (hUu.mono hB.size)
        have hSu:Hid ((u.cell? ⟨b,off+k*3,none⟩=some (.int .i64 kd)/\u.cell? ⟨b,off+k*3+1,none⟩=some (.bool sk)/\u.cell? ⟨b,off+k*3+2,none⟩=some (.slice (some ⟨rb,ro,none⟩) rs.length rc)) /\
         (u.cell? ⟨rb,ro+j*10,none⟩=some (.slice a1 inn.length c1)/\u.cell? ⟨rb,ro+j*10+1,none⟩=some (.slice a2 out.length c2)/\u.cell? ⟨rb,ro+j*10+2,none⟩=some (.int .i64 ap)/\u.cell? ⟨rb,ro+j*10+3,none⟩=some (.int .i64 lk)/\u.cell? ⟨rb,ro+j*10+4,none⟩=some (.int .i64 x1)/\u.cell? ⟨rb,ro+j*10+5,none⟩=some (.int .i64 x2)/\u.cell? ⟨rb,ro+j*10+6,none⟩=some (.int .i64 y1)/\u.cell? ⟨rb,ro+j*10+7,none⟩=some (.int .i64 y2)/\u.cell? ⟨rb,ro+j*10+8,none⟩=some (.int .i64 w1)/\u.cell? ⟨rb,ro+j*10+9,none⟩=some (.int .i64 w2)) /\
         u.cell? ⟨w.heap.size,0,none⟩=some (.slice ga s.rg.length gc)/\u.cell? ⟨w.heap.size,1,none⟩=some (.slice ma s.rw.length mc)) :=
         ⟨⟨(zcp.out u zaf).2.1,(zcp.out u zaf).2.2.1,(zcp.out u zaf).2.2.2⟩,⟨(hUu.cell (p:=⟨rb,ro+j*10,none⟩) hrb).trans k0,(hUu.cell (p:=⟨rb,ro+j*10+1,none⟩) hrb).trans k1,(hUu.cell (p:=⟨rb,ro+j*10+2,none⟩) hrb).trans k2',(hUu.cell (p:=⟨rb,ro+j*10+3,none⟩) hrb).trans k3,(hUu.cell (p:=⟨rb,ro+j*10+4,none⟩) hrb).trans k4,(hUu.cell (p:=⟨rb,ro+j*10+5,none⟩) hrb).trans k5,(hUu.cell (p:=⟨rb,ro+j*10+6,none⟩) hrb).trans k6,(hUu.cell (p:=⟨rb,ro+j*10+7,none⟩) hrb).trans k7,(hUu.cell (p:=⟨rb,ro+j*10+8,none⟩) hrb).trans k8,(hUu.cell (p:=⟨rb,ro+j*10+9,none⟩) hrb).trans k9⟩,(hUu.cell (p:=⟨w.heap.size,0,none⟩) hlt).trans z0,(hUu.cell (p:=⟨w.heap.size,1,none⟩) hlt).trans z1⟩
        clear hrc
        go_wp2_with fail
        refine hK.out _ _ hSu.out (fun hH=>?_)
        clear hK K
        try simp only[Act.put,pZ]
        refine hT 15 hH ?_
        refine wpAnyH_done (by kernel_rfl) ?_ _
        clear hSu hH hUu hbu hdr k0 k1 k2' k3 k4 k5 k6 k7 k8 k9 d0 d1 d2 z0 z1 hB
        cases A with
        | false =>
         have HF:Hid (R=false):=zh2.out rfl
         have hBw:=HBW.out.trans (zaf.mono HBW.out.size)
         clear zh2 ztu;go_wp2
         go_ret
         exact⟨zaa HF.out.symm,hBw⟩
        | true =>
         have HOJ3:Hid (∀i,i<j+1->prB (fiS s) kd sk (rs.getD i Ru.none) g=true):=ztu.out rfl
         clear zh2 ztu;go_wp2
         go_roundw
         case rel=>exact⟨j+1,by omega,by go_num,HOJ3,zaf⟩
         case measure=>simp[intOf];omega
      . have g4:¬(j:Int)<(rs.length:Int):=by omega
        have HOK4:Hid (∀j,j<k+1->plF (fiS s) g (l.getD j Lk.none)=true):=ze7.out (fun i hi=>HOJ.out i (by omega))
        clear ze7 HOJ hjn hrs;go_wp2
        go_roundw
        case rel=>exact⟨k+1,by omega,by go_num,HOK4,hB⟩
        case measure=>simp[intOf];omega
  . have HF:Hid (R=true):=HYS.out (fun j hj=>HOK.out j (by omega))
    have g4:¬(k:Int)<(l.length:Int):=by omega
    have hBw:Below w.heap.size w wr:=HBW.out.trans (hB.mono HBW.out.size)
    clear HOK;go_wp2
    go_ret
    exact⟨zaa HF.out.symm,hBw⟩
theorem zem(S:Nat->Prop)(d:FoD)(x:Fo)(w:World)(h:FoR S w d x)(hB:FoB x) :
 Calls Tryz.prog 17 #[fV d x] w fun e w'=>e=.returned (.bool (shB x))/\Below w.heap.size w w':=by
 have HS:Hid (shB x=_):=zt1 hB.gl
 have kg:x.gl.length<=40:=hB.gl
 obtain⟨hg,hm,hl,hr,hk,hf,hs⟩:=h;obtain⟨xa,xl,xc,ba,bl,bc,ga,gc,ma,mc,la,lc,ta,tl,tc,da,dl,dc,ra,rc,ka,kc,fa,fc,sa,sc⟩:=d
 dsimp only[fV]at hg hm hl hr hk hf hs ⊢
 obtain⟨W,hW,XW,hbW⟩:∃W,W=w.alloc (.cells #[.slice xa xl xc,.slice ba bl bc,.slice ga x.s.rg.length gc,.slice ma x.s.rw.length mc,.slice la x.gl.length lc,.slice ta tl tc,.slice da dl dc,.slice ra x.rn.length rc,.slice ka x.lk.length kc,.slice fa x.ft.length fc,.slice sa x.sw.length sc] 36)/\Bk 36 W w.heap.size [.slice xa xl xc,.slice ba bl bc,.slice ga x.s.rg.length gc,.slice ma x.s.rw.length mc,.slice la x.gl.length lc,.slice ta tl tc,.slice da dl dc,.slice ra x.rn.length rc,.slice ka x.lk.length kc,.slice fa x.ft.length fc,.slice sa x.sw.length sc]/\Below w.heap.size w W:=⟨_,rfl,Bk.new _ _ _,bl1 _⟩
 obtain⟨-,-,x2,x3,x4,-,-,-,x8,-,-⟩:=XW.elevenH
 have hfu:=zgg S ka kc x.lk (x.gl.length:Int) W (hk.below hbW) ⟨by omega,by omega⟩
 have hfm:=fun U (hU:Below w.heap.size w U)=>zeo S ka kc x.lk ga gc ma mc x.s (x.gl.length:Int) U (hk.below hU) hm.lenB ⟨by omega,by omega⟩
 have HXW:Hid (Bk 36 W w.heap.size _):=XW
 generalize foU x.lk (x.gl.length:Int)=A at hfu HS
 generalize foM20 (fiS x.s) x.lk (x.gl.length:Int)=B at hfm HS
 have d0:decide ((x.gl.length:Int)<=65536)=true:=decide_eq_true (by omega)
 have d0n:decide (x.gl.length<=65536)=true:=decide_eq_true (by omega)
 clear hg hm hl hr hk hf hs XW hB
 go_enter Tryz.func17,Tryz.ntmps17
 go_upto_region 1 with fail
 rw[<-hW];clear hW
 cases A with
 | false =>
  go_wp2_with fail
  refine hfu.mono ?_
  rintro e u ⟨rfl,hb⟩
  have zaf:=hbW.trans (hb.mono hbW.size)
  clear hfu hfm hb x2 x3 x4 x8;go_wp2
  go_ret
  exact⟨by rw[HS.out];rfl,zaf⟩
 | true =>
  go_wp2_with fail
  refine hfu.mono ?_
  rintro e u ⟨rfl,hb⟩
  have zaf:=hbW.trans (hb.mono hbW.size)
  have XU:=HXW.out.below hb
  clear hfu hb x2 x3 x4 x8 HXW;obtain⟨-,-,x2,x3,x4,-,-,-,x8,-,-⟩:=XU.elevenH
  have zyz:=hfm u zaf
  clear hfm XU
  go_wp2_with fail
  refine zyz.mono ?_
  rintro e u2 ⟨rfl,hb⟩
  have zwn:=zaf.trans (hb.mono zaf.size)
  clear zyz hb x2 x3 x4 x8;go_wp2
  go_ret
  exact⟨by rw[HS.out];rfl,zwn⟩
theorem zfe(S:Nat->Prop)(d:FoD)(x:Fo)(w:World)(h:FoR S w d x)(hB:FoB x) :
 Calls Tryz.prog 32 #[fV d x] w fun e w'=>RowM (mkG x.gl) w.heap.size w' e/\Below w.heap.size w w':=by
 have kg:x.gl.length<=40:=hB.gl
 obtain⟨hg,hm,hl,hr,hk,hf,hs⟩:=h;obtain⟨xa,xl,xc,ba,bl,bc,ga,gc,ma,mc,la,lc,ta,tl,tc,da,dl,dc,ra,rc,ka,kc,fa,fc,sa,sc⟩:=d
 dsimp only[fV]at hg hm hl hr hk hf hs ⊢
 obtain⟨W,hW,XW,hbW⟩:∃W,W=w.alloc (.cells #[.slice xa xl xc,.slice ba bl bc,.slice ga x.s.rg.length gc,.slice ma x.s.rw.length mc,.slice la x.gl.length lc,.slice ta tl tc,.slice da dl dc,.slice ra x.rn.length rc,.slice ka x.lk.length kc,.slice fa x.ft.length fc,.slice sa x.sw.length sc] 36)/\Bk 36 W w.heap.size [.slice xa xl xc,.slice ba bl bc,.slice ga x.s.rg.length gc,.slice ma x.s.rw.length mc,.slice la x.gl.length lc,.slice ta tl tc,.slice da dl dc,.slice ra x.rn.length rc,.slice ka x.lk.length kc,.slice fa x.ft.length fc,.slice sa x.sw.length sc]/\Below w.heap.size w W:=⟨_,rfl,Bk.new _ _ _,bl1 _⟩
 have HGL:Hid (Gr GlE S w la lc x.gl):=hl
 have HXW:Hid (Bk 36 W w.heap.size _):=XW
 have HG0:Hid (Gw El.bool 4 W.heap.size (fun _=>False) W (.slice none 0 0) (mkG (x.gl.take 0))):=Gw.nil _ _ _ _ _
 clear hg hm hl hr hk hf hs XW hB
 go_enter Tryz.func32,Tryz.ntmps32
 go_upto_region 1 with fail
 rw[<-hW];clear hW;go_wp2
 go_loopw [3,4] (fun v i wr=>∃k:Nat,k<=x.gl.length/\i=.int .i64 k/\Hid (Gw El.bool 4 W.heap.size (fun _=>False) wr v (mkG (x.gl.take k)))/\Below W.heap.size W wr) (fun _ i _=>x.gl.length-(intOf i).toNat)
 case atStart=>exact⟨0,Nat.zero_le _,rfl,HG0.out,Below.refl _ _⟩
 case round =>
  clear HG0;obtain⟨k,hk,rfl,HG,hB⟩:=hrel
  have hBw:=hbW.trans (hB.mono hbW.size)
  obtain⟨oa,oc,ev,-,-⟩:=HG.out.slice;rw[zaw,List.length_take,Nat.min_eq_left hk]at ev;subst ev
  obtain⟨-,-,-,-,y4,-⟩:=(HXW.out.below hB).elevenH
  by_cases hkn:k<x.gl.length
  . obtain⟨b,off,q1,q2,q3,q4,q5,q6,ea,hb0,hgc,-,-,-,-,-,d5⟩:=HGL.out.gl hBw k hkn
    have HST:Hid (_):=@zsv x.gl k hkn
    generalize (x.gl.getD k Gl.none).mr=z at d5 HST
    subst ea
    have i1:(0:Int)<=(k:Int):=by omega
    have i2:(k:Int)<(x.gl.length:Int):=by omega
    obtain⟨V9,hV9,Y9,hb9⟩:∃V,V=wr.alloc (.cells #[.bool z] 4)/\Bk 4 V wr.heap.size [.bool z]/\Below wr.heap.size wr V:=⟨_,rfl,Bk.new _ _ _,bl1 _⟩
    have hGb:Gw El.bool 4 W.heap.size (fun _=>False) V9 (.slice oa k oc) (mkG (x.gl.take k)):=Gw.below HG.out hb9
    have hBb:=hB.trans (hb9.mono hB.size)
    have hbs:W.heap.size<=V9.heap.size:=hBb.size
    have hll:(mkG (x.gl.take k)).length+1<=1000000:=by rw[zaw,List.length_take];omega
    have zni:Gr El.bool (fun k9=>(fun _=>False) k9/\(Value.slice oa k oc).ownBlock≠some k9) V9 (some ⟨wr.heap.size,0,none⟩) 1 [z]:=Gr.one (E:=El.bool) (vs:=[.bool z]) rfl Y9.lt (fun j hj=>Y9.cell j hj)
    have HLO:Hid (∀q,(Value.slice oa k oc).ownBlock=some q->W.heap.size<=q):=fun q hq=>(Gw.lo HG.out hq).1
    clear HG hgc
    go_wp2_with (at_builtin;rw[<-hV9];refine zab 77 4 Tryz.underlying77 zqc rfl (by decide) (by decide) rfl _ _ rfl W.heap.size (fun _=>False) _ (mkG (x.gl.take k)) rfl hGb _ _ _ [z] rfl rfl zni hll hbs ?_)
    intro v9 w9 hT9 hgrow _
    rw[<-hV9]at hgrow;rw[<-HST.out]at hT9
    have HT9:Hid (Gw El.bool 4 W.heap.size (fun _=>False) w9 v9 (mkG (x.gl.take (k+1)))):=hT9
    have hB9:Below W.heap.size W w9:=hBb.grown hgrow hBb.size (fun q hq=>HLO.out q hq)
    clear hT9 hgrow hGb hbs hll hBb hV9 Y9 d5 hb9 zni y4 hBw hB;go_wp2
    go_roundw
    case rel=>exact⟨k+1,by omega,by go_num,HT9,hB9⟩
    case measure=>simp[intOf];omega
  . obtain rfl:k=x.gl.length:=by omega
    have HV:Hid (RowM (mkG x.gl) w.heap.size wr (.returned (.slice oa x.gl.length oc))):=⟨_,rfl,by
     have:=HG.out
     rw[List.take_length]at this;obtain⟨vss,h1,h3,h4⟩:=this
     refine⟨vss,h1,⟨h3.1,?_⟩,h4⟩
     rcases h3.2 with h|⟨g,cap,cur,k1,k2,k3⟩
     . exact .inl h
     . exact .inr ⟨g,cap,cur,k1,Nat.le_trans hbW.size k2,k3⟩⟩
    have g4:¬(x.gl.length:Int)<(x.gl.length:Int):=by omega
    clear HG;go_wp2
    go_ret
    exact⟨HV.out,hBw⟩
theorem zjb(S:Nat->Prop)(a:Option Addr)(ca:Nat)(P:List Pd)(w:World)(h:Gr PdE S w a ca P) :
 Calls Tryz.prog 19 #[.slice a P.length ca] w fun e w'=>e=.returned (.int .i64 (wiP P))/\Below w.heap.size w w':=by
 have kP:=h.lenB
 have HH:Hid (Gr PdE S w a ca P):=h
 clear h
 go_enter Tryz.func19,Tryz.ntmps19
 go_wp2
 go_loopw [3,4] (fun v i wr=>∃k:Nat,k<=P.length/\i=.int .i64 k/\v=.int .i64 (wiP (P.take k))/\Below w.heap.size w wr) (fun _ i _=>P.length-(intOf i).toNat)
 case atStart=>exact⟨0,Nat.zero_le _,rfl,rfl,Below.refl _ _⟩
 case round =>
  obtain⟨k,hk,rfl,rfl,hB⟩:=hrel
  by_cases hkn:k<P.length
  . obtain⟨b,off,ea,hb,hw4,d0,d1,d2,d3⟩:=HH.out.pd hB k hkn
    have HST:Hid (_):=@zk6 P k hkn
    generalize (P.getD k Pd.none).a=pa at d3 HST
    subst ea
    have i1:(0:Int)<=(k:Int):=by omega
    have i2:(k:Int)<(P.length:Int):=by omega
    generalize wiP (P.take k)=z at HST ⊢
    clear d0 d1 d2 hw4;go_wp2
    go_roundw
    case rel=>exact⟨k+1,by omega,by go_num,by rw[<-HST.out,<-w6_64],hB⟩
    case measure=>simp[intOf];omega
  . obtain rfl:k=P.length:=by omega
    rw[List.take_length]
    have g4:¬(P.length:Int)<(P.length:Int):=by omega
    go_wp2
    go_ret
    exact⟨rfl,hB⟩
theorem zmu(S:Nat->Prop)(a:Option Addr)(ca:Nat)(l:List Rn)(c:Int)(w:World)(hl:Gr RnE S w a ca l)(hc:I64 c)(hno:NoR l c) :
 Calls Tryz.prog 43 #[.slice a l.length ca,.int .i64 c] w fun e w'=>e=.returned (.int .i64 (glR c l))/\Below w.heap.size w w':=by
 have kl:=hl.lenB
 obtain⟨ca1,ca2⟩:=hc
 have HL:Hid (Gr RnE S w a ca l):=hl
 have HW:Hid (NoR l c):=hno
 clear hl hno
 go_enter Tryz.func43,Tryz.ntmps43
 go_wp2
 go_loopw [5] (fun i wr=>∃k:Nat,k<=l.length/\i=.int .i64 k/\Hid (∀j,j<k->inR (l.getD j Rn.none) c=false)/\Below w.heap.size w wr) (fun i _=>l.length-(intOf i).toNat)
 case atStart=>exact⟨0,Nat.zero_le _,rfl,(fun j hj=>by omega),Below.refl _ _⟩
 case round =>
  obtain⟨k,hk,rfl,HNO,hB⟩:=hrel
  by_cases hkn:k<l.length
  . obtain⟨b,off,rfl,hb,hW,d0,d1,d2⟩:=HL.out.rn hB k hkn
    have HFA:Hid (_):=zuu hkn HNO.out
    have HWK:Hid (_):=HW.out k hkn
    have HN2:Hid (inR (l.getD k Rn.none) c=false->∀j,j<k+1->inR (l.getD j Rn.none) c=false):=fun hn j hj=>by
     rcases Nat.lt_or_ge j k with h1|h1
     . exact HNO.out j h1
     . rw[show j=k by omega];exact hn
    have i1:(0:Int)<=(k:Int):=by omega
    have i2:(k:Int)<(l.length:Int):=by omega
    generalize l.getD k Rn.none=x at *
    obtain⟨x1,x2,x3⟩:=x;obtain⟨⟨m1,m2⟩,⟨m3,m4⟩,⟨m5,m6⟩⟩:=hW
    dsimp only at *
    by_cases f1:x1<=c
    rotate_left
    . have e1:decide (x1<=c)=false:=decide_eq_false f1
      have HNN:Hid (_):=HN2.out (by unfold inR;exact decide_eq_false (fun h=>f1 h.1))
      clear HNO HN2 HFA HWK;go_wp2
      go_roundw
      case rel=>exact⟨k+1,by omega,by go_num,HNN,hB⟩
      case measure=>simp[intOf];omega
    have e1:decide (x1<=c)=true:=decide_eq_true f1
    by_cases f2:c<=x2
    rotate_left
    . have e2:decide (c<=x2)=false:=decide_eq_false f2
      have HNN:Hid (_):=HN2.out (by unfold inR;exact decide_eq_false (fun h=>f2 h.2))
      clear HNO HN2 HFA HWK;go_wp2
      go_roundw
      case rel=>exact⟨k+1,by omega,by go_num,HNN,hB⟩
      case measure=>simp[intOf];omega
    have e2:decide (c<=x2)=true:=decide_eq_true f2
    have hin:inR ⟨x1,x2,x3⟩ c=true:=by unfold inR;exact decide_eq_true ⟨f1,f2⟩
    obtain⟨⟨u1,u2⟩,⟨u3,u4⟩⟩:=HWK.out hin
    have s1:IntKind.i64.wrap (c-x1)=c-x1:=zk5 u1 u2
    have s2:IntKind.i64.wrap (x3+(c-x1))=x3+(c-x1):=zk5 u3 u4
    have HF:Hid (glR c l=x3+(c-x1)):=HFA.out hin
    clear HNO HN2 HFA HWK hin
    go_wp2_with fail
    go_quiet (fail)
    go_wp2
    go_ret
    exact⟨zbf HF.out.symm,below_drewN hB _⟩
  . have HF:Hid (glR c l=0):=zut (fun j hj=>HNO.out j (by omega))
    have g4:¬(k:Int)<(l.length:Int):=by omega
    clear HNO;go_wp2
    go_ret
    exact⟨zbf HF.out.symm,hB⟩
theorem zos(s:ByteArray)(w:World)(hs:s.size<=100000) :
 ∃(c:Nat) (U:World),(convert 9 69 (.string s)).run Tryz.prog w=.ok (.slice (some ⟨w.heap.size,0,none⟩) (rns (sb s)).length c) U/\(∀i,i<(rns (sb s)).length->U.cell? ⟨w.heap.size,i,none⟩=some (.int .i32 ((rns (sb s)).getD i 0:Nat)))/\Below w.heap.size w U/\w.heap.size<U.heap.size:=by
 have e:=zr9 s s.size 0 #[] (by omega)
 rw[List.drop_zero]at e
 have e2:(Conv.runesFrom s s.size 0 #[]).toList=(rns (sb s)).map (fun r:Nat=>Value.int .i32 (r:Int)):=by rw[e];rfl
 have hsz:(Conv.runesFrom s s.size 0 #[]).size=(rns (sb s)).length:=by
  rw[<-Array.length_toList,e2,List.length_map]
 have hle:(rns (sb s)).length<=100000:=by
  have:=zjr (sb s).length (sb s)
  rw[show ryL (sb s).length (sb s)=rns (sb s)from rfl,zb6]at this
  omega
 have hr:=run_runes_of_string (P:=Tryz.prog) w 9 69 21 s Tryz.underlying9 Tryz.underlying69 Tryz.underlying21 (by omega)
 rw[hsz]at hr
 refine⟨_,_,hr,fun i hi=>?_,((Below.refl w.heap.size w).drew).alloc (Nat.le_refl _) _,by simp⟩
 have hN:=heap_alloc_new w.drew (.cells (Conv.runesFrom s s.size 0 #[]++Array.replicate (grownCap w (rns (sb s)).length 0 21-(rns (sb s)).length) (.int .i32 0)) 21)
 have hc:=cell_of_row _ w.drew.heap.size i _ _ (0,0) hN
 refine Eq.trans hc ?_
 rw[Array.getElem?_append_left (by omega),<-Array.getElem?_toList,e2,List.getElem?_map,List.getElem?_eq_getElem hi,List.getD_eq_getElem?_getD,List.getElem?_eq_getElem hi]
 rfl
def mpK(l:List Rn)(rs:List Nat):List Int:=rs.map (fun r:Nat=>glR (r:Int) l)
theorem zv0(l:List Rn)(rs:List Nat)(k:Nat)(h:k<=rs.length):(mpK l (rs.take k)).length=k:=by
 unfold mpK
 rw[List.length_map,List.length_take]
 omega
theorem zst{l:List Rn}{rs:List Nat}{k:Nat}(h:k<rs.length):mpK l (rs.take (k+1))=mpK l (rs.take k)++[glR (rs.getD k 0:Nat) l]:=by
 unfold mpK
 rw[List.take_add_one,List.getElem?_eq_getElem h,List.map_append]
 simp[List.getD,h]
theorem zr4(S:Nat->Prop)(a:Option Addr)(ca:Nat)(l:List Rn)(s:ByteArray)(w:World)(hl:Gr RnE S w a ca l)(hs:s.size<=100000)(hno:∀c:Int,0<=c->c<=1114111->NoR l c) :
 Calls Tryz.prog 20 #[.slice a l.length ca,.string s] w fun e w'=>∃v,e=.returned v/\Io w.heap.size w' v (mpC l (sb s))/\Below w.heap.size w w':=by
 have kl:=hl.lenB
 obtain⟨c0,U,hcv,zeq,hbU,hgU⟩:=zos s w hs
 have HC:Hid (_):=zeq
 have hrl:(rns (sb s)).length<=100000:=by
  have:=zjr (sb s).length (sb s)
  rw[show ryL (sb s).length (sb s)=rns (sb s)from rfl,zb6]at this
  omega
 have HRB:Hid (∀r∈rns (sb s),r<=1114111):=zx0 _ _
 have HMP:Hid (mpC l (sb s)=mpK l (rns (sb s))):=rfl
 have HL:Hid (Gr RnE S U a ca l):=hl.below hbU
 have HNO:Hid (∀c:Int,0<=c->c<=1114111->NoR l c):=hno
 have HBU:Hid (Below w.heap.size w U):=hbU
 obtain⟨rs,hrs⟩:∃rs,rns (sb s)=rs:=⟨_,rfl⟩
 rw[hrs]at hcv HC hrl HRB HMP
 obtain⟨g0,hg0⟩:∃g,w.heap.size=g:=⟨_,rfl⟩
 have HG:Hid (w.heap.size=g0):=hg0
 rw[hg0]at hcv HC hgU;clear hl hno zeq hbU hrs hg0
 go_enter Tryz.func20,Tryz.ntmps20
 go_wp2;clear hcv
 go_loopw [5,7] (fun v i wr=>∃(k:Nat),k<=rs.length/\i=.int .i64 k/\Io U.heap.size wr v (mpK l (rs.take k))/\Below U.heap.size U wr) (fun _ i _=>rs.length-(intOf i).toNat)
 case atStart=>exact⟨0,Nat.zero_le _,rfl,Io.nil _ _,Below.refl _ _⟩
 case round =>
  obtain⟨k,hk,rfl,hIo,hB⟩:=hrel;obtain⟨a5,c5,rfl,hri⟩:=hIo.slice
  have hzl:=zv0 l rs k hk
  rw[hzl]at hIo ⊢
  by_cases hkn:k<rs.length
  . have d0:=(hB.cell (p:=⟨g0,k,none⟩) hgU).trans (HC.out k hkn)
    have HSC:Hid (_):=zst (l:=l) hkn
    have hrb:rs.getD k 0<=1114111:=HRB.out _ (by rw[List.getD_eq_getElem?_getD,List.getElem?_eq_getElem hkn];exact List.getElem_mem hkn)
    obtain⟨z,hz⟩:∃z:Int,((rs.getD k 0:Nat):Int)=z:=⟨_,rfl⟩
    rw[hz]at d0 HSC
    have hz0:0<=z:=by omega
    have hz1:z<=1114111:=by omega
    have HI:Hid (I64 (glR z l)):=zql (HNO.out z hz0 hz1)
    have hgl:=zmu S a ca l z wr (HL.out.below hB) ⟨by omega,by omega⟩ (HNO.out z hz0 hz1)
    obtain⟨y,hy⟩:∃y,glR z l=y:=⟨_,rfl⟩
    rw[hy]at HI hgl HSC
    have i1:(0:Int)<=(k:Int):=by omega
    have i2:(k:Int)<(rs.length:Int):=by omega
    obtain⟨zs,hzs⟩:∃zs,mpK l (rs.take k)=zs:=⟨_,rfl⟩
    rw[hzs]at hIo HSC hzl
    have hll:zs.length+1<=1000000:=by omega
    clear hz hy hri hrb hzs hzl
    go_wp2_with fail
    refine hgl.mono ?_
    rintro e u2 ⟨rfl,hb⟩
    have hT2:=hIo.below hb
    have hB3:=hB.trans (hb.mono hB.size)
    clear hgl hb hIo d0 hB
    have hT5:=hT2.below (bl1 (.cells #[.int .i64 y] 3))
    have hN:=heap_alloc_new u2 (.cells #[.int .i64 y] 3)
    have n0:=cell_of_row _ u2.heap.size 0 _ _ (0,0) hN
    have hB5:Below U.heap.size U (u2.alloc (.cells #[.int .i64 y] 3)):=hB3.alloc hB3.size _
    clear hN
    go_wp2_with (at_builtin;refine zbc rfl _ _ rfl U.heap.size _ zs rfl hT5 u2.heap.size y rfl n0 HI.out hll hB5.size ?_)
    intro v' w9 hT9 hgrow
    have hB9:Below U.heap.size U w9:=hB5.grown hgrow hB5.size (fun k hk=>hT5.lo hk)
    rw[<-HSC.out]at hT9;clear hgrow hT5 n0 hB5 hB3 hT2;go_wp2
    go_roundw
    case rel=>exact⟨k+1,by omega,by go_num,hT9,hB9⟩
    case measure=>simp[intOf];omega
  . obtain rfl:k=rs.length:=by omega
    have g4:¬(rs.length:Int)<(rs.length:Int):=by omega
    rw[List.take_length]at hIo;clear hri hzl;go_wp2
    go_ret
    exact⟨_,rfl,by rw[HMP.out];exact hIo.mono HBU.out.size,HBU.out.trans (hB.mono HBU.out.size)⟩
theorem zvr{ms:List Bool}{L:List Int}{sk:Bool}{i:Nat}(h:sk=false):psB ms L sk i=false:=by unfold psB;rw[h];rfl
theorem zsg{ms:List Bool}{L:List Int}{i:Nat}{g:Int}(h:L.getD i 0=g):psB ms L true i=mkB ms g:=by unfold psB;rw[h];rfl
theorem zoe(S:Nat->Prop)(a:Option Addr)(ca:Nat)(L:List Int)(b:Option Addr)(cb:Nat)(ms:List Bool)(i:Int)(sk:Bool)(w:World)(hL:Ri w a ca L)(hm:Gr El.bool S w b cb ms)(hi:I64 i) :
 Calls Tryz.prog 169 #[.slice a L.length ca,.slice b ms.length cb,.int .i64 i,.bool sk] w fun e w'=>e=.returned (.int .i64 (nxQ ms L sk i))/\Below w.heap.size w w':=by
 have kl:=hL.lenB
 obtain⟨hi1,hi2⟩:=hi
 have hpl:=zcz a ca L i w kl
 cases hp:plB L i with
 | false =>
  rw[hp]at hpl
  have HF:Hid (nxQ ms L sk i=-1):=zua hp
  clear hp hL hm
  go_enter Tryz.func169,Tryz.ntmps169
  go_wp2_with fail
  refine hpl.mono ?_
  rintro e u ⟨rfl,rfl⟩;clear hpl;go_wp2
  go_ret
  exact⟨zbf HF.out.symm,Below.refl _ _⟩
 | true =>
 rw[hp]at hpl
 obtain⟨p1,p2⟩:=zal.1 hp
 obtain⟨k,rfl⟩:∃k:Nat,i=(k:Int):=⟨i.toNat,by omega⟩
 have hk:k<L.length:=by omega
 have HX:Hid (nxQ ms L sk (k:Int)=nxF ms L sk (L.length-(k+1)) (k+1)):=zj0 hk
 have HL:Hid (Ri w a ca L):=hL
 have HM:Hid (Gr El.bool S w b cb ms):=hm
 clear hp hL hm
 go_enter Tryz.func169,Tryz.ntmps169
 go_wp2_with fail
 refine hpl.mono ?_
 rintro e u ⟨rfl,rfl⟩;clear hpl;go_wp2
 go_loopw [2] (fun i wr=>∃j:Nat,j<=L.length/\i=.int .i64 j/\Hid (nxQ ms L sk (k:Int)=nxF ms L sk (L.length-j) j)/\Below w.heap.size w wr) (fun i _=>L.length-(intOf i).toNat)
 case atStart=>exact⟨k+1,by omega,by go_num,HX,Below.refl _ _⟩
 case round =>
  obtain⟨j,hj,rfl,HJ,hB⟩:=hrel
  by_cases hjn:j<L.length
  . obtain⟨b1,o1,ea,_,c0⟩:=HL.out.at hB j hjn
    subst ea
    have HG:Hid (I64 (L.getD j 0)):=HL.out.i64 hjn
    have HON:Hid (_):=zub (ms:=ms) (sk:=sk) hjn
    have HOF:Hid (_):=zpn (ms:=ms) (sk:=sk) hjn
    have HPS:Hid (∀q,mkB ms (L.getD j 0)=q->psB ms L true j=q):=fun q hq=>by rw[zsg rfl];exact hq
    obtain⟨g,hg⟩:∃g,L.getD j 0=g:=⟨_,rfl⟩
    rw[hg]at c0 HG HPS
    have i1:(0:Int)<=(j:Int):=by omega
    have i2:(j:Int)<(L.length:Int):=by omega
    have d1:decide ((j:Int)<(L.length:Int))=true:=decide_eq_true i2
    have d1n:decide (j<L.length)=true:=decide_eq_true hjn
    have e1:¬(j:Int)=(L.length:Int):=by omega
    have e2:¬j=L.length:=by omega
    clear hg
    cases sk with
    | false =>
     have HF:Hid (nxQ ms L false (k:Int)=(j:Int)):=by show _=_;rw[HJ.out,HOF.out (zvr rfl)]
     clear HJ HON HOF HPS;go_wp2
     go_ret
     exact⟨zbf HF.out.symm,hB⟩
    | true =>
    have hmk:=zcs S b cb ms g wr (HM.out.below hB) HG.out
    cases hq:mkB ms g with
    | true =>
     rw[hq]at hmk
     have HJ2:Hid (nxQ ms L true (k:Int)=nxF ms L true (L.length-(j+1)) (j+1)):=by show _=_;rw[HJ.out];exact HON.out (HPS.out _ hq)
     clear HJ HON HOF HPS hq
     go_wp2_with fail
     refine hmk.mono ?_
     rintro e u ⟨rfl,hb1⟩
     have hB2:=hB.trans (hb1.mono hB.size)
     clear hmk hb1 hB;go_wp2
     go_roundw
     case rel=>exact⟨j+1,by omega,by go_num,HJ2,hB2⟩
     case measure=>simp[intOf];omega
    | false =>
     rw[hq]at hmk
     have HF:Hid (nxQ ms L true (k:Int)=(j:Int)):=by show _=_;rw[HJ.out,HOF.out (HPS.out _ hq)]
     clear HJ HON HOF HPS hq
     go_wp2_with fail
     refine hmk.mono ?_
     rintro e u ⟨rfl,hb1⟩
     have hB2:=hB.trans (hb1.mono hB.size)
     clear hmk hb1 hB;go_wp2
     go_ret
     exact⟨zbf HF.out.symm,hB2⟩
  . have HF:Hid (nxQ ms L sk (k:Int)=-1):=by show _=_;rw[HJ.out];exact zj1 (by omega)
    obtain rfl:j=L.length:=by omega
    have g4:¬(L.length:Int)<(L.length:Int):=by omega
    have d1:decide ((L.length:Int)<(L.length:Int))=false:=decide_eq_false g4
    have d1n:decide (L.length<L.length)=false:=decide_eq_false (by omega)
    clear HJ;go_wp2
    go_ret
    exact⟨zbf HF.out.symm,hB⟩
theorem zoo(S:Nat->Prop)(a:Option Addr)(ca:Nat)(L:List Int)(b:Option Addr)(cb:Nat)(ms:List Bool)(i:Int)(w:World)(hL:Ri w a ca L)(hm:Gr El.bool S w b cb ms)(hi:I64 i) :
 Calls Tryz.prog 138 #[.slice a L.length ca,.slice b ms.length cb,.int .i64 i] w fun e w'=>e=.returned (.int .i64 (bkQ ms L i))/\Below w.heap.size w w':=by
 have kl:=hL.lenB
 obtain⟨hi1,hi2⟩:=hi
 have hpl:=zcz a ca L i w kl
 cases hp:plB L i with
 | false =>
  rw[hp]at hpl
  have HF:Hid (bkQ ms L i=-1):=zuz hp
  clear hp hL hm
  go_enter Tryz.func138,Tryz.ntmps138
  go_wp2_with fail
  refine hpl.mono ?_
  rintro e u ⟨rfl,rfl⟩;clear hpl;go_wp2
  go_ret
  exact⟨zbf HF.out.symm,Below.refl _ _⟩
 | true =>
 rw[hp]at hpl
 obtain⟨p1,p2⟩:=zal.1 hp
 obtain⟨k,rfl⟩:∃k:Nat,i=(k:Int):=⟨i.toNat,by omega⟩
 have hk:k<L.length:=by omega
 have HX:Hid (bkQ ms L (k:Int)=bkF ms L k):=zkr hk
 have HL:Hid (Ri w a ca L):=hL
 have HM:Hid (Gr El.bool S w b cb ms):=hm
 clear hp hL hm
 go_enter Tryz.func138,Tryz.ntmps138
 go_wp2_with fail
 refine hpl.mono ?_
 rintro e u ⟨rfl,rfl⟩;clear hpl;go_wp2
 go_loopw [2] (fun i wr=>∃(m:Nat) (z:Int),m<=k/\Hid (z=(m:Int)-1)/\i=.int .i64 z/\Hid (bkQ ms L (k:Int)=bkF ms L m)/\Below w.heap.size w wr) (fun i _=>(intOf i+1).toNat)
 case atStart=>exact⟨k,_,Nat.le_refl _,rfl,rfl,HX,Below.refl _ _⟩
 case round =>
  obtain⟨m,z,hm,HZ,rfl,HJ,hB⟩:=hrel
  cases m with
  | zero =>
   obtain rfl:z=-1:=by have:=HZ.out;omega
   have HF:Hid (bkQ ms L (k:Int)=-1):=HJ.out
   clear HJ HZ;go_wp2
   go_ret
   exact⟨zbf HF.out.symm,hB⟩
  | succ m =>
  obtain rfl:z=(m:Int):=by have:=HZ.out;omega
  have hmn:m<L.length:=by omega
  obtain⟨b1,o1,ea,_,c0⟩:=HL.out.at hB m hmn
  subst ea
  have HG:Hid (I64 (L.getD m 0)):=HL.out.i64 hmn
  have HON:Hid (mkB ms (L.getD m 0)=true->bkF ms L (m+1)=bkF ms L m):=fun h=>zmc h
  have HOF:Hid (mkB ms (L.getD m 0)=false->bkF ms L (m+1)=(m:Int)):=fun h=>zks h
  obtain⟨g,hg⟩:∃g,L.getD m 0=g:=⟨_,rfl⟩
  rw[hg]at c0 HG HON HOF
  have i1:(0:Int)<=(m:Int):=by omega
  have i2:(m:Int)<(L.length:Int):=by omega
  have d1:decide ((0:Int)<=(m:Int))=true:=decide_eq_true i1
  have i3:¬(m:Int)<0:=by omega
  have hmk:=zcs S b cb ms g wr (HM.out.below hB) HG.out
  clear hg HZ
  cases hq:mkB ms g with
  | true =>
   rw[hq]at hmk
   have HJ2:Hid (bkQ ms L (k:Int)=bkF ms L m):=by show _=_;rw[HJ.out];exact HON.out hq
   clear HJ HON HOF hq
   go_wp2_with fail
   refine hmk.mono ?_
   rintro e u ⟨rfl,hb1⟩
   have hB2:=hB.trans (hb1.mono hB.size)
   clear hmk hb1 hB;go_wp2
   go_roundw
   case rel=>exact⟨m,_,by omega,rfl,rfl,HJ2,hB2⟩
   case measure=>simp[intOf]
  | false =>
   rw[hq]at hmk
   have HF:Hid (bkQ ms L (k:Int)=(m:Int)):=by show _=_;rw[HJ.out];exact HOF.out hq
   clear HJ HON HOF hq
   go_wp2_with fail
   refine hmk.mono ?_
   rintro e u ⟨rfl,hb1⟩
   have hB2:=hB.trans (hb1.mono hB.size)
   clear hmk hb1 hB;go_wp2
   go_ret
   exact⟨zbf HF.out.symm,hB2⟩
theorem zia(S:Nat->Prop)(a:Option Addr)(ca:Nat)(L:List Int)(b:Option Addr)(cb:Nat)(ms:List Bool)(i:Int)(q:Option Addr)(cq:Nat)(A:List Int)(sk:Bool)(w:World)
    (hL:Ri w a ca L) (hm:Gr El.bool S w b cb ms) (hi:I64 i) (hA:Ri w q cq A) (hA2:A.length<=1000) :
    Calls Tryz.prog 127 #[.slice a L.length ca,.slice b ms.length cb,.int .i64 i,.slice q A.length cq,.bool sk] w fun e w'=>MetA ms L sk i A w.heap.size w' e/\Below w.heap.size w w':=by
 have kl:=hL.lenB
 obtain⟨hi1,hi2⟩:=hi
 by_cases h0:A.length=0
 . have HF:Hid (meQ ms L sk i A=none):=zlr h0
   have HNO:Hid (∀U,MetA ms L sk i A w.heap.size U (.returned (.tuple #[.slice none 0 0,.bool false]))):=fun U=>MetA.no HF.out
   clear hL hm hA
   go_enter Tryz.func127,Tryz.ntmps127
   go_wp2_with fail
   go_quiet (fail)
   go_wp2
   go_ret2
   exact⟨HNO.out _,below_drewN (Below.refl _ _) _⟩
 have e0:((A.length:Int)==0)=false:=by rw[beq_eq_false_iff_ne];omega
 cases hp:plB L i with
 | false =>
  have hpl:=fun W=>zcz a ca L i W kl
  rw[hp]at hpl
  have HPL:∀W,Calls Tryz.prog 168 #[.slice a L.length ca,.int .i64 i] W fun e w'=>e=.returned (.bool false)/\w'=W:=fun W=>(hpl W).mono fun _ _ h=>⟨h.1,h.2.symm⟩
  have HF:Hid (meQ ms L sk i A=none):=zhi (fun h=>by rw[hp]at h;cases h.1)
  have HNO:Hid (∀U,MetA ms L sk i A w.heap.size U (.returned (.tuple #[.slice none 0 0,.bool false]))):=fun U=>MetA.no HF.out
  clear hL hm hA hpl hp HF
  go_enter Tryz.func127,Tryz.ntmps127
  go_wp2_with fail
  go_quiet ((go_at_call 168;exact Calls.quiet_of_same (HPL _)))
  go_wp2
  go_ret2
  exact⟨HNO.out _,below_drewN (Below.refl _ _) _⟩
 | true =>
 have hpl:=fun W=>zcz a ca L i W kl
 rw[hp]at hpl
 have HPL:∀W,Calls Tryz.prog 168 #[.slice a L.length ca,.int .i64 i] W fun e w'=>e=.returned (.bool true)/\w'=W:=fun W=>(hpl W).mono fun _ _ h=>⟨h.1,h.2.symm⟩
 obtain⟨p1,p2⟩:=zal.1 hp
 obtain⟨k,rfl⟩:∃k:Nat,i=(k:Int):=⟨i.toNat,by omega⟩
 have hk:k<L.length:=by omega
 have hA0:0<A.length:=by omega
 obtain⟨b0,o0,rfl,hb0,c0⟩:=hL.at (Below.refl _ _) k hk
 obtain⟨b1,o1,rfl,hb1,c1⟩:=hA.at (Below.refl _ _) 0 hA0
 rw[Nat.add_zero]at c1
 have HNE:Hid (¬L.getD k 0=A.getD 0 0->meQ ms L sk (k:Int) A=none):=fun h=>zhi (fun h1=>h h1.2)
 have HEQ:Hid (L.getD k 0=A.getD 0 0->MeI ms L sk (k:Int) A 1 [(k:Int)] (k:Int)):=fun h=>MeI.one hA0 hp h
 have HIK:Hid (I64 (k:Int)):=⟨by omega,by omega⟩
 have HL:Hid (Ri w (some ⟨b0,o0,none⟩) ca L):=hL
 have HM:Hid (Gr El.bool S w b cb ms):=hm
 have HA:Hid (Ri w (some ⟨b1,o1,none⟩) cq A):=hA
 obtain⟨x,hx⟩:∃x,L.getD k 0=x:=⟨_,rfl⟩
 obtain⟨y,hy⟩:∃y,A.getD 0 0=y:=⟨_,rfl⟩
 rw[hx]at c0 HNE HEQ;rw[hy]at c1 HNE HEQ
 have i1:(0:Int)<=(k:Int):=by omega
 have i2:(0:Int)<(A.length:Int):=by omega
 clear hL hm hA hpl hp hx hy
 by_cases hxy:x=y
 rotate_left
 . have d1:((x:Int) != (y:Int))=true:=by simp;exact hxy
   have HNO:Hid (∀U,MetA ms L sk (k:Int) A w.heap.size U (.returned (.tuple #[.slice none 0 0,.bool false]))):=fun U=>MetA.no (HNE.out hxy)
   clear HNE HEQ HL HM HA hxy
   go_enter Tryz.func127,Tryz.ntmps127
   go_wp2_with fail
   go_quiet ((go_at_call 168;exact Calls.quiet_of_same (HPL _)))
   go_wp2
   go_ret2
   exact⟨HNO.out _,below_drewN (Below.refl _ _) _⟩
 subst hxy
 have d1:((x:Int) != (x:Int))=false:=by simp
 have HI1:Hid (_):=HEQ.out rfl
 clear HNE HEQ h0
 go_enter Tryz.func127,Tryz.ntmps127
 go_wp2_with fail
 go_quiet ((go_at_call 168;exact Calls.quiet_of_same (HPL _)))
 have hBW:Below w.heap.size w (w.drewN nq):=below_drewN (Below.refl _ _) _
 clear c0 c1 HPL
 generalize w.drewN nq=W at hBW ⊢
 have HI0:Hid (Io w.heap.size (W.alloc (.cells #[.int .i64 (k:Int)] 3)) (.slice (some ⟨W.heap.size,0,none⟩) 1 1) [(k:Int)]):=Io.one HIK.out hBW.size
 have HB0:Hid (Below w.heap.size w (W.alloc (.cells #[.int .i64 (k:Int)] 3))):=hBW.trans ((bl1 _).mono hBW.size)
 clear hBW;go_wp2
 go_loopw [2,13,14] (fun z v i wr=>∃(j:Nat) (at':Int) (l:List Int),j<A.length/\i=.int .i64 ((j:Int)+1)/\z=.int .i64 at'/\Hid (MeI ms L sk (k:Int) A (j+1) l at')/\Io w.heap.size wr v l/\Below w.heap.size w wr) (fun _ _ i _=>A.length-(intOf i).toNat)
 case atStart=>exact⟨0,(k:Int),[(k:Int)],hA0,rfl,rfl,HI1,HI0.out,HB0.out⟩
 case round =>
  clear HI1 HI0 HB0;obtain⟨j,z,l,hj,rfl,rfl,HI,hIo,hB⟩:=hrel;obtain⟨av,cv,rfl,hri⟩:=hIo.slice
  have HLEN:Hid (l.length=j+1):=HI.out.len
  have hl1:l.length<=j+1:=by rw[HLEN.out];exact Nat.le_refl _
  have hpz:=zal.1 HI.out.pl
  by_cases hjn:j+1<A.length
  . obtain⟨b2,o2,e2,_,c2⟩:=HA.out.at hB (j+1) hjn
    cases e2
    have HST:Hid (_):=HI.out.stop hjn
    have HMO:Hid (_):=HI.out.more hjn
    have HNX:Hid (_):=nx_pl (ms:=ms) (sk:=sk) HI.out.pl
    have hnx:=zoe S (some ⟨b0,o0,none⟩) ca L b cb ms z sk wr (HL.out.below hB) (HM.out.below hB) ⟨by omega,by omega⟩
    obtain⟨r,hr⟩:∃r,nxQ ms L sk z=r:=⟨_,rfl⟩
    obtain⟨g,hg⟩:∃g,A.getD (j+1) 0=g:=⟨_,rfl⟩
    rw[hr]at hnx HST HMO HNX;rw[hg]at c2 HST HMO
    have i3:(j:Int)+1<(A.length:Int):=by omega
    have i4:(0:Int)<=(j:Int)+1:=by omega
    clear hr hg HI hri hpz
    go_wp2_with fail
    refine hnx.mono ?_
    rintro e u ⟨rfl,hbu⟩
    have hBu:=hB.trans (hbu.mono hB.size)
    have c3:=(hbu.cell (p:=⟨b1,o1+(j+1),none⟩) (Nat.lt_of_lt_of_le hb1 hB.size)).trans c2
    have hIu:=hIo.below hbu
    clear hnx hbu hB c2 hIo
    rcases HNX.out with rfl|⟨m,rfl,hm⟩
    . have HNO:Hid (∀U,MetA ms L sk (k:Int) A w.heap.size U (.returned (.tuple #[.slice none 0 0,.bool false]))):=fun U=>MetA.no (HST.out (.inl rfl))
      clear HST HMO HNX hIu
      go_wp2_with fail
      go_quiet (fail)
      go_wp2
      go_ret2
      exact⟨HNO.out _,below_drewN hBu _⟩
    . obtain⟨b4,o4,e4,_,c4⟩:=HL.out.at hBu m hm
      cases e4
      rw[Int.toNat_natCast]at HST HMO
      obtain⟨x2,hx2⟩:∃x,L.getD m 0=x:=⟨_,rfl⟩
      rw[hx2]at c4 HST HMO
      have e5:((m:Int) == -1)=false:=by rw[beq_eq_false_iff_ne];omega
      have i5:(0:Int)<=(m:Int):=by omega
      have i6:(m:Int)<(L.length:Int):=by omega
      clear hx2 HNX
      by_cases hxg:x2=g
      rotate_left
      . have d2:((x2:Int) != (g:Int))=true:=by simp;exact hxg
        have HNO:Hid (∀U,MetA ms L sk (k:Int) A w.heap.size U (.returned (.tuple #[.slice none 0 0,.bool false]))):=fun U=>MetA.no (HST.out (.inr hxg))
        clear HST HMO hIu hxg
        go_wp2_with fail
        go_quiet (fail)
        go_wp2
        go_ret2
        exact⟨HNO.out _,below_drewN hBu _⟩
      subst hxg
      have d2:((x2:Int) != (x2:Int))=false:=by simp
      have HMI:Hid (_):=HMO.out (fun h=>by
       rcases h with h|h
       . omega
       . exact h rfl)
      have HIM:Hid (I64 (m:Int)):=⟨by omega,by omega⟩
      clear HST HMO
      go_wp2_with fail
      go_quiet (fail)
      have hIq:Io w.heap.size (u.drewN nq) _ l:=hIu.below (below_drewN (Below.refl _ _) _)
      have hBq:=below_drewN hBu nq
      clear c3 c4 hIu hBu
      generalize u.drewN nq=y1 at hIq hBq ⊢
      have hT5:=hIq.below (bl1 (.cells #[.int .i64 (m:Int)] 3))
      have hN:=heap_alloc_new y1 (.cells #[.int .i64 (m:Int)] 3)
      have n0:=cell_of_row _ y1.heap.size 0 _ _ (0,0) hN
      have hll:l.length+1<=1000000:=by omega
      have hB6:Below w.heap.size w (y1.alloc (.cells #[.int .i64 (m:Int)] 3)):=hBq.alloc hBq.size _
      clear hN hIq
      go_wp2_with (at_builtin;refine zbc rfl _ _ rfl w.heap.size _ l rfl hT5 y1.heap.size (m:Int) rfl n0 HIM.out hll hB6.size ?_)
      intro v' w9 hT9 hgrow
      have hB9:Below w.heap.size w w9:=hB6.grown hgrow hB6.size (fun k hk=>hT5.lo hk)
      clear hgrow hT5 n0 hB6 hBq hll;go_wp2
      go_roundw
      case rel=>exact⟨j+1,(m:Int),_,hjn,by go_num,rfl,HMI,hT9,hB9⟩
      case measure=>simp[intOf];omega
  . have HY:Hid (MetA ms L sk (k:Int) A w.heap.size wr (.returned (.tuple #[.slice av l.length cv,.bool true]))):=MetA.yes (MeI.done (by rw[show A.length=j+1 by omega];exact HI.out)) hIo
    have g4:¬(j:Int)+1<(A.length:Int):=by omega
    clear HI hri hpz hIo;go_wp2
    go_ret2
    exact⟨HY.out,hB⟩
theorem zg2(S S2:Nat->Prop)(a:Option Addr)(ca:Nat)(L:List Int)(f t:Int)(b:Option Addr)(cb:Nat)(o:List Int)(w:World)
    (hL:Gr El.int S w a ca L) (ho:Gr El.int S2 w b cb o) (hf:I64 f) (ht:I64 t) (hl1:L.length<=1000) (hl2:o.length<=1000) :
    Calls Tryz.prog 128 #[.slice a L.length ca,.int .i64 f,.int .i64 t,.slice b o.length cb] w fun e w'=>PutA L f t o w.heap.size w' e/\Below w.heap.size w w':=by
 have kl:=hL.lenB
 obtain⟨f1,f2⟩:=hf;obtain⟨t1,t2⟩:=ht
 have hN0:Gi w.heap.size w (.slice none 0 0) []:=Gi.nil _ _
 by_cases zfs:0<=f/\f<=t/\t<=(L.length:Int)
 . obtain⟨g1,g2,g3⟩:=zfs
   obtain⟨p,rfl⟩:∃p:Nat,f=(p:Int):=⟨f.toNat,by omega⟩
   obtain⟨q,rfl⟩:∃q:Nat,t=(q:Int):=⟨t.toNat,by omega⟩
   have hpq:p<=q:=by omega
   have hqL:q<=L.length:=by omega
   have zus:=hL.1
   have HF:Hid (puL L (p:Int) (q:Int) o=L.take p++o++L.drop q):=zeb hpq hqL
   have d1:decide ((p:Int)<0)=false:=decide_eq_false (by omega)
   have d2:decide ((q:Int)<(p:Int))=false:=decide_eq_false (by omega)
   have d2n:decide (q<p)=false:=decide_eq_false (by omega)
   have d3:decide ((L.length:Int)<(q:Int))=false:=decide_eq_false (by omega)
   have d3n:decide (L.length<q)=false:=decide_eq_false (by omega)
   have hT:=hL.take p
   have hlp:(L.take p).length=p:=by rw[List.length_take];omega
   have HT:Hid (Gr El.int (fun k=>False/\(Value.slice none 0 0).ownBlock≠some k) w a ca (L.take p)):=hT.anyI
   have HL:Hid (Gr El.int S w a ca L):=hL
   have HO:Hid (Gr El.int S2 w b cb o):=ho
   obtain⟨P,hP⟩:∃P,L.take p=P:=⟨_,rfl⟩
   rw[hP]at HT HF hlp
   have HLP:Hid (P.length=p):=hlp
   have hlp1:P.length<=1000:=by omega
   clear hL ho hT hP hlp
   go_enter Tryz.func128,Tryz.ntmps128
   have hll:([]:List Int).length+P.length<=1000000:=by simp;omega
   go_wp2_with (at_builtin;refine zab 37 3 Tryz.underlying37 zbg rfl (by decide) (by decide) rfl _ _ rfl w.heap.size (fun _=>False) _ [] rfl hN0 a ca _ P HLP.out.symm rfl HT.out hll (Nat.le_refl _) ?_)
   intro v1 w1 hT1 hgrow _
   have hB1:Below w.heap.size w w1:=(Below.refl _ _).grown hgrow (Nat.le_refl _) (fun k hk=>by cases hk)
   obtain⟨a1,c1,e1,-,-⟩:=hT1.slice;subst e1
   have HT1:Hid (Gw El.int 3 w.heap.size (fun _=>False) w1 (.slice a1 P.length c1) P):=hT1
   have HO1:Hid (Gr El.int (fun k=>False/\(Value.slice a1 P.length c1).ownBlock≠some k) w1 b cb o):=(HO.out.below hB1).anyI
   have hll2:P.length+o.length<=1000000:=by omega
   have hW1:=hB1.size
   clear hgrow hT1 hll hN0
   go_wp2_with (at_builtin;refine zab 37 3 Tryz.underlying37 zbg rfl (by decide) (by decide) rfl _ _ rfl w.heap.size (fun _=>False) _ P rfl HT1.out b cb _ o rfl rfl HO1.out hll2 hW1 ?_)
   intro v2 w2 hT2 hgrow _
   have hB2:Below w.heap.size w w2:=hB1.grown hgrow hW1 (fun k hk=>(HT1.out.lo hk).1)
   have hlen2:(P++o).length<=2000:=by rw[List.length_append];omega
   obtain⟨R,hR⟩:∃R,P++o=R:=⟨_,rfl⟩
   rw[hR]at hT2 HF hlen2;obtain⟨a2,c2,e2,-,-⟩:=hT2.slice;subst e2
   have HT2:Hid (Gw El.int 3 w.heap.size (fun _=>False) w2 (.slice a2 R.length c2) R):=hT2
   have HQ:Hid (Gr El.int (fun k=>False/\(Value.slice a2 R.length c2).ownBlock≠some k) w2 (if ca=q then a else a.map (fun x=>x.add q)) (ca-q) (L.drop q)):=((HL.out.below hB2).cutI q hqL).anyI
   have zkb:(L.drop q).length<=1000:=by rw[List.length_drop];omega
   have HLD:Hid (L.length-q=(L.drop q).length):=by show _=_;rw[List.length_drop]
   obtain⟨D,hD⟩:∃D,L.drop q=D:=⟨_,rfl⟩
   rw[hD]at HQ zkb HLD HF
   have zhn:R.length+D.length<=1000000:=by omega
   have hW2:=hB2.size
   clear hgrow hT2 HT1 HO1 hll2 hW1 hB1 hR hD
   by_cases hc:ca=q
   . subst hc
     rw[if_pos rfl,Nat.sub_self]at HQ
     have HLD0:Hid (0=D.length):=by have:=HLD.out;show _=_;omega
     go_wp2_with (at_builtin;refine zab 37 3 Tryz.underlying37 zbg rfl (by decide) (by decide) rfl _ _ rfl w.heap.size (fun _=>False) _ R rfl HT2.out _ _ _ D HLD0.out rfl HQ.out zhn hW2 ?_)
     intro v3 w3 hT3 hgrow _
     have hB3:Below w.heap.size w w3:=hB2.grown hgrow hW2 (fun k hk=>(HT2.out.lo hk).1)
     have HV:Hid (PutA L (p:Int) (ca:Int) o w.heap.size w3 (.returned v3)):=⟨_,rfl,by rw[HF.out];exact hT3⟩
     clear hgrow hT3 zhn hW2;go_wp2
     go_ret
     exact⟨HV.out,hB3⟩
   . rw[if_neg hc]at HQ
     go_wp2_with (at_builtin;refine zab 37 3 Tryz.underlying37 zbg rfl (by decide) (by decide) rfl _ _ rfl w.heap.size (fun _=>False) _ R rfl HT2.out _ _ _ D HLD.out rfl HQ.out zhn hW2 ?_)
     intro v3 w3 hT3 hgrow _
     have hB3:Below w.heap.size w w3:=hB2.grown hgrow hW2 (fun k hk=>(HT2.out.lo hk).1)
     have HV:Hid (PutA L (p:Int) (q:Int) o w.heap.size w3 (.returned v3)):=⟨_,rfl,by rw[HF.out];exact hT3⟩
     clear hgrow hT3 zhn hW2;go_wp2
     go_ret
     exact⟨HV.out,hB3⟩
 . have HF:Hid (puL L f t o=L):=zlj zfs
   have HL:Hid (Gr El.int (fun k=>False/\(Value.slice none 0 0).ownBlock≠some k) w a ca L):=hL.anyI
   have hll:([]:List Int).length+L.length<=1000000:=by simp;omega
   by_cases b1:f<0
   . have d1:decide (f<0)=true:=decide_eq_true b1
     clear zfs hL ho b1
     go_enter Tryz.func128,Tryz.ntmps128
     go_wp2_with (at_builtin;refine zab 37 3 Tryz.underlying37 zbg rfl (by decide) (by decide) rfl _ _ rfl w.heap.size (fun _=>False) _ [] rfl hN0 a ca _ L rfl rfl HL.out hll (Nat.le_refl _) ?_)
     intro v1 w1 hT1 hgrow _
     have hB1:Below w.heap.size w w1:=(Below.refl _ _).grown hgrow (Nat.le_refl _) (fun k hk=>by cases hk)
     have HV:Hid (PutA L f t o w.heap.size w1 (.returned v1)):=⟨_,rfl,by rw[HF.out];exact hT1⟩
     clear hgrow hT1 hll hN0;go_wp2
     go_ret
     exact⟨HV.out,hB1⟩
   have d1:decide (f<0)=false:=decide_eq_false b1
   by_cases b2:t<f
   . have d2:decide (t<f)=true:=decide_eq_true b2
     clear zfs hL ho b1 b2
     go_enter Tryz.func128,Tryz.ntmps128
     go_wp2_with (at_builtin;refine zab 37 3 Tryz.underlying37 zbg rfl (by decide) (by decide) rfl _ _ rfl w.heap.size (fun _=>False) _ [] rfl hN0 a ca _ L rfl rfl HL.out hll (Nat.le_refl _) ?_)
     intro v1 w1 hT1 hgrow _
     have hB1:Below w.heap.size w w1:=(Below.refl _ _).grown hgrow (Nat.le_refl _) (fun k hk=>by cases hk)
     have HV:Hid (PutA L f t o w.heap.size w1 (.returned v1)):=⟨_,rfl,by rw[HF.out];exact hT1⟩
     clear hgrow hT1 hll hN0;go_wp2
     go_ret
     exact⟨HV.out,hB1⟩
   have d2:decide (t<f)=false:=decide_eq_false b2
   have d3:decide ((L.length:Int)<t)=true:=decide_eq_true (by omega)
   clear zfs hL ho b1 b2
   go_enter Tryz.func128,Tryz.ntmps128
   go_wp2_with (at_builtin;refine zab 37 3 Tryz.underlying37 zbg rfl (by decide) (by decide) rfl _ _ rfl w.heap.size (fun _=>False) _ [] rfl hN0 a ca _ L rfl rfl HL.out hll (Nat.le_refl _) ?_)
   intro v1 w1 hT1 hgrow _
   have hB1:Below w.heap.size w w1:=(Below.refl _ _).grown hgrow (Nat.le_refl _) (fun k hk=>by cases hk)
   have HV:Hid (PutA L f t o w.heap.size w1 (.returned v1)):=⟨_,rfl,by rw[HF.out];exact hT1⟩
   clear hgrow hT1 hll hN0;go_wp2
   go_ret
   exact⟨HV.out,hB1⟩
