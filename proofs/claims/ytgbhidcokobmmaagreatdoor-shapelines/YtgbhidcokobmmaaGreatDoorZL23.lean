import Derived.Test.YtgbhidcokobmmaaGreatDoorZL22
import Derived.Test.YtgbhidcokobmmaaGreatDoorZL21
set_option maxHeartbeats 8000000
set_option maxRecDepth 100000
set_option linter.unusedSimpArgs false
set_option linter.unusedVariables false
namespace Go.Proofs.YtgbhidcokobmmaaGreatDoor
open Go.RowKit Go.Maps
theorem zev(S:Nat->Prop)(a:Option Addr)(ca:Nat)(l:List Lk)(ga:Option Addr)(gc:Nat)(ma:Option Addr)(mc:Nat)(s:Sr)(g:Int)(w:World)(hl:Gr LkE S w a ca l)(k2:s.rw.length<=9223372036854775807)(hg:I64 g) :
 Calls Tryz.prog 40 #[.slice a l.length ca,.agg #[.slice ga s.rg.length gc,.slice ma s.rw.length mc],.int .i64 g] w fun e w'=>e=.returned (.bool (foM20 (fiS s) l g))/\Below w.heap.size w w':=by
 have kl:=hl.lenB
 obtain⟨W,hW,X2,hbW⟩:∃W,W=w.alloc (.cells #[.slice ga s.rg.length gc,.slice ma s.rw.length mc] 27)/\Bk 27 W w.heap.size [.slice ga s.rg.length gc,.slice ma s.rw.length mc]/\Below w.heap.size w W:=⟨_,rfl,Bk.new _ _ _,bl1 _⟩
 by_cases hn1:10<l.length
 . have HF:Hid (foM20 (fiS s) l g=false):=zgk hn1
   have g2:(10:Int)<(l.length:Int):=by omega
   clear hn1 hl X2
   go_enter Tryz.func40,Tryz.ntmps40
   go_upto_region 1 with fail
   rw[<-hW];clear hW;go_wp2
   go_ret
   exact⟨zaa HF.out.symm,hbW⟩
 have g2:¬(10:Int)<(l.length:Int):=by omega
 have HL:Hid (Gr LkE S W a ca l):=hl.below hbW
 have HX2:Hid (Bk 27 W w.heap.size [.slice ga s.rg.length gc,.slice ma s.rw.length mc]):=X2
 have HBW:Hid (Below w.heap.size w W):=hbW
 obtain⟨R,hR⟩:∃R,foM20 (fiS s) l g=R:=⟨_,rfl⟩
 have HBD:Hid (∀k,k<l.length->plF (fiS s) g (l.getD k Lk.none)=false->R=false):=fun k hk h=>by rw[<-hR];exact zi4 hk h
 have HYS:Hid ((∀k,k<l.length->plF (fiS s) g (l.getD k Lk.none)=true)->R=true):=fun h=>by rw[<-hR];exact zd0.2 ⟨by omega,h⟩
 rw[hR];clear hR hn1 hl
 go_enter Tryz.func40,Tryz.ntmps40
 go_upto_region 1 with fail
 rw[<-hW];clear hW X2 hbW;go_wp2;clear g2
 go_loopw [14] (fun i wr=>∃k:Nat,k<=l.length/\i=.int .i64 k/\Hid (∀j,j<k->plF (fiS s) g (l.getD j Lk.none)=true)/\Below W.heap.size W wr) (fun i _=>l.length-(intOf i).toNat)
 case atStart=>exact⟨0,Nat.zero_le _,rfl,(fun j hj=>by omega),Below.refl _ _⟩
 case round =>
  obtain⟨k,hk,rfl,HOK,hB⟩:=hrel
  have hBw:Below w.heap.size w wr:=HBW.out.trans (hB.mono HBW.out.size)
  by_cases hkn:k<l.length
  . obtain⟨b,off,ra,rc,ea,hb1,hkd,hrs,d0,d1,d2⟩:=HL.out.lk hB k hkn
    have zav:Hid (plF (fiS s) g (l.getD k Lk.none)=false->R=false):=HBD.out k hkn
    have za9:Hid (plF (fiS s) g (l.getD k Lk.none)=true->∀j,j<k+1->plF (fiS s) g (l.getD j Lk.none)=true):=fun h j hj=>by
     rcases Nat.lt_or_ge j k with h1|h1
     . exact HOK.out j h1
     . rw[show j=k by omega];exact h
    obtain⟨x,hx⟩:∃x,l.getD k Lk.none=x:=⟨_,rfl⟩
    rw[hx]at hkd hrs d0 d1 d2 zav za9;clear hx;obtain⟨kd,sk,rs⟩:=x;dsimp only at hkd hrs d0 d1 d2
    have i1:(0:Int)<=(k:Int):=by omega
    have i2:(k:Int)<(l.length:Int):=by omega
    subst ea
    obtain⟨U,hU,XG,hbU⟩:∃U,U=wr.alloc (.cells #[.int .i64 kd,.bool sk,.slice ra rs.length rc] 123)/\Bk 123 U wr.heap.size [.int .i64 kd,.bool sk,.slice ra rs.length rc]/\Below wr.heap.size wr U:=⟨_,rfl,Bk.new _ _ _,bl1 _⟩
    have hBU:=hB.trans (hbU.mono hB.size)
    have hwU:=hBw.trans (hbU.mono hBw.size)
    have hpu:=zfo kd U hkd
    have X2:=HX2.out.below hBU
    obtain⟨x0,x1,x2,-⟩:=XG.three;obtain⟨z0,z1,-⟩:=X2.two
    go_upto_region 6 with fail
    rw[<-hU];clear hU XG d0 d1 d2 HOK
    cases hp:mvB kd with
    | false =>
     rw[hp]at hpu
     have ze7:Hid (∀j,j<k+1->plF (fiS s) g (l.getD j Lk.none)=true):=za9.out (zio (x:=⟨kd,sk,rs⟩) hp)
     clear hp zav za9 hrs
     go_wp2_with fail
     refine hpu.mono ?_
     rintro e u ⟨rfl,rfl⟩;clear hpu x0 x1 x2 z0 z1 hB X2;go_wp2
     go_roundw
     case rel=>exact⟨k+1,by omega,by go_num,ze7,hBU⟩
     case measure=>simp[intOf];omega
    | true =>
     rw[hp]at hpu
     have hlo:plF (fiS s) g ⟨kd,sk,rs⟩=lfB (fiS s) g kd sk rs:=zt6 (x:=⟨kd,sk,rs⟩) hp
     have hlf:=zsz S kd sk ra rc rs ga gc ma mc s g U hkd (hrs.below hbU) k2 hg
     rw[hlo]at zav za9
     generalize lfB (fiS s) g kd sk rs=A at hlf zav za9
     clear hp hlo hrs
     go_wp2_with fail
     refine hpu.mono ?_
     rintro e u ⟨rfl,rfl⟩;clear hpu
     go_wp2_with fail
     refine hlf.mono ?_
     rintro e u ⟨rfl,hbu⟩
     have zaf:=hBU.trans (hbu.mono hBU.size)
     have hfw:=hwU.trans (hbu.mono hwU.size)
     clear hlf hbu x0 x1 x2 z0 z1 hB hBU X2
     cases A with
     | false =>
      have HF:Hid (R=false):=zav.out rfl
      clear zav za9;go_wp2
      go_ret
      exact⟨zaa HF.out.symm,hfw⟩
     | true =>
      have ze7:Hid (∀j,j<k+1->plF (fiS s) g (l.getD j Lk.none)=true):=za9.out rfl
      clear zav za9;go_wp2
      go_roundw
      case rel=>exact⟨k+1,by omega,by go_num,ze7,zaf⟩
      case measure=>simp[intOf];omega
  . have HF:Hid (R=true):=HYS.out (fun j hj=>HOK.out j (by omega))
    have g4:¬(k:Int)<(l.length:Int):=by omega
    clear HOK;go_wp2
    go_ret
    exact⟨zaa HF.out.symm,hBw⟩
theorem zex(S:Nat->Prop)(d:FoD)(x:Fo)(c:Option Addr)(cc:Nat)(cs:List Int)(o:Option Addr)(oc:Nat)(on:List ByteArray)(w:World)(h:FoR S w d x)(hB:FoB x)(hc:Gr El.int S w c cc cs)(ho:Gr El.str S w o oc on) :
 Calls Tryz.prog 28 #[fV d x,.slice c cs.length cc,.slice o on.length oc] w fun e w'=>RowF (chFt x.ft x.sw cs on) w.heap.size w' e/\Below w.heap.size w w':=by
 have kg:x.gl.length<=40:=hB.gl
 obtain⟨hg,hm,hl,hr,hk,hf,hs⟩:=h;obtain⟨xa,xl,xc,ba,bl,bc,ga,gc,ma,mc,la,lc,ta,tl,tc,da,dl,dc,ra,rc,ka,kc,fa,fc,sa,sc⟩:=d
 dsimp only[fV]at hg hm hl hr hk hf hs ⊢
 obtain⟨W,hW,XW,hbW⟩:∃W,W=w.alloc (.cells #[.slice xa xl xc,.slice ba bl bc,.slice ga x.s.rg.length gc,.slice ma x.s.rw.length mc,.slice la x.gl.length lc,.slice ta tl tc,.slice da dl dc,.slice ra x.rn.length rc,.slice ka x.lk.length kc,.slice fa x.ft.length fc,.slice sa x.sw.length sc] 36)/\Bk 36 W w.heap.size [.slice xa xl xc,.slice ba bl bc,.slice ga x.s.rg.length gc,.slice ma x.s.rw.length mc,.slice la x.gl.length lc,.slice ta tl tc,.slice da dl dc,.slice ra x.rn.length rc,.slice ka x.lk.length kc,.slice fa x.ft.length fc,.slice sa x.sw.length sc]/\Below w.heap.size w W:=⟨_,rfl,Bk.new _ _ _,bl1 _⟩
 obtain⟨-,-,-,-,-,-,-,-,-,x9,x10⟩:=XW.elevenH
 have hch:=zko S fa fc x.ft sa sc x.sw c cc cs o oc on W (hf.below hbW) (hs.below hbW) (hc.below hbW) (ho.below hbW) hB.f1 hB.f2 (by have:=hB.f3;omega)
 clear hg hm hl hr hk hf hs XW hc ho
 go_enter Tryz.func28,Tryz.ntmps28
 go_upto_region 1 with fail
 rw[<-hW];clear hW
 go_wp2_with fail
 refine hch.mono ?_
 rintro e u ⟨hrow,hb⟩;obtain⟨v,rfl,hG⟩:=hrow.out
 have HV:Hid (RowF (chFt x.ft x.sw cs on) w.heap.size u (.returned v)):=⟨_,rfl,hG.lowF hbW.size⟩
 have zaf:=hbW.trans (hb.mono hbW.size)
 clear hch hrow hG hb;go_wp2
 go_ret
 exact⟨HV.out,zaf⟩
theorem zt1{x:Fo}(h:x.gl.length<=40):shB x=(foU x.lk (x.gl.length:Int)&&foM20 (fiS x.s) x.lk (x.gl.length:Int)):=by
 unfold shB
 rw[decide_eq_true (show x.gl.length<=65536 by omega)]
 rfl
theorem zes(S:Nat->Prop)(d:FoD)(x:Fo)(w:World)(h:FoR S w d x)(hB:FoB x)(hT:Spn w) :
 Calls Tryz.prog 16 #[fV d x] w fun e w'=>e=.returned (.bool (shB x))/\Below w.heap.size w w':=by
 have HS:Hid (shB x=_):=zt1 hB.gl
 have kg:x.gl.length<=40:=hB.gl
 obtain⟨hg,hm,hl,hr,hk,hf,hs⟩:=h;obtain⟨xa,xl,xc,ba,bl,bc,ga,gc,ma,mc,la,lc,ta,tl,tc,da,dl,dc,ra,rc,ka,kc,fa,fc,sa,sc⟩:=d
 dsimp only[fV]at hg hm hl hr hk hf hs ⊢
 obtain⟨W,hW,XW,hbW⟩:∃W,W=w.alloc (.cells #[.slice xa xl xc,.slice ba bl bc,.slice ga x.s.rg.length gc,.slice ma x.s.rw.length mc,.slice la x.gl.length lc,.slice ta tl tc,.slice da dl dc,.slice ra x.rn.length rc,.slice ka x.lk.length kc,.slice fa x.ft.length fc,.slice sa x.sw.length sc] 36)/\Bk 36 W w.heap.size [.slice xa xl xc,.slice ba bl bc,.slice ga x.s.rg.length gc,.slice ma x.s.rw.length mc,.slice la x.gl.length lc,.slice ta tl tc,.slice da dl dc,.slice ra x.rn.length rc,.slice ka x.lk.length kc,.slice fa x.ft.length fc,.slice sa x.sw.length sc]/\Below w.heap.size w W:=⟨_,rfl,Bk.new _ _ _,bl1 _⟩
 obtain⟨-,-,x2,x3,x4,-,-,-,x8,-,-⟩:=XW.elevenH
 have hfu:=zgq S ka kc x.lk (x.gl.length:Int) W (hk.below hbW) ⟨by omega,by omega⟩ (hT.below hbW)
 have hfm:=fun U (hU:Below w.heap.size w U)=>zev S ka kc x.lk ga gc ma mc x.s (x.gl.length:Int) U (hk.below hU) hm.lenB ⟨by omega,by omega⟩
 have HXW:Hid (Bk 36 W w.heap.size _):=XW
 generalize foU x.lk (x.gl.length:Int)=A at hfu HS
 generalize foM20 (fiS x.s) x.lk (x.gl.length:Int)=B at hfm HS
 clear hg hm hl hr hk hf hs XW hT hB
 go_enter Tryz.func16,Tryz.ntmps16
 go_upto_region 1 with fail
 rw[<-hW];clear hW
 cases A with
 | false =>
  go_wp2_with fail
  refine hfu.mono ?_
  rintro e u ⟨rfl,hb⟩
  have zaf:=hbW.trans (hb.mono hbW.size)
  clear hfu hfm hb x2 x3 x4 x8;go_wp2
  go_ret
  exact⟨by rw[HS.out];rfl,zaf⟩
 | true =>
  go_wp2_with fail
  refine hfu.mono ?_
  rintro e u ⟨rfl,hb⟩
  have zaf:=hbW.trans (hb.mono hbW.size)
  have XU:=HXW.out.below hb
  clear hfu hb x2 x3 x4 x8 HXW;obtain⟨-,-,x2,x3,x4,-,-,-,x8,-,-⟩:=XU.elevenH
  have zyz:=hfm u zaf
  clear hfm XU
  go_wp2_with fail
  refine zyz.mono ?_
  rintro e u2 ⟨rfl,hb⟩
  have zwn:=zaf.trans (hb.mono zaf.size)
  clear zyz hb x2 x3 x4 x8;go_wp2
  go_ret
  exact⟨by rw[HS.out];rfl,zwn⟩
structure LnR(r:Int×List Int)(w':World)(e:Ending):Prop where
 out:∃a c,e=.returned (.tuple #[.slice a r.2.length c,.int .i64 r.1])/\Gr El.int (fun _=>True) w' a c r.2
theorem LnR.nil{r:Int×List Int}{k:Int}(h:r=(k,[]))(w':World):LnR r w' (.returned (.tuple #[.slice none 0 0,.int .i64 k])):=by
 subst h
 exact⟨none,0,rfl,Gr.nil _ _ _ _ _ (by decide) (fun _=>rfl)⟩
theorem zgo(S:Nat->Prop)(d:FoD)(x:Fo)(c:Option Addr)(cc:Nat)(cs:List Int)(t:ByteArray)(o:Option Addr)(oc:Nat)(on:List ByteArray)(w:World)(h:FoR S w d x)(hB:FoB x)(hc:Gr El.int S w c cc cs)(ho:Gr El.str S w o oc on)(ht:t.size<=100000)(hT:Spn w) :
 Calls Tryz.prog 10 #[fV d x,.slice c cs.length cc,.string t,.slice o on.length oc] w fun e w'=>LnR (lnP x cs (sb t) on) w' e/\Below w.heap.size w w':=by
 have kg:x.gl.length<=40:=hB.gl
 obtain⟨xa,xl,xc,ba,bl,bc,ga,gc,ma,mc,la,lc,ta,tl,tc,da,dl,dc,ra,rc,ka,kc,fa,fc,sa,sc⟩:=d
 have HSH:Hid (∀U,Below w.heap.size w U->Calls Tryz.prog 16 #[.agg #[.slice xa xl xc,.slice ba bl bc,.slice ga x.s.rg.length gc,.slice ma x.s.rw.length mc,.slice la x.gl.length lc,.slice ta tl tc,.slice da dl dc,.slice ra x.rn.length rc,.slice ka x.lk.length kc,.slice fa x.ft.length fc,.slice sa x.sw.length sc]] U fun e w'=>e=.returned (.bool (shB x))/\Below U.heap.size U w'):=fun U hU=>zes S ⟨xa,xl,xc,ba,bl,bc,ga,gc,ma,mc,la,lc,ta,tl,tc,da,dl,dc,ra,rc,ka,kc,fa,fc,sa,sc⟩ x U (h.below hU) hB (hT.below hU)
 have HCH:Hid (∀U,Below w.heap.size w U->Calls Tryz.prog 28 #[.agg #[.slice xa xl xc,.slice ba bl bc,.slice ga x.s.rg.length gc,.slice ma x.s.rw.length mc,.slice la x.gl.length lc,.slice ta tl tc,.slice da dl dc,.slice ra x.rn.length rc,.slice ka x.lk.length kc,.slice fa x.ft.length fc,.slice sa x.sw.length sc],.slice c cs.length cc,.slice o on.length oc] U fun e w'=>RowF (chFt x.ft x.sw cs on) U.heap.size w' e/\Below U.heap.size U w'):=fun U hU=>zex S ⟨xa,xl,xc,ba,bl,bc,ga,gc,ma,mc,la,lc,ta,tl,tc,da,dl,dc,ra,rc,ka,kc,fa,fc,sa,sc⟩ x c cc cs o oc on U (h.below hU) hB (hc.below hU) (ho.below hU)
 have HMK:Hid (∀U,Below w.heap.size w U->Calls Tryz.prog 29 #[.slice la x.gl.length lc] U fun e w'=>RowM (mkG x.gl) U.heap.size w' e/\Below U.heap.size U w'):=fun U hU=>zgm S la lc x.gl U (h.hl.below hU) (by omega)
 have HMP:Hid (∀U,Below w.heap.size w U->Calls Tryz.prog 26 #[.slice ra x.rn.length rc,.string t] U fun e w'=>∃v,e=.returned v/\Io U.heap.size w' v (mpC x.rn (sb t))/\Below U.heap.size U w'):=fun U hU=>ztm S ra rc x.rn t U (h.hr.below hU) ht hB.no
 have HLK:Hid (∀U,Below w.heap.size w U->Gr LkE S U ka kc x.lk/\Spn U):=fun U hU=>⟨h.hk.below hU,hT.below hU⟩
 obtain⟨W,hW,XW,hbW⟩:∃W,W=w.alloc (.cells #[.slice xa xl xc,.slice ba bl bc,.slice ga x.s.rg.length gc,.slice ma x.s.rw.length mc,.slice la x.gl.length lc,.slice ta tl tc,.slice da dl dc,.slice ra x.rn.length rc,.slice ka x.lk.length kc,.slice fa x.ft.length fc,.slice sa x.sw.length sc] 36)/\Bk 36 W w.heap.size [.slice xa xl xc,.slice ba bl bc,.slice ga x.s.rg.length gc,.slice ma x.s.rw.length mc,.slice la x.gl.length lc,.slice ta tl tc,.slice da dl dc,.slice ra x.rn.length rc,.slice ka x.lk.length kc,.slice fa x.ft.length fc,.slice sa x.sw.length sc]/\Below w.heap.size w W:=⟨_,rfl,Bk.new _ _ _,bl1 _⟩
 have hsh:=HSH.out W hbW
 have XU:=XW
 obtain⟨x0,x1,x2,x3,x4,x5,x6,x7,x8,x9,x10⟩:=XU.elevenH;clear h hB hc ho hT HSH
 go_enter Tryz.func10,Tryz.ntmps10
 go_upto_region 1 with fail
 rw[<-hW];clear hW
 cases hS:shB x with
 | false =>
  rw[hS]at hsh
  have HV:Hid (lnP x cs (sb t) on=(1,[])):=zug hS
  clear HCH HMK HMP HLK hS
  go_wp2_with fail
  refine hsh.mono ?_
  rintro e u ⟨rfl,hb⟩
  have zaf:=hbW.trans (hb.mono hbW.size)
  clear hsh hb x0 x1 x2 x3 x4 x5 x6 x7 x8 x9 x10;go_wp2
  go_ret2
  exact⟨LnR.nil HV.out _,zaf⟩
 | true =>
  rw[hS]at hsh
  go_wp2_with fail
  refine hsh.mono ?_
  rintro e u ⟨rfl,hb⟩
  have hb1:=hbW.trans (hb.mono hbW.size)
  replace XU:=XU.below hb
  have htl:=zi7 t u ht
  clear hsh hb x0 x1 x2 x3 x4 x5 x6 x7 x8 x9 x10
  by_cases zkd:100<(rns (sb t)).length
  . rw[decide_eq_true zkd]at htl
    have HV:Hid (lnP x cs (sb t) on=(3,[])):=zlt hS (by rw[zhh];exact zkd)
    clear HCH HMK HMP HLK hS zkd XW
    go_wp2_with fail
    refine htl.mono ?_
    rintro e u2 ⟨rfl,hb⟩
    have zaf:=hb1.trans (hb.mono hb1.size)
    clear htl hb;go_wp2
    go_ret2
    exact⟨LnR.nil HV.out _,zaf⟩
  . rw[decide_eq_false zkd]at htl
    have HV:Hid (lnP x cs (sb t) on=_):=zj6 hS (by rw[zhh];exact zkd)
    have HML:Hid ((mpC x.rn (sb t)).length<=100):=by show _<=_;rw[zhh];omega
    clear hS zkd XW
    go_wp2_with fail
    refine htl.mono ?_
    rintro e u2 ⟨rfl,hb⟩
    have hb2:=hb1.trans (hb.mono hb1.size)
    replace XU:=XU.below hb
    have hmp:=HMP.out u2 hb2
    clear htl hb hb1 HMP;obtain⟨x0,x1,x2,x3,x4,x5,x6,x7,x8,x9,x10⟩:=XU.elevenH
    go_wp2_with fail
    refine hmp.mono ?_
    rintro e u3 ⟨v,rfl,hIo,hb⟩
    obtain⟨va,vc,rfl,HGL⟩:=hIo.grL (S:=fun _=>True)
    have hb3:=hb2.trans (hb.mono hb2.size)
    replace XU:=XU.below hb
    generalize mpC x.rn (sb t)=M at HV HML HGL
    have HGM:Hid (Gr El.int (fun _=>True) u3 va vc M):=HGL
    clear hmp hIo hb hb2 HGL x0 x1 x2 x3 x4 x5 x6 x7 x8 x9 x10
    go_upto_region 6 with fail
    refine wp_region_held_drew (S:=fun u=>u.cell? ⟨w.heap.size,0,none⟩=some (.slice xa xl xc)/\u.cell? ⟨w.heap.size,1,none⟩=some (.slice ba bl bc)/\u.cell? ⟨w.heap.size,2,none⟩=some (.slice ga x.s.rg.length gc)/\u.cell? ⟨w.heap.size,3,none⟩=some (.slice ma x.s.rw.length mc)/\u.cell? ⟨w.heap.size,4,none⟩=some (.slice la x.gl.length lc)/\u.cell? ⟨w.heap.size,5,none⟩=some (.slice ta tl tc)/\u.cell? ⟨w.heap.size,6,none⟩=some (.slice da dl dc)/\u.cell? ⟨w.heap.size,7,none⟩=some (.slice ra x.rn.length rc)/\u.cell? ⟨w.heap.size,8,none⟩=some (.slice ka x.lk.length kc)/\u.cell? ⟨w.heap.size,9,none⟩=some (.slice fa x.ft.length fc)/\u.cell? ⟨w.heap.size,10,none⟩=some (.slice sa x.sw.length sc)) (by kernel_rfl) XU.elevenH (fun hH=>?_)
    have hdr:Below u3.heap.size u3 u3.drew:=Below.drew1
    generalize u3.drew=Z at hdr hH ⊢
    have hbz:=hb3.trans (hdr.mono hb3.size)
    have XZ:=XU.below hdr
    have HGZ:Hid (Gr El.int (fun _=>True) Z va vc M):=HGM.out.below hdr
    clear XU hdr hb3 HGM;refine hT 0 hH ?_;refine hT 1 hH ?_;refine hT 2 hH ?_;refine hT 3 hH ?_;refine hT 4 hH ?_;refine hT 6 hH ?_;refine hT 7 hH ?_;refine hT 9 hH ?_
    refine hCall (i:=5) rfl (by kernel_rfl) (by rfl) (fun K hK=>?_)
    go_simp
    refine(HCH.out Z hbz).mono ?_
    rintro e v1 ⟨hr1,hc1⟩;obtain⟨v5,rfl,hG1⟩:=hr1.out;obtain⟨ea,ec,rfl,R1,-⟩:=hG1.slice
    have zi1:=hbz.trans (hc1.mono hbz.size)
    have X1:=XZ.below hc1
    have HK1:Hid (Ri v1 ea ec (chFt x.ft x.sw cs on)):=R1
    generalize chFt x.ft x.sw cs on=C at HK1 HV
    have HG1:Hid (Gr El.int (fun _=>True) v1 va vc M):=HGZ.out.below hc1
    clear hr1 hG1 R1 hc1 hH
    go_wp2_with fail
    refine hK.out _ _ X1.elevenH (fun hH=>?_)
    clear hK K
    try simp only[Act.put,pZ]
    refine hCall (i:=8) rfl (by kernel_rfl) (by rfl) (fun K hK=>?_)
    go_simp
    refine(HMK.out v1 zi1).mono ?_
    rintro e v2 ⟨hr2,hc2⟩;obtain⟨v6,rfl,hG2⟩:=hr2.out;obtain⟨ma2,mc2,rfl,R2,-⟩:=hG2.slice;rw[zaw];rw[zaw]at hG2
    have zh3:=zi1.trans (hc2.mono zi1.size)
    have X2:=X1.below hc2
    obtain⟨hlk,hsp⟩:=HLK.out v2 zh3
    have hal:=zrd x.lk (mkG x.gl) S _ _ ka kc ma2 mc2 ea ec C va vc M v2 hlk R2 (HK1.out.below hc2) (HG1.out.below hc2) (by have:=HML.out;omega) hsp
    rw[zaw]at hal;clear hr2 hG2 R2 hc2 hH hlk hsp HGZ HK1 HG1 HLK HCH HMK
    go_wp2_with fail
    refine hK.out _ _ X2.elevenH (fun hH=>?_)
    clear hK K
    try simp only[Act.put,pZ]
    refine hCall (i:=10) rfl (by kernel_rfl) (by rfl) (fun K hK=>?_)
    go_simp
    refine(hal).mono ?_
    rintro e v3 ⟨hr3,hc3⟩
    have zaf:=zh3.trans (hc3.mono zh3.size)
    have X3:=X2.below hc3
    obtain⟨ra2,rc2,rfl,hG3⟩:=hr3.out;rw[<-HV.out]at hG3
    have HG3:Hid (LnR (lnP x cs (sb t) on) v3 (.returned (.tuple #[.slice ra2 (alP x.lk (mkG x.gl) C M).2.length rc2,.int .i64 (alP x.lk (mkG x.gl) C M).1]))):=⟨ra2,rc2,by rw[HV.out],hG3⟩
    generalize (alP x.lk (mkG x.gl) C M).2.length=n3 at HG3 ⊢
    generalize (alP x.lk (mkG x.gl) C M).1=e3 at HG3 ⊢
    clear hal hr3 hG3 hc3 hH HV
    go_wp2_with fail
    refine hK.out _ _ X3.elevenH (fun hH=>?_)
    clear hK K
    try simp only[Act.put,pZ]
    refine hT 11 hH ?_;refine hT 12 hH ?_;refine hT 13 hH ?_;refine hT 14 hH ?_
    refine wpAnyH_done (by kernel_rfl) ?_ _
    clear hH;go_wp2
    go_ret2
    exact⟨HG3.out,zaf⟩
theorem zwg:(Tryz.prog.info? 3).map (fun i=>(i.zero,i.size,i.bytes))=some (some (.int .i64 0),El.int.sz,8):=by kernel_rfl
theorem makeH(n:Nat)(hn:n<=1000)(w:World) :
 ∃w1,(Instr.makeSlice 37 (.int .i64 0) (.int .i64 (n:Int))).run Tryz.prog w=.ok (.slice (some ⟨w.heap.size,0,none⟩) 0 n) w1/\Gi w.heap.size w1 (.slice (some ⟨w.heap.size,0,none⟩) 0 n) []/\Below w.heap.size w w1:=by
 obtain⟨i0,hi0,hz0,hz1,hz2⟩:=info_parts zwg
 have hmk:=run_make (P:=Tryz.prog) w 37 3 i0 _ Tryz.underlying37 hi0 hz0 .i64 .i64 0 (n:Int) (by omega) (by omega) (by rw[hz2];omega) (by omega)
 rw[hz1]at hmk
 simp only[Int.toNat_zero,Int.toNat_natCast]at hmk
 refine⟨_,hmk,Gw.made ?_,bl1 _⟩
 have:=World.ownsRow_made (base:=w.heap.size) (e:=3) (size:=El.int.sz) w (madeCells (Value.int .i64 0).cells (n*El.int.sz)) n (Nat.le_refl _) (by unfold maxLen;omega) (size_madeCells _ _)
 simpa using this
theorem zu0(l:List Gl)(s:Sr)(g:Int)(cs:List Int):I64 (avN l s g cs):=by
 cases hg:gAt l g with
 | none=>rw[(zkx (s:=s) (cs:=cs) hg).1];exact⟨by decide,by decide⟩
 | some y =>
  rw[(zkw (s:=s) (cs:=cs) hg).1]
  have:=roN_i s y.ab y.ar cs
  exact⟨by omega,by omega⟩
structure AdV(x:Fo)(cs L:List Int)(base:Nat)(w':World)(e:Ending):Prop where
 out:∃v,e=.returned (.tuple #[v,.int .i64 (avF x.gl x.s cs L)])/\Gi base w' v (if avF x.gl x.s cs L=0 then avL x.gl x.s cs L else [])
theorem zrg(S:Nat->Prop)(d:FoD)(x:Fo)(c:Option Addr)(cc:Nat)(cs:List Int)(a:Option Addr)(ca:Nat)(L:List Int)(w:World)(h:FoR S w d x)(hB:FoB x)(hc:Ri w c cc cs)(hL:Ri w a ca L)(hn:L.length<=100) :
 Calls Tryz.prog 33 #[fV d x,.slice c cs.length cc,.slice a L.length ca] w fun e w'=>AdV x cs L w.heap.size w' e/\Below w.heap.size w w':=by
 have kg:x.gl.length<=40:=hB.gl
 obtain⟨hg,hm,hl,hr,hk,hf,hs⟩:=h;obtain⟨xa,xl,xc,ba,bl,bc,ga,gc,ma,mc,la,lc,ta,tl,tc,da,dl,dc,ra,rc,ka,kc,fa,fc,sa,sc⟩:=d
 dsimp only[fV]at hg hm hl hr hk hf hs ⊢
 obtain⟨W,hW,XW,hbW⟩:∃W,W=w.alloc (.cells #[.slice xa xl xc,.slice ba bl bc,.slice ga x.s.rg.length gc,.slice ma x.s.rw.length mc,.slice la x.gl.length lc,.slice ta tl tc,.slice da dl dc,.slice ra x.rn.length rc,.slice ka x.lk.length kc,.slice fa x.ft.length fc,.slice sa x.sw.length sc] 36)/\Bk 36 W w.heap.size [.slice xa xl xc,.slice ba bl bc,.slice ga x.s.rg.length gc,.slice ma x.s.rw.length mc,.slice la x.gl.length lc,.slice ta tl tc,.slice da dl dc,.slice ra x.rn.length rc,.slice ka x.lk.length kc,.slice fa x.ft.length fc,.slice sa x.sw.length sc]/\Below w.heap.size w W:=⟨_,rfl,Bk.new _ _ _,bl1 _⟩
 have HGA:Hid (∀U z,Below w.heap.size w U->I64 z->Calls Tryz.prog 62 #[.slice la x.gl.length lc,.agg #[.slice ga x.s.rg.length gc,.slice ma x.s.rw.length mc],.int .i64 z,.slice c cs.length cc] U fun e w'=>e=.returned (.tuple #[.int .i64 (avN x.gl x.s z cs),.int .i64 (avE x.gl x.s z cs)])/\Below U.heap.size U w'):=fun U z hU hz =>
  zi3 S la lc x.gl ga gc ma mc x.s z c cc cs U (hl.below hU) (hg.below hU) (hm.below hU) (hc.below hU) hz hB.g40 hB.r8
 have HLL:Hid (Ri W a ca L):=hL.below hbW
 obtain⟨w1,hmk,hG0,hb1⟩:=makeH L.length (by omega) W
 have HXW:Hid (Bk 36 W w.heap.size _):=XW
 have HLW:Hid (Ri W a ca L):=hL.below hbW
 have HI:Hid (∀k,k<L.length->I64 (L.getD k 0)):=fun k hk=>hL.i64 hk
 clear hg hm hl hr hk hf hs XW hB hc hL
 generalize hv0:(Value.slice (some ⟨W.heap.size,0,none⟩) 0 L.length)=v0 at hmk hG0
 have HG0:Hid (Gi W.heap.size w1 v0 (avL x.gl x.s cs (L.take 0))):=hG0
 clear hG0 hv0
 go_enter Tryz.func33,Tryz.ntmps33
 go_upto_region 1 with fail
 rw[<-hW];clear hW;go_wp2;clear hmk
 go_loopw [8,18] (fun v i wr=>∃k:Nat,k<=L.length/\i=.int .i64 k/\Hid (Gi W.heap.size wr v (avL x.gl x.s cs (L.take k)))/\Hid (avF x.gl x.s cs L=avF x.gl x.s cs (L.drop k))/\Below W.heap.size W wr) (fun _ i _=>L.length-(intOf i).toNat)
 case atStart=>exact⟨0,Nat.zero_le _,rfl,HG0.out,rfl,hb1⟩
 case round =>
  clear HG0 hb1;obtain⟨k,hk,rfl,HG,HA,hB⟩:=hrel
  have hBw:=hbW.trans (hB.mono hbW.size)
  obtain⟨oa,oc,ev,-,-⟩:=HG.out.slice;rw[zeh,List.length_take,Nat.min_eq_left hk]at ev;subst ev
  by_cases hkn:k<L.length
  . obtain⟨b1,o1,e1,hb1,d0⟩:=HLW.out.at hB k hkn
    have HST:=@zmf x.gl x.s cs L k hkn
    have HON:=@zu1 x.gl x.s cs L k hkn
    have ztv:=@zrh x.gl x.s cs L k hkn
    have hz:=HI.out k hkn
    have XU:=HXW.out.below hB
    generalize L.getD k 0=z at d0 HST HON ztv hz
    have hga:=HGA.out wr z hBw hz
    have hzi:=zu0 x.gl x.s z cs
    generalize avN x.gl x.s z cs=y at hga hzi HST
    generalize avE x.gl x.s z cs=E at hga HON ztv
    have zxg:Hid (_):=HST
    have zgv:Hid (_):=HON
    have zk4:Hid (_):=ztv
    subst e1
    have i1:(0:Int)<=(k:Int):=by omega
    have i2:(k:Int)<(L.length:Int):=by omega
    obtain⟨-,-,x2,x3,x4,-,-,-,-,-,-⟩:=XU.elevenH;clear HST HON ztv hz XU
    go_wp2_with fail
    refine hga.mono ?_
    rintro e u ⟨rfl,hb⟩
    have hBu:=hB.trans (hb.mono hB.size)
    have zaf:=hbW.trans (hBu.mono hbW.size)
    have HG3:Hid (Gi W.heap.size u (.slice oa k oc) (avL x.gl x.s cs (L.take k))):=HG.out.below hb
    clear hga HG hB hBw x2 x3 x4 d0
    by_cases hE:E=0
    . subst hE
      have HA2:Hid (avF x.gl x.s cs L=avF x.gl x.s cs (L.drop (k+1))):=by show _=_;rw[HA.out,zgv.out rfl]
      obtain⟨V9,hV9,Y9,hb9⟩:∃V,V=u.alloc (.cells #[.int .i64 y] 3)/\Bk 3 V u.heap.size [.int .i64 y]/\Below u.heap.size u V:=⟨_,rfl,Bk.new _ _ _,bl1 _⟩
      have hGb:=HG3.out.below hb9
      have hBb:=hBu.trans (hb9.mono hBu.size)
      have hbs:W.heap.size<=V9.heap.size:=hBb.size
      have hll:(avL x.gl x.s cs (L.take k)).length+1<=1000000:=by rw[zeh,List.length_take];omega
      have hlt:=Y9.lt
      have y0:V9.cell? ⟨u.heap.size,0,none⟩=some (.int .i64 y):=Y9.cell 0 (by simp)
      have HLO:Hid (∀q,(Value.slice oa k oc).ownBlock=some q->W.heap.size<=q):=fun q hq=>(HG3.out.lo hq).1
      clear HG3 HA zgv zk4 hb zaf
      go_wp2_with (at_builtin;rw[<-hV9];refine za7 rfl _ _ rfl W.heap.size _ (avL x.gl x.s cs (L.take k)) rfl hGb u.heap.size y rfl hlt y0 hzi hll hbs ?_)
      intro v9 w9 hT9 hgrow _
      rw[<-hV9]at hgrow;rw[<-zxg.out]at hT9
      have HT9:Hid (Gi W.heap.size w9 v9 (avL x.gl x.s cs (L.take (k+1)))):=hT9
      have hB9:Below W.heap.size W w9:=hBb.grown hgrow hBb.size (fun q hq=>HLO.out q hq)
      clear hT9 hgrow hGb hbs hll hBb hV9 Y9 hBu y0 hlt hb9 hzi HLO;go_wp2
      go_roundw
      case rel=>exact⟨k+1,by omega,by go_num,HT9,HA2,hB9⟩
      case measure=>simp[intOf];omega
    . have HA2:Hid (avF x.gl x.s cs L=E):=HA.out.trans (zk4.out hE)
      have g1:(E != 0)=true:=bne_iff_ne.2 hE
      have HEE:Hid (E≠0):=hE
      clear HG3 HA zgv zk4 hb hE;go_wp2
      go_ret2
      exact⟨⟨_,by rw[HA2.out];rfl,by rw[HA2.out,if_neg HEE.out];exact Gi.nil _ _⟩,zaf⟩
  . obtain rfl:k=L.length:=by omega
    have HA2:Hid (avF x.gl x.s cs L=0):=HA.out.trans zri
    have HG2:Hid (Gi w.heap.size wr (.slice oa L.length oc) (avL x.gl x.s cs L)):=by
     have:=HG.out
     rw[List.take_length]at this
     exact this.lowF hbW.size
    have g4:¬(L.length:Int)<(L.length:Int):=by omega
    clear HG HA;go_wp2
    go_ret2
    exact⟨⟨_,by rw[HA2.out];rfl,by rw[HA2.out,if_pos rfl];exact HG2.out⟩,hBw⟩
theorem Ln.fx{base:Nat}{w:World}{g n c:Nat}{P:List Pd}{k:Nat}(h:Ln base w (.slice (some ⟨g,0,none⟩) n c) P)(hk:k<P.length){q:Pd}(hq:P.getD k Pd.none=q):(∀x,I64 x->Ln base (w.setCell ⟨g,k*4+1,none⟩ (.int .i64 x)) (.slice (some ⟨g,0,none⟩) n c) (P.set k ⟨q.g,x,q.y,q.a⟩))/\w.frozen? ⟨g,k*4+1,none⟩=false/\w.cell? ⟨g,k*4+1,none⟩=some (.int .i64 q.x):=by
 obtain⟨-,h1,-,-,hf,-,-,h2,-,-⟩:=h.at hk
 rw[hq]at h1 h2
 exact⟨h1,hf _,h2⟩
theorem Ln.fy{base:Nat}{w:World}{g n c:Nat}{P:List Pd}{k:Nat}(h:Ln base w (.slice (some ⟨g,0,none⟩) n c) P)(hk:k<P.length){q:Pd}(hq:P.getD k Pd.none=q):(∀x,I64 x->Ln base (w.setCell ⟨g,k*4+2,none⟩ (.int .i64 x)) (.slice (some ⟨g,0,none⟩) n c) (P.set k ⟨q.g,q.x,x,q.a⟩))/\w.frozen? ⟨g,k*4+2,none⟩=false/\w.cell? ⟨g,k*4+2,none⟩=some (.int .i64 q.y):=by
 obtain⟨-,-,h1,-,hf,-,-,-,h2,-⟩:=h.at hk
 rw[hq]at h1 h2
 exact⟨h1,hf _,h2⟩
theorem Ln.fa{base:Nat}{w:World}{g n c:Nat}{P:List Pd}{k:Nat}(h:Ln base w (.slice (some ⟨g,0,none⟩) n c) P)(hk:k<P.length){q:Pd}(hq:P.getD k Pd.none=q):(∀x,I64 x->Ln base (w.setCell ⟨g,k*4+3,none⟩ (.int .i64 x)) (.slice (some ⟨g,0,none⟩) n c) (P.set k ⟨q.g,q.x,q.y,x⟩))/\w.frozen? ⟨g,k*4+3,none⟩=false/\w.cell? ⟨g,k*4+3,none⟩=some (.int .i64 q.a):=by
 obtain⟨-,-,-,h1,hf,-,-,-,-,h2⟩:=h.at hk
 rw[hq]at h1 h2
 exact⟨h1,hf _,h2⟩
theorem zpr(ga:Option Addr)(gc:Nat)(ma:Option Addr)(mc:Nat)(s:Sr)(ka:Option Addr)(kc:Nat)(ms:List Bool)(pa:Option Addr)(pc:Nat)(cs:List Int)(lb lc:Nat)(na:Option Addr)(nn nc:Nat)(P:List Pd)(base i:Nat)(n0 n1 n2:Int)(w:World)(hL:Ln base w (.slice (some ⟨lb,0,none⟩) P.length lc) P)(hi:i<P.length)(q:Pd)(hq:P.getD i Pd.none=q) :
 Calls Tryz.prog 132 #[.agg #[.slice ga s.rg.length gc,.slice ma s.rw.length mc,.slice ka ms.length kc,.slice pa cs.length pc,.slice (some ⟨lb,0,none⟩) P.length lc,.slice na nn nc],.int .i64 (i:Int),.agg #[.int .i64 n0,.int .i64 n1,.int .i64 n2]] w fun e w'=>e=.returned (.tuple #[])/\Ln base w' (.slice (some ⟨lb,0,none⟩) P.length lc) (P.set i ⟨q.g,w6 (q.x+n0),w6 (q.y+n1),w6 (q.a+n2)⟩)/\Kp lb w w':=by
 have hlb:lb<w.heap.size:=(Ln.lo hL (g:=lb) rfl).2
 have kl:=(show _ from hL.slice.choose_spec.choose_spec.2.1).lenB
 obtain⟨W,hW,X1,X2,hbW⟩:∃W,W=(w.alloc (.cells #[.slice ga s.rg.length gc,.slice ma s.rw.length mc,.slice ka ms.length kc,.slice pa cs.length pc,.slice (some ⟨lb,0,none⟩) P.length lc,.slice na nn nc] 119)).alloc (.cells #[.int .i64 n0,.int .i64 n1,.int .i64 n2] 199)/\Bk 119 W w.heap.size [.slice ga s.rg.length gc,.slice ma s.rw.length mc,.slice ka ms.length kc,.slice pa cs.length pc,.slice (some ⟨lb,0,none⟩) P.length lc,.slice na nn nc]/\Bk 199 W (w.heap.size+1) [.int .i64 n0,.int .i64 n1,.int .i64 n2]/\Below w.heap.size w W:=by
  obtain⟨h1,h2,h3⟩:=new2B w 119 199 [.slice ga s.rg.length gc,.slice ma s.rw.length mc,.slice ka ms.length kc,.slice pa cs.length pc,.slice (some ⟨lb,0,none⟩) P.length lc,.slice na nn nc] [.int .i64 n0,.int .i64 n1,.int .i64 n2]
  exact⟨_,rfl,h1,h2,h3⟩
 obtain⟨m0,m1,m2,m3,m4,m5⟩:=X1.six21;obtain⟨⟨c0,c1,c2⟩,-⟩:=X2.three3
 have HLW:Hid (Ln base W (.slice (some ⟨lb,0,none⟩) P.length lc) P):=hL.below hbW
 have HKW:Hid (Kp lb w W):=Kp.of hbW
 have i1:(0:Int)<=(i:Int):=by omega
 have i2:(i:Int)<(P.length:Int):=by omega
 have hl2:lb≠w.heap.size+1:=by omega
 have HPL:Hid (∀p:Pd,(P.set i p).getD i Pd.none=p):=fun p=>zdz hi p
 have HPS:Hid (∀p r:Pd,(P.set i p).set i r=P.set i r):=fun p r=>List.set_set ..
 have HLN:Hid (∀p:Pd,i<(P.set i p).length):=fun p=>by rw[List.length_set];exact hi
 have HLB:Hid (lb<W.heap.size):=by have:=hbW.size;show _<_;omega
 have HCB:Hid (w.heap.size+1<W.heap.size):=X2.lt
 clear hL X1 X2
 go_enter Tryz.func132,Tryz.ntmps132
 go_upto_region 2 with fail
 rw[<-hW];clear hW m0 m1 m2 m3 m4 m5 hbW
 obtain⟨Y0,hY0⟩:∃Y,Y=W:=⟨_,rfl⟩
 have HL0:Hid (Ln base Y0 (.slice (some ⟨lb,0,none⟩) P.length lc) P):=by rw[hY0];exact HLW.out
 have HK0:Hid (Kp lb w Y0):=by rw[hY0];exact HKW.out
 have HB0:Hid (lb<Y0.heap.size/\w.heap.size+1<Y0.heap.size):=by rw[hY0];exact⟨HLB.out,HCB.out⟩
 rw[<-hY0]at c0 c1 c2 ⊢;clear hY0 HLW HKW HLB HCB
 have hdr:Below Y0.heap.size Y0 Y0.drew:=(Below.refl _ _).drew
 have HLZ:Hid (Ln base Y0.drew (.slice (some ⟨lb,0,none⟩) P.length lc) P):=HL0.out.below hdr
 have HKZ:Hid (Kp lb w Y0.drew):=HK0.out.trans (Kp.of hdr)
 have HBZ:Hid (lb<Y0.drew.heap.size/\w.heap.size+1<Y0.drew.heap.size):=⟨Nat.lt_of_lt_of_le HB0.out.1 hdr.size,Nat.lt_of_lt_of_le HB0.out.2 hdr.size⟩
 replace c1:=(hdr.cell (p:=⟨w.heap.size+1,1,none⟩) HB0.out.2).trans c1
 replace c2:=(hdr.cell (p:=⟨w.heap.size+1,2,none⟩) HB0.out.2).trans c2
 refine wp_region_held_drew (S:=fun u=>u.cell? ⟨w.heap.size+1,0,none⟩=some (.int .i64 n0)) (by kernel_rfl) c0 (fun hH=>?_)
 clear HL0 HK0 HB0 hdr c0
 generalize Y0.drew=Z0 at hH HLZ HKZ HBZ c1 c2 ⊢
 obtain⟨hs,hf,hx⟩:=Ln.fx HLZ.out hi hq
 skip
 skip
 refine hT 0 hH ?_;refine hT 1 hH ?_;refine hT 2 hH ?_;refine hT 4 hH ?_;refine hT 5 hH ?_
 refine hCall (i:=3) rfl (by kernel_rfl) (by rfl) (fun K hK=>?_)
 go_simp
 refine hK.out _ _ hH (fun hH=>?_)
 clear hK K
 try simp only[Act.put,pZ]
 refine hT 6 hH ?_;refine hT 7 hH ?_;refine hT 8 hH ?_
 have HS0:Hid (Ln base (Z0.setCell ⟨lb,i*4+1,none⟩ (.int .i64 (w6 (q.x+n0)))) (.slice (some ⟨lb,0,none⟩) P.length lc) (P.set i (⟨q.g,w6 (q.x+n0),q.y,q.a⟩:Pd))):=hs _ (w6_in _)
 have HK1:Hid (Kp lb w (Z0.setCell ⟨lb,i*4+1,none⟩ (.int .i64 (w6 (q.x+n0))))):=HKZ.out.setCell _ _
 have HB1:Hid (lb<(Z0.setCell ⟨lb,i*4+1,none⟩ (.int .i64 (w6 (q.x+n0)))).heap.size/\w.heap.size+1<(Z0.setCell ⟨lb,i*4+1,none⟩ (.int .i64 (w6 (q.x+n0)))).heap.size):=by
  show _/\_
  rw[show(Z0.setCell ⟨lb,i*4+1,none⟩ (.int .i64 (w6 (q.x+n0)))).heap.size=Z0.heap.size by simp[World.setCell]]
  exact HBZ.out
 replace c1:=(World.cell?_setCell_other Z0 ⟨lb,i*4+1,none⟩ ⟨w.heap.size+1,1,none⟩ (.int .i64 (w6 (q.x+n0))) (fun e=>hl2 (congrArg Addr.block e))).trans c1
 replace c2:=(World.cell?_setCell_other Z0 ⟨lb,i*4+1,none⟩ ⟨w.heap.size+1,2,none⟩ (.int .i64 (w6 (q.x+n0))) (fun e=>hl2 (congrArg Addr.block e))).trans c2
 refine hCall (i:=9) rfl (by kernel_rfl) (by rfl) (fun K hK=>?_)
 go_simp;rw[w6_eq]
 refine hK.out _ _ ((World.cell?_setCell_other Z0 ⟨lb,i*4+1,none⟩ ⟨w.heap.size+1,0,none⟩ (.int .i64 (w6 (q.x+n0))) (fun e=>hl2 (congrArg Addr.block e))).trans hH) (fun hH=>?_)
 clear hK K
 try simp only[Act.put,pZ]
 refine wpAnyH_done (by kernel_rfl) ?_ _
 clear hH hs hf hx HLZ HKZ HBZ
 try rw[w6_eq]
 obtain⟨A0,hA0⟩:∃A,w6 (q.x+n0)=A:=⟨_,rfl⟩
 have HA0:Hid (w6 (q.x+n0)=A0):=hA0
 rw[hA0]at HS0 HK1 HB1 c1 c2 ⊢;clear hA0
 obtain⟨Y1,hY⟩:∃Y,Y=Z0.setCell ⟨lb,i*4+1,none⟩ (.int .i64 A0):=⟨_,rfl⟩
 rw[<-hY]at HS0 HK1 HB1 c1 c2 ⊢;clear hY
 have HL1:Hid (Ln base Y1 (.slice (some ⟨lb,0,none⟩) P.length lc) (P.set i (⟨q.g,A0,q.y,q.a⟩:Pd))):=HS0.out
 clear HS0
 go_upto_region 3 with fail
 have hdr:Below Y1.heap.size Y1 Y1.drew:=(Below.refl _ _).drew
 have HLZ:Hid (Ln base Y1.drew (.slice (some ⟨lb,0,none⟩) P.length lc) (P.set i (⟨q.g,A0,q.y,q.a⟩:Pd))):=HL1.out.below hdr
 have HKZ:Hid (Kp lb w Y1.drew):=HK1.out.trans (Kp.of hdr)
 have HBZ:Hid (lb<Y1.drew.heap.size/\w.heap.size+1<Y1.drew.heap.size):=⟨Nat.lt_of_lt_of_le HB1.out.1 hdr.size,Nat.lt_of_lt_of_le HB1.out.2 hdr.size⟩
 replace c2:=(hdr.cell (p:=⟨w.heap.size+1,2,none⟩) HB1.out.2).trans c2
 refine wp_region_held_drew (S:=fun u=>u.cell? ⟨w.heap.size+1,1,none⟩=some (.int .i64 n1)) (by kernel_rfl) c1 (fun hH=>?_)
 clear HL1 HK1 HB1 hdr c1
 generalize Y1.drew=Z1 at hH HLZ HKZ HBZ c2 ⊢
 obtain⟨hs,hf,hx⟩:=Ln.fy HLZ.out (HLN.out _) (HPL.out _)
 dsimp only at hs hx
 skip
 refine hT 0 hH ?_;refine hT 1 hH ?_;refine hT 2 hH ?_;refine hT 4 hH ?_;refine hT 5 hH ?_
 refine hCall (i:=3) rfl (by kernel_rfl) (by rfl) (fun K hK=>?_)
 go_simp
 refine hK.out _ _ hH (fun hH=>?_)
 clear hK K
 try simp only[Act.put,pZ]
 refine hT 6 hH ?_;refine hT 7 hH ?_;refine hT 8 hH ?_
 have HS1:Hid (Ln base (Z1.setCell ⟨lb,i*4+2,none⟩ (.int .i64 (w6 (q.y+n1)))) (.slice (some ⟨lb,0,none⟩) P.length lc) ((P.set i (⟨q.g,A0,q.y,q.a⟩:Pd)).set i (⟨q.g,A0,w6 (q.y+n1),q.a⟩:Pd))):=hs _ (w6_in _)
 have HK2:Hid (Kp lb w (Z1.setCell ⟨lb,i*4+2,none⟩ (.int .i64 (w6 (q.y+n1))))):=HKZ.out.setCell _ _
 have HB2:Hid (lb<(Z1.setCell ⟨lb,i*4+2,none⟩ (.int .i64 (w6 (q.y+n1)))).heap.size/\w.heap.size+1<(Z1.setCell ⟨lb,i*4+2,none⟩ (.int .i64 (w6 (q.y+n1)))).heap.size):=by
  show _/\_
  rw[show(Z1.setCell ⟨lb,i*4+2,none⟩ (.int .i64 (w6 (q.y+n1)))).heap.size=Z1.heap.size by simp[World.setCell]]
  exact HBZ.out
 replace c2:=(World.cell?_setCell_other Z1 ⟨lb,i*4+2,none⟩ ⟨w.heap.size+1,2,none⟩ (.int .i64 (w6 (q.y+n1))) (fun e=>hl2 (congrArg Addr.block e))).trans c2
 refine hCall (i:=9) rfl (by kernel_rfl) (by rfl) (fun K hK=>?_)
 go_simp;rw[w6_eq]
 refine hK.out _ _ ((World.cell?_setCell_other Z1 ⟨lb,i*4+2,none⟩ ⟨w.heap.size+1,1,none⟩ (.int .i64 (w6 (q.y+n1))) (fun e=>hl2 (congrArg Addr.block e))).trans hH) (fun hH=>?_)
 clear hK K
 try simp only[Act.put,pZ]
 refine wpAnyH_done (by kernel_rfl) ?_ _
 clear hH hs hf hx HLZ HKZ HBZ
 try rw[w6_eq]
 rw[HPS.out]at HS1
 obtain⟨A1,hA1⟩:∃A,w6 (q.y+n1)=A:=⟨_,rfl⟩
 have HA1:Hid (w6 (q.y+n1)=A1):=hA1
 rw[hA1]at HS1 HK2 HB2 c2 ⊢;clear hA1
 obtain⟨Y2,hY⟩:∃Y,Y=Z1.setCell ⟨lb,i*4+2,none⟩ (.int .i64 A1):=⟨_,rfl⟩
 rw[<-hY]at HS1 HK2 HB2 c2 ⊢;clear hY
 have HL2:Hid (Ln base Y2 (.slice (some ⟨lb,0,none⟩) P.length lc) (P.set i (⟨q.g,A0,A1,q.a⟩:Pd))):=HS1.out
 clear HS1
 go_upto_region 4 with fail
 have hdr:Below Y2.heap.size Y2 Y2.drew:=(Below.refl _ _).drew
 have HLZ:Hid (Ln base Y2.drew (.slice (some ⟨lb,0,none⟩) P.length lc) (P.set i (⟨q.g,A0,A1,q.a⟩:Pd))):=HL2.out.below hdr
 have HKZ:Hid (Kp lb w Y2.drew):=HK2.out.trans (Kp.of hdr)
 have HBZ:Hid (lb<Y2.drew.heap.size/\w.heap.size+1<Y2.drew.heap.size):=⟨Nat.lt_of_lt_of_le HB2.out.1 hdr.size,Nat.lt_of_lt_of_le HB2.out.2 hdr.size⟩
 refine wp_region_held_drew (S:=fun u=>u.cell? ⟨w.heap.size+1,2,none⟩=some (.int .i64 n2)) (by kernel_rfl) c2 (fun hH=>?_)
 clear HL2 HK2 HB2 hdr c2
 generalize Y2.drew=Z2 at hH HLZ HKZ HBZ  ⊢
 obtain⟨hs,hf,hx⟩:=Ln.fa HLZ.out (HLN.out _) (HPL.out _)
 dsimp only at hs hx
 skip
 refine hT 0 hH ?_;refine hT 1 hH ?_;refine hT 2 hH ?_;refine hT 4 hH ?_;refine hT 5 hH ?_
 refine hCall (i:=3) rfl (by kernel_rfl) (by rfl) (fun K hK=>?_)
 go_simp
 refine hK.out _ _ hH (fun hH=>?_)
 clear hK K
 try simp only[Act.put,pZ]
 refine hT 6 hH ?_;refine hT 7 hH ?_;refine hT 8 hH ?_
 have HS2:Hid (Ln base (Z2.setCell ⟨lb,i*4+3,none⟩ (.int .i64 (w6 (q.a+n2)))) (.slice (some ⟨lb,0,none⟩) P.length lc) ((P.set i (⟨q.g,A0,A1,q.a⟩:Pd)).set i (⟨q.g,A0,A1,w6 (q.a+n2)⟩:Pd))):=hs _ (w6_in _)
 have HK3:Hid (Kp lb w (Z2.setCell ⟨lb,i*4+3,none⟩ (.int .i64 (w6 (q.a+n2))))):=HKZ.out.setCell _ _
 have HB3:Hid (lb<(Z2.setCell ⟨lb,i*4+3,none⟩ (.int .i64 (w6 (q.a+n2)))).heap.size/\w.heap.size+1<(Z2.setCell ⟨lb,i*4+3,none⟩ (.int .i64 (w6 (q.a+n2)))).heap.size):=by
  show _/\_
  rw[show(Z2.setCell ⟨lb,i*4+3,none⟩ (.int .i64 (w6 (q.a+n2)))).heap.size=Z2.heap.size by simp[World.setCell]]
  exact HBZ.out
 refine hCall (i:=9) rfl (by kernel_rfl) (by rfl) (fun K hK=>?_)
 go_simp;rw[w6_eq]
 refine hK.out _ _ ((World.cell?_setCell_other Z2 ⟨lb,i*4+3,none⟩ ⟨w.heap.size+1,2,none⟩ (.int .i64 (w6 (q.a+n2))) (fun e=>hl2 (congrArg Addr.block e))).trans hH) (fun hH=>?_)
 clear hK K
 try simp only[Act.put,pZ]
 refine wpAnyH_done (by kernel_rfl) ?_ _
 clear hH hs hf hx HLZ HKZ HBZ
 try rw[w6_eq]
 rw[HPS.out]at HS2
 obtain⟨A2,hA2⟩:∃A,w6 (q.a+n2)=A:=⟨_,rfl⟩
 have HA2:Hid (w6 (q.a+n2)=A2):=hA2
 rw[hA2]at HS2 HK3 HB3  ⊢;clear hA2
 obtain⟨Y3,hY⟩:∃Y,Y=Z2.setCell ⟨lb,i*4+3,none⟩ (.int .i64 A2):=⟨_,rfl⟩
 rw[<-hY]at HS2 HK3 HB3  ⊢;clear hY
 have HL3:Hid (Ln base Y3 (.slice (some ⟨lb,0,none⟩) P.length lc) (P.set i (⟨q.g,A0,A1,A2⟩:Pd))):=HS2.out
 clear HS2;go_wp2
 (try simp only[Exit.inBlock,Exit.then])
 refine bodyPost_end (results_none rfl _ _ _) rfl ?_
 rw[HA0.out,HA1.out,HA2.out]
 exact⟨rfl,HL3.out,HK3.out⟩
theorem zj4(ga:Option Addr)(gc:Nat)(ma:Option Addr)(mc:Nat)(s:Sr)(ka:Option Addr)(kc:Nat)(ms:List Bool)(pa:Option Addr)(pc:Nat)(cs:List Int)(lb lc:Nat)(na:Option Addr)(nn nc:Nat)(P:List Pd)(base i b:Nat)(n0 n1 n2:Int)(w:World)(hL:Ln base w (.slice (some ⟨lb,0,none⟩) P.length lc) P)(hi:i<P.length)(hbi:b<i)(q p:Pd)(hq:P.getD i Pd.none=q)(hp:P.getD b Pd.none=p) :
 Calls Tryz.prog 131 #[.agg #[.slice ga s.rg.length gc,.slice ma s.rw.length mc,.slice ka ms.length kc,.slice pa cs.length pc,.slice (some ⟨lb,0,none⟩) P.length lc,.slice na nn nc],.int .i64 (i:Int),.int .i64 (b:Int),.agg #[.int .i64 n0,.int .i64 n1,.int .i64 n2]] w fun e w'=>e=.returned (.tuple #[])/\Ln base w' (.slice (some ⟨lb,0,none⟩) P.length lc) (P.set i ⟨q.g,w6 (p.x+n0-adS P b (i-b)),w6 (p.y+n1),q.a⟩)/\Kp lb w w':=by
 have hlb:lb<w.heap.size:=(Ln.lo hL (g:=lb) rfl).2
 obtain⟨a',c',ea,hgr,-⟩:=hL.slice;injection ea with e1 e2 e3;subst e1 e3
 have kl:=hgr.lenB
 have klc:P.length<=lc:=hgr.1
 have klm:lc<=maxLen:=hgr.2.1
 have HGR:Hid (Gr PdE (fun _=>False) w (some ⟨lb,0,none⟩) lc P):=hgr
 obtain⟨W0,hW0,hW1,hW2,hW3⟩:∃W,W=(w.alloc (.cells #[.slice ga s.rg.length gc,.slice ma s.rw.length mc,.slice ka ms.length kc,.slice pa cs.length pc,.slice (some ⟨lb,0,none⟩) P.length lc,.slice na nn nc] 119)).alloc (.cells #[.int .i64 n0,.int .i64 n1,.int .i64 n2] 199)/\Bk 119 W w.heap.size [.slice ga s.rg.length gc,.slice ma s.rw.length mc,.slice ka ms.length kc,.slice pa cs.length pc,.slice (some ⟨lb,0,none⟩) P.length lc,.slice na nn nc]/\Bk 199 W (w.heap.size+1) [.int .i64 n0,.int .i64 n1,.int .i64 n2]/\Below w.heap.size w W:=by
  obtain⟨h1,h2,h3⟩:=new2B w 119 199 [.slice ga s.rg.length gc,.slice ma s.rw.length mc,.slice ka ms.length kc,.slice pa cs.length pc,.slice (some ⟨lb,0,none⟩) P.length lc,.slice na nn nc] [.int .i64 n0,.int .i64 n1,.int .i64 n2]
  exact⟨_,rfl,h1,h2,h3⟩
 obtain⟨b1,o1,e1,-,hpw,d0,d1,d2,d3⟩:=hgr.pd hW3 b (by omega)
 rw[hp]at hpw d0 d1 d2 d3
 cases e1
 simp only[Nat.zero_add]at d0 d1 d2 d3
 have HPW:Hid (PdW p):=hpw
 have hs0:W0.heap.size=w.heap.size+2:=by rw[hW0];simp
 obtain⟨m0,m1,m2,m3,m4,m5⟩:=hW1.six21
 have i1:(0:Int)<=(i:Int):=by omega
 have i2:(i:Int)<(P.length:Int):=by omega
 have i3:(0:Int)<=(b:Int):=by omega
 have i4:(b:Int)<(P.length:Int):=by omega
 obtain⟨W,hW,X3,hbW⟩:∃W,W=W0.alloc (.cells #[.int .i64 p.g,.int .i64 p.x,.int .i64 p.y,.int .i64 p.a] 66)/\Bk 66 W W0.heap.size (pdC p)/\Below W0.heap.size W0 W:=⟨_,rfl,Bk.new _ _ (pdC p),bl1 _⟩
 rw[hs0]at X3
 have X1:=hW1.below hbW
 have X2:=hW2.below hbW
 have hbw:=hW3.trans (hbW.mono hW3.size)
 clear hW1 hW2
 go_enter Tryz.func131,Tryz.ntmps131
 go_upto_region 1 with fail
 rw[<-hW0];clear hW0
 go_upto_region 2 with fail
 rw[<-hW];clear hW m0 m1 m2 m3 m4 m5 d0 d1 d2 d3 hbW;obtain⟨m0,m1,m2,m3,m4,m5⟩:=X1.six21;obtain⟨⟨c0,c1,c2⟩,-⟩:=X2.three3
 have y0:W.cell? ⟨w.heap.size+2,0,none⟩=some (.int .i64 p.g):=X3.cell 0 (by simp[pdC])
 have y1:W.cell? ⟨w.heap.size+2,1,none⟩=some (.int .i64 p.x):=X3.cell 1 (by simp[pdC])
 have y2:W.cell? ⟨w.heap.size+2,2,none⟩=some (.int .i64 p.y):=X3.cell 2 (by simp[pdC])
 have y3:W.cell? ⟨w.heap.size+2,3,none⟩=some (.int .i64 p.a):=X3.cell 3 (by simp[pdC])
 have i5:(b:Int)<=(i:Int):=by omega
 have i6:(i:Int)<=(lc:Int):=by omega
 have i7:(i:Int)-(b:Int)=((i-b:Nat):Int):=by omega
 clear hs0;go_wp2;rw[w6_64]
 have HFR:Hid (Gr PdE (fun _=>False) W (some ⟨lb,b*4,none⟩) (lc-b) (P.drop b)):=by
  have h1:=(hgr.below hbw).from b (by omega)
  have e:0+b*PdE.sz=b*4:=Nat.zero_add _
  rw[e]at h1
  exact h1
 have HFL:Hid (∀k,k<i-b->k<(P.drop b).length/\(P.drop b).getD k Pd.none=P.getD (b+k) Pd.none):=fun k hk=>⟨by rw[List.length_drop];omega,by rw[List.getD_eq_getElem?_getD,List.getElem?_drop,List.getD_eq_getElem?_getD]⟩
 have HX:Hid (Bk 119 W w.heap.size [.slice ga s.rg.length gc,.slice ma s.rw.length mc,.slice ka ms.length kc,.slice pa cs.length pc,.slice (some ⟨lb,0,none⟩) P.length lc,.slice na nn nc]/\Bk 199 W (w.heap.size+1) [.int .i64 n0,.int .i64 n1,.int .i64 n2]/\Bk 66 W (w.heap.size+2) (pdC p)):=⟨X1,X2,X3⟩
 have HLW:Hid (Ln base W (.slice (some ⟨lb,0,none⟩) P.length lc) P):=hL.below hbw
 have HKW:Hid (Kp lb w W):=Kp.of hbw
 have hbW:=hbw.size
 clear m0 m1 m2 m3 m4 m5 c0 c1 c2 y0 y1 y2 y3 X1 X2 X3 hgr hL hW3 hpw hbw i7 klc klm
 go_loopw [9,28] (fun vx vi wr=>∃k:Nat,k<=i-b/\vi=.int .i64 k/\vx=.int .i64 (w6 (p.x+n0-adS P b k))/\Below W.heap.size W wr) (fun _ vi _=>(i-b)-(intOf vi).toNat)
 case atStart=>exact⟨0,Nat.zero_le _,rfl,by rw[adS,Int.sub_zero],Below.refl _ _⟩
 case round =>
  obtain⟨k,hk,rfl,rfl,hB⟩:=hrel
  by_cases hkn:k<i-b
  . obtain⟨hk1,hk2⟩:=HFL.out k hkn
    obtain⟨b1,o1,e1,hb1,hpw,d0,d1,d2,d3⟩:=HFR.out.pd hB k hk1
    rw[hk2]at hpw d0 d1 d2 d3;injection e1 with e1;injection e1 with e1 e2;subst e1 e2
    have HAD:Hid (adS P b (k+1)=adS P b k+(P.getD (b+k) Pd.none).a):=rfl
    generalize P.getD (b+k) Pd.none=r at hpw d0 d1 d2 d3 HAD
    generalize adS P b k=A0 at HAD ⊢
    have i8:(0:Int)<=(k:Int):=by omega
    have i9:(k:Int)<((i-b:Nat):Int):=by omega
    obtain⟨U,hU,XG,hbU⟩:∃U,U=wr.alloc (.cells #[.int .i64 r.g,.int .i64 r.x,.int .i64 r.y,.int .i64 r.a] 66)/\Bk 66 U wr.heap.size [.int .i64 r.g,.int .i64 r.x,.int .i64 r.y,.int .i64 r.a]/\Below wr.heap.size wr U:=⟨_,rfl,Bk.new _ _ _,bl1 _⟩
    have hBU:=hB.trans (hbU.mono hB.size)
    obtain⟨y0,y1,y2,y3,-⟩:=XG.four
    obtain⟨S,hS⟩:∃S,w6 (p.x+n0-A0)=S:=⟨_,rfl⟩
    have HSS:Hid (w6 (S-r.a)=w6 (p.x+n0-adS P b (k+1))):=by
     show _=_
     rw[<-hS,zty,HAD.out]
     congr 1
     omega
    rw[hS];clear hk2 hS HAD hpw
    go_upto_region 6 with fail
    rw[<-hU];clear hU d0 d1 d2 d3 XG hbU hB;go_wp2
    go_roundw
    case rel=>exact⟨k+1,by omega,by go_num,by rw[w6_64,HSS.out],hBU⟩
    case measure=>simp[intOf];omega
  . obtain rfl:k=i-b:=by omega
    have g4:¬((i-b:Nat):Int)<((i-b:Nat):Int):=by omega
    obtain⟨X,hX⟩:∃X,w6 (p.x+n0-adS P b (i-b))=X:=⟨_,rfl⟩
    have HXE:Hid (w6 (p.x+n0-adS P b (i-b))=X/\I64 X):=⟨hX,by rw[<-hX];exact w6_in _⟩
    rw[hX];clear hX
    have hdr:Below wr.heap.size wr wr.drew:=(Below.refl _ _).drew
    have hWZ:=hB.trans (hdr.mono hB.size)
    have HLZ:Hid (Ln base wr.drew (.slice (some ⟨lb,0,none⟩) P.length lc) P):=HLW.out.below hWZ
    have HKZ:Hid (Kp lb w wr.drew):=HKW.out.trans (Kp.of hWZ)
    have X1:=HX.out.1.below hWZ
    have X2:=HX.out.2.1.below hWZ
    have X3:=HX.out.2.2.below hWZ
    have m4:wr.drew.cell? ⟨w.heap.size,4,none⟩=some (.slice (some ⟨lb,0,none⟩) P.length lc):=X1.cell 4 (by simp)
    have c1:wr.drew.cell? ⟨w.heap.size+1,1,none⟩=some (.int .i64 n1):=X2.cell 1 (by simp)
    have y2:wr.drew.cell? ⟨w.heap.size+2,2,none⟩=some (.int .i64 p.y):=X3.cell 2 (by simp[pdC])
    have ne0:lb≠w.heap.size:=by omega
    have ne1:lb≠w.heap.size+1:=by omega
    have ne2:lb≠w.heap.size+2:=by omega
    have HQ2:Hid (∀r:Pd,(P.set i r).getD i Pd.none=r):=fun r=>zdz hi r
    have HSS:Hid (∀r t:Pd,(P.set i r).set i t=P.set i t):=fun r t=>List.set_set ..
    have HSL:Hid (∀r:Pd,i<(P.set i r).length):=fun r=>by rw[List.length_set];exact hi
    clear X1 X2 X3 HX HLW HKW HFR HFL
    go_upto_region 8 with fail
    refine wp_region_held_drew (S:=fun u=>u.cell? ⟨w.heap.size,4,none⟩=some (.slice (some ⟨lb,0,none⟩) P.length lc)/\u.cell? ⟨w.heap.size+1,1,none⟩=some (.int .i64 n1)/\u.cell? ⟨w.heap.size+2,2,none⟩=some (.int .i64 p.y)) (by kernel_rfl) ⟨m4,c1,y2⟩ (fun hH=>?_)
    clear hB hdr hWZ m4 c1 y2
    generalize wr.drew=Z at hH HLZ HKZ ⊢
    obtain⟨hs,hf,hx⟩:=Ln.fx HLZ.out hi hq
    have HL1:Hid (Ln base (Z.setCell ⟨lb,i*4+1,none⟩ (.int .i64 X)) (.slice (some ⟨lb,0,none⟩) P.length lc) (P.set i ⟨q.g,X,q.y,q.a⟩)):=hs X HXE.out.2
    have HK1:Hid (Kp lb w (Z.setCell ⟨lb,i*4+1,none⟩ (.int .i64 X))):=HKZ.out.setCell _ _
    refine hT 0 hH ?_;refine hT 1 hH ?_;refine hT 2 hH ?_;refine hT 3 hH ?_;refine hT 4 hH ?_;refine hT 5 hH ?_;refine hT 6 hH ?_;refine hT 7 hH ?_;refine hT 8 hH ?_;refine hT 9 hH ?_;refine hT 10 hH ?_;refine hT 11 hH ?_;refine hT 12 hH ?_;refine hT 13 hH ?_
    refine hCall (i:=14) rfl (by kernel_rfl) (by rfl) (fun K hK=>?_)
    go_simp
    have h2:∀(b j:Nat) (v:Value),lb≠b->Z.cell? ⟨b,j,none⟩=some v->(Z.setCell ⟨lb,i*4+1,none⟩ (.int .i64 X)).cell? ⟨b,j,none⟩=some v:=fun b j v hne h=>(World.cell?_setCell_other Z ⟨lb,i*4+1,none⟩ ⟨b,j,none⟩ (.int .i64 X) (fun e=>hne (congrArg Addr.block e))).trans h
    refine hK.out _ _ ⟨h2 _ _ _ ne0 hH.1,h2 _ _ _ ne1 hH.2.1,h2 _ _ _ ne2 hH.2.2⟩ (fun hH=>?_)
    clear hK K h2 hs hf hx HLZ HKZ
    try simp only[Act.put,pZ]
    obtain⟨Y,hY⟩:∃Y,Y=Z.setCell ⟨lb,i*4+1,none⟩ (.int .i64 X):=⟨_,rfl⟩
    rw[<-hY]at HL1 HK1 hH ⊢;clear hY
    obtain⟨hs,hf,hx⟩:=Ln.fy HL1.out (HSL.out _) (HQ2.out _)
    dsimp only at hs hx
    have HL2:Hid (Ln base (Y.setCell ⟨lb,i*4+2,none⟩ (.int .i64 (w6 (p.y+n1)))) (.slice (some ⟨lb,0,none⟩) P.length lc) (P.set i ⟨q.g,X,w6 (p.y+n1),q.a⟩)):=by have:=hs (w6 (p.y+n1)) (w6_in _);rw[HSS.out]at this;exact this
    have HK2:Hid (Kp lb w (Y.setCell ⟨lb,i*4+2,none⟩ (.int .i64 (w6 (p.y+n1))))):=HK1.out.setCell _ _
    refine hT 15 hH ?_;refine hT 16 hH ?_
    refine hCall (i:=17) rfl (by kernel_rfl) (by rfl) (fun K hK=>?_)
    go_simp;rw[w6_eq]
    have h2:∀(b j:Nat) (v:Value),lb≠b->Y.cell? ⟨b,j,none⟩=some v->(Y.setCell ⟨lb,i*4+2,none⟩ (.int .i64 (w6 (p.y+n1)))).cell? ⟨b,j,none⟩=some v:=fun b j v hne h=>(World.cell?_setCell_other Y ⟨lb,i*4+2,none⟩ ⟨b,j,none⟩ (.int .i64 (w6 (p.y+n1))) (fun e=>hne (congrArg Addr.block e))).trans h
    refine hK.out _ _ ⟨h2 _ _ _ ne0 hH.1,h2 _ _ _ ne1 hH.2.1,h2 _ _ _ ne2 hH.2.2⟩ (fun hH=>?_)
    clear hK K h2 hs hf hx
    try simp only[Act.put,pZ]
    refine wpAnyH_done (by kernel_rfl) ?_ _
    clear hH HL1 HK1;go_wp2
    (try simp only[Exit.inBlock,Exit.then])
    refine bodyPost_end (results_none rfl _ _ _) rfl ?_
    rw[HXE.out.1]
    exact⟨rfl,HL2.out,HK2.out⟩
