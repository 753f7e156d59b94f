import Derived.Test.YtgbhidcokobmmaaGreatDoorZL34
import Derived.Deep.Strs
import Derived.OpenShut
import Derived.SizedLaws
import Derived.Lib.SmallJoins
import Derived.Test.YtgbhidcokobmmaaGreatDoorRows
import Derived.LaidLaws
import Derived.Lib.LaidTab
set_option maxHeartbeats 8000000
set_option maxRecDepth 100000
set_option linter.unusedSimpArgs false
set_option linter.unusedVariables false
namespace Go.Proofs.YtgbhidcokobmmaaGreatDoor
open Go.RowKit Go.Maps
def ScR(ga:Option Addr)(gc:Nat)(ma:Option Addr)(mc:Nat)(c:Option Addr)(cc:Nat)(x:Fo)(cs:List Int)(base:Nat)(v:Value)(wx:World):Prop :=
 ∃mb va vc,v=.pointer (some ⟨mb,0,none⟩)/\base<=mb/\Bk 86 wx mb [.slice ga x.s.rg.length gc,.slice ma x.s.rw.length mc,.slice va x.gl.length vc,.slice c cs.length cc]/\Gr El.bool (fun _=>False) wx va vc (mkG x.gl)
theorem zjf(S:Nat->Prop)(d:FoD)(x:Fo)(c:Option Addr)(cc:Nat)(cs:List Int)(t:ByteArray)(o:Option Addr)(oc:Nat)(on:List ByteArray)(w:World)(h:FoR S w d x)(hB:FoB x)(hc:Gr El.int S w c cc cs)(ho:Gr El.str S w o oc on)(ht:t.size<=100000) :
 Calls Tryz.prog 13 #[fV d x,.slice c cs.length cc,.string t,.slice o on.length oc] w fun e w'=>PaS (plP x cs (sb t) on) w' e/\Below w.heap.size w w':=by
 have kg:x.gl.length<=40:=hB.gl
 obtain⟨xa,xl,xc,ba,bl,bc,ga,gc,ma,mc,la,lc,ta,tl,tc,da,dl,dc,ra,rc,ka,kc,fa,fc,sa,sc⟩:=d
 have HLN:Hid (∀U,Below w.heap.size w U->Calls Tryz.prog 11 #[.agg #[.slice xa xl xc,.slice ba bl bc,.slice ga x.s.rg.length gc,.slice ma x.s.rw.length mc,.slice la x.gl.length lc,.slice ta tl tc,.slice da dl dc,.slice ra x.rn.length rc,.slice ka x.lk.length kc,.slice fa x.ft.length fc,.slice sa x.sw.length sc],.slice c cs.length cc,.string t,.slice o on.length oc] U fun e w'=>LnR (lnP x cs (sb t) on) w' e/\Below U.heap.size U w'):=fun U hU=>zge S ⟨xa,xl,xc,ba,bl,bc,ga,gc,ma,mc,la,lc,ta,tl,tc,da,dl,dc,ra,rc,ka,kc,fa,fc,sa,sc⟩ x c cc cs t o oc on U (h.below hU) hB (hc.below hU) (ho.below hU) ht
 have HCH:Hid (∀U,Below w.heap.size w U->Calls Tryz.prog 31 #[.slice fa x.ft.length fc,.slice sa x.sw.length sc,.slice c cs.length cc,.slice o on.length oc] U fun e w'=>RowF (chFt x.ft x.sw cs on) U.heap.size w' e/\Below U.heap.size U w'):=fun U hU=>zdn S fa fc x.ft sa sc x.sw c cc cs o oc on U (h.hf.below hU) (h.hs.below hU) (hc.below hU) (ho.below hU) hB.f1 hB.f2 hB.f3
 have HMK:Hid (∀U,Below w.heap.size w U->Calls Tryz.prog 32 #[.agg #[.slice xa xl xc,.slice ba bl bc,.slice ga x.s.rg.length gc,.slice ma x.s.rw.length mc,.slice la x.gl.length lc,.slice ta tl tc,.slice da dl dc,.slice ra x.rn.length rc,.slice ka x.lk.length kc,.slice fa x.ft.length fc,.slice sa x.sw.length sc]] U fun e w'=>RowM (mkG x.gl) U.heap.size w' e/\Below U.heap.size U w'):=fun U hU=>zfe S ⟨xa,xl,xc,ba,bl,bc,ga,gc,ma,mc,la,lc,ta,tl,tc,da,dl,dc,ra,rc,ka,kc,fa,fc,sa,sc⟩ x U (h.below hU) hB
 have HAD:Hid (∀z U,Below w.heap.size w U->I64 z->Calls Tryz.prog 36 #[.slice la x.gl.length lc,.agg #[.slice ga x.s.rg.length gc,.slice ma x.s.rw.length mc],.int .i64 z,.slice c cs.length cc] U fun e w'=>e=.returned (.tuple #[.int .i64 (avN x.gl x.s z cs),.int .i64 (avE x.gl x.s z cs)])/\Below U.heap.size U w'):=fun z U hU hz =>
  zig S la lc x.gl ga gc ma mc x.s z c cc cs U (h.hl.below hU) (h.hg.below hU) (h.hm.below hU) (hc.ri.below hU) hz hB.g40 hB.r8
 have HAL:Hid (∀U xa xc ks va vc (Sp:Nat->Prop) qa qc P,Below w.heap.size w U->Ri U xa xc ks->Gr El.bool (fun _=>False) U va vc (mkG x.gl)->Gr PdE Sp U qa qc P->Calls Tryz.prog 37 #[.slice ka x.lk.length kc,.slice xa ks.length xc,.agg #[.slice ga x.s.rg.length gc,.slice ma x.s.rw.length mc,.slice va x.gl.length vc,.slice c cs.length cc],.slice qa P.length qc] U fun e w'=>PaS (paEJ (fiS x.s) (rO x.s cs) (rE x.s cs) (mkG x.gl) x.lk ks P) w' e/\Below U.heap.size U w'):=fun U xa xc ks va vc Sp qa qc P hU hk hm hP=>by
  have:=zjn S (fun _=>False) Sp ka kc x.lk xa xc ks ga gc ma mc x.s va vc (mkG x.gl) c cc cs qa qc P U (h.hk.below hU) hk (h.hg.below hU) (h.hm.below hU) hm (hc.ri.below hU) hB.g40 hB.r8 hP
  rw[zaw]at this
  exact this
 have HLE:Hid ((lnP x cs (sb t) on).2.length<=100):=zuh
 have HP1:Hid ((lnP x cs (sb t) on).1≠0->plP x cs (sb t) on=((lnP x cs (sb t) on).1,[])):=zlm
 have HP2:Hid ((lnP x cs (sb t) on).1=0->avF x.gl x.s cs (lnP x cs (sb t) on).2≠0->plP x cs (sb t) on=(avF x.gl x.s cs (lnP x cs (sb t) on).2,[])):=zo6
 have HP3:Hid ((lnP x cs (sb t) on).1=0->avF x.gl x.s cs (lnP x cs (sb t) on).2=0->plP x cs (sb t) on=_):=zo5
 obtain⟨W,hW,XW,hbW⟩:∃W,W=w.alloc (.cells #[.slice xa xl xc,.slice ba bl bc,.slice ga x.s.rg.length gc,.slice ma x.s.rw.length mc,.slice la x.gl.length lc,.slice ta tl tc,.slice da dl dc,.slice ra x.rn.length rc,.slice ka x.lk.length kc,.slice fa x.ft.length fc,.slice sa x.sw.length sc] 36)/\Bk 36 W w.heap.size [.slice xa xl xc,.slice ba bl bc,.slice ga x.s.rg.length gc,.slice ma x.s.rw.length mc,.slice la x.gl.length lc,.slice ta tl tc,.slice da dl dc,.slice ra x.rn.length rc,.slice ka x.lk.length kc,.slice fa x.ft.length fc,.slice sa x.sw.length sc]/\Below w.heap.size w W:=⟨_,rfl,Bk.new _ _ _,bl1 _⟩
 have hln:=HLN.out W hbW
 have XU:=XW
 obtain⟨x0,x1,x2,x3,x4,x5,x6,x7,x8,x9,x10⟩:=XU.elevenH;clear h hB hc ho HLN
 go_enter Tryz.func13,Tryz.ntmps13
 go_upto_region 1 with fail
 rw[<-hW];clear hW
 go_wp2_with fail
 refine hln.mono ?_
 rintro e u ⟨hr,hb⟩;obtain⟨va,vc,rfl,hG⟩:=hr.out
 have hb1:=hbW.trans (hb.mono hbW.size)
 replace XU:=XU.below hb;clear hln hb hr x0 x1 x2 x3 x4 x5 x6 x7 x8 x9 x10
 obtain⟨E,hE⟩:∃E,(lnP x cs (sb t) on).1=E:=⟨_,rfl⟩
 obtain⟨L,hL⟩:∃L,(lnP x cs (sb t) on).2=L:=⟨_,rfl⟩
 rw[hE]at HP1 HP2 HP3 ⊢;rw[hL]at HP2 HP3 HLE hG ⊢;clear hE hL
 by_cases h0:E=0
 rotate_left
 . have HV:Hid (plP x cs (sb t) on=(E,[])):=HP1.out h0
   have g1:(E != 0)=true:=bne_iff_ne.2 h0
   clear HP1 HP2 HP3 HAD HAL HCH HMK hG HLE h0;go_wp2
   go_ret2
   exact⟨PaS.nil HV.out,hb1⟩
 have HQ2:Hid (avF x.gl x.s cs L≠0->plP x cs (sb t) on=(avF x.gl x.s cs L,[])):=HP2.out h0
 have HQ3:Hid (avF x.gl x.s cs L=0->plP x cs (sb t) on=_):=HP3.out h0
 subst h0
 have HGL:Hid (Ri u va vc L):=hG.ri
 have HIL:Hid (∀k,k<L.length->I64 (L.getD k 0)):=fun k hk=>hG.ri.i64 hk
 have HXU0:Hid (Bk 36 u w.heap.size _):=XU
 have HG0:Hid (Gi u.heap.size u (.slice none 0 0) (avL x.gl x.s cs (L.take 0))):=Gi.nil _ _
 have kL:=hG.lenB
 clear HP1 HP2 HP3 XW XU hG;go_wp2
 go_loopw [12,13] (fun v i wr=>∃k:Nat,k<=L.length/\i=.int .i64 k/\Hid (Gi u.heap.size wr v (avL x.gl x.s cs (L.take k)))/\Hid (avF x.gl x.s cs L=avF x.gl x.s cs (L.drop k))/\Below u.heap.size u wr) (fun _ i _=>L.length-(intOf i).toNat)
 case atStart=>exact⟨0,Nat.zero_le _,rfl,HG0.out,rfl,Below.refl _ _⟩
 case round =>
  clear HG0;obtain⟨k,hk,rfl,HG,HA,hB⟩:=hrel
  have hbw:=hb1.trans (hB.mono hb1.size)
  obtain⟨oa,oc2,ev,hrow,-⟩:=HG.out.slice;rw[zeh,List.length_take,Nat.min_eq_left hk]at ev;subst ev
  have hle:=HLE.out
  by_cases hkn:k<L.length
  . obtain⟨b1,o1,e1,hbl,d0⟩:=HGL.out.at hB k hkn
    have HST:=@zmf x.gl x.s cs L k hkn
    have HON:=@zu1 x.gl x.s cs L k hkn
    have ztv:=@zrh x.gl x.s cs L k hkn
    have hz:=HIL.out k hkn
    obtain⟨-,-,x2,x3,x4,-⟩:=(HXU0.out.below hB).elevenH
    generalize L.getD k 0=z at d0 HST HON ztv hz
    have HGA:Hid (_):=fun U hU=>HAD.out z U hU hz
    have hzi:=zu0 x.gl x.s z cs
    generalize avN x.gl x.s z cs=y at HGA hzi HST
    generalize avE x.gl x.s z cs=E at HGA HON ztv
    have zxg:Hid (_):=HST
    have zgv:Hid (_):=HON
    have zk4:Hid (_):=ztv
    have HC:Hid (∀Y,Below wr.heap.size wr Y->(Y.cell? ⟨w.heap.size,2,none⟩=some (.slice ga x.s.rg.length gc)/\Y.cell? ⟨w.heap.size,3,none⟩=some (.slice ma x.s.rw.length mc)/\Y.cell? ⟨w.heap.size,4,none⟩=some (.slice la x.gl.length lc))/\Y.cell? ⟨b1,o1+k,none⟩=some (.int .i64 z)):=fun Y hY=>by
     have hlt:=(HXU0.out.below hB).lt
     exact⟨⟨(hY.cell (p:=⟨w.heap.size,2,none⟩) hlt).trans x2,(hY.cell (p:=⟨w.heap.size,3,none⟩) hlt).trans x3,(hY.cell (p:=⟨w.heap.size,4,none⟩) hlt).trans x4⟩,(hY.cell (p:=⟨b1,o1+k,none⟩) (Nat.lt_of_lt_of_le hbl hB.size)).trans d0⟩
    subst e1
    have i1:(0:Int)<=(k:Int):=by omega
    have i2:(k:Int)<(L.length:Int):=by omega
    clear HST HON ztv hz x2 x3 x4 d0 hrow
    go_upto_region 8 with fail
    refine wp_region_held_drew (S:=fun Y=>(Y.cell? ⟨w.heap.size,2,none⟩=some (.slice ga x.s.rg.length gc)/\Y.cell? ⟨w.heap.size,3,none⟩=some (.slice ma x.s.rw.length mc)/\Y.cell? ⟨w.heap.size,4,none⟩=some (.slice la x.gl.length lc))/\Y.cell? ⟨b1,o1+k,none⟩=some (.int .i64 z)) (by kernel_rfl) (HC.out _ Below.drew1) (fun hH=>?_)
    have hdr:Below wr.heap.size wr wr.drew:=Below.drew1
    generalize wr.drew=Z at hdr hH ⊢
    have hga:=HGA.out Z (hbw.trans (hdr.mono hbw.size))
    refine hT 0 hH ?_;refine hT 1 hH ?_;refine hT 2 hH ?_;refine hT 3 hH ?_;refine hT 4 hH ?_;refine hT 5 hH ?_;refine hT 6 hH ?_;refine hT 7 hH ?_;refine hT 8 hH ?_
    refine hCall (i:=9) rfl (by kernel_rfl) (by rfl) (fun K hK=>?_)
    go_simp
    refine hga.mono ?_
    rintro e v1 ⟨rfl,hc⟩
    have hd1:=hdr.trans (hc.mono hdr.size)
    clear hga hc hH HGA hdr
    go_wp2_with fail
    refine hK.out _ _ (HC.out _ hd1) (fun hH=>?_)
    clear hK K HC
    try simp only[Act.put,pZ]
    refine hT 10 hH ?_;refine hT 11 hH ?_;refine hT 12 hH ?_;refine hT 13 hH ?_;refine hT 14 hH ?_
    refine wpAnyH_done (by kernel_rfl) ?_ _
    have hBu:=hB.trans (hd1.mono hB.size)
    have zaf:=hb1.trans (hBu.mono hb1.size)
    have HG3:Hid (Gi u.heap.size v1 (.slice oa k oc2) (avL x.gl x.s cs (L.take k))):=HG.out.below hd1
    clear hH HG hd1
    by_cases hE:E=0
    . subst hE
      have HA2:Hid (avF x.gl x.s cs L=avF x.gl x.s cs (L.drop (k+1))):=by show _=_;rw[HA.out,zgv.out rfl]
      obtain⟨V9,hV9,Y9,hb9⟩:∃V,V=v1.alloc (.cells #[.int .i64 y] 3)/\Bk 3 V v1.heap.size [.int .i64 y]/\Below v1.heap.size v1 V:=⟨_,rfl,Bk.new _ _ _,bl1 _⟩
      have hGb:=HG3.out.below hb9
      have hBb:=hBu.trans (hb9.mono hBu.size)
      have hbs:u.heap.size<=V9.heap.size:=hBb.size
      have hll:(avL x.gl x.s cs (L.take k)).length+1<=1000000:=by rw[zeh,List.length_take];omega
      have hlt:=Y9.lt
      have y0:V9.cell? ⟨v1.heap.size,0,none⟩=some (.int .i64 y):=Y9.cell 0 (by simp)
      have HLO:Hid (∀q,(Value.slice oa k oc2).ownBlock=some q->u.heap.size<=q):=fun q hq=>(HG3.out.lo hq).1
      clear HG3 HA zgv zk4 zaf
      go_wp2_with (at_builtin;rw[<-hV9];refine za7 rfl _ _ rfl u.heap.size _ (avL x.gl x.s cs (L.take k)) rfl hGb v1.heap.size y rfl hlt y0 hzi hll hbs ?_)
      intro v9 w9 hT9 hgrow _
      rw[<-hV9]at hgrow;rw[<-zxg.out]at hT9
      have HT9:Hid (Gi u.heap.size w9 v9 (avL x.gl x.s cs (L.take (k+1)))):=hT9
      have hB9:Below u.heap.size u w9:=hBb.grown hgrow hBb.size (fun q hq=>HLO.out q hq)
      clear hT9 hgrow hGb hbs hll hBb hV9 Y9 hBu y0 hlt hb9 hzi HLO;go_wp2
      go_roundw
      case rel=>exact⟨k+1,by omega,by go_num,HT9,HA2,hB9⟩
      case measure=>simp[intOf];omega
    . have HA2:Hid (avF x.gl x.s cs L=E):=HA.out.trans (zk4.out hE)
      have g1:(E != 0)=true:=bne_iff_ne.2 hE
      have HV:Hid (plP x cs (sb t) on=(E,[])):=by
       have:=HQ2.out (by rw[HA2.out];exact hE)
       rw[HA2.out]at this
       exact this
      clear HG3 HA zgv zk4 hE HAL HCH HMK;go_wp2
      go_ret2
      exact⟨PaS.nil HV.out,zaf⟩
  . have hkL:k=L.length:=by omega
    subst hkL
    have HA2:Hid (avF x.gl x.s cs L=0):=HA.out.trans zri
    have HV:Hid (plP x cs (sb t) on=_):=HQ3.out HA2.out
    rw[List.take_length]at hrow
    have zzy:Hid (Ri wr va vc L):=HGL.out.below hB
    have HNN:Hid ((avL x.gl x.s cs L).length=L.length):=zeh _ _ _ _
    generalize avL x.gl x.s cs L=Y at HV hrow HNN
    have HGY:Hid (Ri wr oa oc2 Y):=hrow
    have XU:=HXU0.out.below hB
    have HXU:Hid (Bk 36 wr w.heap.size _):=XU
    have g4:¬(L.length:Int)<(L.length:Int):=by omega
    clear HG HA HA2 HQ2 HQ3 HXU0 HIL hrow HAD HGL
    go_upto_region 12 with fail
    go_cut [16]from 54 to 59 (fun v wx=>ScR ga gc ma mc c cc x cs wr.heap.size v wx/\Below wr.heap.size wr wx)
    case first =>
     clear HAL HCH HLE zzy HGY HV HNN hle
     refine wp_region_held_drew (S:=fun u=>u.cell? ⟨w.heap.size,0,none⟩=some (.slice xa xl xc)/\u.cell? ⟨w.heap.size,1,none⟩=some (.slice ba bl bc)/\u.cell? ⟨w.heap.size,2,none⟩=some (.slice ga x.s.rg.length gc)/\u.cell? ⟨w.heap.size,3,none⟩=some (.slice ma x.s.rw.length mc)/\u.cell? ⟨w.heap.size,4,none⟩=some (.slice la x.gl.length lc)/\u.cell? ⟨w.heap.size,5,none⟩=some (.slice ta tl tc)/\u.cell? ⟨w.heap.size,6,none⟩=some (.slice da dl dc)/\u.cell? ⟨w.heap.size,7,none⟩=some (.slice ra x.rn.length rc)/\u.cell? ⟨w.heap.size,8,none⟩=some (.slice ka x.lk.length kc)/\u.cell? ⟨w.heap.size,9,none⟩=some (.slice fa x.ft.length fc)/\u.cell? ⟨w.heap.size,10,none⟩=some (.slice sa x.sw.length sc)) (by kernel_rfl) XU.elevenH (fun hH=>?_)
     have hZ0:Below wr.heap.size wr wr.drew:=Below.drew1
     have X0:=XU.below hZ0
     generalize wr.drew=Z at hZ0 X0 hH ⊢
     clear XU;refine hT 0 hH ?_;refine hT 1 hH ?_;refine hT 2 hH ?_;refine hT 4 hH ?_
     refine wpAnyH_ready (rs:=[3,6]) (by kernel_rfl) (by simp) (hCons (i:=3) rfl (by rfl) (fun K hK=>?_) (hCons (i:=6) rfl (by rfl) (fun K hK=>?_) AllReadyH.nil))
     . go_simp
       refine(HMK.out Z (hbw.trans (hZ0.mono hbw.size))).mono ?_
       rintro e Z1 ⟨hr,hb⟩;obtain⟨v6,rfl,hGm⟩:=hr.out;obtain⟨ma2,mc2,rfl,-,-⟩:=hGm.slice;rw[zaw];rw[zaw]at hGm
       have hZ1:=hZ0.trans (hb.mono hZ0.size)
       have X1:=X0.below hb
       go_wp2_with fail
       refine hK.out _ _ X1.elevenH (fun hH=>?_)
       clear hK K hb hr X0
       try simp only[Act.put,pZ]
       refine hT 5 hH ?_
       refine hCall (i:=6) rfl (by kernel_rfl) (by rfl) (fun K hK=>?_)
       go_simp
       obtain⟨Z2,hYe,hMv,hb⟩:∃Y,Y=Z1.alloc (.cells #[.slice none 0 0,.slice none 0 0,.slice none 0 0,.slice none 0 0] 86)/\Bk 86 Y Z1.heap.size [.slice none 0 0,.slice none 0 0,.slice none 0 0,.slice none 0 0]/\Below Z1.heap.size Z1 Y:=⟨_,rfl,Bk.new _ _ _,bl1 _⟩
       have hMw:wr.heap.size<=Z1.heap.size:=hZ1.size
       have hZ2:=hZ1.trans (hb.mono hZ1.size)
       have X2:=X1.below hb
       replace hGm:=Gw.below hGm hb
       rw[<-hYe];clear hYe
       refine hK.out _ _ X2.elevenH (fun hH=>?_)
       clear hK K hb X1
       try simp only[Act.put,pZ]
       obtain⟨mb,hmb⟩:∃mb,Z1.heap.size=mb:=⟨_,rfl⟩
       rw[hmb]at hMv hMw ⊢;clear hmb;obtain⟨m0,m1,m2,m3,-⟩:=hMv.four
       have f0:=hMv.fz 0
       have f1:=hMv.fz 1
       have f2:=hMv.fz 2
       have f3:=hMv.fz 3
       have h4:Bk 86 ((((Z2.setCell ⟨mb,0,none⟩ (.slice ga x.s.rg.length gc)).setCell ⟨mb,1,none⟩ (.slice ma x.s.rw.length mc)).setCell ⟨mb,2,none⟩ (.slice ma2 x.gl.length mc2)).setCell ⟨mb,3,none⟩ (.slice c cs.length cc)) mb [.slice ga x.s.rg.length gc,.slice ma x.s.rw.length mc,.slice ma2 x.gl.length mc2,.slice c cs.length cc]:=(((hMv.set 0 _).set 1 _).set 2 _).set 3 _
       have k4:Kp mb Z2 ((((Z2.setCell ⟨mb,0,none⟩ (.slice ga x.s.rg.length gc)).setCell ⟨mb,1,none⟩ (.slice ma x.s.rw.length mc)).setCell ⟨mb,2,none⟩ (.slice ma2 x.gl.length mc2)).setCell ⟨mb,3,none⟩ (.slice c cs.length cc)):=((((Kp.refl mb Z2).setCell 0 _).setCell 1 _).setCell 2 _).setCell 3 _
       refine hCall (i:=7) rfl (by kernel_rfl) (by rfl) (fun K hK=>?_)
       go_simp
       have hb6:=k4.below (B:=wr.heap.size) hZ2.size hMw
       have zaf:=hZ2.trans hb6
       refine hK.out _ _ (HXU.out.below zaf).elevenH (fun hH=>?_)
       clear hK K
       try simp only[Act.put,pZ]
       refine wpAnyH_done (by kernel_rfl) ?_ _
       have hGk:=Gm.kpH hGm hMv (by decide) k4
       obtain⟨a7,c7,e7,R7,-⟩:=hGk.slice;rw[zaw]at e7;injection e7 with e8 e9 e10;subst e8 e10
       have HSC:Hid (ScR ga gc ma mc c cc x cs wr.heap.size (.pointer (some ⟨mb,0,none⟩)) _):=⟨mb,ma2,mc2,rfl,hMw,h4,R7⟩
       clear hH hGm hMv m0 m1 m2 m3 f0 f1 f2 f3 h4 k4 hb6 hGk R7 e9;go_wp2
       go_meet
       exact⟨HSC.out,zaf⟩
     . go_simp
       obtain⟨Z1,hYe,hMv,hb⟩:∃Y,Y=Z.alloc (.cells #[.slice none 0 0,.slice none 0 0,.slice none 0 0,.slice none 0 0] 86)/\Bk 86 Y Z.heap.size [.slice none 0 0,.slice none 0 0,.slice none 0 0,.slice none 0 0]/\Below Z.heap.size Z Y:=⟨_,rfl,Bk.new _ _ _,bl1 _⟩
       have hMw:wr.heap.size<=Z.heap.size:=hZ0.size
       have hZ1:=hZ0.trans (hb.mono hZ0.size)
       have X1:=X0.below hb
       rw[<-hYe];clear hYe
       refine hK.out _ _ X1.elevenH (fun hH=>?_)
       clear hK K hb X0
       try simp only[Act.put,pZ]
       obtain⟨mb,hmb⟩:∃mb,Z.heap.size=mb:=⟨_,rfl⟩
       rw[hmb]at hMv hMw ⊢;clear hmb
       refine hCall (i:=3) rfl (by kernel_rfl) (by rfl) (fun K hK=>?_)
       go_simp
       refine(HMK.out Z1 (hbw.trans (hZ1.mono hbw.size))).mono ?_
       rintro e Z2 ⟨hr,hb⟩;obtain⟨v6,rfl,hGm⟩:=hr.out;obtain⟨ma2,mc2,rfl,-,-⟩:=hGm.slice;rw[zaw];rw[zaw]at hGm
       have hZ2:=hZ1.trans (hb.mono hZ1.size)
       have X2:=X1.below hb
       replace hMv:=hMv.below hb
       go_wp2_with fail
       refine hK.out _ _ X2.elevenH (fun hH=>?_)
       clear hK K hb hr X1
       try simp only[Act.put,pZ]
       refine hT 5 hH ?_;obtain⟨m0,m1,m2,m3,-⟩:=hMv.four
       have f0:=hMv.fz 0
       have f1:=hMv.fz 1
       have f2:=hMv.fz 2
       have f3:=hMv.fz 3
       have h4:Bk 86 ((((Z2.setCell ⟨mb,0,none⟩ (.slice ga x.s.rg.length gc)).setCell ⟨mb,1,none⟩ (.slice ma x.s.rw.length mc)).setCell ⟨mb,2,none⟩ (.slice ma2 x.gl.length mc2)).setCell ⟨mb,3,none⟩ (.slice c cs.length cc)) mb [.slice ga x.s.rg.length gc,.slice ma x.s.rw.length mc,.slice ma2 x.gl.length mc2,.slice c cs.length cc]:=(((hMv.set 0 _).set 1 _).set 2 _).set 3 _
       have k4:Kp mb Z2 ((((Z2.setCell ⟨mb,0,none⟩ (.slice ga x.s.rg.length gc)).setCell ⟨mb,1,none⟩ (.slice ma x.s.rw.length mc)).setCell ⟨mb,2,none⟩ (.slice ma2 x.gl.length mc2)).setCell ⟨mb,3,none⟩ (.slice c cs.length cc)):=((((Kp.refl mb Z2).setCell 0 _).setCell 1 _).setCell 2 _).setCell 3 _
       refine hCall (i:=7) rfl (by kernel_rfl) (by rfl) (fun K hK=>?_)
       go_simp
       have hb6:=k4.below (B:=wr.heap.size) hZ2.size hMw
       have zaf:=hZ2.trans hb6
       refine hK.out _ _ (HXU.out.below zaf).elevenH (fun hH=>?_)
       clear hK K
       try simp only[Act.put,pZ]
       refine wpAnyH_done (by kernel_rfl) ?_ _
       have hGk:=Gm.kpH hGm hMv (by decide) k4
       obtain⟨a7,c7,e7,R7,-⟩:=hGk.slice;rw[zaw]at e7;injection e7 with e8 e9 e10;subst e8 e10
       have HSC:Hid (ScR ga gc ma mc c cc x cs wr.heap.size (.pointer (some ⟨mb,0,none⟩)) _):=⟨mb,ma2,mc2,rfl,hMw,h4,R7⟩
       clear hH hGm hMv m0 m1 m2 m3 f0 f1 f2 f3 h4 k4 hb6 hGk R7 e9;go_wp2
       go_meet
       exact⟨HSC.out,zaf⟩
    case rest =>
     obtain⟨⟨mb,va3,vc3,rfl,hmb,hMb,hGm⟩,hBc⟩:=hcut
     have hbc:=hbw.trans (hBc.mono hbw.size)
     have XC:=XU.below hBc
     have HGM:Hid (Gr El.bool (fun _=>False) wc va3 vc3 (mkG x.gl)):=hGm
     have HGL4:Hid (Ri wc va vc L):=zzy.out.below hBc
     have HGY4:Hid (Ri wc oa oc2 Y):=HGY.out.below hBc
     have HMB:Hid (Bk 86 wc mb _):=hMb
     clear hGm zzy HGY XU HXU HMK hMb
     go_upto_region 13 with fail
     refine wp_region_held_drew (S:=fun u=>(u.cell? ⟨w.heap.size,0,none⟩=some (.slice xa xl xc)/\u.cell? ⟨w.heap.size,1,none⟩=some (.slice ba bl bc)/\u.cell? ⟨w.heap.size,2,none⟩=some (.slice ga x.s.rg.length gc)/\u.cell? ⟨w.heap.size,3,none⟩=some (.slice ma x.s.rw.length mc)/\u.cell? ⟨w.heap.size,4,none⟩=some (.slice la x.gl.length lc)/\u.cell? ⟨w.heap.size,5,none⟩=some (.slice ta tl tc)/\u.cell? ⟨w.heap.size,6,none⟩=some (.slice da dl dc)/\u.cell? ⟨w.heap.size,7,none⟩=some (.slice ra x.rn.length rc)/\u.cell? ⟨w.heap.size,8,none⟩=some (.slice ka x.lk.length kc)/\u.cell? ⟨w.heap.size,9,none⟩=some (.slice fa x.ft.length fc)/\u.cell? ⟨w.heap.size,10,none⟩=some (.slice sa x.sw.length sc))/\u.cell? ⟨mb,0,none⟩=some (.slice ga x.s.rg.length gc)/\u.cell? ⟨mb,1,none⟩=some (.slice ma x.s.rw.length mc)/\u.cell? ⟨mb,2,none⟩=some (.slice va3 x.gl.length vc3)/\u.cell? ⟨mb,3,none⟩=some (.slice c cs.length cc)) (by kernel_rfl) ⟨XC.elevenH,HMB.out.fourH⟩ (fun hH=>?_)
     have hdr:Below wc.heap.size wc wc.drew:=Below.drew1
     generalize wc.drew=Z at hdr hH ⊢
     have hbz:=hbc.trans (hdr.mono hbc.size)
     have HXZ:Hid (Bk 36 wc w.heap.size _):=XC
     clear XC;refine hT 0 hH ?_;refine hT 1 hH ?_;refine hT 2 hH ?_;refine hT 3 hH ?_;refine hT 4 hH ?_;refine hT 5 hH ?_;refine hT 6 hH ?_;refine hT 7 hH ?_;refine hT 9 hH ?_;refine hT 10 hH ?_;refine hT 11 hH ?_
     refine hCall (i:=8) rfl (by kernel_rfl) (by rfl) (fun K hK=>?_)
     go_simp
     refine(HCH.out Z hbz).mono ?_
     rintro e v1 ⟨hr1,hc1⟩;obtain⟨v5,rfl,hG1⟩:=hr1.out;obtain⟨ea,ec,rfl,R1,-⟩:=hG1.slice
     have hd1:=hdr.trans (hc1.mono hdr.size)
     have zi1:=hbc.trans (hd1.mono hbc.size)
     have HK1:Hid (Ri v1 ea ec (chFt x.ft x.sw cs on)):=R1
     generalize chFt x.ft x.sw cs on=C at HK1 HV
     clear hr1 hG1 R1 hc1 hH hbz HCH
     go_wp2_with fail
     refine hK.out _ _ ⟨(HXZ.out.below hd1).elevenH,(HMB.out.below hd1).fourH⟩ (fun hH=>?_)
     clear hK K
     try simp only[Act.put,pZ]
     have hly:=zr5 va vc L oa oc2 Y v1 (HGL4.out.below hd1) (HGY4.out.below hd1) (by omega)
     rw[HNN.out]at hly
     refine hCall (i:=12) rfl (by kernel_rfl) (by rfl) (fun K hK=>?_)
     go_simp
     refine hly.mono ?_
     rintro e v2 ⟨hr2,hc2⟩;obtain⟨v6,rfl,hG2⟩:=hr2.out;obtain⟨pa2,pc2,rfl,R2,-⟩:=hG2.slice;rw[zdd]
     have hd2:=hd1.trans (hc2.mono hd1.size)
     have zh3:=hbc.trans (hd2.mono hbc.size)
     have hal:=HAL.out v2 ea ec C va3 vc3 _ pa2 pc2 (laL L Y) zh3 (HK1.out.below hc2) (HGM.out.below hd2) R2
     rw[<-HV.out,zdd]at hal;clear hly hr2 hG2 R2 hc2 hH HK1 HAL HV
     go_wp2_with fail
     refine hK.out _ _ ⟨(HXZ.out.below hd2).elevenH,(HMB.out.below hd2).fourH⟩ (fun hH=>?_)
     clear hK K
     try simp only[Act.put,pZ]
     refine hCall (i:=13) rfl (by kernel_rfl) (by rfl) (fun K hK=>?_)
     go_simp
     refine hal.mono ?_
     rintro e v3 ⟨hr3,hc3⟩
     have hd3:=hd2.trans (hc3.mono hd2.size)
     have zaf:=hbc.trans (hd3.mono hbc.size)
     obtain⟨v7,c7,rfl,hG3⟩:=hr3.out
     have HG3:Hid (PaS (plP x cs (sb t) on) v3 (.returned (.tuple #[.slice v7 (plP x cs (sb t) on).2.length c7,.int .i64 (plP x cs (sb t) on).1]))):=⟨v7,c7,rfl,hG3⟩
     generalize hn3:(plP x cs (sb t) on).2.length=n3 at HG3 ⊢
     generalize he3:(plP x cs (sb t) on).1=e3 at HG3 ⊢
     clear hal hr3 hG3 hc3 hH hn3 he3
     go_wp2_with fail
     refine hK.out _ _ ⟨(HXZ.out.below hd3).elevenH,(HMB.out.below hd3).fourH⟩ (fun hH=>?_)
     clear hK K
     try simp only[Act.put,pZ]
     refine hT 14 hH ?_;refine hT 15 hH ?_;refine hT 16 hH ?_;refine hT 17 hH ?_
     refine wpAnyH_done (by kernel_rfl) ?_ _
     clear hH;go_wp2
     go_ret2
     exact⟨HG3.out,zaf⟩
theorem zmq(a b:Option Addr)(ca cb:Nat)(zs:List Int)(w:World)(ha:Ri w a ca zs)(hb:Ri w b cb zs) :
 Calls Tryz.prog 14 #[.slice a zs.length ca,.slice b zs.length cb] w fun e w'=>e=.returned (.bool true)/\Below w.heap.size w w':=by
 have k1:=ha.2.1
 have k2:=ha.2.2.1
 unfold maxLen at k2
 have hne:((zs.length:Int) != (zs.length:Int))=false:=by simp
 have HA:Hid (Ri w a ca zs):=ha
 have HB:Hid (Ri w b cb zs):=hb
 clear ha hb
 go_enter Tryz.func14,Tryz.ntmps14
 go_wp2
 go_loopw [5] (fun i wr=>∃k:Nat,k<=zs.length/\i=.int .i64 k/\Below w.heap.size w wr) (fun i _=>zs.length-(intOf i).toNat)
 case atStart=>exact⟨0,Nat.zero_le _,rfl,Below.refl _ _⟩
 case round =>
  obtain⟨k,hk,rfl,hnx⟩:=hrel
  by_cases hkn:k<zs.length
  . obtain⟨b1,o1,rfl,_,c1⟩:=HA.out.at hnx k hkn
    obtain⟨b2,o2,rfl,_,c2⟩:=HB.out.at hnx k hkn
    obtain⟨x,hx⟩:∃x,zs.getD k 0=x:=⟨_,rfl⟩
    rw[hx]at c1 c2
    have hxx:((x:Int) != (x:Int))=false:=by simp
    clear hx
    have i1:(0:Int)<=(k:Int):=by omega
    have i2:(k:Int)<(zs.length:Int):=by omega
    go_wp2_with fail
    go_quiet (fail)
    go_wp2
    go_roundw
    case rel=>exact⟨k+1,by omega,by go_num,below_drewN hnx _⟩
    case measure=>simp[intOf];omega
  . go_wp2
    go_ret
    exact⟨rfl,hnx⟩
theorem zf4{n:Int}(h:(Lit.int .i64 n).wf=true):-9223372036854775808<=n/\n<=9223372036854775807:=by
 simp[Lit.wf,IntKind.min,IntKind.max,IntKind.bits,IntKind.signed]at h
 omega
open Go.ChangeShapes Go.WideShapes Go.Joins Go.Deep
def Opens{α:Type}(E:El α)(t:TypeId):Prop :=
 Tryz.prog.cellsOf t=E.sz/\∀(H:Type) (enc:TypeId×Value->H) (W:World) (held:Bool) (fuel:Nat) (cs:List Value) (x:DataW H×List MemPlace),
  DataW.trod enc Tryz.prog W 0 (fun _=>true) held fuel t cs=some x->(∀n∈x.1.weights Tryz.prog t,n<=reachBytes)->∃y:α,E.rep (fun k=>k<W.heap.size) W cs y
theorem Opens.num{t:TypeId}{k:IntKind}{lo hi:Int}(ht:Tryz.prog.underlying t=some (.int k))(hc:Tryz.prog.cellsOf t=1)(hb:∀z,(Lit.int k z).wf=true->lo<=z/\z<=hi):Opens (El.num k lo hi) t :=
 ⟨hc,fun H enc W held fuel cs x h hz=>by
  obtain⟨z,e,_,hw⟩:=DataW.trod_int ht h
  exact⟨z,e,hb z hw⟩⟩
theorem Opens.int{t:TypeId}(ht:Tryz.prog.underlying t=some (.int .i64))(hc:Tryz.prog.cellsOf t=1):Opens El.int t:=Opens.num ht hc (fun z hw=>zf4 hw)
theorem Opens.bool{t:TypeId}(ht:Tryz.prog.underlying t=some .bool)(hc:Tryz.prog.cellsOf t=1):Opens El.bool t :=
 ⟨hc,fun H enc W held fuel cs x h hz=>by
  obtain⟨z,e,_⟩:=DataW.trod_bool ht h
  exact⟨z,e⟩⟩
theorem Opens.str{t:TypeId}(ht:Tryz.prog.underlying t=some .string)(hc:Tryz.prog.cellsOf t=1):Opens El.str t :=
 ⟨hc,fun H enc W held fuel cs x h hz=>by
  obtain⟨z,e,_,hw⟩:=DataW.trod_string ht h
  exact⟨z,e,hw⟩⟩
theorem Opens.via{α β:Type}{E:El α}{t:TypeId}(h:Opens E t){f:β->α}{d:β}(hf:∀x,∃y,f y=x):Opens (E.via f d) t :=
 ⟨h.1,fun H enc W held fuel cs x h1 hz=>by
  obtain⟨z,hz⟩:=h.2 H enc W held fuel cs x h1 hz
  obtain⟨y,rfl⟩:=hf z
  exact⟨y,hz⟩⟩
theorem zj8{α:Type}{d:α}{p:Nat->α->Prop}:∀n,(∀i,i<n->∃o,p i o)->∃os:List α,os.length=n/\∀i,i<n->p i (os.getD i d):=by
 intro n
 induction n with
 | zero=>exact fun _=>⟨[],rfl,fun i hi=>by omega⟩
 | succ n ih =>
  intro h
  obtain⟨os,hl,ho⟩:=ih (fun i hi=>h i (by omega))
  obtain⟨o,h1⟩:=h n (by omega)
  refine⟨os++[o],by simp[hl],fun i hi=>?_⟩
  by_cases hi':i<n
  . have e:(os++[o]).getD i d=os.getD i d:=by simp[List.getD,List.getElem?_append_left (show i<os.length by omega)]
    rw[e]
    exact ho i hi'
  . have e:i=n:=by omega
    subst e
    have e:(os++[o]).getD i d=o:=by simp[List.getD,<-hl]
    rw[e]
    exact h1
theorem ze8{H:Type}{P:Program}{e:TypeId}{d:DataW H}:∀ {l:List (DataW H)},d∈l->∀ {n:Nat},n∈d.weights P e->n∈DataW.weightsAll P e l
 | c::l,h,n,hn=>by
  rw[DataW.weightsAll,List.mem_append]
  rcases List.mem_cons.1 h with h|h
  . exact .inl (by rw[<-h];exact hn)
  . exact .inr (ze8 h hn)
theorem Opens.row{α:Type}{E:El α}{t e:TypeId}(h:Opens E e)(ht:Tryz.prog.underlying t=some (.slice e))(hc:Tryz.prog.cellsOf t=1)(hsz:0<E.sz)(hby:1<=Tryz.prog.bytesOf e):Opens E.row t :=
 ⟨hc,fun H enc W held fuel cs x hf hz=>by
  rcases open_slice ht hf with ⟨hcs,_⟩|⟨ad,len,cap,m,n,D,Pl,hcs,_,hl,hm,hmm,hx,hel⟩
  . exact⟨[],none,0,hcs,(fun b o e1=>by cases e1),Gr.nil _ _ _ _ _ (Nat.zero_le _) (fun _=>rfl),Nat.zero_le _⟩
  . have hle:len<=m:=by rw[hmm];split <;> omega
    subst hx
    have hzm:∀i,i<len->∀k∈(D i).weights Tryz.prog e,k<=reachBytes:=by
     intro i hi k hk
     refine hz k ?_
     simp only[DataW.weights,ht,List.mem_cons,List.mem_append]
     exact .inr (.inl (ze8 (List.mem_map.2 ⟨i,List.mem_range.2 hi,rfl⟩) hk))
    have hzl:len<=140737488351232:=by
     have h1:=hz ((((List.range len).map D).length+((List.range (m-len)).map fun j=>D (len+j)).length)*Tryz.prog.bytesOf e) (by simp only[DataW.weights,ht];exact List.mem_cons_self)
     rw[List.length_map,List.length_map,List.length_range,List.length_range]at h1
     have h2:(len+(m-len))*1<=(len+(m-len))*Tryz.prog.bytesOf e:=Nat.mul_le_mul_left _ hby
     have h3:reachBytes=140737488351232:=rfl
     omega
    have zni:∀i,i<len->∃o:α,∃vs,E.rep (fun k=>k<W.heap.size) W vs o/\∀j,j<E.sz->W.cell? ((ad.add (i*E.sz)).add j)=vs[j]?:=by
     intro i hi
     obtain⟨cs',hc',ht'⟩:=hel i (by omega)
     rw[h.1]at hc'
     obtain⟨hlen,_,hcell⟩:=World.cells?_some hc'
     obtain⟨o,ho⟩:=h.2 H enc W held n cs' _ ht' (hzm i hi)
     refine⟨o,cs',ho,fun j hj=>?_⟩
     have:=hcell j (by omega)
     rw[this,List.getElem?_eq_getElem (by omega)]
    obtain⟨os,hol,ho⟩:=zj8 (d:=E.dfl) len zni
    have key:∀i,i<len->∃b off vs,ad=⟨b,off,none⟩/\b<W.heap.size/\E.rep (fun k=>k<W.heap.size) W vs (os.getD i E.dfl)/\∀j,j<E.sz->W.cell? ⟨b,off+i*E.sz+j,none⟩=vs[j]?:=by
     intro i hi
     obtain⟨vs,h1,h2⟩:=ho i hi
     obtain⟨b,off,spot⟩:=ad
     have h0:=h2 0 hsz
     have hv:0<vs.length:=by rw[E.len h1];exact hsz
     rw[List.getElem?_eq_getElem hv]at h0
     have hspot:spot=none:=by
      obtain⟨vs',h1',h2'⟩:=ho 0 (by omega)
      have h0':=h2' 0 hsz
      rw[List.getElem?_eq_getElem (by rw[E.len h1'];exact hsz)]at h0'
      have:=World.cell?_spot h0'
      simpa [Addr.add] using this
     subst hspot
     have zdx:∀i,(⟨b,off,none⟩:Addr).add i=⟨b,off+i,none⟩:=by intro i;unfold Addr.add;split <;> simp_all
     have zy4:∀i j,((⟨b,off,none⟩:Addr).add i).add j=⟨b,off+i+j,none⟩:=by intro i j;rw[zdx];unfold Addr.add;split <;> simp_all
     have hlt:=World.block_lt_of_cell? W _ h0
     rw[zy4]at hlt
     exact⟨b,off,vs,rfl,hlt,h1,fun j hj=>by rw[<-zy4];exact h2 j hj⟩
    refine⟨os,some ad,cap,by rw[hcs,hol],fun b o e1 hne=>?_,⟨by omega,hm,(fun e=>by cases e),fun i hi=>?_⟩,by rw[hol];exact hzl⟩
    . obtain⟨b',off',_,e2,hb',_⟩:=key 0 (by have:=List.length_pos_iff.2 hne;omega)
      rw[e2]at e1
      cases e1
      exact hb'
    . obtain⟨b,off,vs,e2,hb,h1,h2⟩:=key i (by omega)
      exact⟨b,off,vs,by rw[e2],hb,h1,h2⟩⟩
def OpensF{α:Type}(E:El α)(fs:List Field)(off:Nat):Prop :=
 ∀(H:Type) (enc:TypeId×Value->H) (W:World) (held:Bool) (n:Nat) (cs:List Value),(∀f∈fs,∃y,DataW.trod enc Tryz.prog W 0 (fun _=>true) held n f.type ((cs.drop f.offset).take (Tryz.prog.cellsOf f.type))=some y/\∀k∈y.1.weights Tryz.prog f.type,k<=reachBytes) ->
  ∃x:α,E.rep (fun k=>k<W.heap.size) W ((cs.drop off).take E.sz) x
theorem OpensF.last{α:Type}{E:El α}{f:Field}{off:Nat}(h:Opens E f.type)(ho:f.offset=off):OpensF E [f] off:=by
 intro H enc W held n cs hy
 obtain⟨y,hy,hz⟩:=hy f (by simp)
 rw[h.1,ho]at hy
 exact h.2 H enc W held n _ y hy hz
theorem OpensF.more{α β:Type}{E:El α}{F:El β}{f:Field}{fs:List Field}{off:Nat}(h:Opens E f.type)(ho:f.offset=off)(hs:OpensF F fs (off+E.sz)):OpensF (E.cat F) (f::fs) off:=by
 intro H enc W held n cs hy
 obtain⟨y,hy0,hz0⟩:=hy f (by simp)
 rw[h.1,ho]at hy0
 obtain⟨x,hx⟩:=h.2 H enc W held n _ y hy0 hz0
 obtain⟨z,hz⟩:=hs H enc W held n cs (fun g hg=>hy g (by simp[hg]))
 refine⟨(x,z),(cs.drop off).take E.sz,(cs.drop (off+E.sz)).take F.sz,?_,hx,hz⟩
 show(cs.drop off).take (E.sz+F.sz)=_
 rw[List.take_add,List.drop_drop]
theorem Opens.struct{α:Type}{E:El α}{t:TypeId}{fs:Array Field}(ht:Tryz.prog.underlying t=some (.struct fs))(hc:Tryz.prog.cellsOf t=E.sz)(h:OpensF E fs.toList 0):Opens E t :=
 ⟨hc,fun H enc W held fuel cs x hf hz=>by
  obtain⟨xs,n,_,hx,hl,hlen,hff⟩:=DataW.trod_struct ht hf
  subst hx
  obtain⟨y,hy⟩:=h H enc W held n cs (fun f hf'=>by
   obtain⟨i,hi,e⟩:=List.getElem_of_mem hf'
   have:=hff i f (by rw[<-e];simp)
   have hix:i<xs.length:=by simpa [hlen] using hi
   rw[this]
   refine⟨xs[i]'hix,by rw[List.getElem?_eq_getElem],fun k hk=>hz k ?_⟩
   simp only[DataW.weights,ht]
   refine DataW.weights_mem_each (j:=i) (t:=f.type) (d:=(xs[i]'hix).1) ?_ ?_ k hk
   . rw[List.getElem?_map,List.getElem?_eq_getElem hi,e]
     rfl
   . rw[List.getElem?_map,List.getElem?_eq_getElem hix]
     rfl)
  rw[List.drop_zero,List.take_of_length_le (by rw[hl,hc];exact Nat.le_refl _)]at hy
  exact⟨y,hy⟩⟩
theorem Opens.agg{α:Type}{E:El α}{t:TypeId}(h:Opens E t){fs:Array Field}(ht:Tryz.prog.underlying t=some (.struct fs)){H:Type}{enc:TypeId×Value->H}{W:World}{held:Bool}{r:Reach}{b0:Nat}{v:Value}{d:DataW H}{p:List MemPlace}
    (hv:Value.okWide Tryz.prog W r b0 t v) (hd:DataW.Trod enc Tryz.prog W 0 (fun _=>true) held t v d p) (hz:∀n∈d.weights Tryz.prog t,n<=reachBytes):∃(cs:Array Value) (y:α),v=.agg cs/\E.rep (fun k=>k<W.heap.size) W cs.toList y:=by
 obtain⟨cs,rfl,hsz⟩:=okWide_struct ht hv
 obtain⟨fuel,hf⟩:=hd
 obtain⟨y,hy⟩:=h.2 H enc W held fuel _ _ hf hz
 exact⟨cs,y,rfl,by simpa [Value.cells] using hy⟩
theorem zb3:Opens El.int 3:=Opens.int Tryz.underlying3 (by kernel_rfl)
theorem zjy:Opens El.bool 4:=Opens.bool Tryz.underlying4 (by kernel_rfl)
theorem zit:Opens El.int.row 37:=Opens.row zb3 Tryz.underlying37 (by kernel_rfl) Nat.one_pos (of_decide_eq_true (by kernel_rfl))
theorem zdc:Opens SlU 62:=Opens.struct (E:=El.int.cat El.int) Tryz.underlying62 (by kernel_rfl) (OpensF.more zb3 rfl (OpensF.last zb3 rfl))
theorem zjv:Opens RuE 131 :=
 (Opens.struct (E:=El.int.row.cat (El.int.row.cat (El.int.cat (El.int.cat (SlU.cat (SlU.cat SlU)))))) Tryz.underlying131 (by kernel_rfl)
  (OpensF.more zit rfl (OpensF.more zit rfl (OpensF.more zb3 rfl (OpensF.more zb3 rfl (OpensF.more zdc rfl (OpensF.more zdc rfl (OpensF.last zdc rfl)))))))).via (fun x=>⟨⟨x.1,x.2.1,x.2.2.1,x.2.2.2.1,x.2.2.2.2.1,x.2.2.2.2.2.1,x.2.2.2.2.2.2⟩,rfl⟩)
theorem zir:Opens RuE.row 121:=Opens.row zjv Tryz.underlying121 (by kernel_rfl) (by decide) (of_decide_eq_true (by kernel_rfl))
theorem zjx:Opens LkE 123 :=
 (Opens.struct (E:=El.int.cat (El.bool.cat RuE.row)) Tryz.underlying123 (by kernel_rfl) (OpensF.more zb3 rfl (OpensF.more zjy rfl (OpensF.last zir rfl)))).via (fun x=>⟨⟨x.1,x.2.1,x.2.2⟩,rfl⟩)
theorem zis:Opens LkE.row 32:=Opens.row zjx Tryz.underlying32 (by kernel_rfl) (by decide) (of_decide_eq_true (by kernel_rfl))
theorem zg3{H:Type}{enc:TypeId×Value->H}{W:World}{base:Nat}{sp:Nat->Bool}{held:Bool}{fuel:Nat}{cs:List Value}{z:Int}{x:DataW H×List MemPlace}(h:DataW.trod enc Tryz.prog W base sp held fuel 3 cs=some x)(hx:x.1=.lit (.int .i64 z)):cs=[.int .i64 z]:=by
 obtain⟨n,e,h2,_⟩:=DataW.trod_int Tryz.underlying3 h
 rw[h2]at hx
 simp at hx
 rw[e,hx]
theorem zqr{α:Type}{l:List α}(h:l.length=4):∃a b c d,l=[a,b,c,d]:=by
 rcases l with _|⟨a,_|⟨b,_|⟨c,_|⟨d,_|⟨e,l⟩⟩⟩⟩⟩ <;> simp at h
 exact⟨a,b,c,d,rfl⟩
theorem zdl{H:Type}{enc:TypeId×Value->H}{W:World}{base:Nat}{sp:Nat->Bool}{held:Bool}{fuel:Nat}{cs:List Value}{z0 z1 z2 z3:Int}{x:DataW H×List MemPlace}
    (h:DataW.trod enc Tryz.prog W base sp held fuel 168 cs=some x) (hx:x.1=.agg [.lit (.int .i64 z0),.lit (.int .i64 z1),.lit (.int .i64 z2),.lit (.int .i64 z3)]):cs=[.int .i64 z0,.int .i64 z1,.int .i64 z2,.int .i64 z3]:=by
 obtain⟨xs,n,_,hxx,hl,hlen,hff⟩:=DataW.trod_struct Tryz.underlying168 h
 have hc4:Tryz.prog.cellsOf 168=4:=by kernel_rfl
 have hc1:Tryz.prog.cellsOf 3=1:=by kernel_rfl
 rw[hc4]at hl
 obtain⟨x0,x1,x2,x3,rfl⟩:=zqr (l:=xs) hlen
 obtain⟨c0,c1,c2,c3,rfl⟩:=zqr hl
 rw[hxx]at hx
 simp only[List.map_cons,List.map_nil,DataW.agg.injEq,List.cons.injEq,and_true]at hx
 obtain⟨e0,e1,e2,e3⟩:=hx
 have h0:DataW.trod enc Tryz.prog W base sp held n 3 (([c0,c1,c2,c3].drop 0).take (Tryz.prog.cellsOf 3))=some x0:=hff 0 _ rfl
 have h1:DataW.trod enc Tryz.prog W base sp held n 3 (([c0,c1,c2,c3].drop 1).take (Tryz.prog.cellsOf 3))=some x1:=hff 1 _ rfl
 have h2:DataW.trod enc Tryz.prog W base sp held n 3 (([c0,c1,c2,c3].drop 2).take (Tryz.prog.cellsOf 3))=some x2:=hff 2 _ rfl
 have h3:DataW.trod enc Tryz.prog W base sp held n 3 (([c0,c1,c2,c3].drop 3).take (Tryz.prog.cellsOf 3))=some x3:=hff 3 _ rfl
 rw[hc1]at h0 h1 h2 h3
 have r0:=zg3 h0 e0
 have r1:=zg3 h1 e1
 have r2:=zg3 h2 e2
 have r3:=zg3 h3 e3
 simp at r0 r1 r2 r3
 rw[r0,r1,r2,r3]
theorem zwu{α:Type}{l:List α}(h:l.length=5):∃a b c d e,l=[a,b,c,d,e]:=by
 rcases l with _|⟨a,_|⟨b,_|⟨c,_|⟨d,_|⟨e,_|⟨f,l⟩⟩⟩⟩⟩⟩ <;> simp at h
 exact⟨a,b,c,d,e,rfl⟩
theorem gSpan : Tryz.prog.globalNamed "foundry/subst.spans" = some 0 := by kernel_rfl
theorem gSpanType:(Tryz.prog.globals[0]?).map (·.type)=some 169:=by kernel_rfl
theorem zxu {W : World} (h : laidMet Tryz.prog [("foundry/subst.spans", Rows.laid_foundry_subst_spans)] W) : Spn W := by
 obtain⟨ps,⟨g',t',⟨cs⟩,fuel,p,q,hg',ht',zxm,hd,_,_⟩,_⟩:=h
 obtain rfl:=Option.some.inj (gSpan.symm.trans hg')
 obtain rfl:=Option.some.inj (gSpanType.symm.trans ht')
 have hd2:DataW.trod _ Tryz.prog W _ _ _ fuel 169 cs=some _:=hd
 obtain⟨xs,m,_,hxx,hl,hlen,ht⟩:=DataW.trod_array Tryz.underlying169 hd2
 have hC:Tryz.prog.cellsOf 169=20:=by kernel_rfl
 have hc:Tryz.prog.cellsOf 168=4:=by kernel_rfl
 obtain⟨x0,x1,x2,x3,x4,rfl⟩:=zwu hlen
 have hx:=congrArg Prod.fst hxx
 simp only[Rows.laid_foundry_subst_spans,List.map_cons,List.map_nil,DataW.agg.injEq,List.cons.injEq,and_true]at hx
 obtain⟨e0,e1,e2,e3,e4⟩:=hx
 have h0:=ht 0 (by decide)
 have h1:=ht 1 (by decide)
 have h2:=ht 2 (by decide)
 have h3:=ht 3 (by decide)
 have h4:=ht 4 (by decide)
 rw[hc]at h0 h1 h2 h3 h4
 have r0:=zdl h0 e0.symm
 have r1:=zdl h1 e1.symm
 have r2:=zdl h2 e2.symm
 have r3:=zdl h3 e3.symm
 have r4:=zdl h4 e4.symm
 rw[hC]at hl
 have hall:cs=spN.map (fun(z:Nat)=>Value.int .i64 (z:Int)):=by
  have hh:cs=((cs.drop (0*4)).take 4)++(((cs.drop (1*4)).take 4)++(((cs.drop (2*4)).take 4)++(((cs.drop (3*4)).take 4)++((cs.drop (4*4)).take 4)))):=by
   rw[List.take_of_length_le (l:=cs.drop (4*4)) (by rw[List.length_drop];omega)]
   have k3:(cs.drop (3*4)).take 4++cs.drop (4*4)=cs.drop (3*4):=by
    have:=List.take_append_drop 4 (cs.drop (3*4))
    rwa [List.drop_drop]at this
   have k2:(cs.drop (2*4)).take 4++cs.drop (3*4)=cs.drop (2*4):=by
    have:=List.take_append_drop 4 (cs.drop (2*4))
    rwa [List.drop_drop]at this
   have k1:(cs.drop (1*4)).take 4++cs.drop (2*4)=cs.drop (1*4):=by
    have:=List.take_append_drop 4 (cs.drop (1*4))
    rwa [List.drop_drop]at this
   have k0:(cs.drop (0*4)).take 4++cs.drop (1*4)=cs:=by
    simp
   rw[k3,k2,k1,k0]
  rw[hh,r0,r1,r2,r3,r4]
  rfl
 have hsz:0<W.heap.size:=by
  unfold World.var? at zxm
  rw[gSpan]at zxm
  simp only[Option.bind_some]at zxm
  cases hb:W.heap[0]? with
  | none=>rw[hb]at zxm;cases zxm
  | some o=>exact(Array.getElem?_eq_some_iff.1 hb).1
 refine⟨hsz,fun i hi=>?_⟩
 have h9:=World.var?_cell gSpan zxm i
 rw[hall]at h9;rw[h9]
 have h20:i<spN.length:=hi
 simp[List.getD,h20]
theorem zba:Opens El.int 3:=Opens.int Tryz.underlying3 (by kernel_rfl)
theorem zee:Opens El.bool 4:=Opens.bool Tryz.underlying4 (by kernel_rfl)
theorem zsm:Opens PnE 307 :=
 (Opens.struct (E:=El.int.cat (El.int.cat El.bool)) Tryz.underlying307 (by kernel_rfl) (OpensF.more zba rfl (OpensF.more zba rfl (OpensF.last zee rfl)))).via (fun x=>⟨⟨x.1,x.2.1,x.2.2⟩,rfl⟩)
theorem zsn:Opens PaE 303 :=
 (Opens.struct (E:=El.int.cat (El.int.cat El.int)) Tryz.underlying303 (by kernel_rfl) (OpensF.more zba rfl (OpensF.more zba rfl (OpensF.last zba rfl)))).via (fun x=>⟨⟨x.1,x.2.1,x.2.2⟩,rfl⟩)
theorem zpe:Opens PnE.row 149:=Opens.row zsm Tryz.underlying149 (by kernel_rfl) (by decide) (of_decide_eq_true (by kernel_rfl))
theorem zm6:Opens PnE.row.row 56:=Opens.row zpe Tryz.underlying56 (by kernel_rfl) Nat.one_pos (of_decide_eq_true (by kernel_rfl))
theorem zpf:Opens PaE.row 57:=Opens.row zsn Tryz.underlying57 (by kernel_rfl) (by decide) (of_decide_eq_true (by kernel_rfl))
theorem zhf:Opens (PnE.row.row.cat PaE.row) 59 :=
 Opens.struct Tryz.underlying59 (by kernel_rfl) (OpensF.more zm6 rfl (OpensF.last zpf rfl))
