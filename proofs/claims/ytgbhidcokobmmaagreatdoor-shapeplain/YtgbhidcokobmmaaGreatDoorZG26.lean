import Derived.Test.YtgbhidcokobmmaaGreatDoorZG25
import Derived.Deep.Strs
import Derived.OpenShut
import Derived.SizedLaws
import Derived.Lib.SmallJoins
import Derived.Test.YtgbhidcokobmmaaGreatDoorRows
import Derived.LaidLaws
import Derived.Lib.LaidTab
set_option maxHeartbeats 8000000
set_option maxRecDepth 100000
set_option linter.unusedSimpArgs false
set_option linter.unusedVariables false
namespace Go.Proofs.YtgbhidcokobmmaaGreatDoor
open Go.RowKit Go.Maps
theorem zqc{l:List Rn}(h:∀k,k<l.length->-1000000<=(l.getD k Rn.none).gl/\(l.getD k Rn.none).gl<=1000000/\-1000000<=(l.getD k Rn.none).fr)(c:Int)(h0:0<=c)(h1:c<=1114111):NoR l c:=by
 intro k hk hin
 obtain⟨g1,g2,g3⟩:=h k hk
 unfold inR at hin
 simp only[Bool.and_eq_true,decide_eq_true_iff]at hin
 exact⟨⟨by omega,by omega⟩,⟨by omega,by omega⟩⟩
theorem zev(S:Nat->Prop)(d:FoD)(x:Fo)(bd:List (List (Int×Int)))(c:Option Addr)(cc:Nat)(cs:List Int)(t:ByteArray)(o:Option Addr)(oc:Nat)(on:List ByteArray)(w:World)(h:FoR S w d x)(hX:FoX S w d x bd)(kc:cs.length<=9223372036854775807)(ko:on.length<=9223372036854775807)(ktt:t.size<=9223372036854775807) :
 Calls Tryz.prog 9 #[fV d x,.agg #[.slice c cs.length cc,.string t,.slice o on.length oc]] w fun e w'=>zd1 (FoB x/\cs.length<=20/\t.size<=500/\on.length<=50) e/\Below w.heap.size w w':=by
 have HF1:Hid (∀U,Below w.heap.size w U->Calls Tryz.prog 23 #[fV d x] U fun e w'=>zd1 (x.gl.length<=40/\FewF x.ft x.sw) e/\Below U.heap.size U w'):=fun U hU=>zky S d x bd U (h.below hU) (hX.below hU)
 have HRN:Hid (Gr RnE S w d.ra d.rc x.rn):=h.hr
 have krn:=h.hr.lenB
 obtain⟨hg,hm,hl,hr,hk,hf,hs⟩:=h;obtain⟨ebl,hbd,kx,kt,kf,ks,krg,krr⟩:=hX;obtain⟨xa,xl,xc,ba,bl,bc,ga,gc,ma,mc,la,lc,ta,tl,tc,da,dl,dc,ra,rc,ka,kc,fa,fc,sa,sc⟩:=d
 dsimp only[fV]at hg hm hl hr hk hf hs ebl hbd kx kt HF1 HRN ⊢
 subst ebl
 obtain⟨W,hW,XW,XA,hbW⟩:∃W,W=(w.alloc (.cells #[.slice xa xl xc,.slice ba bd.length bc,.slice ga x.s.rg.length gc,.slice ma x.s.rw.length mc,.slice la x.gl.length lc,.slice ta tl tc,.slice da dl dc,.slice ra x.rn.length rc,.slice ka x.lk.length kc,.slice fa x.ft.length fc,.slice sa x.sw.length sc] 36)).alloc (.cells #[.slice c cs.length cc,.string t,.slice o on.length oc] 40)/\Bk 36 W w.heap.size [.slice xa xl xc,.slice ba bd.length bc,.slice ga x.s.rg.length gc,.slice ma x.s.rw.length mc,.slice la x.gl.length lc,.slice ta tl tc,.slice da dl dc,.slice ra x.rn.length rc,.slice ka x.lk.length kc,.slice fa x.ft.length fc,.slice sa x.sw.length sc]/\Bk 40 W (w.heap.size+1) [.slice c cs.length cc,.string t,.slice o on.length oc]/\Below w.heap.size w W:=by
  obtain⟨h1,h2,h3⟩:=new2B w 36 40 [.slice xa xl xc,.slice ba bd.length bc,.slice ga x.s.rg.length gc,.slice ma x.s.rw.length mc,.slice la x.gl.length lc,.slice ta tl tc,.slice da dl dc,.slice ra x.rn.length rc,.slice ka x.lk.length kc,.slice fa x.ft.length fc,.slice sa x.sw.length sc] [.slice c cs.length cc,.string t,.slice o on.length oc]
  exact⟨_,rfl,h1,h2,h3⟩
 have HF2:Hid (∀U,Below w.heap.size w U->Calls Tryz.prog 24 #[.agg #[.slice ga x.s.rg.length gc,.slice ma x.s.rw.length mc]] U fun e w'=>∃q:Bool,e=.returned (.bool q)/\(q=true->x.s.rg.length<=20/\(∀l∈x.s.rg,l.length<=8)/\x.s.rw.length<=2000)/\Below U.heap.size U w'):=fun U hU=>zj6 ga gc ma mc x.s U (hg.below hU) (hm.below hU) krg krr
 have HXW:Hid (Bk 36 W w.heap.size _):=XW
 have HXA:Hid (Bk 40 W (w.heap.size+1) _):=XA
 have kg:=hg.lenB
 obtain⟨x0,x1,x2,x3,x4,x5,x6,x7,x8,x9,x10⟩:=XW.elevenH
 have h1:=HF1.out W hbW
 clear hg hm hl hr hk hf hs hbd krg krr XW XA
 go_enter Tryz.func9,Tryz.ntmps9
 go_upto_region 1 with fail
 rw[<-hW];clear hW
 go_wp2_with fail
 refine h1.mono ?_
 rintro e u1 ⟨hbo,hb⟩;obtain⟨q1,rfl,hq1⟩:=hbo.out
 have hb1:=hbW.trans (hb.mono hbW.size)
 have X1:=HXW.out.below hb
 have A1:=HXA.out.below hb
 clear h1 hbo hb x0 x1 x2 x3 x4 x5 x6 x7 x8 x9 x10
 cases q1 with
 | false =>
  clear hq1 X1 A1
  go_wp2_with fail
  go_ret
  exact⟨⟨⟨false,rfl,fun h=>by cases h⟩⟩,hb1⟩
 | true =>
 have HQ1:Hid (x.gl.length<=40/\FewF x.ft x.sw):=hq1 rfl
 have h2:=HF2.out u1 hb1
 obtain⟨-,-,x2,x3,-,-,-,-,-,-,-⟩:=X1.elevenH;clear hq1
 go_wp2_with fail
 refine h2.mono ?_
 rintro e u2 ⟨q2,rfl,hq2,hb⟩
 have hb2:=hb1.trans (hb.mono hb1.size)
 have X2:=X1.below hb
 have A2:=A1.below hb
 clear h2 hb X1 A1 x2 x3
 cases q2 with
 | false =>
  clear hq2 X2 A2
  go_wp2_with fail
  go_ret
  exact⟨⟨⟨false,rfl,fun h=>by cases h⟩⟩,hb2⟩
 | true =>
 have HQ2:Hid (_):=hq2 rfl
 obtain⟨-,-,x2,-,-,-,-,x7,-,-,-⟩:=X2.elevenH;obtain⟨z0,z1,z2,-⟩:=A2.three;clear hq2 A2
 by_cases f0:6<x.s.rg.length
 . have d0:decide ((6:Int)<(x.s.rg.length:Int))=true:=decide_eq_true (by omega)
   have d0n:decide (6<x.s.rg.length)=true:=decide_eq_true f0
   clear X2 f0
   go_wp2_with fail
   go_ret
   exact⟨⟨⟨false,rfl,fun h=>by cases h⟩⟩,hb2⟩
 have d0:decide ((6:Int)<(x.s.rg.length:Int))=false:=decide_eq_false (by omega)
 have d0n:decide (6<x.s.rg.length)=false:=decide_eq_false f0
 by_cases f1:20<cs.length
 . have d1:decide ((20:Int)<(cs.length:Int))=true:=decide_eq_true (by omega)
   have d1n:decide (20<cs.length)=true:=decide_eq_true f1
   clear X2 f1
   go_wp2_with fail
   go_ret
   exact⟨⟨⟨false,rfl,fun h=>by cases h⟩⟩,hb2⟩
 have d1:decide ((20:Int)<(cs.length:Int))=false:=decide_eq_false (by omega)
 have d1n:decide (20<cs.length)=false:=decide_eq_false f1
 by_cases f2:500<t.size
 . have d2:decide ((500:Int)<(t.size:Int))=true:=decide_eq_true (by omega)
   have d2n:decide (500<t.size)=true:=decide_eq_true f2
   clear X2 f2
   go_wp2_with fail
   go_ret
   exact⟨⟨⟨false,rfl,fun h=>by cases h⟩⟩,hb2⟩
 have d2:decide ((500:Int)<(t.size:Int))=false:=decide_eq_false (by omega)
 have d2n:decide (500<t.size)=false:=decide_eq_false f2
 by_cases f3:50<on.length
 . have d3:decide ((50:Int)<(on.length:Int))=true:=decide_eq_true (by omega)
   have d3n:decide (50<on.length)=true:=decide_eq_true f3
   clear X2 f3
   go_wp2_with fail
   go_ret
   exact⟨⟨⟨false,rfl,fun h=>by cases h⟩⟩,hb2⟩
 have d3:decide ((50:Int)<(on.length:Int))=false:=decide_eq_false (by omega)
 have d3n:decide (50<on.length)=false:=decide_eq_false f3
 have HXU:Hid (Bk 36 u2 w.heap.size _):=X2
 have HSZ:Hid (cs.length<=20/\t.size<=500/\on.length<=50):=⟨by omega,by omega,by omega⟩
 clear X2
 go_wp2_with fail
 clear d0 d0n d1 d1n d2 d2n d3 d3n f0 f1 f2 f3 x2 x7 z0 z1 z2
 go_loopw [5] (fun i wr=>∃k:Nat,k<=x.rn.length/\i=.int .i64 k/\Hid (∀j,j<k->-1000000<=(x.rn.getD j Rn.none).gl/\(x.rn.getD j Rn.none).gl<=1000000/\-1000000<=(x.rn.getD j Rn.none).fr)/\Below u2.heap.size u2 wr) (fun i _=>x.rn.length-(intOf i).toNat)
 case atStart=>exact⟨0,Nat.zero_le _,rfl,(fun j hj=>by omega),Below.refl _ _⟩
 case round =>
  obtain⟨k,hk,rfl,HOK,hB⟩:=hrel
  have hBw:=hb2.trans (hB.mono hb2.size)
  have XU:=HXU.out.below hB
  obtain⟨-,-,-,-,-,-,-,x7,-,-,-⟩:=XU.elevenH;clear XU
  by_cases hkn:k<x.rn.length
  . obtain⟨b,off,ea,hb0,hw3,d0,d1,d2⟩:=HRN.out.rn hBw k hkn
    obtain⟨p,hp⟩:∃p,x.rn.getD k Rn.none=p:=⟨_,rfl⟩
    have HPP:Hid (x.rn.getD k Rn.none=p):=hp
    rw[hp]at hw3 d0 d1 d2;clear hp hw3;obtain⟨fr,tt,gl⟩:=p;dsimp only at d0 d1 d2;subst ea
    have i1:(0:Int)<=(k:Int):=by omega
    have i2:(k:Int)<(x.rn.length:Int):=by omega
    by_cases f1:gl < -1000000
    . have g1:decide (gl < -1000000)=true:=decide_eq_true f1
      go_wp2_with fail
      go_ret
      exact⟨⟨⟨false,rfl,fun h=>by cases h⟩⟩,hBw⟩
    have g1:decide (gl < -1000000)=false:=decide_eq_false f1
    by_cases f2:1000000<gl
    . have g2:decide (1000000<gl)=true:=decide_eq_true f2
      go_wp2_with fail
      go_ret
      exact⟨⟨⟨false,rfl,fun h=>by cases h⟩⟩,hBw⟩
    have g2:decide (1000000<gl)=false:=decide_eq_false f2
    by_cases f3:fr < -1000000
    . have g3:decide (fr < -1000000)=true:=decide_eq_true f3
      go_wp2_with fail
      go_ret
      exact⟨⟨⟨false,rfl,fun h=>by cases h⟩⟩,hBw⟩
    have g3:decide (fr < -1000000)=false:=decide_eq_false f3
    have zbf:Hid (∀j,j<k+1->-1000000<=(x.rn.getD j Rn.none).gl/\(x.rn.getD j Rn.none).gl<=1000000/\-1000000<=(x.rn.getD j Rn.none).fr):=fun j hj=>by
     by_cases hjk:j=k
     . subst hjk
       rw[HPP.out]
       show -1000000<=gl/\gl<=1000000/\-1000000<=fr
       exact⟨by omega,by omega,by omega⟩
     . exact HOK.out j (by omega)
    clear f1 f2 f3 HOK HPP
    go_wp2_with fail
    go_roundw
    case rel=>exact⟨k+1,by omega,by go_num,zbf,hB⟩
    case measure=>simp[intOf];omega
  . obtain rfl:k=x.rn.length:=by omega
    have HF:Hid (FoB x/\cs.length<=20/\t.size<=500/\on.length<=50):=⟨⟨HQ1.out.1,HQ2.out.1,HQ2.out.2.1,HQ2.out.2.2,HQ1.out.2,fun z h0 h1=>zqc HOK.out z h0 h1⟩,HSZ.out⟩
    have g4:¬(x.rn.length:Int)<(x.rn.length:Int):=by omega
    clear HOK
    go_wp2_with fail
    go_ret
    exact⟨⟨⟨true,rfl,fun _=>HF.out⟩⟩,hBw⟩
theorem sbAA:sb ⟨#[65,65]⟩=[65,65]:=by decide +kernel
theorem zcu(w:World)(hT:Spn w) :
 Calls Tryz.prog 8 #[] w fun e w'=>e=.returned (.bool true)/\Below w.heap.size w w':=by
 obtain⟨W0,hW0⟩:∃W0,W0=w.alloc (.cells #[.int .i64 300,.int .i64 (-1)] 62):=⟨_,rfl⟩
 have sW0:W0.heap.size=w.heap.size+1:=by rw[hW0,World.size_alloc]
 have dW0:Below w.heap.size w W0:=by rw[hW0];exact bl1 _
 have cW0:Below w.heap.size w W0:=dW0
 have BW0:Bk 62 W0 (w.heap.size) [.int .i64 300,.int .i64 (-1)]:=by rw[hW0];exact Bk.new _ _ _
 obtain⟨W1,hW1⟩:∃W1,W1=W0.alloc (.cells #[.slice none 0 0,.slice none 0 0,.slice none 0 0,.int .i64 300,.int .i64 (-1),.bool false,.slice none 0 0,.slice none 0 0,.slice none 0 0,.int .i64 300,.int .i64 (-1),.bool false] 64):=⟨_,rfl⟩
 have sW1:W1.heap.size=w.heap.size+1+1:=by rw[hW1,World.size_alloc,sW0]
 have dW1:Below W0.heap.size W0 W1:=by rw[hW1];exact bl1 _
 have cW1:Below w.heap.size w W1:=cW0.trans (dW1.mono cW0.size)
 have BW1:Bk 64 W1 (w.heap.size+1) [.slice none 0 0,.slice none 0 0,.slice none 0 0,.int .i64 300,.int .i64 (-1),.bool false,.slice none 0 0,.slice none 0 0,.slice none 0 0,.int .i64 300,.int .i64 (-1),.bool false]:=by rw[hW1,<-sW0];exact Bk.new _ _ _
 replace BW0:=BW0.below dW1
 obtain⟨W2,hW2⟩:∃W2,W2=W1.alloc (.cells #[.int .i64 65,.int .i64 65,.int .i64 1] 72):=⟨_,rfl⟩
 have sW2:W2.heap.size=w.heap.size+1+1+1:=by rw[hW2,World.size_alloc,sW1]
 have dW2:Below W1.heap.size W1 W2:=by rw[hW2];exact bl1 _
 have cW2:Below w.heap.size w W2:=cW1.trans (dW2.mono cW1.size)
 have BW2:Bk 72 W2 (w.heap.size+1+1) [.int .i64 65,.int .i64 65,.int .i64 1]:=by rw[hW2,<-sW1];exact Bk.new _ _ _
 replace BW0:=BW0.below dW2;replace BW1:=BW1.below dW2
 obtain⟨W3,hW3⟩:∃W3,W3=W2.alloc (.cells #[.slice none 0 0,.slice none 0 0,.slice none 0 0,.slice none 0 0,.slice (some ⟨w.heap.size+1,0,none⟩) 2 2,.slice none 0 0,.slice none 0 0,.slice (some ⟨w.heap.size+1+1,0,none⟩) 1 1,.slice none 0 0,.slice none 0 0,.slice none 0 0] 36):=⟨_,rfl⟩
 have sW3:W3.heap.size=w.heap.size+1+1+1+1:=by rw[hW3,World.size_alloc,sW2]
 have dW3:Below W2.heap.size W2 W3:=by rw[hW3];exact bl1 _
 have cW3:Below w.heap.size w W3:=cW2.trans (dW3.mono cW2.size)
 have BW3:Bk 36 W3 (w.heap.size+1+1+1) [.slice none 0 0,.slice none 0 0,.slice none 0 0,.slice none 0 0,.slice (some ⟨w.heap.size+1,0,none⟩) 2 2,.slice none 0 0,.slice none 0 0,.slice (some ⟨w.heap.size+1+1,0,none⟩) 1 1,.slice none 0 0,.slice none 0 0,.slice none 0 0]:=by rw[hW3,<-sW2];exact Bk.new _ _ _
 replace BW0:=BW0.below dW3;replace BW1:=BW1.below dW3;replace BW2:=BW2.below dW3
 have hgl:Gr GlE (fun _=>True) W3 (some ⟨w.heap.size+1,0,none⟩) 2 foA.gl:=by
  refine⟨Nat.le_refl _,by unfold maxLen;decide,(fun e=>by cases e),fun i hi=>?_⟩
  have hrep:GlE.rep (fun _=>True) W3 [.slice none 0 0,.slice none 0 0,.slice none 0 0,.int .i64 300,.int .i64 (-1),.bool false] ⟨Ol.none,[],300,-1,false⟩:=zn0.2 ⟨none,0,none,0,none,0,rfl,⟨none,0,rfl,fun _ _ _ _=>trivial,Gr.nil _ _ _ _ _ (Nat.zero_le _) (fun _=>rfl),by decide⟩,⟨none,0,rfl,fun _ _ _ _=>trivial,Gr.nil _ _ _ _ _ (Nat.zero_le _) (fun _=>rfl),by decide⟩,⟨none,0,rfl,fun _ _ _ _=>trivial,Gr.nil _ _ _ _ _ (Nat.zero_le _) (fun _=>rfl),by decide⟩,⟨by decide,by decide⟩,⟨by decide,by decide⟩⟩
  have h2:i=0\/i=1:=by
   have:i<2:=hi
   omega
  refine⟨w.heap.size+1,0,[.slice none 0 0,.slice none 0 0,.slice none 0 0,.int .i64 300,.int .i64 (-1),.bool false],rfl,BW1.lt,?_,fun j hj=>?_⟩
  . rcases h2 with rfl|rfl <;> exact hrep
  . have hj6:j<6:=hj
    rcases h2 with rfl|rfl
    . rw[BW1.cell _ (by show 0+0*6+j<12;omega)]
      rcases (by omega:j=0\/j=1\/j=2\/j=3\/j=4\/j=5)with rfl|rfl|rfl|rfl|rfl|rfl <;> rfl
    . rw[BW1.cell _ (by show 0+1*6+j<12;omega)]
      rcases (by omega:j=0\/j=1\/j=2\/j=3\/j=4\/j=5)with rfl|rfl|rfl|rfl|rfl|rfl <;> rfl
 have hrn:Gr RnE (fun _=>True) W3 (some ⟨w.heap.size+1+1,0,none⟩) 1 foA.rn:=Gr.one (znz.2 ⟨rfl,⟨by decide,by decide⟩,⟨by decide,by decide⟩,⟨by decide,by decide⟩⟩) BW2.lt (fun j hj=>BW2.cell j hj)
 have hFo:FoR (fun _=>True) W3 ⟨none,0,0,none,0,0,none,0,none,0,some ⟨w.heap.size+1,0,none⟩,2,none,0,0,none,0,0,some ⟨w.heap.size+1+1,0,none⟩,1,none,0,none,0,none,0⟩ foA:=⟨by unfold Tzz;simp[foA,maxLen],by unfold Rii;simp[foA,maxLen],hgl,hrn,(Gr.nil _ _ _ _ _ (Nat.zero_le _) (fun _=>rfl)),(Gr.nil _ _ _ _ _ (Nat.zero_le _) (fun _=>rfl)),(Gr.nil _ _ _ _ _ (Nat.zero_le _) (fun _=>rfl))⟩
 have hBo:FoB foA:=⟨by decide,by decide,(fun l hl=>by cases hl),by decide,⟨by decide,(fun k hk=>by cases hk),(fun k hk=>by cases hk)⟩,fun z h0 h1=>zqc (fun k hk=>by
  obtain rfl:k=0:=by
   have:k<1:=hk
   omega
  exact⟨by decide,by decide,by decide⟩) z h0 h1⟩
 have hsh:=zbk (fun _=>True) ⟨none,0,0,none,0,0,none,0,none,0,some ⟨w.heap.size+1,0,none⟩,2,none,0,0,none,0,0,some ⟨w.heap.size+1+1,0,none⟩,1,none,0,none,0,none,0⟩ foA none 0 [] ⟨#[65,65]⟩ none 0 [] W3 hFo hBo (Gr.nil _ _ _ _ _ (Nat.zero_le _) (fun _=>rfl)) (Gr.nil _ _ _ _ _ (Nat.zero_le _) (fun _=>rfl)) (by decide) (hT.below cW3)
 rw[sbAA,zv6]at hsh
 replace hsh:Calls Tryz.prog 12 #[.agg #[.slice none 0 0,.slice none 0 0,.slice none 0 0,.slice none 0 0,.slice (some ⟨w.heap.size+1,0,none⟩) 2 2,.slice none 0 0,.slice none 0 0,.slice (some ⟨w.heap.size+1+1,0,none⟩) 1 1,.slice none 0 0,.slice none 0 0,.slice none 0 0],.slice none 0 0,.string ⟨#[65,65]⟩,.slice none 0 0] W3 fun e w'=>PaA (0,[⟨1,0,0,300⟩,⟨1,0,0,300⟩]) W3.heap.size w' e/\Below W3.heap.size W3 w':=hsh
 obtain⟨x0,x1,x2,x3,x4,x5,x6,x7,x8,x9,x10⟩:=BW3.elevenH;clear hgl hrn hFo hBo BW0 BW1 BW2 hT cW0 cW1 cW2
 go_enter Tryz.func8,Tryz.ntmps8
 go_upto_region 3 with fail
 rw[<-hW0,<-hW1,<-hW2,<-hW3];clear hW0 dW0 sW0 hW1 dW1 sW1 hW2 dW2 sW2 hW3 dW3 sW3
 go_wp2_with fail
 refine hsh.mono ?_
 rintro e u ⟨hr,hb⟩;obtain⟨v,rfl,hG⟩:=hr.out;obtain⟨oa,oc,rfl,hgr,-⟩:=hG.slice
 have hbu:=cW3.trans (hb.mono cW3.size)
 have hwi:=zhy _ oa oc _ u hgr
 rw[zv3]at hwi
 have HGR:Hid (Gr PdE (fun _=>False) u oa oc [⟨1,0,0,300⟩,⟨1,0,0,300⟩]):=hgr
 clear hsh hr hG hgr hb x0 x1 x2 x3 x4 x5 x6 x7 x8 x9 x10
 go_wp2_with fail
 refine hwi.mono ?_
 rintro e u2 ⟨rfl,hb⟩
 have zae:=hbu.trans (hb.mono hbu.size)
 obtain⟨b,off,ea,hb0,hw4,d0,-,-,-⟩:=HGR.out.pd hb 1 (by decide)
 subst ea
 replace d0:u2.cell? ⟨b,off+4,none⟩=some (.int .i64 1):=d0
 clear hwi hb hw4 HGR
 go_wp2_with fail
 go_ret
 exact⟨rfl,zae⟩
def IsRowK(k:IntKind)(w:World)(a:Option Addr)(len cap:Nat)(zs:List Int):Prop :=
 (a=none/\len=0/\cap=0/\zs=[]) \/
 ∃x,a=some x/\len<=cap/\cap<=maxLen/\zs.length=cap/\(∀i,i<zs.length->w.cell? (x.add i)=some (.int k (zs.getD i 0)))/\∀n∈zs,(Lit.int k n).wf=true
theorem zfk{n:Int}(h:(Lit.int .u8 n).wf=true):0<=n/\n<256:=by
 simp[Lit.wf,IntKind.min,IntKind.max,IntKind.bits,IntKind.signed]at h
 omega
theorem ze1{n:Int}(h:(Lit.int .i64 n).wf=true):-9223372036854775808<=n/\n<=9223372036854775807:=by
 simp[Lit.wf,IntKind.min,IntKind.max,IntKind.bits,IntKind.signed]at h
 omega
theorem IsRowK.cells{k:IntKind}{w:World}{a:Option Addr}{len cap:Nat}{zs:List Int}(h:IsRowK k w a len cap zs) :
 ∃ys:List Int,len=ys.length/\(∀y∈ys,(Lit.int k y).wf=true)/\ys.length<=cap/\cap<=maxLen/\(a=none->cap=0) /\
     (ys=[]\/∃b off,a=some ⟨b,off,none⟩/\b<w.heap.size/\∀i,i<ys.length->w.cell? ⟨b,off+i,none⟩=some (.int k (ys.getD i 0))):=by
 rcases h with ⟨rfl,rfl,rfl,rfl⟩|⟨x,rfl,h1,h2,h3,hc,hw⟩
 . exact⟨[],rfl,(fun y hy=>by cases hy),Nat.le_refl _,Nat.zero_le _,fun _=>rfl,.inl rfl⟩
 . refine⟨zs.take len,by simp;omega,fun y hy=>hw y (List.mem_of_mem_take hy),by simp;omega,h2,(by simp),?_⟩
   by_cases h0:len=0
   . exact .inl (by simp[h0])
   . obtain⟨b,off,spot⟩:=x
     have c0:=hc 0 (by omega)
     have hspot:spot=none:=by simpa [Addr.add] using World.cell?_spot c0
     subst hspot
     refine .inr ⟨b,off,rfl,?_,fun i hi=>?_⟩
     . have:=World.block_lt_of_cell? w _ c0
       simpa [Addr.add] using this
     . simp at hi
       have zbs:(⟨b,off,none⟩:Addr).add i=⟨b,off+i,none⟩:=by unfold Addr.add;split <;> simp_all
       have hci:=hc i (by omega)
       rw[zbs]at hci;rw[hci]
       simp[List.getD,show i<len by omega]
theorem IsRowK.rb{w:World}{a:Option Addr}{len cap:Nat}{zs:List Int}(h:IsRowK .u8 w a len cap zs):∃xs:List Nat,len=xs.length/\Rb w a cap xs:=by
 obtain⟨ys,h1,h2,h3,h4,h5,h6⟩:=h.cells
 have hb:∀y∈ys,0<=y/\y<256:=fun y hy=>zfk (h2 y hy)
 refine⟨ys.map Int.toNat,by simp[h1],?_,by simpa using h3,h4,h5,?_⟩
 . intro x hx
   obtain⟨y,hy,rfl⟩:=List.mem_map.1 hx
   have:=hb y hy
   omega
 . rcases h6 with rfl|⟨b,off,e,hlt,hc⟩
   . exact .inl rfl
   . refine .inr ⟨b,off,e,hlt,fun i hi=>?_⟩
     simp at hi
     rw[hc i hi]
     have h0:ys.getD i 0=ys[i]:=by simp[List.getD,hi]
     have hy:=hb ys[i] (List.getElem_mem hi)
     rw[h0]
     simp[List.getD,hi]
     omega
open Go.ChangeShapes Go.WideShapes Go.Joins Go.Deep
def Opens{α:Type}(E:El α)(t:TypeId):Prop :=
 Tryz.prog.cellsOf t=E.sz/\∀(H:Type) (enc:TypeId×Value->H) (W:World) (held:Bool) (fuel:Nat) (cs:List Value) (x:DataW H×List MemPlace),
  DataW.trod enc Tryz.prog W 0 (fun _=>true) held fuel t cs=some x->(∀n∈x.1.weights Tryz.prog t,n<=reachBytes)->∃y:α,E.rep (fun k=>k<W.heap.size) W cs y
theorem Opens.num{t:TypeId}{k:IntKind}{lo hi:Int}(ht:Tryz.prog.underlying t=some (.int k))(hc:Tryz.prog.cellsOf t=1)(hb:∀z,(Lit.int k z).wf=true->lo<=z/\z<=hi):Opens (El.num k lo hi) t :=
 ⟨hc,fun H enc W held fuel cs x h hz=>by
  obtain⟨z,e,_,hw⟩:=DataW.trod_int ht h
  exact⟨z,e,hb z hw⟩⟩
theorem Opens.int{t:TypeId}(ht:Tryz.prog.underlying t=some (.int .i64))(hc:Tryz.prog.cellsOf t=1):Opens El.int t:=Opens.num ht hc (fun z hw=>ze1 hw)
theorem Opens.bool{t:TypeId}(ht:Tryz.prog.underlying t=some .bool)(hc:Tryz.prog.cellsOf t=1):Opens El.bool t :=
 ⟨hc,fun H enc W held fuel cs x h hz=>by
  obtain⟨z,e,_⟩:=DataW.trod_bool ht h
  exact⟨z,e⟩⟩
theorem Opens.str{t:TypeId}(ht:Tryz.prog.underlying t=some .string)(hc:Tryz.prog.cellsOf t=1):Opens El.str t :=
 ⟨hc,fun H enc W held fuel cs x h hz=>by
  obtain⟨z,e,_,hw⟩:=DataW.trod_string ht h
  exact⟨z,e,hw⟩⟩
theorem Opens.via{α β:Type}{E:El α}{t:TypeId}(h:Opens E t){f:β->α}{d:β}(hf:∀x,∃y,f y=x):Opens (E.via f d) t :=
 ⟨h.1,fun H enc W held fuel cs x h1 hz=>by
  obtain⟨z,hz⟩:=h.2 H enc W held fuel cs x h1 hz
  obtain⟨y,rfl⟩:=hf z
  exact⟨y,hz⟩⟩
theorem zhm{α:Type}{d:α}{p:Nat->α->Prop}:∀n,(∀i,i<n->∃o,p i o)->∃os:List α,os.length=n/\∀i,i<n->p i (os.getD i d):=by
 intro n
 induction n with
 | zero=>exact fun _=>⟨[],rfl,fun i hi=>by omega⟩
 | succ n ih =>
  intro h
  obtain⟨os,hl,ho⟩:=ih (fun i hi=>h i (by omega))
  obtain⟨o,h1⟩:=h n (by omega)
  refine⟨os++[o],by simp[hl],fun i hi=>?_⟩
  by_cases hi':i<n
  . have e:(os++[o]).getD i d=os.getD i d:=by simp[List.getD,List.getElem?_append_left (show i<os.length by omega)]
    rw[e]
    exact ho i hi'
  . have e:i=n:=by omega
    subst e
    have e:(os++[o]).getD i d=o:=by simp[List.getD,<-hl]
    rw[e]
    exact h1
theorem zec{H:Type}{P:Program}{e:TypeId}{d:DataW H}:∀ {l:List (DataW H)},d∈l->∀ {n:Nat},n∈d.weights P e->n∈DataW.weightsAll P e l
 | c::l,h,n,hn=>by
  rw[DataW.weightsAll,List.mem_append]
  rcases List.mem_cons.1 h with h|h
  . exact .inl (by rw[<-h];exact hn)
  . exact .inr (zec h hn)
theorem Opens.row{α:Type}{E:El α}{t e:TypeId}(h:Opens E e)(ht:Tryz.prog.underlying t=some (.slice e))(hc:Tryz.prog.cellsOf t=1)(hsz:0<E.sz)(hby:1<=Tryz.prog.bytesOf e):Opens E.row t :=
 ⟨hc,fun H enc W held fuel cs x hf hz=>by
  rcases open_slice ht hf with ⟨hcs,_⟩|⟨ad,len,cap,m,n,D,Pl,hcs,_,hl,hm,hmm,hx,hel⟩
  . exact⟨[],none,0,hcs,(fun b o e1=>by cases e1),Gr.nil _ _ _ _ _ (Nat.zero_le _) (fun _=>rfl),Nat.zero_le _⟩
  . have hle:len<=m:=by rw[hmm];split <;> omega
    subst hx
    have hzm:∀i,i<len->∀k∈(D i).weights Tryz.prog e,k<=reachBytes:=by
     intro i hi k hk
     refine hz k ?_
     simp only[DataW.weights,ht,List.mem_cons,List.mem_append]
     exact .inr (.inl (zec (List.mem_map.2 ⟨i,List.mem_range.2 hi,rfl⟩) hk))
    have hzl:len<=140737488351232:=by
     have h1:=hz ((((List.range len).map D).length+((List.range (m-len)).map fun j=>D (len+j)).length)*Tryz.prog.bytesOf e) (by simp only[DataW.weights,ht];exact List.mem_cons_self)
     rw[List.length_map,List.length_map,List.length_range,List.length_range]at h1
     have h2:(len+(m-len))*1<=(len+(m-len))*Tryz.prog.bytesOf e:=Nat.mul_le_mul_left _ hby
     have h3:reachBytes=140737488351232:=rfl
     omega
    have zsh:∀i,i<len->∃o:α,∃vs,E.rep (fun k=>k<W.heap.size) W vs o/\∀j,j<E.sz->W.cell? ((ad.add (i*E.sz)).add j)=vs[j]?:=by
     intro i hi
     obtain⟨cs',hc',ht'⟩:=hel i (by omega)
     rw[h.1]at hc'
     obtain⟨hlen,_,hcell⟩:=World.cells?_some hc'
     obtain⟨o,ho⟩:=h.2 H enc W held n cs' _ ht' (hzm i hi)
     refine⟨o,cs',ho,fun j hj=>?_⟩
     have:=hcell j (by omega)
     rw[this,List.getElem?_eq_getElem (by omega)]
    obtain⟨os,hol,ho⟩:=zhm (d:=E.dfl) len zsh
    have key:∀i,i<len->∃b off vs,ad=⟨b,off,none⟩/\b<W.heap.size/\E.rep (fun k=>k<W.heap.size) W vs (os.getD i E.dfl)/\∀j,j<E.sz->W.cell? ⟨b,off+i*E.sz+j,none⟩=vs[j]?:=by
     intro i hi
     obtain⟨vs,h1,h2⟩:=ho i hi
     obtain⟨b,off,spot⟩:=ad
     have h0:=h2 0 hsz
     have hv:0<vs.length:=by rw[E.len h1];exact hsz
     rw[List.getElem?_eq_getElem hv]at h0
     have hspot:spot=none:=by
      obtain⟨vs',h1',h2'⟩:=ho 0 (by omega)
      have h0':=h2' 0 hsz
      rw[List.getElem?_eq_getElem (by rw[E.len h1'];exact hsz)]at h0'
      have:=World.cell?_spot h0'
      simpa [Addr.add] using this
     subst hspot
     have zbs:∀i,(⟨b,off,none⟩:Addr).add i=⟨b,off+i,none⟩:=by intro i;unfold Addr.add;split <;> simp_all
     have zvv:∀i j,((⟨b,off,none⟩:Addr).add i).add j=⟨b,off+i+j,none⟩:=by intro i j;rw[zbs];unfold Addr.add;split <;> simp_all
     have hlt:=World.block_lt_of_cell? W _ h0
     rw[zvv]at hlt
     exact⟨b,off,vs,rfl,hlt,h1,fun j hj=>by rw[<-zvv];exact h2 j hj⟩
    refine⟨os,some ad,cap,by rw[hcs,hol],fun b o e1 hne=>?_,⟨by omega,hm,(fun e=>by cases e),fun i hi=>?_⟩,by rw[hol];exact hzl⟩
    . obtain⟨b',off',_,e2,hb',_⟩:=key 0 (by have:=List.length_pos_iff.2 hne;omega)
      rw[e2]at e1
      cases e1
      exact hb'
    . obtain⟨b,off,vs,e2,hb,h1,h2⟩:=key i (by omega)
      exact⟨b,off,vs,by rw[e2],hb,h1,h2⟩⟩
def OpensF{α:Type}(E:El α)(fs:List Field)(off:Nat):Prop :=
 ∀(H:Type) (enc:TypeId×Value->H) (W:World) (held:Bool) (n:Nat) (cs:List Value),(∀f∈fs,∃y,DataW.trod enc Tryz.prog W 0 (fun _=>true) held n f.type ((cs.drop f.offset).take (Tryz.prog.cellsOf f.type))=some y/\∀k∈y.1.weights Tryz.prog f.type,k<=reachBytes) ->
  ∃x:α,E.rep (fun k=>k<W.heap.size) W ((cs.drop off).take E.sz) x
theorem OpensF.last{α:Type}{E:El α}{f:Field}{off:Nat}(h:Opens E f.type)(ho:f.offset=off):OpensF E [f] off:=by
 intro H enc W held n cs hy
 obtain⟨y,hy,hz⟩:=hy f (by simp)
 rw[h.1,ho]at hy
 exact h.2 H enc W held n _ y hy hz
theorem OpensF.more{α β:Type}{E:El α}{F:El β}{f:Field}{fs:List Field}{off:Nat}(h:Opens E f.type)(ho:f.offset=off)(hs:OpensF F fs (off+E.sz)):OpensF (E.cat F) (f::fs) off:=by
 intro H enc W held n cs hy
 obtain⟨y,hy0,hz0⟩:=hy f (by simp)
 rw[h.1,ho]at hy0
 obtain⟨x,hx⟩:=h.2 H enc W held n _ y hy0 hz0
 obtain⟨z,hz⟩:=hs H enc W held n cs (fun g hg=>hy g (by simp[hg]))
 refine⟨(x,z),(cs.drop off).take E.sz,(cs.drop (off+E.sz)).take F.sz,?_,hx,hz⟩
 show(cs.drop off).take (E.sz+F.sz)=_
 rw[List.take_add,List.drop_drop]
theorem Opens.struct{α:Type}{E:El α}{t:TypeId}{fs:Array Field}(ht:Tryz.prog.underlying t=some (.struct fs))(hc:Tryz.prog.cellsOf t=E.sz)(h:OpensF E fs.toList 0):Opens E t :=
 ⟨hc,fun H enc W held fuel cs x hf hz=>by
  obtain⟨xs,n,_,hx,hl,hlen,hff⟩:=DataW.trod_struct ht hf
  subst hx
  obtain⟨y,hy⟩:=h H enc W held n cs (fun f hf'=>by
   obtain⟨i,hi,e⟩:=List.getElem_of_mem hf'
   have:=hff i f (by rw[<-e];simp)
   have hix:i<xs.length:=by simpa [hlen] using hi
   rw[this]
   refine⟨xs[i]'hix,by rw[List.getElem?_eq_getElem],fun k hk=>hz k ?_⟩
   simp only[DataW.weights,ht]
   refine DataW.weights_mem_each (j:=i) (t:=f.type) (d:=(xs[i]'hix).1) ?_ ?_ k hk
   . rw[List.getElem?_map,List.getElem?_eq_getElem hi,e]
     rfl
   . rw[List.getElem?_map,List.getElem?_eq_getElem hix]
     rfl)
  rw[List.drop_zero,List.take_of_length_le (by rw[hl,hc];exact Nat.le_refl _)]at hy
  exact⟨y,hy⟩⟩
theorem Opens.agg{α:Type}{E:El α}{t:TypeId}(h:Opens E t){fs:Array Field}(ht:Tryz.prog.underlying t=some (.struct fs)){H:Type}{enc:TypeId×Value->H}{W:World}{held:Bool}{r:Reach}{b0:Nat}{v:Value}{d:DataW H}{p:List MemPlace}
    (hv:Value.okWide Tryz.prog W r b0 t v) (hd:DataW.Trod enc Tryz.prog W 0 (fun _=>true) held t v d p) (hz:∀n∈d.weights Tryz.prog t,n<=reachBytes):∃(cs:Array Value) (y:α),v=.agg cs/\E.rep (fun k=>k<W.heap.size) W cs.toList y:=by
 obtain⟨cs,rfl,hsz⟩:=okWide_struct ht hv
 obtain⟨fuel,hf⟩:=hd
 obtain⟨y,hy⟩:=h.2 H enc W held fuel _ _ hf hz
 exact⟨cs,y,rfl,by simpa [Value.cells] using hy⟩
theorem Opens.cell{α:Type}{E:El α}{t:TypeId}(h:Opens E t){H:Type}{enc:TypeId×Value->H}{W:World}{held:Bool}{v:Value}{d:DataW H}{p:List MemPlace}
    (hd:DataW.Trod enc Tryz.prog W 0 (fun _=>true) held t v d p) (hz:∀n∈d.weights Tryz.prog t,n<=reachBytes) (zsh:v.cells=#[v]):∃y:α,E.rep (fun k=>k<W.heap.size) W [v] y:=by
 obtain⟨fuel,hf⟩:=hd
 obtain⟨y,hy⟩:=h.2 H enc W held fuel _ _ hf hz
 exact⟨y,by simpa [zsh] using hy⟩
theorem zbd:Opens El.int 3:=Opens.int Tryz.underlying3 (by kernel_rfl)
theorem zhi:Opens El.bool 4:=Opens.bool Tryz.underlying4 (by kernel_rfl)
theorem zgl:Opens El.int.row 37:=Opens.row zbd Tryz.underlying37 (by kernel_rfl) Nat.one_pos (of_decide_eq_true (by kernel_rfl))
theorem zco:Opens SlU 62:=Opens.struct (E:=El.int.cat El.int) Tryz.underlying62 (by kernel_rfl) (OpensF.more zbd rfl (OpensF.last zbd rfl))
theorem zhf:Opens RuE 131 :=
 (Opens.struct (E:=El.int.row.cat (El.int.row.cat (El.int.cat (El.int.cat (SlU.cat (SlU.cat SlU)))))) Tryz.underlying131 (by kernel_rfl)
  (OpensF.more zgl rfl (OpensF.more zgl rfl (OpensF.more zbd rfl (OpensF.more zbd rfl (OpensF.more zco rfl (OpensF.more zco rfl (OpensF.last zco rfl)))))))).via (fun x=>⟨⟨x.1,x.2.1,x.2.2.1,x.2.2.2.1,x.2.2.2.2.1,x.2.2.2.2.2.1,x.2.2.2.2.2.2⟩,rfl⟩)
theorem zgj:Opens RuE.row 121:=Opens.row zhf Tryz.underlying121 (by kernel_rfl) (by decide) (of_decide_eq_true (by kernel_rfl))
theorem zhh:Opens LkE 123 :=
 (Opens.struct (E:=El.int.cat (El.bool.cat RuE.row)) Tryz.underlying123 (by kernel_rfl) (OpensF.more zbd rfl (OpensF.more zhi rfl (OpensF.last zgj rfl)))).via (fun x=>⟨⟨x.1,x.2.1,x.2.2⟩,rfl⟩)
theorem zgk:Opens LkE.row 32:=Opens.row zhh Tryz.underlying32 (by kernel_rfl) (by decide) (of_decide_eq_true (by kernel_rfl))
theorem zfm{H:Type}{enc:TypeId×Value->H}{W:World}{base:Nat}{sp:Nat->Bool}{held:Bool}{fuel:Nat}{cs:List Value}{z:Int}{x:DataW H×List MemPlace}(h:DataW.trod enc Tryz.prog W base sp held fuel 3 cs=some x)(hx:x.1=.lit (.int .i64 z)):cs=[.int .i64 z]:=by
 obtain⟨n,e,h2,_⟩:=DataW.trod_int Tryz.underlying3 h
 rw[h2]at hx
 simp at hx
 rw[e,hx]
theorem zmu{α:Type}{l:List α}(h:l.length=4):∃a b c d,l=[a,b,c,d]:=by
 rcases l with _|⟨a,_|⟨b,_|⟨c,_|⟨d,_|⟨e,l⟩⟩⟩⟩⟩ <;> simp at h
 exact⟨a,b,c,d,rfl⟩
theorem zcz{H:Type}{enc:TypeId×Value->H}{W:World}{base:Nat}{sp:Nat->Bool}{held:Bool}{fuel:Nat}{cs:List Value}{z0 z1 z2 z3:Int}{x:DataW H×List MemPlace}
    (h:DataW.trod enc Tryz.prog W base sp held fuel 168 cs=some x) (hx:x.1=.agg [.lit (.int .i64 z0),.lit (.int .i64 z1),.lit (.int .i64 z2),.lit (.int .i64 z3)]):cs=[.int .i64 z0,.int .i64 z1,.int .i64 z2,.int .i64 z3]:=by
 obtain⟨xs,n,_,hxx,hl,hlen,hff⟩:=DataW.trod_struct Tryz.underlying168 h
 have hc4:Tryz.prog.cellsOf 168=4:=by kernel_rfl
 have hc1:Tryz.prog.cellsOf 3=1:=by kernel_rfl
 rw[hc4]at hl
 obtain⟨x0,x1,x2,x3,rfl⟩:=zmu (l:=xs) hlen
 obtain⟨c0,c1,c2,c3,rfl⟩:=zmu hl
 rw[hxx]at hx
 simp only[List.map_cons,List.map_nil,DataW.agg.injEq,List.cons.injEq,and_true]at hx
 obtain⟨e0,e1,e2,e3⟩:=hx
 have h0:DataW.trod enc Tryz.prog W base sp held n 3 (([c0,c1,c2,c3].drop 0).take (Tryz.prog.cellsOf 3))=some x0:=hff 0 _ rfl
 have h1:DataW.trod enc Tryz.prog W base sp held n 3 (([c0,c1,c2,c3].drop 1).take (Tryz.prog.cellsOf 3))=some x1:=hff 1 _ rfl
 have h2:DataW.trod enc Tryz.prog W base sp held n 3 (([c0,c1,c2,c3].drop 2).take (Tryz.prog.cellsOf 3))=some x2:=hff 2 _ rfl
 have h3:DataW.trod enc Tryz.prog W base sp held n 3 (([c0,c1,c2,c3].drop 3).take (Tryz.prog.cellsOf 3))=some x3:=hff 3 _ rfl
 rw[hc1]at h0 h1 h2 h3
 have r0:=zfm h0 e0
 have r1:=zfm h1 e1
 have r2:=zfm h2 e2
 have r3:=zfm h3 e3
 simp at r0 r1 r2 r3
 rw[r0,r1,r2,r3]
theorem zsz{α:Type}{l:List α}(h:l.length=5):∃a b c d e,l=[a,b,c,d,e]:=by
 rcases l with _|⟨a,_|⟨b,_|⟨c,_|⟨d,_|⟨e,_|⟨f,l⟩⟩⟩⟩⟩⟩ <;> simp at h
 exact⟨a,b,c,d,e,rfl⟩
theorem gSpan : Tryz.prog.globalNamed "foundry/subst.spans" = some 0 := by kernel_rfl
theorem gSpanType:(Tryz.prog.globals[0]?).map (·.type)=some 169:=by kernel_rfl
theorem zks {W : World} (h : laidMet Tryz.prog [("foundry/subst.spans", Rows.laid_foundry_subst_spans)] W) : Spn W := by
 obtain⟨ps,⟨g',t',⟨cs⟩,fuel,p,q,hg',ht',zt0,hd,_,_⟩,_⟩:=h
 obtain rfl:=Option.some.inj (gSpan.symm.trans hg')
 obtain rfl:=Option.some.inj (gSpanType.symm.trans ht')
 have hd2:DataW.trod _ Tryz.prog W _ _ _ fuel 169 cs=some _:=hd
 obtain⟨xs,m,_,hxx,hl,hlen,ht⟩:=DataW.trod_array Tryz.underlying169 hd2
 have hC:Tryz.prog.cellsOf 169=20:=by kernel_rfl
 have hc:Tryz.prog.cellsOf 168=4:=by kernel_rfl
 obtain⟨x0,x1,x2,x3,x4,rfl⟩:=zsz hlen
 have hx:=congrArg Prod.fst hxx
 simp only[Rows.laid_foundry_subst_spans,List.map_cons,List.map_nil,DataW.agg.injEq,List.cons.injEq,and_true]at hx
 obtain⟨e0,e1,e2,e3,e4⟩:=hx
 have h0:=ht 0 (by decide)
 have h1:=ht 1 (by decide)
 have h2:=ht 2 (by decide)
 have h3:=ht 3 (by decide)
 have h4:=ht 4 (by decide)
 rw[hc]at h0 h1 h2 h3 h4
 have r0:=zcz h0 e0.symm
 have r1:=zcz h1 e1.symm
 have r2:=zcz h2 e2.symm
 have r3:=zcz h3 e3.symm
 have r4:=zcz h4 e4.symm
 rw[hC]at hl
 have hall:cs=spN.map (fun(z:Nat)=>Value.int .i64 (z:Int)):=by
  have hh:cs=((cs.drop (0*4)).take 4)++(((cs.drop (1*4)).take 4)++(((cs.drop (2*4)).take 4)++(((cs.drop (3*4)).take 4)++((cs.drop (4*4)).take 4)))):=by
   rw[List.take_of_length_le (l:=cs.drop (4*4)) (by rw[List.length_drop];omega)]
   have k3:(cs.drop (3*4)).take 4++cs.drop (4*4)=cs.drop (3*4):=by
    have:=List.take_append_drop 4 (cs.drop (3*4))
    rwa [List.drop_drop]at this
   have k2:(cs.drop (2*4)).take 4++cs.drop (3*4)=cs.drop (2*4):=by
    have:=List.take_append_drop 4 (cs.drop (2*4))
    rwa [List.drop_drop]at this
   have k1:(cs.drop (1*4)).take 4++cs.drop (2*4)=cs.drop (1*4):=by
    have:=List.take_append_drop 4 (cs.drop (1*4))
    rwa [List.drop_drop]at this
   have k0:(cs.drop (0*4)).take 4++cs.drop (1*4)=cs:=by
    simp
   rw[k3,k2,k1,k0]
  rw[hh,r0,r1,r2,r3,r4]
  rfl
 have hsz:0<W.heap.size:=by
  unfold World.var? at zt0
  rw[gSpan]at zt0
  simp only[Option.bind_some]at zt0
  cases hb:W.heap[0]? with
  | none=>rw[hb]at zt0;cases zt0
  | some o=>exact(Array.getElem?_eq_some_iff.1 hb).1
 refine⟨hsz,fun i hi=>?_⟩
 have h9:=World.var?_cell gSpan zt0 i
 rw[hall]at h9;rw[h9]
 have h20:i<spN.length:=hi
 simp[List.getD,h20]
theorem zat:Opens El.int 3:=Opens.int Tryz.underlying3 (by kernel_rfl)
theorem zdk:Opens El.bool 4:=Opens.bool Tryz.underlying4 (by kernel_rfl)
theorem zov:Opens PnE 307 :=
 (Opens.struct (E:=El.int.cat (El.int.cat El.bool)) Tryz.underlying307 (by kernel_rfl) (OpensF.more zat rfl (OpensF.more zat rfl (OpensF.last zdk rfl)))).via (fun x=>⟨⟨x.1,x.2.1,x.2.2⟩,rfl⟩)
theorem zow:Opens PaE 303 :=
 (Opens.struct (E:=El.int.cat (El.int.cat El.int)) Tryz.underlying303 (by kernel_rfl) (OpensF.more zat rfl (OpensF.more zat rfl (OpensF.last zat rfl)))).via (fun x=>⟨⟨x.1,x.2.1,x.2.2⟩,rfl⟩)
theorem zls:Opens PnE.row 149:=Opens.row zov Tryz.underlying149 (by kernel_rfl) (by decide) (of_decide_eq_true (by kernel_rfl))
theorem zjm:Opens PnE.row.row 56:=Opens.row zls Tryz.underlying56 (by kernel_rfl) Nat.one_pos (of_decide_eq_true (by kernel_rfl))
theorem zlt:Opens PaE.row 57:=Opens.row zow Tryz.underlying57 (by kernel_rfl) (by decide) (of_decide_eq_true (by kernel_rfl))
theorem zfr:Opens (PnE.row.row.cat PaE.row) 59 :=
 Opens.struct Tryz.underlying59 (by kernel_rfl) (OpensF.more zjm rfl (OpensF.last zlt rfl))
def Rh(w:World)(a:Option Addr)(cap:Nat)(zs:List Int):Prop :=
 (∀z∈zs,-32768<=z/\z<=32767)/\zs.length<=cap/\cap<=maxLen /\
 (zs=[]\/∃b off,a=some ⟨b,off,none⟩/\b<w.heap.size/\∀i,i<zs.length->w.cell? ⟨b,off+i,none⟩=some (.int .i16 (zs.getD i 0)))
theorem Rh.at{w wr:World}{a:Option Addr}{cap:Nat}{zs:List Int}(h:Rh w a cap zs)(hb:Below w.heap.size w wr)(k:Nat)(hk:k<zs.length) :
 ∃b off,a=some ⟨b,off,none⟩/\b<w.heap.size/\wr.cell? ⟨b,off+k,none⟩=some (.int .i16 (zs.getD k 0)):=by
 rcases h.2.2.2 with rfl|⟨b,off,h1,h2,h3⟩
 . simp at hk
 . exact⟨b,off,h1,h2,(hb.cell (p:=⟨b,off+k,none⟩) h2).trans (h3 k hk)⟩
theorem Rh.below{w w':World}{a:Option Addr}{cap:Nat}{zs:List Int}(h:Rh w a cap zs)(hb:Below w.heap.size w w'):Rh w' a cap zs:=by
 obtain⟨h1,h2,h3,h4⟩:=h
 refine⟨h1,h2,h3,?_⟩
 rcases h4 with h4|⟨b,off,e,h5,h6⟩
 . exact .inl h4
 . exact .inr ⟨b,off,e,Nat.lt_of_lt_of_le h5 hb.size,fun i hi=>(hb.cell (p:=⟨b,off+i,none⟩) h5).trans (h6 i hi)⟩
theorem Rh.in{w:World}{a:Option Addr}{cap:Nat}{zs:List Int}(h:Rh w a cap zs){k:Nat}(hk:k<zs.length):-32768<=zs.getD k 0/\zs.getD k 0<=32767:=by
 refine h.1 _ ?_
 rw[List.getD_eq_getElem?_getD,List.getElem?_eq_getElem hk]
 exact List.getElem_mem hk
theorem Rh.lenB{w:World}{a:Option Addr}{cap:Nat}{zs:List Int}(h:Rh w a cap zs):zs.length<=9223372036854775807:=by
 have h1:=h.2.1
 have h2:=h.2.2.1
 unfold maxLen at h2
 omega
def Rl(w:World)(a:Option Addr)(cap:Nat)(ts:List Bool):Prop:=Gr El.bool (fun _=>False) w a cap ts
theorem Rl.of{S:Nat->Prop}{w:World}{a:Option Addr}{cap:Nat}{ts:List Bool}(h:Gr El.bool S w a cap ts):Rl w a cap ts:=⟨h.1,h.2.1,h.2.2.1,h.2.2.2⟩
theorem Rl.lenB{w:World}{a:Option Addr}{cap:Nat}{ts:List Bool}(h:Rl w a cap ts):ts.length<=9223372036854775807:=Gr.lenB h
theorem Rl.below{w w':World}{a:Option Addr}{cap:Nat}{ts:List Bool}(h:Rl w a cap ts)(hb:Below w.heap.size w w'):Rl w' a cap ts:=Gr.below h hb
theorem Rl.at{w wr:World}{a:Option Addr}{cap:Nat}{ts:List Bool}(h:Rl w a cap ts)(hb:Below w.heap.size w wr)(k:Nat)(hk:k<ts.length):∃b off,a=some ⟨b,off,none⟩/\b<w.heap.size/\wr.cell? ⟨b,off+k,none⟩=some (.bool (ts.getD k false)):=by
 obtain⟨b,off,vs,e,hb1,hr,hc⟩:=Gr.at h hb k hk
 have:=hc 0 Nat.one_pos
 rw[show vs=[.bool (ts.getD k false)]from hr,show k*El.bool.sz=k from Nat.mul_one k]at this
 exact⟨b,off,e,hb1,this⟩
