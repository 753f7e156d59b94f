import Derived.Test.YtgbhidcokobmmaaGreatDoorZL25
set_option maxHeartbeats 8000000
set_option maxRecDepth 100000
set_option linter.unusedSimpArgs false
set_option linter.unusedVariables false
namespace Go.Proofs.YtgbhidcokobmmaaGreatDoor
open Go.RowKit Go.Maps
theorem zuc{l:List Rn}(h:∀k,k<l.length->-1000000<=(l.getD k Rn.none).gl/\(l.getD k Rn.none).gl<=1000000/\-1000000<=(l.getD k Rn.none).fr)(c:Int)(h0:0<=c)(h1:c<=1114111):NoR l c:=by
 intro k hk hin
 obtain⟨g1,g2,g3⟩:=h k hk
 unfold inR at hin
 simp only[Bool.and_eq_true,decide_eq_true_iff]at hin
 exact⟨⟨by omega,by omega⟩,⟨by omega,by omega⟩⟩
theorem zq1(S:Nat->Prop)(d:FoD)(x:Fo)(bd:List (List (Int×Int)))(c:Option Addr)(cc:Nat)(cs:List Int)(t:ByteArray)(o:Option Addr)(oc:Nat)(on:List ByteArray)(w:World)(h:FoR S w d x)(hX:FoX S w d x bd)(kc:cs.length<=9223372036854775807)(ko:on.length<=9223372036854775807)(ktt:t.size<=9223372036854775807) :
 Calls Tryz.prog 9 #[fV d x,.agg #[.slice c cs.length cc,.string t,.slice o on.length oc]] w fun e w'=>zgw (FoB x/\cs.length<=20/\t.size<=500/\on.length<=50) e/\Below w.heap.size w w':=by
 have HF1:Hid (∀U,Below w.heap.size w U->Calls Tryz.prog 23 #[fV d x] U fun e w'=>zgw (x.gl.length<=40/\FewF x.ft x.sw) e/\Below U.heap.size U w'):=fun U hU=>zom S d x bd U (h.below hU) (hX.below hU)
 have HRN:Hid (Gr RnE S w d.ra d.rc x.rn):=h.hr
 have krn:=h.hr.lenB
 obtain⟨hg,hm,hl,hr,hk,hf,hs⟩:=h;obtain⟨ebl,hbd,kx,kt,kf,ks,krg,krr⟩:=hX;obtain⟨xa,xl,xc,ba,bl,bc,ga,gc,ma,mc,la,lc,ta,tl,tc,da,dl,dc,ra,rc,ka,kc,fa,fc,sa,sc⟩:=d
 dsimp only[fV]at hg hm hl hr hk hf hs ebl hbd kx kt HF1 HRN ⊢
 subst ebl
 obtain⟨W,hW,XW,XA,hbW⟩:∃W,W=(w.alloc (.cells #[.slice xa xl xc,.slice ba bd.length bc,.slice ga x.s.rg.length gc,.slice ma x.s.rw.length mc,.slice la x.gl.length lc,.slice ta tl tc,.slice da dl dc,.slice ra x.rn.length rc,.slice ka x.lk.length kc,.slice fa x.ft.length fc,.slice sa x.sw.length sc] 36)).alloc (.cells #[.slice c cs.length cc,.string t,.slice o on.length oc] 40)/\Bk 36 W w.heap.size [.slice xa xl xc,.slice ba bd.length bc,.slice ga x.s.rg.length gc,.slice ma x.s.rw.length mc,.slice la x.gl.length lc,.slice ta tl tc,.slice da dl dc,.slice ra x.rn.length rc,.slice ka x.lk.length kc,.slice fa x.ft.length fc,.slice sa x.sw.length sc]/\Bk 40 W (w.heap.size+1) [.slice c cs.length cc,.string t,.slice o on.length oc]/\Below w.heap.size w W:=by
  obtain⟨h1,h2,h3⟩:=new2B w 36 40 [.slice xa xl xc,.slice ba bd.length bc,.slice ga x.s.rg.length gc,.slice ma x.s.rw.length mc,.slice la x.gl.length lc,.slice ta tl tc,.slice da dl dc,.slice ra x.rn.length rc,.slice ka x.lk.length kc,.slice fa x.ft.length fc,.slice sa x.sw.length sc] [.slice c cs.length cc,.string t,.slice o on.length oc]
  exact⟨_,rfl,h1,h2,h3⟩
 have HF2:Hid (∀U,Below w.heap.size w U->Calls Tryz.prog 24 #[.agg #[.slice ga x.s.rg.length gc,.slice ma x.s.rw.length mc]] U fun e w'=>∃q:Bool,e=.returned (.bool q)/\(q=true->x.s.rg.length<=20/\(∀l∈x.s.rg,l.length<=8)/\x.s.rw.length<=2000)/\Below U.heap.size U w'):=fun U hU=>znr ga gc ma mc x.s U (hg.below hU) (hm.below hU) krg krr
 have HXW:Hid (Bk 36 W w.heap.size _):=XW
 have HXA:Hid (Bk 40 W (w.heap.size+1) _):=XA
 have kg:=hg.lenB
 obtain⟨x0,x1,x2,x3,x4,x5,x6,x7,x8,x9,x10⟩:=XW.elevenH
 have h1:=HF1.out W hbW
 clear hg hm hl hr hk hf hs hbd krg krr XW XA
 go_enter Tryz.func9,Tryz.ntmps9
 go_upto_region 1 with fail
 rw[<-hW];clear hW
 go_wp2_with fail
 refine h1.mono ?_
 rintro e u1 ⟨hbo,hb⟩;obtain⟨q1,rfl,hq1⟩:=hbo.out
 have hb1:=hbW.trans (hb.mono hbW.size)
 have X1:=HXW.out.below hb
 have A1:=HXA.out.below hb
 clear h1 hbo hb x0 x1 x2 x3 x4 x5 x6 x7 x8 x9 x10
 cases q1 with
 | false =>
  clear hq1 X1 A1
  go_wp2_with fail
  go_ret
  exact⟨⟨⟨false,rfl,fun h=>by cases h⟩⟩,hb1⟩
 | true =>
 have HQ1:Hid (x.gl.length<=40/\FewF x.ft x.sw):=hq1 rfl
 have h2:=HF2.out u1 hb1
 obtain⟨-,-,x2,x3,-,-,-,-,-,-,-⟩:=X1.elevenH;clear hq1
 go_wp2_with fail
 refine h2.mono ?_
 rintro e u2 ⟨q2,rfl,hq2,hb⟩
 have hb2:=hb1.trans (hb.mono hb1.size)
 have X2:=X1.below hb
 have A2:=A1.below hb
 clear h2 hb X1 A1 x2 x3
 cases q2 with
 | false =>
  clear hq2 X2 A2
  go_wp2_with fail
  go_ret
  exact⟨⟨⟨false,rfl,fun h=>by cases h⟩⟩,hb2⟩
 | true =>
 have HQ2:Hid (_):=hq2 rfl
 obtain⟨-,-,x2,-,-,-,-,x7,-,-,-⟩:=X2.elevenH;obtain⟨z0,z1,z2,-⟩:=A2.three;clear hq2 A2
 by_cases f0:6<x.s.rg.length
 . have d0:decide ((6:Int)<(x.s.rg.length:Int))=true:=decide_eq_true (by omega)
   have d0n:decide (6<x.s.rg.length)=true:=decide_eq_true f0
   clear X2 f0
   go_wp2_with fail
   go_ret
   exact⟨⟨⟨false,rfl,fun h=>by cases h⟩⟩,hb2⟩
 have d0:decide ((6:Int)<(x.s.rg.length:Int))=false:=decide_eq_false (by omega)
 have d0n:decide (6<x.s.rg.length)=false:=decide_eq_false f0
 by_cases f1:20<cs.length
 . have d1:decide ((20:Int)<(cs.length:Int))=true:=decide_eq_true (by omega)
   have d1n:decide (20<cs.length)=true:=decide_eq_true f1
   clear X2 f1
   go_wp2_with fail
   go_ret
   exact⟨⟨⟨false,rfl,fun h=>by cases h⟩⟩,hb2⟩
 have d1:decide ((20:Int)<(cs.length:Int))=false:=decide_eq_false (by omega)
 have d1n:decide (20<cs.length)=false:=decide_eq_false f1
 by_cases f2:500<t.size
 . have d2:decide ((500:Int)<(t.size:Int))=true:=decide_eq_true (by omega)
   have d2n:decide (500<t.size)=true:=decide_eq_true f2
   clear X2 f2
   go_wp2_with fail
   go_ret
   exact⟨⟨⟨false,rfl,fun h=>by cases h⟩⟩,hb2⟩
 have d2:decide ((500:Int)<(t.size:Int))=false:=decide_eq_false (by omega)
 have d2n:decide (500<t.size)=false:=decide_eq_false f2
 by_cases f3:50<on.length
 . have d3:decide ((50:Int)<(on.length:Int))=true:=decide_eq_true (by omega)
   have d3n:decide (50<on.length)=true:=decide_eq_true f3
   clear X2 f3
   go_wp2_with fail
   go_ret
   exact⟨⟨⟨false,rfl,fun h=>by cases h⟩⟩,hb2⟩
 have d3:decide ((50:Int)<(on.length:Int))=false:=decide_eq_false (by omega)
 have d3n:decide (50<on.length)=false:=decide_eq_false f3
 have HXU:Hid (Bk 36 u2 w.heap.size _):=X2
 have HSZ:Hid (cs.length<=20/\t.size<=500/\on.length<=50):=⟨by omega,by omega,by omega⟩
 clear X2
 go_wp2_with fail
 clear d0 d0n d1 d1n d2 d2n d3 d3n f0 f1 f2 f3 x2 x7 z0 z1 z2
 go_loopw [5] (fun i wr=>∃k:Nat,k<=x.rn.length/\i=.int .i64 k/\Hid (∀j,j<k->-1000000<=(x.rn.getD j Rn.none).gl/\(x.rn.getD j Rn.none).gl<=1000000/\-1000000<=(x.rn.getD j Rn.none).fr)/\Below u2.heap.size u2 wr) (fun i _=>x.rn.length-(intOf i).toNat)
 case atStart=>exact⟨0,Nat.zero_le _,rfl,(fun j hj=>by omega),Below.refl _ _⟩
 case round =>
  obtain⟨k,hk,rfl,HOK,hB⟩:=hrel
  have hBw:=hb2.trans (hB.mono hb2.size)
  have XU:=HXU.out.below hB
  obtain⟨-,-,-,-,-,-,-,x7,-,-,-⟩:=XU.elevenH;clear XU
  by_cases hkn:k<x.rn.length
  . obtain⟨b,off,ea,hb0,hw3,d0,d1,d2⟩:=HRN.out.rn hBw k hkn
    obtain⟨p,hp⟩:∃p,x.rn.getD k Rn.none=p:=⟨_,rfl⟩
    have HPP:Hid (x.rn.getD k Rn.none=p):=hp
    rw[hp]at hw3 d0 d1 d2;clear hp hw3;obtain⟨fr,tt,gl⟩:=p;dsimp only at d0 d1 d2;subst ea
    have i1:(0:Int)<=(k:Int):=by omega
    have i2:(k:Int)<(x.rn.length:Int):=by omega
    by_cases f1:gl < -1000000
    . have g1:decide (gl < -1000000)=true:=decide_eq_true f1
      go_wp2_with fail
      go_ret
      exact⟨⟨⟨false,rfl,fun h=>by cases h⟩⟩,hBw⟩
    have g1:decide (gl < -1000000)=false:=decide_eq_false f1
    by_cases f2:1000000<gl
    . have g2:decide (1000000<gl)=true:=decide_eq_true f2
      go_wp2_with fail
      go_ret
      exact⟨⟨⟨false,rfl,fun h=>by cases h⟩⟩,hBw⟩
    have g2:decide (1000000<gl)=false:=decide_eq_false f2
    by_cases f3:fr < -1000000
    . have g3:decide (fr < -1000000)=true:=decide_eq_true f3
      go_wp2_with fail
      go_ret
      exact⟨⟨⟨false,rfl,fun h=>by cases h⟩⟩,hBw⟩
    have g3:decide (fr < -1000000)=false:=decide_eq_false f3
    have za9:Hid (∀j,j<k+1->-1000000<=(x.rn.getD j Rn.none).gl/\(x.rn.getD j Rn.none).gl<=1000000/\-1000000<=(x.rn.getD j Rn.none).fr):=fun j hj=>by
     by_cases hjk:j=k
     . subst hjk
       rw[HPP.out]
       show -1000000<=gl/\gl<=1000000/\-1000000<=fr
       exact⟨by omega,by omega,by omega⟩
     . exact HOK.out j (by omega)
    clear f1 f2 f3 HOK HPP
    go_wp2_with fail
    go_roundw
    case rel=>exact⟨k+1,by omega,by go_num,za9,hB⟩
    case measure=>simp[intOf];omega
  . obtain rfl:k=x.rn.length:=by omega
    have HF:Hid (FoB x/\cs.length<=20/\t.size<=500/\on.length<=50):=⟨⟨HQ1.out.1,HQ2.out.1,HQ2.out.2.1,HQ2.out.2.2,HQ1.out.2,fun z h0 h1=>zuc HOK.out z h0 h1⟩,HSZ.out⟩
    have g4:¬(x.rn.length:Int)<(x.rn.length:Int):=by omega
    clear HOK
    go_wp2_with fail
    go_ret
    exact⟨⟨⟨true,rfl,fun _=>HF.out⟩⟩,hBw⟩
theorem sbAA:sb ⟨#[65,65]⟩=[65,65]:=by decide +kernel
theorem zkv(w:World)(hT:Spn w) :
 Calls Tryz.prog 8 #[] w fun e w'=>e=.returned (.bool true)/\Below w.heap.size w w':=by
 obtain⟨W0,hW0⟩:∃W0,W0=w.alloc (.cells #[.int .i64 300,.int .i64 (-1)] 62):=⟨_,rfl⟩
 have sW0:W0.heap.size=w.heap.size+1:=by rw[hW0,World.size_alloc]
 have dW0:Below w.heap.size w W0:=by rw[hW0];exact bl1 _
 have cW0:Below w.heap.size w W0:=dW0
 have BW0:Bk 62 W0 (w.heap.size) [.int .i64 300,.int .i64 (-1)]:=by rw[hW0];exact Bk.new _ _ _
 obtain⟨W1,hW1⟩:∃W1,W1=W0.alloc (.cells #[.slice none 0 0,.slice none 0 0,.slice none 0 0,.int .i64 300,.int .i64 (-1),.bool false,.slice none 0 0,.slice none 0 0,.slice none 0 0,.int .i64 300,.int .i64 (-1),.bool false] 64):=⟨_,rfl⟩
 have sW1:W1.heap.size=w.heap.size+1+1:=by rw[hW1,World.size_alloc,sW0]
 have dW1:Below W0.heap.size W0 W1:=by rw[hW1];exact bl1 _
 have cW1:Below w.heap.size w W1:=cW0.trans (dW1.mono cW0.size)
 have BW1:Bk 64 W1 (w.heap.size+1) [.slice none 0 0,.slice none 0 0,.slice none 0 0,.int .i64 300,.int .i64 (-1),.bool false,.slice none 0 0,.slice none 0 0,.slice none 0 0,.int .i64 300,.int .i64 (-1),.bool false]:=by rw[hW1,<-sW0];exact Bk.new _ _ _
 replace BW0:=BW0.below dW1
 obtain⟨W2,hW2⟩:∃W2,W2=W1.alloc (.cells #[.int .i64 65,.int .i64 65,.int .i64 1] 72):=⟨_,rfl⟩
 have sW2:W2.heap.size=w.heap.size+1+1+1:=by rw[hW2,World.size_alloc,sW1]
 have dW2:Below W1.heap.size W1 W2:=by rw[hW2];exact bl1 _
 have cW2:Below w.heap.size w W2:=cW1.trans (dW2.mono cW1.size)
 have BW2:Bk 72 W2 (w.heap.size+1+1) [.int .i64 65,.int .i64 65,.int .i64 1]:=by rw[hW2,<-sW1];exact Bk.new _ _ _
 replace BW0:=BW0.below dW2;replace BW1:=BW1.below dW2
 obtain⟨W3,hW3⟩:∃W3,W3=W2.alloc (.cells #[.slice none 0 0,.slice none 0 0,.slice none 0 0,.slice none 0 0,.slice (some ⟨w.heap.size+1,0,none⟩) 2 2,.slice none 0 0,.slice none 0 0,.slice (some ⟨w.heap.size+1+1,0,none⟩) 1 1,.slice none 0 0,.slice none 0 0,.slice none 0 0] 36):=⟨_,rfl⟩
 have sW3:W3.heap.size=w.heap.size+1+1+1+1:=by rw[hW3,World.size_alloc,sW2]
 have dW3:Below W2.heap.size W2 W3:=by rw[hW3];exact bl1 _
 have cW3:Below w.heap.size w W3:=cW2.trans (dW3.mono cW2.size)
 have BW3:Bk 36 W3 (w.heap.size+1+1+1) [.slice none 0 0,.slice none 0 0,.slice none 0 0,.slice none 0 0,.slice (some ⟨w.heap.size+1,0,none⟩) 2 2,.slice none 0 0,.slice none 0 0,.slice (some ⟨w.heap.size+1+1,0,none⟩) 1 1,.slice none 0 0,.slice none 0 0,.slice none 0 0]:=by rw[hW3,<-sW2];exact Bk.new _ _ _
 replace BW0:=BW0.below dW3;replace BW1:=BW1.below dW3;replace BW2:=BW2.below dW3
 have hgl:Gr GlE (fun _=>True) W3 (some ⟨w.heap.size+1,0,none⟩) 2 foA.gl:=by
  refine⟨Nat.le_refl _,by unfold maxLen;decide,(fun e=>by cases e),fun i hi=>?_⟩
  have zxn:GlE.rep (fun _=>True) W3 [.slice none 0 0,.slice none 0 0,.slice none 0 0,.int .i64 300,.int .i64 (-1),.bool false] ⟨Ol.none,[],300,-1,false⟩:=zrw.2 ⟨none,0,none,0,none,0,rfl,⟨none,0,rfl,fun _ _ _ _=>trivial,Gr.nil _ _ _ _ _ (Nat.zero_le _) (fun _=>rfl),by decide⟩,⟨none,0,rfl,fun _ _ _ _=>trivial,Gr.nil _ _ _ _ _ (Nat.zero_le _) (fun _=>rfl),by decide⟩,⟨none,0,rfl,fun _ _ _ _=>trivial,Gr.nil _ _ _ _ _ (Nat.zero_le _) (fun _=>rfl),by decide⟩,⟨by decide,by decide⟩,⟨by decide,by decide⟩⟩
  have h2:i=0\/i=1:=by
   have:i<2:=hi
   omega
  refine⟨w.heap.size+1,0,[.slice none 0 0,.slice none 0 0,.slice none 0 0,.int .i64 300,.int .i64 (-1),.bool false],rfl,BW1.lt,?_,fun j hj=>?_⟩
  . rcases h2 with rfl|rfl <;> exact zxn
  . have hj6:j<6:=hj
    rcases h2 with rfl|rfl
    . rw[BW1.cell _ (by show 0+0*6+j<12;omega)]
      rcases (by omega:j=0\/j=1\/j=2\/j=3\/j=4\/j=5)with rfl|rfl|rfl|rfl|rfl|rfl <;> rfl
    . rw[BW1.cell _ (by show 0+1*6+j<12;omega)]
      rcases (by omega:j=0\/j=1\/j=2\/j=3\/j=4\/j=5)with rfl|rfl|rfl|rfl|rfl|rfl <;> rfl
 have hrn:Gr RnE (fun _=>True) W3 (some ⟨w.heap.size+1+1,0,none⟩) 1 foA.rn:=Gr.one (zrt.2 ⟨rfl,⟨by decide,by decide⟩,⟨by decide,by decide⟩,⟨by decide,by decide⟩⟩) BW2.lt (fun j hj=>BW2.cell j hj)
 have hFo:FoR (fun _=>True) W3 ⟨none,0,0,none,0,0,none,0,none,0,some ⟨w.heap.size+1,0,none⟩,2,none,0,0,none,0,0,some ⟨w.heap.size+1+1,0,none⟩,1,none,0,none,0,none,0⟩ foA:=⟨by unfold Tzz;simp[foA,maxLen],by unfold Rii;simp[foA,maxLen],hgl,hrn,(Gr.nil _ _ _ _ _ (Nat.zero_le _) (fun _=>rfl)),(Gr.nil _ _ _ _ _ (Nat.zero_le _) (fun _=>rfl)),(Gr.nil _ _ _ _ _ (Nat.zero_le _) (fun _=>rfl))⟩
 have hBo:FoB foA:=⟨by decide,by decide,(fun l hl=>by cases hl),by decide,⟨by decide,(fun k hk=>by cases hk),(fun k hk=>by cases hk)⟩,fun z h0 h1=>zuc (fun k hk=>by
  obtain rfl:k=0:=by
   have:k<1:=hk
   omega
  exact⟨by decide,by decide,by decide⟩) z h0 h1⟩
 have hsh:=zf0 (fun _=>True) ⟨none,0,0,none,0,0,none,0,none,0,some ⟨w.heap.size+1,0,none⟩,2,none,0,0,none,0,0,some ⟨w.heap.size+1+1,0,none⟩,1,none,0,none,0,none,0⟩ foA none 0 [] ⟨#[65,65]⟩ none 0 [] W3 hFo hBo (Gr.nil _ _ _ _ _ (Nat.zero_le _) (fun _=>rfl)) (Gr.nil _ _ _ _ _ (Nat.zero_le _) (fun _=>rfl)) (by decide) (hT.below cW3)
 rw[sbAA,zzd]at hsh
 replace hsh:Calls Tryz.prog 12 #[.agg #[.slice none 0 0,.slice none 0 0,.slice none 0 0,.slice none 0 0,.slice (some ⟨w.heap.size+1,0,none⟩) 2 2,.slice none 0 0,.slice none 0 0,.slice (some ⟨w.heap.size+1+1,0,none⟩) 1 1,.slice none 0 0,.slice none 0 0,.slice none 0 0],.slice none 0 0,.string ⟨#[65,65]⟩,.slice none 0 0] W3 fun e w'=>PaA (0,[⟨1,0,0,300⟩,⟨1,0,0,300⟩]) W3.heap.size w' e/\Below W3.heap.size W3 w':=hsh
 obtain⟨x0,x1,x2,x3,x4,x5,x6,x7,x8,x9,x10⟩:=BW3.elevenH;clear hgl hrn hFo hBo BW0 BW1 BW2 hT cW0 cW1 cW2
 go_enter Tryz.func8,Tryz.ntmps8
 go_upto_region 3 with fail
 rw[<-hW0,<-hW1,<-hW2,<-hW3];clear hW0 dW0 sW0 hW1 dW1 sW1 hW2 dW2 sW2 hW3 dW3 sW3
 go_wp2_with fail
 refine hsh.mono ?_
 rintro e u ⟨hr,hb⟩;obtain⟨v,rfl,hG⟩:=hr.out;obtain⟨oa,oc,rfl,hgr,-⟩:=hG.slice
 have hbu:=cW3.trans (hb.mono cW3.size)
 have hwi:=zfz _ oa oc _ u hgr
 rw[zza]at hwi
 have HGR:Hid (Gr PdE (fun _=>False) u oa oc [⟨1,0,0,300⟩,⟨1,0,0,300⟩]):=hgr
 clear hsh hr hG hgr hb x0 x1 x2 x3 x4 x5 x6 x7 x8 x9 x10
 go_wp2_with fail
 refine hwi.mono ?_
 rintro e u2 ⟨rfl,hb⟩
 have zaf:=hbu.trans (hb.mono hbu.size)
 obtain⟨b,off,ea,hb0,hw4,d0,-,-,-⟩:=HGR.out.pd hb 1 (by decide)
 subst ea
 replace d0:u2.cell? ⟨b,off+4,none⟩=some (.int .i64 1):=d0
 clear hwi hb hw4 HGR
 go_wp2_with fail
 go_ret
 exact⟨rfl,zaf⟩
theorem zr_no{r:Ru}(h:¬(r.x=(0,0)/\r.y=(0,0)/\r.w=(0,0))){l:List Lk}{kd g:Int}:ruB l kd r g=false:=by
 unfold ruB
 cases hz:zsB r with
 | false=>rfl
 | true =>
  unfold zsB at hz
  simp only[Bool.and_eq_true,decide_eq_true_iff]at hz
  exact absurd hz h
theorem zoc(S:Nat->Prop)(a:Option Addr)(ca:Nat)(l:List Lk)(kd:Int)(a1:Option Addr)(c1:Nat)(a2:Option Addr)(c2:Nat)(inn out:List Int)(ap lk x1 x2 y1 y2 w1 w2 g:Int)(w:World)
    (hl:Gr LkE S w a ca l) (hk:I64 kd) (hap:I64 ap) (hlk:I64 lk) (hin:Ri w a1 c1 inn) (hou:Ri w a2 c2 out) (hg:I64 g) :
    Calls Tryz.prog 74 #[.slice a l.length ca,.int .i64 kd,.agg #[.slice a1 inn.length c1,.slice a2 out.length c2,.int .i64 ap,.int .i64 lk,.int .i64 x1,.int .i64 x2,.int .i64 y1,.int .i64 y2,.int .i64 w1,.int .i64 w2],.int .i64 g] w fun e w' =>
     e=.returned (.bool (ruB l kd ⟨inn,out,ap,lk,(x1,x2),(y1,y2),(w1,w2)⟩ g))/\Below w.heap.size w w':=by
 have kl:=hl.lenB
 have kin:=hin.lenB
 have kou:=hou.lenB
 obtain⟨W,hW,X1,hbW⟩:∃W,W=w.alloc (.cells #[.slice a1 inn.length c1,.slice a2 out.length c2,.int .i64 ap,.int .i64 lk,.int .i64 x1,.int .i64 x2,.int .i64 y1,.int .i64 y2,.int .i64 w1,.int .i64 w2] 131)/\Bk 131 W w.heap.size (ruV a1 c1 a2 c2 ⟨inn,out,ap,lk,(x1,x2),(y1,y2),(w1,w2)⟩)/\Below w.heap.size w W:=⟨_,rfl,Bk.new _ _ (ruV a1 c1 a2 c2 ⟨inn,out,ap,lk,(x1,x2),(y1,y2),(w1,w2)⟩),bl1 _⟩
 obtain⟨q0,q1,q2,q3,q4,q5,q6,q7,q8,q9⟩:=X1.ru;dsimp only at q0 q1 q2 q3 q4 q5 q6 q7 q8 q9
 have HNO:Hid (¬(((x1,x2):Int×Int)=(0,0)/\((y1,y2):Int×Int)=(0,0)/\((w1,w2):Int×Int)=(0,0))->ruB l kd ⟨inn,out,ap,lk,(x1,x2),(y1,y2),(w1,w2)⟩ g=false):=fun h=>zr_no h
 have zcp:Hid (∀U,Below W.heap.size W U->∀p q:Nat,Calls Tryz.prog 107 #[.slice a1 inn.length c1,.int .i64 g,.int .i64 p,.int .i64 q] U fun e w'=>e=.returned (.bool (alB inn g p q))/\Below U.heap.size U w'):=fun U hU p q=>zif a1 c1 inn g p q U ((hin.below hbW).below hU) hg
 have zf3:Hid (∀U,Below W.heap.size W U->∀p q:Nat,Calls Tryz.prog 107 #[.slice a2 out.length c2,.int .i64 g,.int .i64 p,.int .i64 q] U fun e w'=>e=.returned (.bool (alB out g p q))/\Below U.heap.size U w'):=fun U hU p q=>zif a2 c2 out g p q U ((hou.below hbW).below hU) hg
 have HXB:Hid (w.heap.size<W.heap.size):=X1.lt
 clear X1 hin hou
 by_cases e0:x1=0
 rotate_left
 . have HF:Hid (_=false):=HNO.out (fun h=>e0 (congrArg Prod.fst h.1))
   clear hl HNO zcp zf3 HXB
   go_enter Tryz.func74,Tryz.ntmps74
   go_upto_region 1 with fail
   rw[<-hW];clear hW;go_wp2
   go_ret
   exact⟨zaa HF.out.symm,hbW⟩
 subst e0
 by_cases e1:x2=0
 rotate_left
 . have HF:Hid (_=false):=HNO.out (fun h=>e1 (congrArg Prod.snd h.1))
   clear hl HNO zcp zf3 HXB
   go_enter Tryz.func74,Tryz.ntmps74
   go_upto_region 1 with fail
   rw[<-hW];clear hW;go_wp2
   go_ret
   exact⟨zaa HF.out.symm,hbW⟩
 subst e1
 by_cases e2:y1=0
 rotate_left
 . have HF:Hid (_=false):=HNO.out (fun h=>e2 (congrArg Prod.fst h.2.1))
   clear hl HNO zcp zf3 HXB
   go_enter Tryz.func74,Tryz.ntmps74
   go_upto_region 1 with fail
   rw[<-hW];clear hW;go_wp2
   go_ret
   exact⟨zaa HF.out.symm,hbW⟩
 subst e2
 by_cases e3:y2=0
 rotate_left
 . have HF:Hid (_=false):=HNO.out (fun h=>e3 (congrArg Prod.snd h.2.1))
   clear hl HNO zcp zf3 HXB
   go_enter Tryz.func74,Tryz.ntmps74
   go_upto_region 1 with fail
   rw[<-hW];clear hW;go_wp2
   go_ret
   exact⟨zaa HF.out.symm,hbW⟩
 subst e3
 by_cases e4:w1=0
 rotate_left
 . have HF:Hid (_=false):=HNO.out (fun h=>e4 (congrArg Prod.fst h.2.2))
   clear hl HNO zcp zf3 HXB
   go_enter Tryz.func74,Tryz.ntmps74
   go_upto_region 1 with fail
   rw[<-hW];clear hW;go_wp2
   go_ret
   exact⟨zaa HF.out.symm,hbW⟩
 subst e4
 by_cases e5:w2=0
 rotate_left
 . have HF:Hid (_=false):=HNO.out (fun h=>e5 (congrArg Prod.snd h.2.2))
   clear hl HNO zcp zf3 HXB
   go_enter Tryz.func74,Tryz.ntmps74
   go_upto_region 1 with fail
   rw[<-hW];clear hW;go_wp2
   go_ret
   exact⟨zaa HF.out.symm,hbW⟩
 subst e5
 have HZ:Hid (ruB l kd ⟨inn,out,ap,lk,(0,0),(0,0),(0,0)⟩ g=(if kd=4 then alB inn g 1 8&&cxB l ⟨inn,out,ap,lk,(0,0),(0,0),(0,0)⟩
  else (decide (ap=0)&&decide (lk=0))&&(if kd=1 then alB inn g 1 1&&alB out g 1 1 else if kd=2 then alB inn g 1 1&&alB out g 0 8 else alB inn g 2 8&&alB out g 1 1))):=by
  show _=_
  unfold ruB
  rw[ztx ⟨rfl,rfl,rfl⟩,Bool.true_and]
 clear HNO
 by_cases h4:kd=4
 . subst h4
   rw[if_pos rfl]at HZ
   have hc1:Calls Tryz.prog 107 #[.slice a1 inn.length c1,.int .i64 g,.int .i64 1,.int .i64 8] W fun e w'=>e=.returned (.bool (alB inn g 1 8))/\Below W.heap.size W w':=zcp.out W (Below.refl _ _) 1 8
   have HC:Hid (cxB l ⟨inn,out,ap,lk,(0,0),(0,0),(0,0)⟩=(decide (out.length=0)&&(decide (0<=ap)&&(decide (ap<(inn.length:Int))&&(decide (0<=lk)&&(decide (lk<(l.length:Int))&&puB (l.getD lk.toNat Lk.none).kd)))))):=rfl
   rw[HC.out]at HZ;clear HC zcp zf3
   obtain⟨A,hA⟩:∃A,alB inn g 1 8=A:=⟨_,rfl⟩
   rw[hA]at hc1 HZ;clear hA
   cases A with
   | false =>
    have HF:Hid (_=false):=HZ.out
    clear HZ hl HXB
    go_enter Tryz.func74,Tryz.ntmps74
    go_upto_region 1 with fail
    rw[<-hW];clear hW
    go_wp2_with fail
    refine hc1.mono ?_
    rintro e u ⟨rfl,hbu⟩
    have hbU:=hbW.trans (hbu.mono hbW.size)
    clear hc1;go_wp2
    go_ret
    exact⟨zaa HF.out.symm,hbU⟩
   | true =>
    rw[Bool.true_and]at HZ
    have t0:∀u,Below W.heap.size W u->u.cell? ⟨w.heap.size,0,none⟩=some (.slice a1 inn.length c1):=fun u h=>(h.cell (p:=⟨w.heap.size,0,none⟩) HXB.out).trans q0
    have t1:∀u,Below W.heap.size W u->u.cell? ⟨w.heap.size,1,none⟩=some (.slice a2 out.length c2):=fun u h=>(h.cell (p:=⟨w.heap.size,1,none⟩) HXB.out).trans q1
    have t2:∀u,Below W.heap.size W u->u.cell? ⟨w.heap.size,2,none⟩=some (.int .i64 ap):=fun u h=>(h.cell (p:=⟨w.heap.size,2,none⟩) HXB.out).trans q2
    have t3:∀u,Below W.heap.size W u->u.cell? ⟨w.heap.size,3,none⟩=some (.int .i64 lk):=fun u h=>(h.cell (p:=⟨w.heap.size,3,none⟩) HXB.out).trans q3
    have HTS:Hid (∀u,Below W.heap.size W u->u.cell? ⟨w.heap.size,0,none⟩=some (.slice a1 inn.length c1)/\u.cell? ⟨w.heap.size,1,none⟩=some (.slice a2 out.length c2)/\u.cell? ⟨w.heap.size,2,none⟩=some (.int .i64 ap)/\u.cell? ⟨w.heap.size,3,none⟩=some (.int .i64 lk)):=fun u h=>⟨t0 u h,t1 u h,t2 u h,t3 u h⟩
    clear t0 t1 t2 t3
    by_cases p0:out.length=0
    rotate_left
    . have HF:Hid (ruB l 4 ⟨inn,out,ap,lk,(0,0),(0,0),(0,0)⟩ g=false):=by rw[decide_eq_false p0,Bool.false_and]at HZ;exact HZ.out
      have g0:((out.length:Int)==0)=false:=by rw[beq_eq_false_iff_ne];omega
      clear HZ p0 hl HXB
      go_enter Tryz.func74,Tryz.ntmps74
      go_upto_region 1 with fail
      rw[<-hW];clear hW
      go_wp2_with fail
      refine hc1.mono ?_
      rintro e u ⟨rfl,hbu⟩
      have hbU:=hbW.trans (hbu.mono hbW.size)
      clear hc1
      obtain⟨r0,r1,r2,r3⟩:=HTS.out u hbu
      clear HTS hbu;go_wp2
      go_ret
      exact⟨zaa HF.out.symm,hbU⟩
    have g0:((out.length:Int)==0)=true:=by rw[beq_iff_eq];omega
    rw[decide_eq_true p0,Bool.true_and]at HZ;clear p0
    by_cases p1:0<=ap
    rotate_left
    . have HF:Hid (ruB l 4 ⟨inn,out,ap,lk,(0,0),(0,0),(0,0)⟩ g=false):=by rw[decide_eq_false p1,Bool.false_and]at HZ;exact HZ.out
      have g1:decide (0<=ap)=false:=decide_eq_false p1
      clear HZ p1 hl HXB
      go_enter Tryz.func74,Tryz.ntmps74
      go_upto_region 1 with fail
      rw[<-hW];clear hW
      go_wp2_with fail
      refine hc1.mono ?_
      rintro e u ⟨rfl,hbu⟩
      have hbU:=hbW.trans (hbu.mono hbW.size)
      clear hc1
      obtain⟨r0,r1,r2,r3⟩:=HTS.out u hbu
      clear HTS hbu;go_wp2
      go_ret
      exact⟨zaa HF.out.symm,hbU⟩
    have g1:decide (0<=ap)=true:=decide_eq_true p1
    rw[g1,Bool.true_and]at HZ
    by_cases p2:ap<(inn.length:Int)
    rotate_left
    . have HF:Hid (ruB l 4 ⟨inn,out,ap,lk,(0,0),(0,0),(0,0)⟩ g=false):=by rw[decide_eq_false p2,Bool.false_and]at HZ;exact HZ.out
      have g2:decide (ap<(inn.length:Int))=false:=decide_eq_false p2
      clear HZ p1 p2 hl HXB
      go_enter Tryz.func74,Tryz.ntmps74
      go_upto_region 1 with fail
      rw[<-hW];clear hW
      go_wp2_with fail
      refine hc1.mono ?_
      rintro e u ⟨rfl,hbu⟩
      have hbU:=hbW.trans (hbu.mono hbW.size)
      clear hc1
      obtain⟨r0,r1,r2,r3⟩:=HTS.out u hbu
      clear HTS hbu;go_wp2
      go_ret
      exact⟨zaa HF.out.symm,hbU⟩
    have g2:decide (ap<(inn.length:Int))=true:=decide_eq_true p2
    rw[g2,Bool.true_and]at HZ
    by_cases p3:0<=lk
    rotate_left
    . have HF:Hid (ruB l 4 ⟨inn,out,ap,lk,(0,0),(0,0),(0,0)⟩ g=false):=by rw[decide_eq_false p3,Bool.false_and]at HZ;exact HZ.out
      have g3:decide (0<=lk)=false:=decide_eq_false p3
      clear HZ p1 p2 p3 hl HXB
      go_enter Tryz.func74,Tryz.ntmps74
      go_upto_region 1 with fail
      rw[<-hW];clear hW
      go_wp2_with fail
      refine hc1.mono ?_
      rintro e u ⟨rfl,hbu⟩
      have hbU:=hbW.trans (hbu.mono hbW.size)
      clear hc1
      obtain⟨r0,r1,r2,r3⟩:=HTS.out u hbu
      clear HTS hbu;go_wp2
      go_ret
      exact⟨zaa HF.out.symm,hbU⟩
    have g3:decide (0<=lk)=true:=decide_eq_true p3
    rw[g3,Bool.true_and]at HZ
    by_cases p4:lk<(l.length:Int)
    rotate_left
    . have HF:Hid (ruB l 4 ⟨inn,out,ap,lk,(0,0),(0,0),(0,0)⟩ g=false):=by rw[decide_eq_false p4,Bool.false_and]at HZ;exact HZ.out
      have g4:decide (lk<(l.length:Int))=false:=decide_eq_false p4
      clear HZ p1 p2 p3 p4 hl HXB
      go_enter Tryz.func74,Tryz.ntmps74
      go_upto_region 1 with fail
      rw[<-hW];clear hW
      go_wp2_with fail
      refine hc1.mono ?_
      rintro e u ⟨rfl,hbu⟩
      have hbU:=hbW.trans (hbu.mono hbW.size)
      clear hc1
      obtain⟨r0,r1,r2,r3⟩:=HTS.out u hbu
      clear HTS hbu;go_wp2
      go_ret
      exact⟨zaa HF.out.symm,hbU⟩
    have HF:Hid (ruB l 4 ⟨inn,out,ap,lk,(0,0),(0,0),(0,0)⟩ g=puB (l.getD lk.toNat Lk.none).kd):=by rw[decide_eq_true p4,Bool.true_and]at HZ;exact HZ.out
    obtain⟨n,rfl⟩:∃n:Nat,lk=(n:Int):=⟨lk.toNat,by omega⟩
    rw[Int.toNat_natCast]at HF
    have hn:n<l.length:=by omega
    have g4:decide ((n:Int)<(l.length:Int))=true:=decide_eq_true p4
    have g4n:decide (n<l.length)=true:=decide_eq_true hn
    have HLL:Hid (Gr LkE S W a ca l):=hl.below hbW
    obtain⟨b,off,ra,rc,ea,hb,hkd,-,-,-,-⟩:=hl.lk hbW n hn
    have HD:Hid (∀u,Below W.heap.size W u->u.cell? ⟨b,off+n*3,none⟩=some (.int .i64 (l.getD n Lk.none).kd)):=fun u hu=>by
     obtain⟨b',off',_,_,e',_,_,_,d0,_,_⟩:=HLL.out.lk hu n hn
     rw[ea]at e'
     cases e'
     exact d0
    subst ea
    obtain⟨z,hz⟩:∃z,(l.getD n Lk.none).kd=z:=⟨_,rfl⟩
    rw[hz]at hkd HF HD
    have hpu:=fun U=>zfd z U hkd
    clear HZ p1 p2 hl hz HLL HXB
    go_enter Tryz.func74,Tryz.ntmps74
    go_upto_region 1 with fail
    rw[<-hW];clear hW
    go_wp2_with fail
    refine hc1.mono ?_
    rintro e u ⟨rfl,hbu⟩
    have hbU:=hbW.trans (hbu.mono hbW.size)
    clear hc1
    obtain⟨r0,r1,r2,r3⟩:=HTS.out u hbu
    have r4:=HD.out u hbu
    replace hpu:=hpu u
    clear HTS hbu HD
    go_wp2_with fail
    refine hpu.mono ?_
    rintro e u2 ⟨rfl,rfl⟩;clear hpu;go_wp2
    go_ret
    exact⟨zaa HF.out.symm,hbU⟩
 rw[if_neg h4]at HZ
 have g4:(kd==4)=false:=beq_eq_false_iff_ne.2 h4
 clear h4 hl
 by_cases p1:ap=0
 rotate_left
 . have HF:Hid (ruB l kd ⟨inn,out,ap,lk,(0,0),(0,0),(0,0)⟩ g=false):=by rw[decide_eq_false p1,Bool.false_and,Bool.false_and]at HZ;exact HZ.out
   have g1:(ap != 0)=true:=bne_iff_ne.2 p1
   clear HZ p1 zcp zf3 HXB
   go_enter Tryz.func74,Tryz.ntmps74
   go_upto_region 1 with fail
   rw[<-hW];clear hW;go_wp2
   go_ret
   exact⟨zaa HF.out.symm,hbW⟩
 subst p1;rw[decide_eq_true rfl,Bool.true_and]at HZ
 by_cases p2:lk=0
 rotate_left
 . have HF:Hid (ruB l kd ⟨inn,out,0,lk,(0,0),(0,0),(0,0)⟩ g=false):=by rw[decide_eq_false p2,Bool.false_and]at HZ;exact HZ.out
   have g2:(lk != 0)=true:=bne_iff_ne.2 p2
   clear HZ p2 zcp zf3 HXB
   go_enter Tryz.func74,Tryz.ntmps74
   go_upto_region 1 with fail
   rw[<-hW];clear hW;go_wp2
   go_ret
   exact⟨zaa HF.out.symm,hbW⟩
 subst p2;rw[decide_eq_true rfl,Bool.true_and]at HZ
 have HTS:Hid (∀u,Below W.heap.size W u->u.cell? ⟨w.heap.size,1,none⟩=some (.slice a2 out.length c2)):=fun u h=>(h.cell (p:=⟨w.heap.size,1,none⟩) HXB.out).trans q1
 by_cases k1:kd=1
 . subst k1
   rw[if_pos rfl]at HZ
   have hc1:Calls Tryz.prog 107 #[.slice a1 inn.length c1,.int .i64 g,.int .i64 1,.int .i64 1] W fun e w'=>e=.returned (.bool (alB inn g 1 1))/\Below W.heap.size W w':=zcp.out W (Below.refl _ _) 1 1
   have zd5:Hid (∀U,Below W.heap.size W U->Calls Tryz.prog 107 #[.slice a2 out.length c2,.int .i64 g,.int .i64 1,.int .i64 1] U fun e w'=>e=.returned (.bool (alB out g 1 1))/\Below U.heap.size U w'):=fun U hU=>zf3.out U hU 1 1
   generalize alB inn g 1 1=A1 at hc1 HZ
   generalize alB out g 1 1=A2 at zd5 HZ
   clear zcp zf3 HXB
   go_enter Tryz.func74,Tryz.ntmps74
   go_upto_region 1 with fail
   rw[<-hW];clear hW
   go_wp2_with fail
   refine hc1.mono ?_
   rintro e u ⟨rfl,hbu⟩
   have hbU:=hbW.trans (hbu.mono hbW.size)
   clear hc1
   cases A1 with
   | false =>
    have HF:Hid (_=false):=HZ.out
    clear zd5 HZ HTS hbu;go_wp2
    go_ret
    exact⟨zaa HF.out.symm,hbU⟩
   | true =>
    rw[Bool.true_and]at HZ
    have HF:=HZ
    have r1:=HTS.out u hbu
    have hc2:=zd5.out u hbu
    clear zd5 HTS hbu q0 q1 q2 q3 q4 q5 q6 q7 q8 q9
    go_wp2_with fail
    refine hc2.mono ?_
    rintro e u2 ⟨rfl,hbu⟩
    have zqg:=hbU.trans (hbu.mono hbU.size)
    clear hc2;go_wp2
    go_ret
    exact⟨zaa HF.out.symm,zqg⟩
 rw[if_neg k1]at HZ
 have g1:(kd==1)=false:=beq_eq_false_iff_ne.2 k1
 clear k1
 by_cases k2:kd=2
 . subst k2
   rw[if_pos rfl]at HZ
   have hc1:Calls Tryz.prog 107 #[.slice a1 inn.length c1,.int .i64 g,.int .i64 1,.int .i64 1] W fun e w'=>e=.returned (.bool (alB inn g 1 1))/\Below W.heap.size W w':=zcp.out W (Below.refl _ _) 1 1
   have zd5:Hid (∀U,Below W.heap.size W U->Calls Tryz.prog 107 #[.slice a2 out.length c2,.int .i64 g,.int .i64 0,.int .i64 8] U fun e w'=>e=.returned (.bool (alB out g 0 8))/\Below U.heap.size U w'):=fun U hU=>zf3.out U hU 0 8
   generalize alB inn g 1 1=A1 at hc1 HZ
   generalize alB out g 0 8=A2 at zd5 HZ
   clear zcp zf3 HXB
   go_enter Tryz.func74,Tryz.ntmps74
   go_upto_region 1 with fail
   rw[<-hW];clear hW
   go_wp2_with fail
   refine hc1.mono ?_
   rintro e u ⟨rfl,hbu⟩
   have hbU:=hbW.trans (hbu.mono hbW.size)
   clear hc1
   cases A1 with
   | false =>
    have HF:Hid (_=false):=HZ.out
    clear zd5 HZ HTS hbu;go_wp2
    go_ret
    exact⟨zaa HF.out.symm,hbU⟩
   | true =>
    rw[Bool.true_and]at HZ
    have HF:=HZ
    have r1:=HTS.out u hbu
    have hc2:=zd5.out u hbu
    clear zd5 HTS hbu q0 q1 q2 q3 q4 q5 q6 q7 q8 q9
    go_wp2_with fail
    refine hc2.mono ?_
    rintro e u2 ⟨rfl,hbu⟩
    have zqg:=hbU.trans (hbu.mono hbU.size)
    clear hc2;go_wp2
    go_ret
    exact⟨zaa HF.out.symm,zqg⟩
 rw[if_neg k2]at HZ
 have g2:(kd==2)=false:=beq_eq_false_iff_ne.2 k2
 clear k2
 have hc1:Calls Tryz.prog 107 #[.slice a1 inn.length c1,.int .i64 g,.int .i64 2,.int .i64 8] W fun e w'=>e=.returned (.bool (alB inn g 2 8))/\Below W.heap.size W w':=zcp.out W (Below.refl _ _) 2 8
 have zd5:Hid (∀U,Below W.heap.size W U->Calls Tryz.prog 107 #[.slice a2 out.length c2,.int .i64 g,.int .i64 1,.int .i64 1] U fun e w'=>e=.returned (.bool (alB out g 1 1))/\Below U.heap.size U w'):=fun U hU=>zf3.out U hU 1 1
 generalize alB inn g 2 8=A1 at hc1 HZ
 generalize alB out g 1 1=A2 at zd5 HZ
 clear zcp zf3 HXB
 go_enter Tryz.func74,Tryz.ntmps74
 go_upto_region 1 with fail
 rw[<-hW];clear hW
 go_wp2_with fail
 refine hc1.mono ?_
 rintro e u ⟨rfl,hbu⟩
 have hbU:=hbW.trans (hbu.mono hbW.size)
 clear hc1
 cases A1 with
 | false =>
  have HF:Hid (_=false):=HZ.out
  clear zd5 HZ HTS hbu;go_wp2
  go_ret
  exact⟨zaa HF.out.symm,hbU⟩
 | true =>
  rw[Bool.true_and]at HZ
  have HF:=HZ
  have r1:=HTS.out u hbu
  have hc2:=zd5.out u hbu
  clear zd5 HTS hbu q0 q1 q2 q3 q4 q5 q6 q7 q8 q9
  go_wp2_with fail
  refine hc2.mono ?_
  rintro e u2 ⟨rfl,hbu⟩
  have zqg:=hbU.trans (hbu.mono hbU.size)
  clear hc2;go_wp2
  go_ret
  exact⟨zaa HF.out.symm,zqg⟩
theorem zgg(S:Nat->Prop)(a:Option Addr)(ca:Nat)(l:List Lk)(g:Int)(w:World)(hl:Gr LkE S w a ca l)(hg:I64 g) :
 Calls Tryz.prog 41 #[.slice a l.length ca,.int .i64 g] w fun e w'=>e=.returned (.bool (foU l g))/\Below w.heap.size w w':=by
 have kl:=hl.lenB
 by_cases hn1:10<l.length
 . have HF:Hid (foU l g=false):=zl4 hn1
   have g2:(10:Int)<(l.length:Int):=by omega
   clear hn1 hl
   go_enter Tryz.func41,Tryz.ntmps41
   go_wp2
   go_ret
   exact⟨zaa HF.out.symm,Below.refl _ _⟩
 have g2:¬(10:Int)<(l.length:Int):=by omega
 have HL:Hid (Gr LkE S w a ca l):=hl
 obtain⟨R,hR⟩:∃R,foU l g=R:=⟨_,rfl⟩
 have HBD:Hid (∀k,k<l.length->loB l g (l.getD k Lk.none)=false->R=false):=fun k hk h=>by rw[<-hR];exact zqs hk h
 have HYS:Hid ((∀k,k<l.length->loB l g (l.getD k Lk.none)=true)->R=true):=fun h=>by rw[<-hR];exact zhp.2 ⟨by omega,h⟩
 rw[hR];clear hR hn1 hl
 go_enter Tryz.func41,Tryz.ntmps41
 go_wp2;clear g2
 go_loopw [5] (fun i wr=>∃k:Nat,k<=l.length/\i=.int .i64 k/\Hid (∀j,j<k->loB l g (l.getD j Lk.none)=true)/\Below w.heap.size w wr) (fun i _=>l.length-(intOf i).toNat)
 case atStart=>exact⟨0,Nat.zero_le _,rfl,(fun j hj=>by omega),Below.refl _ _⟩
 case round =>
  obtain⟨k,hk,rfl,HOK,hB⟩:=hrel
  by_cases hkn:k<l.length
  . obtain⟨b,off,ra,rc,ea,hkd,hall⟩:=HL.out.lkAll k hkn
    have zav:Hid (loB l g (l.getD k Lk.none)=false->R=false):=HBD.out k hkn
    have za9:Hid (loB l g (l.getD k Lk.none)=true->∀j,j<k+1->loB l g (l.getD j Lk.none)=true):=fun h j hj=>by
     rcases Nat.lt_or_ge j k with h1|h1
     . exact HOK.out j h1
     . rw[show j=k by omega];exact h
    obtain⟨x,hx⟩:∃x,l.getD k Lk.none=x:=⟨_,rfl⟩
    rw[hx]at hkd hall zav za9;clear hx HOK;obtain⟨kd,sk,rs⟩:=x;dsimp only at hkd hall
    have zcp:Hid (∀u,Below w.heap.size w u->Gr RuE S u ra rc rs/\u.cell? ⟨b,off+k*3,none⟩=some (.int .i64 kd)/\u.cell? ⟨b,off+k*3+1,none⟩=some (.bool sk)/\u.cell? ⟨b,off+k*3+2,none⟩=some (.slice ra rs.length rc)):=hall
    obtain⟨hrs,d0,d1,d2⟩:=hall wr hB
    have kr:=hrs.lenB
    have i1:(0:Int)<=(k:Int):=by omega
    have i2:(k:Int)<(l.length:Int):=by omega
    subst ea
    have hpu:=fun u=>zfd kd u hkd
    clear hrs hall
    cases hp:puB kd with
    | false =>
     rw[hp]at hpu
     have ze7:Hid (∀j,j<k+1->loB l g (l.getD j Lk.none)=true):=za9.out (ziz (x:=⟨kd,sk,rs⟩) hp)
     have zdw:=hpu wr
     clear hp zav za9
     go_wp2_with fail
     refine zdw.mono ?_
     rintro e u ⟨rfl,rfl⟩;clear zdw;go_wp2;clear d0 d1 d2
     go_loopw [6] (fun i wr=>i=.int .i64 0/\Below w.heap.size w wr) (fun _ _=>0)
     case atStart=>exact⟨rfl,hB⟩
     case round =>
      clear hB;obtain⟨rfl,hB⟩:=hrel
      obtain⟨-,d0,d1,d2⟩:=zcp.out wr hB
      by_cases h0:0<rs.length
      . have d3:decide (0<rs.length)=true:=decide_eq_true h0
        have d4:decide ((0:Int)<(rs.length:Int))=true:=decide_eq_true (by omega)
        have zdw:=hpu wr
        clear hpu h0
        go_wp2_with fail
        refine zdw.mono ?_
        rintro e u ⟨rfl,rfl⟩;clear zdw;go_wp2
        go_roundw
        case rel=>exact⟨k+1,by omega,by go_num,ze7,hB⟩
        case measure=>simp[intOf];omega
      . have d3:decide (0<rs.length)=false:=decide_eq_false h0
        have d4:decide ((0:Int)<(rs.length:Int))=false:=decide_eq_false (by omega)
        clear hpu h0;go_wp2
        go_roundw
        case rel=>exact⟨k+1,by omega,by go_num,ze7,hB⟩
        case measure=>simp[intOf];omega
    | true =>
     rw[hp]at hpu
     have hlo:loB l g ⟨kd,sk,rs⟩=lkB l g ⟨kd,sk,rs⟩:=zuf (x:=⟨kd,sk,rs⟩) hp
     rw[hlo]at zav za9
     have zdw:=hpu wr
     clear hp hlo
     by_cases hn4:40<rs.length
     . have g3:decide ((40:Int)<(rs.length:Int))=true:=decide_eq_true (by omega)
       have HF:Hid (R=false):=zav.out (by unfold lkB;rw[decide_eq_false (show ¬rs.length<=40 by omega)];rfl)
       clear zav za9 hpu hn4
       go_wp2_with fail
       refine zdw.mono ?_
       rintro e u ⟨rfl,rfl⟩;clear zdw;go_wp2
       go_ret
       exact⟨zaa HF.out.symm,hB⟩
     have g3:decide ((40:Int)<(rs.length:Int))=false:=decide_eq_false (by omega)
     have zxi:Hid (∀j,j<rs.length->ruB l kd (rs.getD j Ru.none) g=false->R=false):=fun j hj h=>zav.out (zp0 (x:=⟨kd,sk,rs⟩) hj h)
     have ze7:Hid ((∀j,j<rs.length->ruB l kd (rs.getD j Ru.none) g=true)->∀j,j<k+1->loB l g (l.getD j Lk.none)=true):=fun h=>za9.out (zpz (x:=⟨kd,sk,rs⟩) (show rs.length<=40 by omega) h)
     clear zav za9 hn4
     go_wp2_with fail
     refine zdw.mono ?_
     rintro e u ⟨rfl,rfl⟩;clear zdw;go_wp2;clear d0 d1 d2 g3
     go_loopw [6] (fun i wr=>∃j:Nat,j<=rs.length/\i=.int .i64 j/\Hid (∀i,i<j->ruB l kd (rs.getD i Ru.none) g=true)/\Below w.heap.size w wr) (fun i _=>rs.length-(intOf i).toNat)
     case atStart=>exact⟨0,Nat.zero_le _,rfl,(fun j hj=>by omega),hB⟩
     case round =>
      clear hB;obtain⟨j,hj,rfl,HOJ,hB⟩:=hrel
      obtain⟨hrs,d0,d1,d2⟩:=zcp.out wr hB
      by_cases hjn:j<rs.length
      . have d3:decide (j<rs.length)=true:=decide_eq_true hjn
        have d4:decide ((j:Int)<(rs.length:Int))=true:=decide_eq_true (by omega)
        have i3:(0:Int)<=(j:Int):=by omega
        have i4:(j:Int)<(rs.length:Int):=by omega
        obtain⟨rb,ro,a1,c1,a2,c2,er,hrb,hI,hin,hou,k0,k1,k2,k3,k4,k5,k6,k7,k8,k9⟩:=hrs.ru10 (Below.refl _ _) j hjn
        obtain⟨r,hrr⟩:∃r,rs.getD j Ru.none=r:=⟨_,rfl⟩
        have HRR:Hid (rs.getD j Ru.none=r):=hrr
        rw[hrr]at hI hin hou k0 k1 k2 k3 k4 k5 k6 k7 k8 k9;clear hrr;obtain⟨inn,out,ap,lk,⟨x1,x2⟩,⟨y1,y2⟩,⟨w1,w2⟩⟩:=r;dsimp only at k0 k1 k2 k3 k4 k5 k6 k7 k8 k9 hin hou;obtain⟨j1,j2,⟨j3,j4⟩,⟨j5,j6⟩,j7,j8⟩:=hI;dsimp only at j1 j2 j3 j4 j5 j6 j7 j8;subst er
        have zh2:Hid (ruB l kd ⟨inn,out,ap,lk,(x1,x2),(y1,y2),(w1,w2)⟩ g=false->R=false):=fun h=>zxi.out j hjn (by rw[HRR.out];exact h)
        have ztu:Hid (ruB l kd ⟨inn,out,ap,lk,(x1,x2),(y1,y2),(w1,w2)⟩ g=true->∀i,i<j+1->ruB l kd (rs.getD i Ru.none) g=true):=fun h i hi=>by
         rcases Nat.lt_or_ge i j with h1|h1
         . exact HOJ.out i h1
         . rw[show i=j by omega,HRR.out];exact h
        have hrc:=fun Z (hZ:Below wr.heap.size wr Z)=>zoc S (some ⟨b,off,none⟩) ca l kd a1 c1 a2 c2 inn out ap lk x1 x2 y1 y2 w1 w2 g Z (HL.out.below (hB.trans (hZ.mono hB.size))) hkd j1 j2 (hin.below hZ).ri (hou.below hZ).ri hg
        generalize ruB l kd ⟨inn,out,ap,lk,(x1,x2),(y1,y2),(w1,w2)⟩ g=A at hrc zh2 ztu
        have zdw:=hpu wr
        clear HOJ HRR hin hou hrs
        go_wp2_with fail
        refine zdw.mono ?_
        rintro e u ⟨rfl,rfl⟩;clear zdw
        go_wp2_with fail
        refine wp_region_held_drew (S:=fun u=>(u.cell? ⟨b,off+k*3,none⟩=some (.int .i64 kd)/\u.cell? ⟨b,off+k*3+2,none⟩=some (.slice (some ⟨rb,ro,none⟩) rs.length rc)) /\
         (u.cell? ⟨rb,ro+j*10,none⟩=some (.slice a1 inn.length c1)/\u.cell? ⟨rb,ro+j*10+1,none⟩=some (.slice a2 out.length c2)/\u.cell? ⟨rb,ro+j*10+2,none⟩=some (.int .i64 ap)/\u.cell? ⟨rb,ro+j*10+3,none⟩=some (.int .i64 lk)/\u.cell? ⟨rb,ro+j*10+4,none⟩=some (.int .i64 x1)/\u.cell? ⟨rb,ro+j*10+5,none⟩=some (.int .i64 x2)/\u.cell? ⟨rb,ro+j*10+6,none⟩=some (.int .i64 y1)/\u.cell? ⟨rb,ro+j*10+7,none⟩=some (.int .i64 y2)/\u.cell? ⟨rb,ro+j*10+8,none⟩=some (.int .i64 w1)/\u.cell? ⟨rb,ro+j*10+9,none⟩=some (.int .i64 w2)))
         (by kernel_rfl) ⟨⟨d0,d2⟩,k0,k1,k2,k3,k4,k5,k6,k7,k8,k9⟩ (fun hH=>?_)
        have hdr:Below wr.heap.size wr wr.drew:=(Below.refl _ _).drew
        generalize wr.drew=Z at hdr hH ⊢
        refine hT 0 hH ?_;refine hT 1 hH ?_;refine hT 2 hH ?_;refine hT 3 hH ?_;refine hT 4 hH ?_;refine hT 5 hH ?_;refine hT 6 hH ?_;refine hT 7 hH ?_;refine hT 8 hH ?_;refine hT 9 hH ?_;refine hT 10 hH ?_;refine hT 11 hH ?_;refine hT 12 hH ?_;refine hT 13 hH ?_
        refine hT 14 hH ?_
        refine hCall (i:=15) rfl (by kernel_rfl) (by rfl) (fun K hK=>?_)
        go_simp
        refine(hrc Z hdr).mono ?_
        rintro e u ⟨rfl,hbu⟩
        have hUu:=hdr.trans (hbu.mono hdr.size)
        have zaf:=hB.trans (hUu.mono hB.size)
        have hSu:Hid ((u.cell? ⟨b,off+k*3,none⟩=some (.int .i64 kd)/\u.cell? ⟨b,off+k*3+2,none⟩=some (.slice (some ⟨rb,ro,none⟩) rs.length rc)) /\
         (u.cell? ⟨rb,ro+j*10,none⟩=some (.slice a1 inn.length c1)/\u.cell? ⟨rb,ro+j*10+1,none⟩=some (.slice a2 out.length c2)/\u.cell? ⟨rb,ro+j*10+2,none⟩=some (.int .i64 ap)/\u.cell? ⟨rb,ro+j*10+3,none⟩=some (.int .i64 lk)/\u.cell? ⟨rb,ro+j*10+4,none⟩=some (.int .i64 x1)/\u.cell? ⟨rb,ro+j*10+5,none⟩=some (.int .i64 x2)/\u.cell? ⟨rb,ro+j*10+6,none⟩=some (.int .i64 y1)/\u.cell? ⟨rb,ro+j*10+7,none⟩=some (.int .i64 y2)/\u.cell? ⟨rb,ro+j*10+8,none⟩=some (.int .i64 w1)/\u.cell? ⟨rb,ro+j*10+9,none⟩=some (.int .i64 w2))) :=
         ⟨⟨(zcp.out u zaf).2.1,(zcp.out u zaf).2.2.2⟩,(hUu.cell (p:=⟨rb,ro+j*10,none⟩) hrb).trans k0,(hUu.cell (p:=⟨rb,ro+j*10+1,none⟩) hrb).trans k1,(hUu.cell (p:=⟨rb,ro+j*10+2,none⟩) hrb).trans k2,(hUu.cell (p:=⟨rb,ro+j*10+3,none⟩) hrb).trans k3,(hUu.cell (p:=⟨rb,ro+j*10+4,none⟩) hrb).trans k4,(hUu.cell (p:=⟨rb,ro+j*10+5,none⟩) hrb).trans k5,(hUu.cell (p:=⟨rb,ro+j*10+6,none⟩) hrb).trans k6,(hUu.cell (p:=⟨rb,ro+j*10+7,none⟩) hrb).trans k7,(hUu.cell (p:=⟨rb,ro+j*10+8,none⟩) hrb).trans k8,(hUu.cell (p:=⟨rb,ro+j*10+9,none⟩) hrb).trans k9⟩
        clear hrc
        go_wp2_with fail
        refine hK.out _ _ hSu.out (fun hH=>?_)
        clear hK K
        try simp only[Act.put,pZ]
        refine hT 16 hH ?_
        refine wpAnyH_done (by kernel_rfl) ?_ _
        clear hSu hH hUu hbu hdr k0 k1 k2 k3 k4 k5 k6 k7 k8 k9 d0 d1 d2 d3 d4 hB
        cases A with
        | false =>
         have HF:Hid (R=false):=zh2.out rfl
         clear zh2 ztu;go_wp2
         go_ret
         exact⟨zaa HF.out.symm,zaf⟩
        | true =>
         have HOJ3:Hid (∀i,i<j+1->ruB l kd (rs.getD i Ru.none) g=true):=ztu.out rfl
         clear zh2 ztu;go_wp2
         go_roundw
         case rel=>exact⟨j+1,by omega,by go_num,HOJ3,zaf⟩
         case measure=>simp[intOf];omega
      . have d3:decide (j<rs.length)=false:=decide_eq_false hjn
        have d4:decide ((j:Int)<(rs.length:Int))=false:=decide_eq_false (by omega)
        have HOK4:Hid (∀j,j<k+1->loB l g (l.getD j Lk.none)=true):=ze7.out (fun i hi=>HOJ.out i (by omega))
        clear ze7 HOJ hpu hjn hrs;go_wp2
        go_roundw
        case rel=>exact⟨k+1,by omega,by go_num,HOK4,hB⟩
        case measure=>simp[intOf];omega
  . have HF:Hid (R=true):=HYS.out (fun j hj=>HOK.out j (by omega))
    have g4:¬(k:Int)<(l.length:Int):=by omega
    clear HOK;go_wp2
    go_ret
    exact⟨zaa HF.out.symm,hB⟩
theorem zm0(z:Int)(w:World) :
 Calls Tryz.prog 133 #[.int .i64 z] w fun e w'=>e=.returned (.bool (fdB z))/\w=w':=by
 by_cases h1:-32768<=z
 . have g1:decide (-32768<=z)=true:=decide_eq_true h1
   have HE:Hid (decide (z<=32767)=fdB z):=by show _=_;rw[fdB];exact decide_eq_decide.2 ⟨fun h=>⟨h1,h⟩,fun h=>h.2⟩
   go_enter Tryz.func133,Tryz.ntmps133
   go_wp2
   go_ret
   exact⟨zaa HE.out,rfl⟩
 . have g1:decide (-32768<=z)=false:=decide_eq_false h1
   have HE:Hid (false=fdB z):=by show _=_;rw[fdB];exact(decide_eq_false (fun h=>h1 h.1)).symm
   go_enter Tryz.func133,Tryz.ntmps133
   go_wp2
   go_ret
   exact⟨zaa HE.out,rfl⟩
theorem zc1(a:Option Addr)(ca:Nat)(b:Option Addr)(cb:Nat)(s:Sr)(x r:Int)(w:World)(hl:s.rw.length<=9223372036854775807)(hx:I64 x)(hr:I64 r) :
 Calls Tryz.prog 97 #[.agg #[.slice a s.rg.length ca,.slice b s.rw.length cb],.agg #[.int .i64 x,.int .i64 r]] w fun e w'=>e=.returned (.bool (fiS s x r))/\Below w.heap.size w w':=by
 obtain⟨W,hW,X1,X2,hbW⟩:∃W,W=(w.alloc (.cells #[.slice a s.rg.length ca,.slice b s.rw.length cb] 27)).alloc (.cells #[.int .i64 x,.int .i64 r] 62)/\BxS W w.heap.size (.slice a s.rg.length ca) (.slice b s.rw.length cb)/\BxL W (w.heap.size+1) (.int .i64 x) (.int .i64 r)/\Below w.heap.size w W:=⟨_,rfl,(BxS.new _ _ _).below (bl1 _),BxL.new1 _ _ _ _,bl2 _ _⟩
 have hif:=fun U=>zm0 x U
 cases hf:fdB x with
 | false =>
  have HE:Hid (fiS s x r=false):=by show _=_;rw[fiS,hf,Bool.false_and]
  simp only[hf]at hif
  clear hf
  go_enter Tryz.func97,Tryz.ntmps97
  go_wp2_with fail
  rw[<-hW];clear hW
  refine(hif _).mono ?_
  rintro e u1 ⟨rfl,rfl⟩;obtain⟨c0,c1,_⟩:=X1.cells;obtain⟨d0,d1,_⟩:=X2.cells;go_wp2
  go_ret
  exact⟨zaa HE.out.symm,hbW⟩
 | true =>
  simp only[hf]at hif
  by_cases h1:r=-1
  . have HE:Hid (fiS s x r=true):=by show _=_;rw[fiS,hf,Bool.true_and,decide_eq_true h1,Bool.true_or]
    have g1:(r == -1)=true:=by simp[h1]
    clear h1;clear hf
    go_enter Tryz.func97,Tryz.ntmps97
    go_wp2_with fail
    rw[<-hW];clear hW
    refine(hif _).mono ?_
    rintro e u1 ⟨rfl,rfl⟩;obtain⟨c0,c1,_⟩:=X1.cells;obtain⟨d0,d1,_⟩:=X2.cells;go_wp2
    go_ret
    exact⟨zaa HE.out.symm,hbW⟩
  have g1:(r == -1)=false:=by simp[h1]
  have HE0:Hid (fiS s x r=(decide (0<=r)&&(decide (r<(s.rw.length:Int))&&decide (r<400)))):=by show _=_;rw[fiS,hf,Bool.true_and,decide_eq_false h1,Bool.false_or]
  clear h1
  by_cases h2:0<=r
  . have g2:decide (0<=r)=true:=decide_eq_true h2
    by_cases h3:r<(s.rw.length:Int)
    . have g3:decide (r<(s.rw.length:Int))=true:=decide_eq_true h3
      have HE:Hid (fiS s x r=decide (r<400)):=by show _=_;rw[HE0.out,g2,g3,Bool.true_and,Bool.true_and]
      clear hf
      go_enter Tryz.func97,Tryz.ntmps97
      go_wp2_with fail
      rw[<-hW];clear hW
      refine(hif _).mono ?_
      rintro e u1 ⟨rfl,rfl⟩;obtain⟨c0,c1,_⟩:=X1.cells;obtain⟨d0,d1,_⟩:=X2.cells;go_wp2
      go_ret
      exact⟨zaa HE.out.symm,hbW⟩
    . have g3:decide (r<(s.rw.length:Int))=false:=decide_eq_false h3
      have HE:Hid (fiS s x r=false):=by show _=_;rw[HE0.out,g2,g3];rfl
      clear hf
      go_enter Tryz.func97,Tryz.ntmps97
      go_wp2_with fail
      rw[<-hW];clear hW
      refine(hif _).mono ?_
      rintro e u1 ⟨rfl,rfl⟩;obtain⟨c0,c1,_⟩:=X1.cells;obtain⟨d0,d1,_⟩:=X2.cells;go_wp2
      go_ret
      exact⟨zaa HE.out.symm,hbW⟩
  . have g2:decide (0<=r)=false:=decide_eq_false h2
    have HE:Hid (fiS s x r=false):=by show _=_;rw[HE0.out,g2];rfl
    clear hf
    go_enter Tryz.func97,Tryz.ntmps97
    go_wp2_with fail
    rw[<-hW];clear hW
    refine(hif _).mono ?_
    rintro e u1 ⟨rfl,rfl⟩;obtain⟨c0,c1,_⟩:=X1.cells;obtain⟨d0,d1,_⟩:=X2.cells;go_wp2
    go_ret
    exact⟨zaa HE.out.symm,hbW⟩
theorem zen(z:Int)(w:World)(hz:I64 z) :
 Calls Tryz.prog 67 #[.int .i64 z] w fun e w'=>e=.returned (.bool (mvB z))/\w=w':=by
 by_cases h5:z=5
 . subst h5
   go_enter Tryz.func67,Tryz.ntmps67
   go_wp2
   go_ret
   exact⟨rfl,rfl⟩
 by_cases h6:z=6
 . subst h6
   go_enter Tryz.func67,Tryz.ntmps67
   go_wp2
   go_ret
   exact⟨rfl,rfl⟩
 by_cases h7:z=7
 . subst h7
   go_enter Tryz.func67,Tryz.ntmps67
   go_wp2
   go_ret
   exact⟨rfl,rfl⟩
 have HF:Hid (mvB z=false):=by
  show _=_
  cases h:mvB z with
  | false=>rfl
  | true =>
   rcases zhg.1 h with e|e|e
   . exact absurd e h5
   . exact absurd e h6
   . exact absurd e h7
 have g5:(z==5)=false:=beq_eq_false_iff_ne.2 h5
 have g6:(z==6)=false:=beq_eq_false_iff_ne.2 h6
 have g7:(z==7)=false:=beq_eq_false_iff_ne.2 h7
 clear h5 h6 h7
 go_enter Tryz.func67,Tryz.ntmps67
 go_wp2
 go_ret
 exact⟨zaa HF.out.symm,rfl⟩
theorem zjg(kd:Int)(sk:Bool)(ra:Option Addr)(rn rc:Nat)(a1:Option Addr)(c1:Nat)(a2:Option Addr)(c2:Nat)(inn out:List Int)(ap lk x1 x2 y1 y2 w1 w2:Int)(ga:Option Addr)(gc:Nat)(ma:Option Addr)(mc:Nat)(s:Sr)(g:Int)(w:World)(hi:Ri w a1 c1 inn)(ko:out.length<=9223372036854775807)(k2:s.rw.length<=9223372036854775807)(hg:I64 g)
    (hx:I64 x1/\I64 x2) (hy:I64 y1/\I64 y2) (hw:I64 w1/\I64 w2) :
    Calls Tryz.prog 75 #[.agg #[.int .i64 kd,.bool sk,.slice ra rn rc],.agg #[.slice a1 inn.length c1,.slice a2 out.length c2,.int .i64 ap,.int .i64 lk,.int .i64 x1,.int .i64 x2,.int .i64 y1,.int .i64 y2,.int .i64 w1,.int .i64 w2],.agg #[.slice ga s.rg.length gc,.slice ma s.rw.length mc],.int .i64 g] w fun e w'=>e=.returned (.bool (prB (fiS s) kd sk ⟨inn,out,ap,lk,(x1,x2),(y1,y2),(w1,w2)⟩ g))/\Below w.heap.size w w':=by
 have ki:=hi.lenB
 obtain⟨W,hW⟩:∃W,W=((w.alloc (.cells #[.int .i64 kd,.bool sk,.slice ra rn rc] 123)).alloc (.cells #[.slice a1 inn.length c1,.slice a2 out.length c2,.int .i64 ap,.int .i64 lk,.int .i64 x1,.int .i64 x2,.int .i64 y1,.int .i64 y2,.int .i64 w1,.int .i64 w2] 131)).alloc (.cells #[.slice ga s.rg.length gc,.slice ma s.rw.length mc] 27):=⟨_,rfl⟩
 obtain⟨X1,X2,X3,hbW⟩:=new3B w 123 131 27 [.int .i64 kd,.bool sk,.slice ra rn rc] (ruV a1 c1 a2 c2 ⟨inn,out,ap,lk,(x1,x2),(y1,y2),(w1,w2)⟩) [.slice ga s.rg.length gc,.slice ma s.rw.length mc] W hW
 have HE:Hid (prB (fiS s) kd sk ⟨inn,out,ap,lk,(x1,x2),(y1,y2),(w1,w2)⟩ g=(glB kd ⟨inn,out,ap,lk,(x1,x2),(y1,y2),(w1,w2)⟩ g&&(nuB (fiS s) ⟨inn,out,ap,lk,(x1,x2),(y1,y2),(w1,w2)⟩ && anB kd sk ⟨inn,out,ap,lk,(x1,x2),(y1,y2),(w1,w2)⟩))):=zt5 _ _ _ _ _
 have HNO:Hid (¬((inn.length=inN kd/\out.length=0)/\ap=0/\lk=0)->glB kd ⟨inn,out,ap,lk,(x1,x2),(y1,y2),(w1,w2)⟩ g=false):=fun h=>zuv (r:=⟨inn,out,ap,lk,(x1,x2),(y1,y2),(w1,w2)⟩) h
 have HYE:Hid (((inn.length=inN kd/\out.length=0)/\ap=0/\lk=0)->glB kd ⟨inn,out,ap,lk,(x1,x2),(y1,y2),(w1,w2)⟩ g=inn.all (gyB g)):=fun h=>zqm (r:=⟨inn,out,ap,lk,(x1,x2),(y1,y2),(w1,w2)⟩) h
 have HNU:Hid (nuB (fiS s) ⟨inn,out,ap,lk,(x1,x2),(y1,y2),(w1,w2)⟩=(fiS s x1 x2&&(fiS s y1 y2&&fiS s w1 w2))):=rfl
 have HAN:Hid (anB kd sk ⟨inn,out,ap,lk,(x1,x2),(y1,y2),(w1,w2)⟩=(!decide (kd=7)||(!sk&&decide ((w1,w2)=((0:Int),(-1:Int)))))):=rfl
 generalize prB (fiS s) kd sk ⟨inn,out,ap,lk,(x1,x2),(y1,y2),(w1,w2)⟩ g=R at HE ⊢
 generalize glB kd ⟨inn,out,ap,lk,(x1,x2),(y1,y2),(w1,w2)⟩ g=GB at HE HNO HYE
 generalize nuB (fiS s) ⟨inn,out,ap,lk,(x1,x2),(y1,y2),(w1,w2)⟩=NB at HE HNU
 generalize anB kd sk ⟨inn,out,ap,lk,(x1,x2),(y1,y2),(w1,w2)⟩=AB at HE HAN
 have HG0:Hid (GB=false->R=false):=fun h=>by rw[HE.out,h];rfl
 have HG1:Hid (GB=true->R=(NB&&AB)):=fun h=>by rw[HE.out,h];rfl
 have HC1:Hid (∀U,Calls Tryz.prog 97 #[.agg #[.slice ga s.rg.length gc,.slice ma s.rw.length mc],.agg #[.int .i64 x1,.int .i64 x2]] U fun e w'=>e=.returned (.bool (fiS s x1 x2))/\Below U.heap.size U w'):=fun U=>zc1 ga gc ma mc s x1 x2 U k2 hx.1 hx.2
 have HC2:Hid (∀U,Calls Tryz.prog 97 #[.agg #[.slice ga s.rg.length gc,.slice ma s.rw.length mc],.agg #[.int .i64 y1,.int .i64 y2]] U fun e w'=>e=.returned (.bool (fiS s y1 y2))/\Below U.heap.size U w'):=fun U=>zc1 ga gc ma mc s y1 y2 U k2 hy.1 hy.2
 have HC3:Hid (∀U,Calls Tryz.prog 97 #[.agg #[.slice ga s.rg.length gc,.slice ma s.rw.length mc],.agg #[.int .i64 w1,.int .i64 w2]] U fun e w'=>e=.returned (.bool (fiS s w1 w2))/\Below U.heap.size U w'):=fun U=>zc1 ga gc ma mc s w1 w2 U k2 hw.1 hw.2
 generalize fiS s x1 x2=A1 at HC1 HNU
 generalize fiS s y1 y2=A2 at HC2 HNU
 generalize fiS s w1 w2=A3 at HC3 HNU
 obtain⟨x0,x1',x2',-⟩:=X1.three;obtain⟨q0,q1,q2,q3,-⟩:=X2.ru;dsimp only at q0 q1 q2 q3
 have HH:Hid (Ri W a1 c1 inn):=hi.below hbW
 have HX:Hid (Bk 123 W w.heap.size [.int .i64 kd,.bool sk,.slice ra rn rc]/\Bk 131 W (w.heap.size+1) (ruV a1 c1 a2 c2 ⟨inn,out,ap,lk,(x1,x2),(y1,y2),(w1,w2)⟩)/\Bk 27 W (w.heap.size+2) [.slice ga s.rg.length gc,.slice ma s.rw.length mc]):=⟨X1,X2,X3⟩
 clear hi X1 X2 X3 HE k2
 go_enter Tryz.func75,Tryz.ntmps75
 go_upto_if 13 with fail
 rw[<-hW];clear hW
 go_cut [9]from 11 to 13 (fun v wx=>v=.int .i64 ((inN kd:Nat):Int)/\wx=W)
 case first =>
  by_cases h5:kd=5
  . have e:inN kd=1:=by unfold inN;rw[if_pos h5]
    subst h5;clear HNO HYE HAN;go_wp2
    go_meet
    exact⟨by rw[e];rfl,rfl⟩
  . have e:inN kd=2:=by unfold inN;rw[if_neg h5]
    have g5:(kd==5)=false:=beq_eq_false_iff_ne.2 h5
    clear HNO HYE HAN h5;go_wp2
    go_meet
    exact⟨by rw[e];rfl,rfl⟩
 case rest =>
 obtain⟨rfl,rfl⟩:=hcut
 have hnn:inN kd<=2:=by unfold inN;split <;> omega
 generalize inN kd=nn at *
 clear x0 x1' x2'
 by_cases p1:inn.length=nn
 rotate_left
 . have HF:Hid (R=false):=HG0.out (HNO.out (fun h=>p1 h.1.1))
   have g1:((inn.length:Int) != (nn:Int))=true:=bne_iff_ne.2 (by omega)
   have g1n:(inn.length != nn)=true:=bne_iff_ne.2 p1
   clear HNO HYE p1 HG0 HG1 HNU HAN;go_wp2
   go_ret
   exact⟨zaa HF.out.symm,hbW⟩
 have g1:((inn.length:Int) != (nn:Int))=false:=bne_eq_false_iff_eq.2 (by omega)
 have g1n:(inn.length != nn)=false:=bne_eq_false_iff_eq.2 p1
 by_cases p2:out.length=0
 rotate_left
 . have HF:Hid (R=false):=HG0.out (HNO.out (fun h=>p2 h.1.2))
   have g2:((out.length:Int) != 0)=true:=bne_iff_ne.2 (by omega)
   have g2n:(out.length != 0)=true:=bne_iff_ne.2 p2
   clear HNO HYE p1 p2 HG0 HG1 HNU HAN;go_wp2
   go_ret
   exact⟨zaa HF.out.symm,hbW⟩
 have g2:((out.length:Int) != 0)=false:=bne_eq_false_iff_eq.2 (by omega)
 have g2n:(out.length != 0)=false:=bne_eq_false_iff_eq.2 p2
 by_cases p3:ap=0
 rotate_left
 . have HF:Hid (R=false):=HG0.out (HNO.out (fun h=>p3 h.2.1))
   have g3:(ap != 0)=true:=bne_iff_ne.2 p3
   clear HNO HYE p1 p2 p3 HG0 HG1 HNU HAN;go_wp2
   go_ret
   exact⟨zaa HF.out.symm,hbW⟩
 subst p3
 by_cases p4:lk=0
 rotate_left
 . have HF:Hid (R=false):=HG0.out (HNO.out (fun h=>p4 h.2.2))
   have g3:(lk != 0)=true:=bne_iff_ne.2 p4
   clear HNO HYE p1 p2 p4 HG0 HG1 HNU HAN;go_wp2
   go_ret
   exact⟨zaa HF.out.symm,hbW⟩
 subst p4
 have HRA:Hid (GB=inn.all (gyB g)):=HYE.out ⟨⟨p1,p2⟩,rfl,rfl⟩
 clear HNO HYE p1 p2;go_wp2;clear g1 g1n g2 g2n q1 q2 q3 hnn
 go_loopw [10] (fun i wr=>∃k:Nat,k<=inn.length/\i=.int .i64 k/\Hid (∀j,j<k->gyB g (inn.getD j 0)=true)/\wr=wc) (fun i _=>inn.length-(intOf i).toNat)
 case atStart=>exact⟨0,Nat.zero_le _,rfl,(fun j hj=>by omega),rfl⟩
 case round =>
  obtain⟨k,hk,rfl,HOK,rfl⟩:=hrel
  by_cases hkn:k<inn.length
  . obtain⟨b,off,rfl,hb,c0⟩:=HH.out.at (Below.refl _ _) k hkn
    have zav:Hid (gyB g (inn.getD k 0)=false->inn.all (gyB g)=false):=zmi hkn
    obtain⟨x,hx⟩:∃x,inn.getD k 0=x:=⟨_,rfl⟩
    have HXX:Hid (inn.getD k 0=x):=hx
    rw[hx]at c0 zav;clear hx
    have i1:(0:Int)<=(k:Int):=by omega
    have i2:(k:Int)<(inn.length:Int):=by omega
    by_cases x0:x<0
    . have d0:decide (x<0)=true:=decide_eq_true x0
      have HF:Hid (R=false):=HG0.out (by rw[HRA.out];exact zav.out (by unfold gyB;rw[decide_eq_false (by omega)];rfl))
      clear x0 zav HOK HG0 HG1 HNU HAN HRA;go_wp2
      go_ret
      exact⟨zaa HF.out.symm,hbW⟩
    have d0:decide (x<0)=false:=decide_eq_false x0
    by_cases x1:g<=x
    . have d1:decide (g<=x)=true:=decide_eq_true x1
      have HF:Hid (R=false):=HG0.out (by rw[HRA.out];exact zav.out (by unfold gyB;rw[decide_eq_false (show ¬x<g by omega),Bool.and_false]))
      clear x0 x1 zav HOK HG0 HG1 HNU HAN HRA;go_wp2
      go_ret
      exact⟨zaa HF.out.symm,hbW⟩
    have d1:decide (g<=x)=false:=decide_eq_false x1
    have za9:Hid (∀j,j<k+1->gyB g (inn.getD j 0)=true):=fun j hj=>by
     rcases Nat.lt_or_ge j k with h1|h1
     . exact HOK.out j h1
     . rw[show j=k by omega,HXX.out];exact zdg.2 ⟨by omega,by omega⟩
    clear x0 x1 zav HOK HXX;go_wp2
    go_roundw
    case rel=>exact⟨k+1,by omega,by go_num,za9,trivial⟩
    case measure=>simp[intOf];omega
  . have HR2:Hid (R=(NB&&AB)):=HG1.out (by rw[HRA.out];exact zhy (fun j hj=>HOK.out j (by omega)))
    have g4:¬(k:Int)<(inn.length:Int):=by omega
    have hc1:=HC1.out wr
    obtain⟨q0',q1,q2,q3,q4,q5,q6,q7,q8,q9⟩:=HX.out.2.1.ru;obtain⟨z0,z1,-⟩:=HX.out.2.2.two;dsimp only at q0' q1 q2 q3 q4 q5 q6 q7 q8 q9;clear HOK HG0 HG1 HRA HC1 q0'
    go_wp2_with fail
    refine hc1.mono ?_
    rintro e u ⟨rfl,hb1⟩
    have hbU:=hbW.trans (hb1.mono hbW.size)
    clear hc1 q0 q1 q2 q3 q4 q5 q6 q7 q8 q9 z0 z1 g4
    cases A1 with
    | false =>
     have HF:Hid (R=false):=by show _=_;rw[HR2.out,HNU.out];rfl
     clear HR2 HNU HAN;go_wp2
     go_ret
     exact⟨zaa HF.out.symm,hbU⟩
    | true =>
    have hc2:=HC2.out u
    have X2:=HX.out.2.1.below hb1
    obtain⟨q0,q1,q2,q3,q4,q5,q6,q7,q8,q9⟩:=X2.ru
    obtain⟨z0,z1,-⟩:=(HX.out.2.2.below hb1).two
    dsimp only at q0 q1 q2 q3 q4 q5 q6 q7 q8 q9;clear HC2
    go_wp2_with fail
    refine hc2.mono ?_
    rintro e u2 ⟨rfl,hb⟩
    have hb2:=hb1.trans (hb.mono hb1.size)
    replace hbU:=hbU.trans (hb.mono hbU.size)
    clear hc2 hb hb1 X2 q0 q1 q2 q3 q4 q5 q6 q7 q8 q9 z0 z1
    cases A2 with
    | false =>
     have HF:Hid (R=false):=by show _=_;rw[HR2.out,HNU.out];rfl
     clear HR2 HNU HAN;go_wp2
     go_ret
     exact⟨zaa HF.out.symm,hbU⟩
    | true =>
    have hc3:=HC3.out u2
    have X2:=HX.out.2.1.below hb2
    obtain⟨q0,q1,q2,q3,q4,q5,q6,q7,q8,q9⟩:=X2.ru
    obtain⟨z0,z1,-⟩:=(HX.out.2.2.below hb2).two
    dsimp only at q0 q1 q2 q3 q4 q5 q6 q7 q8 q9;clear HC3
    go_wp2_with fail
    refine hc3.mono ?_
    rintro e u3 ⟨rfl,hb⟩
    have hb3:=hb2.trans (hb.mono hb2.size)
    replace hbU:=hbU.trans (hb.mono hbU.size)
    clear hc3 hb hb2 X2 q0 q1 q2 q3 q4 q5 q6 q7 q8 q9 z0 z1
    cases A3 with
    | false =>
     have HF:Hid (R=false):=by show _=_;rw[HR2.out,HNU.out];rfl
     clear HR2 HNU HAN;go_wp2
     go_ret
     exact⟨zaa HF.out.symm,hbU⟩
    | true =>
    have HR3:Hid (R=(!decide (kd=7)||(!sk&&decide ((w1,w2)=((0:Int),(-1:Int)))))):=by show _=_;rw[HR2.out,HNU.out,HAN.out];rfl
    clear HR2 HNU HAN
    have X2:=HX.out.2.1.below hb3
    obtain⟨-,-,-,-,-,-,-,-,q8,q9⟩:=X2.ru
    obtain⟨x0,x1',x2',-⟩:=(HX.out.1.below hb3).three
    dsimp only at q8 q9;clear X2
    by_cases h7:kd=7
    rotate_left
    . have HF:Hid (R=true):=by show _=_;rw[HR3.out,decide_eq_false h7];rfl
      have g7:(kd != 7)=true:=bne_iff_ne.2 h7
      clear HR3 h7;go_wp2
      go_ret
      exact⟨zaa HF.out.symm,hbU⟩
    subst h7
    cases sk with
    | true =>
     have HF:Hid (R=false):=by show _=_;rw[HR3.out];rfl
     clear HR3;go_wp2
     go_ret
     exact⟨zaa HF.out.symm,hbU⟩
    | false =>
     by_cases e1:w1=0
     rotate_left
     . have HF:Hid (R=false):=by show _=_;rw[HR3.out,decide_eq_false (fun h=>e1 (congrArg Prod.fst h))];rfl
       have g8:(w1==0)=false:=beq_eq_false_iff_ne.2 e1
       clear HR3 e1;go_wp2
       go_ret
       exact⟨zaa HF.out.symm,hbU⟩
     by_cases e2:w2=-1
     rotate_left
     . have HF:Hid (R=false):=by show _=_;rw[HR3.out,decide_eq_false (fun h=>e2 (congrArg Prod.snd h))];rfl
       have g8:(w2 == -1)=false:=beq_eq_false_iff_ne.2 e2
       clear HR3 e2;go_wp2
       go_ret
       exact⟨zaa HF.out.symm,hbU⟩
     subst e1 e2
     have HF:Hid (R=true):=by show _=_;rw[HR3.out];rfl
     clear HR3;go_wp2
     go_ret
     exact⟨zaa HF.out.symm,hbU⟩
