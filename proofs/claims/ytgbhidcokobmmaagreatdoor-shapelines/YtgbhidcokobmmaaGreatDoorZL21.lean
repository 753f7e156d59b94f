import Derived.Test.YtgbhidcokobmmaaGreatDoorZL20
set_option maxHeartbeats 8000000
set_option maxRecDepth 100000
set_option linter.unusedSimpArgs false
set_option linter.unusedVariables false
namespace Go.Proofs.YtgbhidcokobmmaaGreatDoor
open Go.RowKit Go.Maps
structure zgw(P:Prop)(e:Ending):Prop where
 out:∃q:Bool,e=.returned (.bool q)/\(q=true->P)
def FewG(l:List Gl):Prop:=l.length<=40/\∀x∈l,x.o.cs.flatten.length<=1000/\x.o.ps.length<=12/\x.ts.length<=30
theorem zon(S:Nat->Prop)(a:Option Addr)(ca:Nat)(l:List Gl)(w:World)(hl:Gr GlE S w a ca l) :
 Calls Tryz.prog 51 #[.slice a l.length ca] w fun e w'=>zgw (FewG l) e/\Below w.heap.size w w':=by
 have kl:=hl.lenB
 have HL:Hid (Gr GlE S w a ca l):=hl
 clear hl
 by_cases hn:40<l.length
 . have g1:(40:Int)<(l.length:Int):=by omega
   go_enter Tryz.func51,Tryz.ntmps51
   go_wp2
   go_ret
   exact⟨⟨⟨false,rfl,(fun h=>by cases h)⟩⟩,Below.refl _ _⟩
 have g1:¬(40:Int)<(l.length:Int):=by omega
 go_enter Tryz.func51,Tryz.ntmps51
 go_wp2;clear g1
 go_loopw [3,4] (fun nv i wr=>∃(k:Nat) (z:Int),k<=l.length/\i=.int .i64 k/\nv=.int .i64 z/\Hid (∀j,j<k->(l.getD j Gl.none).o.cs.flatten.length<=1000/\(l.getD j Gl.none).o.ps.length<=12/\(l.getD j Gl.none).ts.length<=30)/\Below w.heap.size w wr) (fun _ i _=>l.length-(intOf i).toNat)
 case atStart=>exact⟨0,0,Nat.zero_le _,rfl,rfl,(fun j hj=>by omega),Below.refl _ _⟩
 case round =>
  obtain⟨k,z,hk,rfl,rfl,HOK,hB⟩:=hrel
  by_cases hkn:k<l.length
  . obtain⟨b1,off,xa,xc,pa,pc,ta,tc,ea,hb1,hGC,c0,c1,c2,-⟩:=HL.out.gl hB k hkn
    subst ea
    obtain⟨x,hx⟩:∃x,l.getD k Gl.none=x:=⟨_,rfl⟩
    have HX:Hid (l.getD k Gl.none=x):=hx
    rw[hx]at hGC c0 c1 c2
    have i1:(0:Int)<=(k:Int):=by omega
    have i2:(k:Int)<(l.length:Int):=by omega
    have kcs:=hGC.cs.lenB
    have kps:=hGC.ps.lenB
    have kts:=hGC.ts.lenB
    have hb1w:b1<wr.heap.size:=Nat.lt_of_lt_of_le hb1 hB.size
    have h1:=zol S xa xc pa pc x.o wr hGC.cs hGC.ps
    have h2:=fun U (hU:Below wr.heap.size wr U)=>zok S ta tc x.ts U (hGC.below hU).ts
    have h3:=fun U (hU:Below wr.heap.size wr U) (hf:x.o.cs.flatten.length<=100000)=>zh8 S xa xc (.slice pa x.o.ps.length pc) x.o.cs U (hGC.below hU).cs hf rfl
    clear hx hGC
    cases hf1:fewB x.o with
    | false =>
     rw[hf1]at h1;clear hf1 h2 h3
     go_wp2_with fail
     refine h1.mono ?_
     rintro e u1 ⟨rfl,hb⟩
     replace hB:=hB.trans (hb.mono hB.size)
     clear h1 hb;go_wp2
     go_ret
     exact⟨⟨⟨false,rfl,(fun h=>by cases h)⟩⟩,hB⟩
    | true =>
    rw[hf1]at h1
    have hf9:=(zwx hf1).2.1
    clear hf1
    go_wp2_with fail
    refine h1.mono ?_
    rintro e u1 ⟨rfl,hb⟩;clear h1
    replace c0:=(hb.cell (p:=⟨b1,off+k*6,none⟩) hb1w).trans c0
    replace c1:=(hb.cell (p:=⟨b1,off+k*6+1,none⟩) hb1w).trans c1
    replace c2:=(hb.cell (p:=⟨b1,off+k*6+2,none⟩) hb1w).trans c2
    have hB1:=hB.trans (hb.mono hB.size)
    have h2':=h2 _ hb
    cases hf2:fewT x.ts with
    | false =>
     rw[hf2]at h2';clear hf2 h2 h3 hb
     go_wp2_with fail
     refine h2'.mono ?_
     rintro e u2 ⟨rfl,hb⟩
     replace hB1:=hB1.trans (hb.mono hB1.size)
     clear h2' hb;go_wp2
     go_ret
     exact⟨⟨⟨false,rfl,(fun h=>by cases h)⟩⟩,hB1⟩
    | true =>
    rw[hf2]at h2'
    have htn:=(zww hf2).1
    clear hf2 h2
    go_wp2_with fail
    refine h2'.mono ?_
    rintro e u2 ⟨rfl,hb2⟩
    have hus:=hb.size
    replace c0:=(hb2.cell (p:=⟨b1,off+k*6,none⟩) (by show b1<_;omega)).trans c0
    replace c1:=(hb2.cell (p:=⟨b1,off+k*6+1,none⟩) (by show b1<_;omega)).trans c1
    replace c2:=(hb2.cell (p:=⟨b1,off+k*6+2,none⟩) (by show b1<_;omega)).trans c2
    have hB2:=hB1.trans (hb2.mono hB1.size)
    have hb3:=hb.trans (hb2.mono hb.size)
    have hus2:=hb2.size
    clear h2' hb hb2 hB1 hB
    by_cases hp:12<x.o.ps.length
    . have g2:decide ((12:Int)<(x.o.ps.length:Int))=true:=decide_eq_true (by omega)
      have g3:(12:Int)<(x.o.ps.length:Int):=by omega
      clear h3 hb3;go_wp2
      go_ret
      exact⟨⟨⟨false,rfl,(fun h=>by cases h)⟩⟩,hB2⟩
    have g2:decide ((12:Int)<(x.o.ps.length:Int))=false:=decide_eq_false (by omega)
    have za9:Hid (∀j,j<k+1->(l.getD j Gl.none).o.cs.flatten.length<=1000/\(l.getD j Gl.none).o.ps.length<=12/\(l.getD j Gl.none).ts.length<=30):=fun j hj=>by
     rcases Nat.lt_or_ge j k with h1|h1
     . exact HOK.out j h1
     . rw[show j=k by omega,HX.out];exact⟨hf9,by omega⟩
    have hpo:=fun U hU=>h3 U (hb3.trans (Below.mono hU hb3.size)) (by omega)
    clear h3 HOK HX
    go_upto_region 9 with fail
    refine wp_region_held_drew (S:=fun w9=>w9.cell? ⟨b1,off+k*6,none⟩=some (.slice xa x.o.cs.length xc)/\w9.cell? ⟨b1,off+k*6+1,none⟩=some (.slice pa x.o.ps.length pc)/\w9.cell? ⟨b1,off+k*6+2,none⟩=some (.slice ta x.ts.length tc)) (by kernel_rfl) ?_ (fun hH=>?_)
    . (try dsimp only)
      go_keep
    have hdr:Below u2.heap.size u2 u2.drew:=Below.drew1
    have hpo2:=hpo _ hdr
    generalize u2.drew=Z at hdr hH hpo2 ⊢
    replace c0:=(hdr.cell (p:=⟨b1,off+k*6,none⟩) (by show b1<_;omega)).trans c0
    replace c1:=(hdr.cell (p:=⟨b1,off+k*6+1,none⟩) (by show b1<_;omega)).trans c1
    replace c2:=(hdr.cell (p:=⟨b1,off+k*6+2,none⟩) (by show b1<_;omega)).trans c2
    replace hB2:=hB2.trans (hdr.mono hB2.size)
    have hzs:=hdr.size
    clear hdr hpo hb3;refine hT 0 hH ?_;refine hT 1 hH ?_;refine hT 2 hH ?_;refine hT 3 hH ?_;refine hT 4 hH ?_;refine hT 5 hH ?_;refine hT 8 hH ?_;refine hT 9 hH ?_;refine hT 10 hH ?_;refine hT 11 hH ?_;refine hT 12 hH ?_;refine hT 13 hH ?_;refine hT 14 hH ?_
    refine hCall (i:=6) rfl (by kernel_rfl) (by rfl) (fun K hK=>?_)
    go_simp
    refine hpo2.mono ?_
    rintro e u3 ⟨a8,c8,rfl,-,-,hb⟩
    replace c0:=(hb.cell (p:=⟨b1,off+k*6,none⟩) (by show b1<_;omega)).trans c0
    replace c1:=(hb.cell (p:=⟨b1,off+k*6+1,none⟩) (by show b1<_;omega)).trans c1
    replace c2:=(hb.cell (p:=⟨b1,off+k*6+2,none⟩) (by show b1<_;omega)).trans c2
    replace hB2:=hB2.trans (hb.mono hB2.size)
    clear hb hpo2
    go_wp2_with fail
    refine hK.out _ _ ?_ (fun hH=>?_)
    . (try dsimp only)
      exact⟨c0,c1,c2⟩
    clear hK K
    try simp only[Act.put,pZ]
    refine hT 7 hH ?_;refine hT 15 hH ?_;refine hT 16 hH ?_;refine hT 17 hH ?_
    refine wpAnyH_done (by kernel_rfl) ?_ _
    clear hH c0 c1 c2;go_wp2
    go_roundw
    case rel=>exact⟨k+1,_,by omega,by go_num,rfl,za9,hB2⟩
    case measure=>simp[intOf];omega
  . have ek:k=l.length:=by omega
    have g4:¬(k:Int)<(l.length:Int):=by omega
    have HF:Hid (FewG l):=⟨by omega,zx8 (d:=Gl.none) (fun j hj=>HOK.out j (by omega))⟩
    clear HOK;go_wp2
    go_ret
    exact⟨⟨⟨_,rfl,fun _=>HF.out⟩⟩,hB⟩
structure BoolL(e:Ending):Prop where
 out:∃b,e=.returned (.bool b)
theorem zmz(S:Nat->Prop)(a:Option Addr)(ca:Nat)(l:List Lk)(w:World)(hl:Gr LkE S w a ca l) :
 Calls Tryz.prog 52 #[.slice a l.length ca] w fun e w'=>BoolL e/\Below w.heap.size w w':=by
 have kl:=hl.lenB
 have HL:Hid (Gr LkE S w a ca l):=hl
 clear hl
 go_enter Tryz.func52,Tryz.ntmps52
 go_wp2
 go_loopw [3,4] (fun vn vi wr=>∃(z:Int) (k:Nat),vn=.int .i64 z/\vi=.int .i64 k/\k<=l.length/\Below w.heap.size w wr) (fun _ vi _=>l.length-(intOf vi).toNat)
 case atStart=>exact⟨0,0,rfl,rfl,Nat.zero_le _,Below.refl _ _⟩
 case round =>
  obtain⟨z,k,rfl,rfl,hk,hB⟩:=hrel
  by_cases hkn:k<l.length
  . have e1:decide (k<l.length)=true:=decide_eq_true hkn
    have e2:decide ((k:Int)<(l.length:Int))=true:=decide_eq_true (by omega)
    by_cases hz:z<=600
    . have e3:decide (z<=600)=true:=decide_eq_true hz
      obtain⟨b,off,ra,rc,rfl,-,hall⟩:=HL.out.lkAll k hkn
      have zcp:Hid (∀u,Below w.heap.size w u->Gr RuE S u ra rc (l.getD k Lk.none).rs/\u.cell? ⟨b,off+k*3+2,none⟩=some (.slice ra (l.getD k Lk.none).rs.length rc)):=fun u hu=>⟨(hall u hu).1,(hall u hu).2.2.2⟩
      have kr:=(hall wr hB).1.lenB
      obtain⟨rs,hrs⟩:∃rs,(l.getD k Lk.none).rs=rs:=⟨_,rfl⟩
      rw[hrs]at zcp kr
      obtain⟨z1,hz1⟩:∃z1,IntKind.i64.wrap (z+1)=z1:=⟨_,rfl⟩
      clear hall hrs hz
      have i1:(0:Int)<=(k:Int):=by omega
      have i2:(k:Int)<(l.length:Int):=by omega
      go_wp2;clear e3 e1 e2
      go_loopw [3,5] (fun vn vj wr=>∃(z:Int) (j:Nat),vn=.int .i64 z/\vj=.int .i64 j/\j<=rs.length/\Below w.heap.size w wr) (fun _ vj _=>rs.length-(intOf vj).toNat)
      case atStart=>exact⟨_,0,rfl,rfl,Nat.zero_le _,hB⟩
      case round =>
       clear hB hz1
       rename World=>wx
       obtain⟨z2,j,rfl,rfl,hj,hB⟩:=hrel
       obtain⟨hrs,d2⟩:=zcp.out wx hB
       by_cases hjn:j<rs.length
       . have e1:decide (j<rs.length)=true:=decide_eq_true hjn
         have e2:decide ((j:Int)<(rs.length:Int))=true:=decide_eq_true (by omega)
         by_cases hz2:z2<=600
         . have e3:decide (z2<=600)=true:=decide_eq_true hz2
           obtain⟨rb,ro,a1,c1,a2,c2,rfl,hrb,-,-,-,x0,x1,-⟩:=hrs.ru10 (Below.refl _ _) j hjn
           have i3:(0:Int)<=(j:Int):=by omega
           have i4:(j:Int)<(rs.length:Int):=by omega
           clear hrs hz2;go_wp2
           go_quiet (fail)
           have zaf:=hB.trans ((below_drewN (Below.refl wx.heap.size wx) nq).mono hB.size)
           generalize wx.drewN nq=uf at zaf
           clear x0 x1 d2 e3;go_wp2
           go_roundw
           case rel=>exact⟨_,j+1,rfl,by go_num,by omega,zaf⟩
           case measure=>simp[intOf];omega
         . have e3:decide (z2<=600)=false:=decide_eq_false hz2
           clear hrs hz2;go_wp2
           go_roundw
           case rel=>exact⟨_,k+1,rfl,by go_num,by omega,hB⟩
           case measure=>simp[intOf];omega
       . have e1:decide (j<rs.length)=false:=decide_eq_false hjn
         have e2:decide ((j:Int)<(rs.length:Int))=false:=decide_eq_false (by omega)
         clear hrs hjn;go_wp2
         go_roundw
         case rel=>exact⟨_,k+1,rfl,by go_num,by omega,hB⟩
         case measure=>simp[intOf];omega
    . have e3:decide (z<=600)=false:=decide_eq_false hz
      clear hz;go_wp2
      go_ret
      exact⟨⟨_,rfl⟩,hB⟩
  . have e1:decide (k<l.length)=false:=decide_eq_false hkn
    have e2:decide ((k:Int)<(l.length:Int))=false:=decide_eq_false (by omega)
    clear hkn;go_wp2
    go_ret
    exact⟨⟨_,rfl⟩,hB⟩
def PrH:El (Int×Int):=El.int.cat El.int
structure FoX(S:Nat->Prop)(w:World)(d:FoD)(x:Fo)(bd:List (List (Int×Int))):Prop where
 bl:d.bl=bd.length
 hb:Gr PrH.row S w d.ba d.bc bd
 kx:d.xl<=9223372036854775807
 kt:d.tl<=9223372036854775807
 kf:x.ft.length<=140737488351232
 ks:x.sw.length<=140737488351232
 rg:∀l∈x.s.rg,l.length<=140737488351232
 rr:∀l∈x.s.rw,l.length<=140737488351232
theorem FoX.below{S:Nat->Prop}{w u:World}{d:FoD}{x:Fo}{bd:List (List (Int×Int))}(h:FoX S w d x bd)(hb:Below w.heap.size w u):FoX S u d x bd :=
 ⟨h.bl,h.hb.below hb,h.kx,h.kt,h.kf,h.ks,h.rg,h.rr⟩
theorem zom(S:Nat->Prop)(d:FoD)(x:Fo)(bd:List (List (Int×Int)))(w:World)(h:FoR S w d x)(hX:FoX S w d x bd) :
 Calls Tryz.prog 23 #[fV d x] w fun e w'=>zgw (x.gl.length<=40/\FewF x.ft x.sw) e/\Below w.heap.size w w':=by
 have kr:=h.hr.lenB
 obtain⟨hg,hm,hl,hr,hk,hf,hs⟩:=h;obtain⟨ebl,hbd,kx,kt,kf,ks,krg,krr⟩:=hX;obtain⟨xa,xl,xc,ba,bl,bc,ga,gc,ma,mc,la,lc,ta,tl,tc,da,dl,dc,ra,rc,ka,kc,fa,fc,sa,sc⟩:=d
 dsimp only[fV]at hg hm hl hr hk hf hs ebl hbd kx kt ⊢
 subst ebl
 obtain⟨W,hW,XW,hbW⟩:∃W,W=w.alloc (.cells #[.slice xa xl xc,.slice ba bd.length bc,.slice ga x.s.rg.length gc,.slice ma x.s.rw.length mc,.slice la x.gl.length lc,.slice ta tl tc,.slice da dl dc,.slice ra x.rn.length rc,.slice ka x.lk.length kc,.slice fa x.ft.length fc,.slice sa x.sw.length sc] 36)/\Bk 36 W w.heap.size [.slice xa xl xc,.slice ba bd.length bc,.slice ga x.s.rg.length gc,.slice ma x.s.rw.length mc,.slice la x.gl.length lc,.slice ta tl tc,.slice da dl dc,.slice ra x.rn.length rc,.slice ka x.lk.length kc,.slice fa x.ft.length fc,.slice sa x.sw.length sc]/\Below w.heap.size w W:=⟨_,rfl,Bk.new _ _ _,bl1 _⟩
 have HBD:Hid (Gr PrH.row S W ba bc bd):=hbd.below hbW
 have HF1:Hid (∀U,Below w.heap.size w U->Calls Tryz.prog 51 #[.slice la x.gl.length lc] U fun e w'=>zgw (FewG x.gl) e/\Below U.heap.size U w'):=fun U hU=>zon S la lc x.gl U (hl.below hU)
 have HF2:Hid (∀U,Below w.heap.size w U->Calls Tryz.prog 52 #[.slice ka x.lk.length kc] U fun e w'=>BoolL e/\Below U.heap.size U w'):=fun U hU=>zmz S ka kc x.lk U (hk.below hU)
 have HF3:Hid (∀U,Below w.heap.size w U->Calls Tryz.prog 53 #[.slice fa x.ft.length fc,.slice sa x.sw.length sc] U fun e w'=>BoolF (FewF x.ft x.sw) e/\Below U.heap.size U w'):=fun U hU=>zmy S S fa fc x.ft sa sc x.sw U (hf.below hU) (hs.below hU) kf ks
 have HXW:Hid (Bk 36 W w.heap.size _):=XW
 obtain⟨x0,-,-,-,-,x5,-,x7,-,-,-⟩:=XW.elevenH
 have kb:=hbd.lenB
 clear hg hm hl hr hk hf hs hbd krg krr XW
 go_enter Tryz.func23,Tryz.ntmps23
 go_upto_region 1 with fail
 rw[<-hW];clear hW;go_wp2
 go_loopw [3,4] (fun v i wr=>∃(k:Nat) (z:Int),k<=bd.length/\v=.int .i64 z/\i=.int .i64 k/\Below W.heap.size W wr) (fun _ i _=>bd.length-(intOf i).toNat)
 case atStart=>exact⟨0,_,Nat.zero_le _,rfl,rfl,Below.refl _ _⟩
 case round =>
  clear x0 x5 x7;obtain⟨k,z,hk,rfl,rfl,hB⟩:=hrel
  have XU:=HXW.out.below hB
  obtain⟨-,y1,-,-,y4,-,-,-,y8,y9,y10⟩:=XU.elevenH
  by_cases hkn:k<bd.length
  . by_cases hz:z<=400
    . obtain⟨b1,off,a1,c1,e1,hb1,d0,hgr,hlb,-⟩:=HBD.out.rw hB k hkn
      generalize (bd.getD k []).length=n1 at d0 hlb
      subst e1
      have d1:decide (z<=400)=true:=decide_eq_true hz
      have d2:decide ((k:Int)<(bd.length:Int))=true:=decide_eq_true (by omega)
      have d2n:decide (k<bd.length)=true:=decide_eq_true hkn
      have i1:(0:Int)<=(k:Int):=by omega
      have i2:(k:Int)<(bd.length:Int):=by omega
      clear hgr
      go_wp2_with fail
      go_roundw
      case rel=>exact⟨k+1,_,by omega,rfl,by go_num,hB⟩
      case measure=>simp[intOf];omega
    . have hBw:=hbW.trans (hB.mono hbW.size)
      have d1:decide (z<=400)=false:=decide_eq_false hz
      have d2:decide ((k:Int)<(bd.length:Int))=true:=decide_eq_true (by omega)
      have d2n:decide (k<bd.length)=true:=decide_eq_true hkn
      clear XU hz hkn
      go_wp2_with fail
      go_ret
      exact⟨⟨⟨false,rfl,fun h=>by cases h⟩⟩,hBw⟩
  . have hBw:=hbW.trans (hB.mono hbW.size)
    have d2:decide ((k:Int)<(bd.length:Int))=false:=decide_eq_false (by omega)
    have d2n:decide (k<bd.length)=false:=decide_eq_false hkn
    by_cases hz:z<=400
    rotate_left
    . have d1:decide (z<=400)=false:=decide_eq_false hz
      clear XU hz hkn
      go_wp2_with fail
      go_ret
      exact⟨⟨⟨false,rfl,fun h=>by cases h⟩⟩,hBw⟩
    . have d1:decide (z<=400)=true:=decide_eq_true hz
      have h1:=HF1.out wr hBw
      clear hz hkn
      go_wp2_with fail
      refine h1.mono ?_
      rintro e u1 ⟨hbo,hb⟩;obtain⟨q1,rfl,hq1⟩:=hbo.out
      replace hBw:=hBw.trans (hb.mono hBw.size)
      replace XU:=XU.below hb;clear h1 hbo hb y1 y4 y8 y9 y10 hB;obtain⟨-,y1,-,-,y4,-,-,-,y8,y9,y10⟩:=XU.elevenH
      cases q1 with
      | false =>
       clear hq1 XU
       go_wp2_with fail
       go_ret
       exact⟨⟨⟨false,rfl,fun h=>by cases h⟩⟩,hBw⟩
      | true =>
      have HQ1:Hid (FewG x.gl):=hq1 rfl
      have h2:=HF2.out u1 hBw
      clear hq1
      go_wp2_with fail
      refine h2.mono ?_
      rintro e u2 ⟨hbo,hb⟩;obtain⟨q2,rfl⟩:=hbo.out
      replace hBw:=hBw.trans (hb.mono hBw.size)
      replace XU:=XU.below hb;clear h2 hbo hb y1 y4 y8 y9 y10;obtain⟨-,y1,-,-,y4,-,-,-,y8,y9,y10⟩:=XU.elevenH
      cases q2 with
      | false =>
       clear XU
       go_wp2_with fail
       go_ret
       exact⟨⟨⟨false,rfl,fun h=>by cases h⟩⟩,hBw⟩
      | true =>
      have h3:=HF3.out u2 hBw
      go_wp2_with fail
      refine h3.mono ?_
      rintro e u3 ⟨hbo,hb⟩;obtain⟨q3,rfl,hq3⟩:=hbo.out
      have HQ3:Hid (q3=true->FewF x.ft x.sw):=hq3
      replace hBw:=hBw.trans (hb.mono hBw.size)
      clear h3 hbo hb y1 y4 y8 y9 y10 XU hq3
      go_wp2_with fail
      go_ret
      exact⟨⟨⟨q3,rfl,fun h=>⟨HQ1.out.1,HQ3.out h⟩⟩⟩,hBw⟩
theorem znr(a:Option Addr)(ca:Nat)(b:Option Addr)(cb:Nat)(s:Sr)(w:World)(hg:Tzz w a ca s.rg)(hm:Rii w b cb s.rw)(h8g:∀l∈s.rg,l.length<=140737488351232)(h8r:∀l∈s.rw,l.length<=140737488351232) :
 Calls Tryz.prog 24 #[.agg #[.slice a s.rg.length ca,.slice b s.rw.length cb]] w fun e w'=>∃q:Bool,e=.returned (.bool q)/\(q=true->s.rg.length<=20/\(∀l∈s.rg,l.length<=8)/\s.rw.length<=2000)/\Below w.heap.size w w':=by
 have k1:=hg.lenB
 have k2:=hm.lenB
 have HG:Hid (Tzz w a ca s.rg):=hg
 have HM:Hid (Rii w b cb s.rw):=hm
 clear hg hm
 obtain⟨W,hW,X1,hbW⟩:∃W,W=w.alloc (.cells #[.slice a s.rg.length ca,.slice b s.rw.length cb] 27)/\BxS W w.heap.size (.slice a s.rg.length ca) (.slice b s.rw.length cb)/\Below w.heap.size w W:=⟨_,rfl,BxS.new _ _ _,bl1 _⟩
 go_enter Tryz.func24,Tryz.ntmps24
 go_upto_block 0 with fail
 rw[<-hW];clear hW
 go_cut [3]from 4 to 26 (fun v wr=>∃z:Int,v=.int .i64 z/\(0<=z/\z<=140737488360000)/\BxS wr w.heap.size (.slice a s.rg.length ca) (.slice b s.rw.length cb)/\Below w.heap.size w wr)
 case first =>
  go_wp2_with fail
  go_loopw [3,4] (fun v i wr=>∃(k:Nat) (z:Int),k<=s.rg.length/\v=.int .i64 z/\(0<=z/\z<=140737488360000)/\i=.int .i64 k/\BxS wr w.heap.size (.slice a s.rg.length ca) (.slice b s.rw.length cb)/\Below w.heap.size w wr) (fun _ i _=>s.rg.length-(intOf i).toNat)
  case atStart=>exact⟨0,0,Nat.zero_le _,rfl,⟨by decide,by decide⟩,rfl,X1,hbW⟩
  case round =>
   clear X1 hbW;obtain⟨k,z,hk,rfl,hz,rfl,X1,hbW⟩:=hrel;obtain⟨p0,p1,_⟩:=X1.cells
   by_cases hkn:k<s.rg.length
   . have g1:decide ((k:Int)<(s.rg.length:Int))=true:=decide_eq_true (by omega)
     by_cases hz2:z<=2000
     . have g2:decide (z<=2000)=true:=decide_eq_true hz2
       obtain⟨b1,o1,a1,c1,ea,_,d0,hp⟩:=HG.out.at hbW k hkn
       have hpl:(s.rg.getD k []).length<=140737488351232:=by rw[List.getD_eq_getElem?_getD,List.getElem?_eq_getElem hkn,Option.getD_some];exact h8g _ (List.getElem_mem hkn)
       generalize (s.rg.getD k []).length=n1 at *
       subst ea;clear hp hkn
       have i1:(0:Int)<=(k:Int):=by omega
       have i2:(k:Int)<(s.rg.length:Int):=of_decide_eq_true g1
       go_wp2_with fail
       go_roundw
       case rel=>exact⟨k+1,z+(1+(n1:Int)),by omega,by go_num,⟨by omega,by omega⟩,by go_num,X1,hbW⟩
       case measure=>simp[intOf];omega
     . have g2:decide (z<=2000)=false:=decide_eq_false hz2
       have i2:(k:Int)<(s.rg.length:Int):=by omega
       clear hkn
       go_wp2_with fail
       go_meet
       exact⟨z,rfl,hz,X1,hbW⟩
   . have g1:decide ((k:Int)<(s.rg.length:Int))=false:=decide_eq_false (by omega)
     have i2:¬(k:Int)<(s.rg.length:Int):=by omega
     clear hkn
     go_wp2_with fail
     go_meet
     exact⟨z,rfl,hz,X1,hbW⟩
 case rest =>
  clear X1 hbW;obtain⟨z0,rfl,hzz0,X1,hbW⟩:=hcut
  go_upto_block 2 with fail
  go_cut [3]from 4 to 46 (fun v wr=>∃z:Int,v=.int .i64 z/\(z<=2000->s.rw.length<=2000)/\BxS wr w.heap.size (.slice a s.rg.length ca) (.slice b s.rw.length cb)/\Below w.heap.size w wr)
  case first =>
   go_wp2_with fail
   go_loopw [3,5] (fun v i wr=>∃(k:Nat) (z:Int),k<=s.rw.length/\v=.int .i64 z/\((k:Int)<=z/\z<=140737488370000)/\i=.int .i64 k/\BxS wr w.heap.size (.slice a s.rg.length ca) (.slice b s.rw.length cb)/\Below w.heap.size w wr) (fun _ i _=>s.rw.length-(intOf i).toNat)
   case atStart=>exact⟨0,z0,Nat.zero_le _,rfl,⟨by omega,by omega⟩,rfl,X1,hbW⟩
   case round =>
    clear X1 hbW;obtain⟨k,z,hk,rfl,hz,rfl,X1,hbW⟩:=hrel;obtain⟨p0,p1,_⟩:=X1.cells
    by_cases hkn:k<s.rw.length
    . have g1:decide ((k:Int)<(s.rw.length:Int))=true:=decide_eq_true (by omega)
      by_cases hz2:z<=2000
      . have g2:decide (z<=2000)=true:=decide_eq_true hz2
        obtain⟨b1,o1,a1,c1,ea,_,d0,hp⟩:=HM.out.at hbW k hkn
        have hpl:(s.rw.getD k []).length<=140737488351232:=by rw[List.getD_eq_getElem?_getD,List.getElem?_eq_getElem hkn,Option.getD_some];exact h8r _ (List.getElem_mem hkn)
        generalize (s.rw.getD k []).length=n1 at *
        subst ea;clear hp hkn
        have i1:(0:Int)<=(k:Int):=by omega
        have i2:(k:Int)<(s.rw.length:Int):=of_decide_eq_true g1
        go_wp2_with fail
        go_roundw
        case rel=>exact⟨k+1,z+(1+(n1:Int)),by omega,by go_num,⟨by omega,by omega⟩,by go_num,X1,hbW⟩
        case measure=>simp[intOf];omega
      . have g2:decide (z<=2000)=false:=decide_eq_false hz2
        have i2:(k:Int)<(s.rw.length:Int):=by omega
        clear hkn
        go_wp2_with fail
        go_meet
        exact⟨z,rfl,(fun h=>by omega),X1,hbW⟩
    . have g1:decide ((k:Int)<(s.rw.length:Int))=false:=decide_eq_false (by omega)
      have i2:¬(k:Int)<(s.rw.length:Int):=by omega
      clear hkn
      go_wp2_with fail
      go_meet
      exact⟨z,rfl,(fun h=>by omega),X1,hbW⟩
  case rest =>
   clear X1 hbW hzz0;obtain⟨z1,rfl,hzz1,X1,hbW⟩:=hcut
   go_wp2_with fail
   go_loopw [6] (fun i wr=>∃k:Nat,k<=s.rg.length/\i=.int .i64 k/\(∀j,j<k->(s.rg.getD j []).length<=8)/\BxS wr w.heap.size (.slice a s.rg.length ca) (.slice b s.rw.length cb)/\Below w.heap.size w wr) (fun i _=>s.rg.length-(intOf i).toNat)
   case atStart=>exact⟨0,Nat.zero_le _,rfl,(fun j hj=>by omega),X1,hbW⟩
   case round =>
    clear X1 hbW;obtain⟨k,hk,rfl,hok,X1,hbW⟩:=hrel
    have HOK:Hid (∀j,j<k->(s.rg.getD j []).length<=8):=hok
    clear hok;obtain⟨p0,p1,_⟩:=X1.cells
    by_cases hkn:k<s.rg.length
    . obtain⟨b1,o1,a1,c1,ea,_,d0,hp⟩:=HG.out.at hbW k hkn
      have hpl:=hp.lenB
      obtain⟨n1,hn1⟩:∃n1,(s.rg.getD k []).length=n1:=⟨_,rfl⟩
      have HN:Hid ((s.rg.getD k []).length=n1):=hn1
      rw[hn1]at d0 hpl;subst ea;clear hp hn1
      by_cases h8:8<n1
      . have g3:(8:Int)<(n1:Int):=by omega
        go_wp2
        go_ret
        exact⟨false,rfl,(fun h=>by cases h),hbW⟩
      . have g3:¬(8:Int)<(n1:Int):=by omega
        have za9:Hid (∀j,j<k+1->(s.rg.getD j []).length<=8):=fun j hj=>by
         rcases Nat.lt_or_ge j k with h1|h1
         . exact HOK.out j h1
         . rw[show j=k by omega,HN.out];omega
        go_wp2
        go_roundw
        case rel=>exact⟨k+1,by omega,by go_num,za9.out,X1,hbW⟩
        case measure=>simp[intOf];omega
    . obtain rfl:k=s.rg.length:=by omega
      have HA:Hid (∀l∈s.rg,l.length<=8):=fun l hl=>by
       obtain⟨i,hi,e⟩:=List.getElem_of_mem hl
       have:=HOK.out i hi
       rw[getL hi,e]at this
       exact this
      by_cases hz2:z1<=2000
      . have g2:decide (z1<=2000)=true:=decide_eq_true hz2
        go_wp2
        go_ret
        exact⟨_,rfl,(fun h=>⟨by have:=of_decide_eq_true h;omega,HA.out,hzz1 hz2⟩),hbW⟩
      . have g2:decide (z1<=2000)=false:=decide_eq_false hz2
        go_wp2
        exact bodyPost_ret (v:=.bool false) (by simp[results,Tryz.results24,go_sem]) rfl (by first | exact⟨false,rfl,(fun h=>by cases h),hbW⟩ | exact .inl ⟨rfl,hbW⟩)
theorem zql{c:Int}:∀ {l:List Rn},NoR l c->I64 (glR c l):=by
 intro l
 induction l with
 | nil=>intro _;exact⟨(by decide:(-9223372036854775808:Int)<=0),(by decide:(0:Int)<=9223372036854775807)⟩
 | cons x l ih =>
  intro h
  rw[glR]
  by_cases hx:inR x c=true
  . rw[if_pos hx];exact(h 0 (by simp) hx).2
  . rw[if_neg hx];exact ih (fun k hk=>h (k+1) (by simpa using hk))
theorem Io.mono{b b2:Nat}{w:World}{v:Value}{zs:List Int}(h:Io b w v zs)(hb:b2<=b):Io b2 w v zs:=⟨h.1,zdt h.2 hb⟩
theorem Io.step{b g:Nat}{w:World}{v:Value}{zs:List Int}(h:Io b w v zs)(hb:g<b)(s:ByteArray)(q:Nat):Io b (zc6 w g s q) v zs:=by
 obtain⟨h1,h3⟩:=h
 refine⟨h1,h3.1,?_⟩
 rcases h3.2 with h0|⟨g',cap,cur,k1,k2,k3,k4⟩
 . exact .inl h0
 . exact .inr ⟨g',cap,cur,k1,k2,(zek w g s q g' (by omega)).trans k3,k4⟩
theorem zye{l:List Rn}{s:ByteArray}{zs:List Int}{pos:Nat}(h:mpC l (sb s)=zs++mpC l ((sb s).drop pos))(hp:¬pos<s.size):mpC l (sb s)=zs:=by
 have:(sb s).drop pos=[]:=List.drop_eq_nil_of_le (by rw[zb6];omega)
 rw[this,zv1,List.append_nil]at h
 exact h
theorem zyd{l:List Rn}{s:ByteArray}{zs:List Int}{pos:Nat}(h:mpC l (sb s)=zs++mpC l ((sb s).drop pos)):zs.length<=s.size:=by
 have h1:=zv2 l (sb s)
 rw[h,List.length_append,zb6]at h1
 omega
theorem zvz{l:List Rn}{s:ByteArray}{zs:List Int}{pos:Nat}(h:mpC l (sb s)=zs++mpC l ((sb s).drop pos))(hp:pos<s.size):mpC l (sb s)=(zs++[glR ((dcN ((sb s).drop pos)).1:Int) l])++mpC l ((sb s).drop (pos+(dcN ((sb s).drop pos)).2)):=by
 have hne:(sb s).drop pos≠[]:=fun e=>by
  have:=congrArg List.length e
  rw[List.length_drop,zb6]at this
  simp at this
  omega
 rw[h,zsu hne,List.drop_drop,List.append_assoc]
 rfl
theorem ztm(S:Nat->Prop)(a:Option Addr)(ca:Nat)(l:List Rn)(s:ByteArray)(w:World)(hl:Gr RnE S w a ca l)(hs:s.size<=100000)(hno:∀c:Int,0<=c->c<=1114111->NoR l c) :
 Calls Tryz.prog 26 #[.slice a l.length ca,.string s] w fun e w'=>∃v,e=.returned v/\Io w.heap.size w' v (mpC l (sb s))/\Below w.heap.size w w':=by
 have kl:=hl.lenB
 have HL:Hid (Gr RnE S w a ca l):=hl
 have HNO:Hid (∀c:Int,0<=c->c<=1114111->NoR l c):=hno
 have zyy:It (w.iter s 0) w.heap.size s 0:=It.new w s
 have hB0:Below w.heap.size w (w.iter s 0):=bl1 _
 clear hl hno
 go_enter Tryz.func26,Tryz.ntmps26
 go_wp2
 go_loopw [5] (fun v wr=>∃(pos:Nat) (zs:List Int),It wr w.heap.size s pos/\Hid (mpC l (sb s)=zs++mpC l ((sb s).drop pos))/\Io (w.heap.size+1) wr v zs/\Below w.heap.size w wr) (fun _ wr=>s.size-wr.iterPos w.heap.size)
 case atStart=>exact⟨0,[],zyy,(rfl:mpC l (sb s)=[]++mpC l ((sb s).drop 0)),Io.nil _ _,hB0⟩
 case round =>
  clear zyy hB0;obtain⟨pos,zs,hit,HE,hIo,hB⟩:=hrel;obtain⟨a5,c5,rfl,hri⟩:=hIo.slice
  have hzl:=zyd HE.out
  by_cases hlt:pos<s.size
  . have hnx:∀ty,(Instr.next (.pointer (some ⟨w.heap.size,0,none⟩)) true ty).run Tryz.prog wr=_:=fun ty=>zfi ty hit hlt
    obtain⟨hK,hR⟩:=dcN_b ((sb s).drop pos)
    have HE2:Hid (_):=zvz HE.out hlt
    have zta:=hit.step (pos+(dcN ((sb s).drop pos)).2)
    have hB2:=zel s (pos+(dcN ((sb s).drop pos)).2) hB (Nat.le_refl _)
    have hIo2:=hIo.step (Nat.lt_succ_self _) s (pos+(dcN ((sb s).drop pos)).2)
    have hms:wr.iterPos w.heap.size=pos:=iterPos_of hit
    have HMS:Hid (wr.iterPos w.heap.size=pos):=hms
    obtain⟨K,hKK⟩:∃K,(dcN ((sb s).drop pos)).2=K:=⟨_,rfl⟩
    rw[hKK]at hnx hK HE2 zta hB2 hIo2
    obtain⟨z,hz⟩:∃z:Int,((dcN ((sb s).drop pos)).1:Int)=z:=⟨_,rfl⟩
    rw[hz]at hnx HE2
    have hz0:0<=z:=by omega
    have hz1:z<=1114111:=by omega
    obtain⟨U,hU⟩:∃U,zc6 wr w.heap.size s (pos+K)=U:=⟨_,rfl⟩
    rw[hU]at hnx zta hB2 hIo2
    have HI:Hid (I64 (glR z l)):=zql (HNO.out z hz0 hz1)
    have hgl:=znv S a ca l z U (HL.out.below hB2) ⟨by omega,by omega⟩ (HNO.out z hz0 hz1)
    obtain⟨y,hy⟩:∃y,glR z l=y:=⟨_,rfl⟩
    rw[hy]at HI hgl HE2
    have HIT:Hid (It U w.heap.size s (pos+K)):=zta
    have HLE:Hid (pos<s.size/\1<=K):=⟨hlt,hK⟩
    clear hz hU hKK hR hms hy hit hB hIo hri zta hK hlt HE
    go_wp2_with fail
    refine hgl.mono ?_
    rintro e u2 ⟨rfl,hb⟩
    have hT2:=hIo2.below hb
    have hB3:=hB2.trans (hb.mono hB2.size)
    have HIT2:Hid (It u2 w.heap.size s (pos+K)):=HIT.out.below hb
    clear hgl hb hIo2 hB2 HIT
    have hT5:=hT2.below (bl1 (.cells #[.int .i64 y] 3))
    have hN:=heap_alloc_new u2 (.cells #[.int .i64 y] 3)
    have n0:=cell_of_row _ u2.heap.size 0 _ _ (0,0) hN
    have HIT3:Hid (It (u2.alloc (.cells #[.int .i64 y] 3)) w.heap.size s (pos+K)):=HIT2.out.below (bl1 _)
    have hlt3:=HIT2.out.lt
    have hbs:w.heap.size+1<=(u2.alloc (.cells #[.int .i64 y] 3)).heap.size:=by simp;omega
    have hll:zs.length+1<=1000000:=by omega
    have hB5:Below w.heap.size w (u2.alloc (.cells #[.int .i64 y] 3)):=hB3.alloc hB3.size _
    clear hN
    go_wp2_with (at_builtin;refine zbc rfl _ _ rfl (w.heap.size+1) _ zs rfl hT5 u2.heap.size y rfl n0 HI.out hll hbs ?_)
    intro v' w9 hT9 hgrow
    have hB9:Below w.heap.size w w9:=hB5.grown hgrow hB5.size (fun k hk=>by have:=hT5.lo hk;omega)
    have hit9:It w9 w.heap.size s (pos+K):=HIT3.out.kept (hgrow.block w.heap.size (by simp;omega) (fun e=>by have:=hT5.lo e.symm;omega))
    clear hgrow hT5 n0 hbs hB5 hB3 hT2 HIT3 HIT2;go_wp2
    go_roundw
    case rel=>exact⟨pos+K,zs++[y],hit9,HE2,hT9,hB9⟩
    case measure =>
     have h1:=HLE.out
     have h2:=HMS.out
     rw[iterPos_of hit9,h2]
     omega
  . have hnx:∀ty,(Instr.next (.pointer (some ⟨w.heap.size,0,none⟩)) true ty).run Tryz.prog wr=_:=fun ty=>zdp ty hit hlt
    have HF:Hid (mpC l (sb s)=zs):=zye HE.out hlt
    clear HE hit;go_wp2
    go_ret
    exact⟨_,rfl,by rw[HF.out];exact hIo.mono (by omega),hB⟩
theorem zhh(l:List Rn)(xs:List Nat):(mpC l xs).length=(rns xs).length:=by unfold mpC;rw[List.length_map]
theorem zsb{s:ByteArray}{k pos:Nat}(h:(rns (sb s)).length=k+(rns ((sb s).drop pos)).length)(hp:pos<s.size):(rns (sb s)).length=(k+1)+(rns ((sb s).drop (pos+(dcN ((sb s).drop pos)).2))).length:=by
 have hne:(sb s).drop pos≠[]:=fun e=>by
  have:=congrArg List.length e
  rw[List.length_drop,zb6]at this
  simp at this
  omega
 rw[h,zg6 hne,List.drop_drop,List.length_cons]
 omega
theorem zvl{s:ByteArray}{k pos:Nat}(h:(rns (sb s)).length=k+(rns ((sb s).drop pos)).length)(hp:¬pos<s.size):(rns (sb s)).length=k:=by
 have:(sb s).drop pos=[]:=List.drop_eq_nil_of_le (by rw[zb6];omega)
 rw[this,zjq]at h
 exact h
theorem zi7(s:ByteArray)(w:World)(hs:s.size<=100000) :
 Calls Tryz.prog 25 #[.string s] w fun e w'=>e=.returned (.bool (decide (100<(rns (sb s)).length)))/\Below w.heap.size w w':=by
 have zyy:It (w.iter s 0) w.heap.size s 0:=It.new w s
 have hB0:Below w.heap.size w (w.iter s 0):=bl1 _
 go_enter Tryz.func25,Tryz.ntmps25
 go_wp2
 go_loopw [3] (fun v wr=>∃(pos k:Nat),v=.int .i64 k/\k<=100/\It wr w.heap.size s pos/\Hid ((rns (sb s)).length=k+(rns ((sb s).drop pos)).length)/\Below w.heap.size w wr) (fun _ wr=>s.size-wr.iterPos w.heap.size)
 case atStart=>exact⟨0,0,rfl,by omega,zyy,(by show _=_;simp),hB0⟩
 case round =>
  clear zyy hB0;obtain⟨pos,k,rfl,hk,hit,HE,hB⟩:=hrel
  by_cases hlt:pos<s.size
  . have hnx:∀ty,(Instr.next (.pointer (some ⟨w.heap.size,0,none⟩)) true ty).run Tryz.prog wr=_:=fun ty=>zfi ty hit hlt
    obtain⟨hK,hR⟩:=dcN_b ((sb s).drop pos)
    have HE2:Hid (_):=zsb HE.out hlt
    have zta:=hit.step (pos+(dcN ((sb s).drop pos)).2)
    have hB2:=zel s (pos+(dcN ((sb s).drop pos)).2) hB (Nat.le_refl _)
    have hms:wr.iterPos w.heap.size=pos:=iterPos_of hit
    have HMS:Hid (wr.iterPos w.heap.size=pos):=hms
    obtain⟨K,hKK⟩:∃K,(dcN ((sb s).drop pos)).2=K:=⟨_,rfl⟩
    rw[hKK]at hnx hK HE2 zta hB2
    obtain⟨z,hz⟩:∃z:Int,((dcN ((sb s).drop pos)).1:Int)=z:=⟨_,rfl⟩
    rw[hz]at hnx
    obtain⟨U,hU⟩:∃U,zc6 wr w.heap.size s (pos+K)=U:=⟨_,rfl⟩
    rw[hU]at hnx zta hB2
    have HLE:Hid (pos<s.size/\1<=K):=⟨hlt,hK⟩
    clear hz hU hKK hR hms hit hB hK hlt HE
    by_cases zkd:k=100
    . have HF:Hid (decide (100<(rns (sb s)).length)=true):=decide_eq_true (by have:=HE2.out;omega)
      subst zkd;clear HE2;go_wp2
      go_ret
      exact⟨by rw[HF.out];rfl,hB2⟩
    . have d1:¬(100:Int)<(k:Int)+1:=by omega
      go_wp2
      go_roundw
      case rel=>exact⟨pos+K,k+1,by go_num,by omega,zta,HE2,hB2⟩
      case measure =>
       have h1:=HLE.out
       have h2:=HMS.out
       rw[iterPos_of zta,h2]
       omega
  . have hnx:∀ty,(Instr.next (.pointer (some ⟨w.heap.size,0,none⟩)) true ty).run Tryz.prog wr=_:=fun ty=>zdp ty hit hlt
    have HF:Hid (decide (100<(rns (sb s)).length)=false):=decide_eq_false (by have:=zvl HE.out hlt;omega)
    clear HE hit;go_wp2
    go_ret
    exact⟨by rw[HF.out];rfl,hB⟩
structure RowP(P:List Pd)(base:Nat)(w':World)(e:Ending):Prop where
 out:∃v,e=.returned v/\Ln base w' v P
structure RowG(L:List Int)(base:Nat)(w':World)(e:Ending):Prop where
 out:∃v,e=.returned v/\Gi base w' v L
theorem Gr.anyPJ{S S':Nat->Prop}{w:World}{a:Option Addr}{cap:Nat}{l:List Pd}(h:Gr PdE S w a cap l):Gr PdE S' w a cap l:=by
 refine⟨h.1,h.2.1,h.2.2.1,fun i hi=>?_⟩
 obtain⟨b,off,vs,e,h0,hr,hc⟩:=h.2.2.2 i hi
 exact⟨b,off,vs,e,h0,zbq.2 (zbq.1 hr),hc⟩
theorem zs8:(Tryz.prog.info? 3).map (fun i=>(i.zero,i.size,i.bytes))=some (some (.int .i64 0),1,8):=by kernel_rfl
theorem zkp(S:Nat->Prop)(a:Option Addr)(ca:Nat)(P:List Pd)(w:World)(h:Gr PdE S w a ca P)(hl:P.length<=1000) :
 Calls Tryz.prog 63 #[.slice a P.length ca] w fun e w'=>RowP P w.heap.size w' e/\Below w.heap.size w w':=by
 cases a with
 | none =>
  have h0:P=[]:=by
   have h1:=h.1
   rw[h.2.2.1 rfl]at h1
   exact List.length_eq_zero_iff.1 (Nat.le_zero.1 h1)
  subst h0;clear h
  have q22:∀(w:World) (a:Option Addr) (n c n' c':Nat),(binOp .eql 46 (.slice a n c) (.slice none n' c')).run Tryz.prog w=.ok (.bool a.isNone) w:=fun w a n c n' c'=>Lib.run_eql_slice_nil w _ _ a n c n' c' Tryz.underlying46
  go_enter Tryz.func63,Tryz.ntmps63
  go_wp2
  go_ret
  exact⟨⟨_,rfl,Gw.nil _ _ _ _ _⟩,Below.refl _ _⟩
 | some ad =>
  have q22:∀(w:World) (a:Option Addr) (n c n' c':Nat),(binOp .eql 46 (.slice a n c) (.slice none n' c')).run Tryz.prog w=.ok (.bool a.isNone) w:=fun w a n c n' c'=>Lib.run_eql_slice_nil w _ _ a n c n' c' Tryz.underlying46
  have hN0:Ln w.heap.size (w.alloc (.cells #[] 66)) (.slice (some ⟨w.heap.size,0,none⟩) 0 0) []:=Gw.made (World.ownsRow_made w #[] 0 (Nat.le_refl _) (Nat.zero_le _) rfl)
  have HL:Hid (Gr PdE (fun k=>False/\(Value.slice (some ⟨w.heap.size,0,none⟩) 0 0).ownBlock≠some k) (w.alloc (.cells #[] 66)) (some ad) ca P):=(h.below (bl1 _)).anyPJ
  have kl:=h.lenB
  have hll:([]:List Pd).length+P.length<=1000000:=by simp;omega
  have hW:=(bl1 (w:=w) (.cells #[] 66)).size
  clear h
  go_enter Tryz.func63,Tryz.ntmps63
  go_wp2_with (at_builtin;refine zab 46 66 Tryz.underlying46 zeg rfl (by decide) (by decide) rfl _ _ rfl w.heap.size (fun _=>False) _ [] rfl hN0 _ _ _ P rfl rfl HL.out hll hW ?_)
  intro v1 w1 hT1 hgrow _
  have hB1:Below w.heap.size w w1:=(bl1 _).grown hgrow hW (fun k hk=>by simp[Value.ownBlock]at hk;omega)
  have HV:Hid (RowP P w.heap.size w1 (.returned v1)):=⟨_,rfl,hT1⟩
  clear hgrow hT1 hll hW hN0;go_wp2
  go_ret
  exact⟨HV.out,hB1⟩
theorem Gi.at21{base:Nat}{w:World}{g n c:Nat}{L:List Int}(h:Gi base w (.slice (some ⟨g,0,none⟩) n c) L){k:Nat}(hk:k<L.length) :
 (∀x,I64 x->Gi base (w.setCell ⟨g,k,none⟩ (.int .i64 x)) (.slice (some ⟨g,0,none⟩) n c) (L.set k x))/\(∀j,w.frozen? ⟨g,j,none⟩=false)/\w.cell? ⟨g,k,none⟩=some (.int .i64 (L.getD k 0)):=by
 have hne:L≠[]:=fun e=>by rw[e]at hk;simp at hk
 obtain⟨g',cap,ev,_,_,_,hfz,zeq,zf2⟩:=Gw.own h hne
 have eg:g=g':=by injection ev with e1 _ _;cases e1;rfl
 subst eg
 obtain⟨vs,hr,hc⟩:=zeq k hk
 obtain⟨rfl,hw⟩:=El.int_rep.1 hr
 have e1:k*El.int.sz=k:=Nat.mul_one k
 refine⟨fun x hx=>?_,hfz,?_⟩
 . have:=zf2 k 0 (.int .i64 x) x hk (by decide) (fun S' us hu=>by obtain⟨rfl,h1⟩:=El.int_rep.1 hu;exact El.int_rep.2 ⟨rfl,hx⟩)
   rw[e1]at this
   exact this
 . have:=hc 0 (by decide)
   rw[e1]at this
   exact this
theorem zi2(S:Nat->Prop)(a:Option Addr)(ca:Nat)(P:List Pd)(w:World)(h:Gr PdE S w a ca P)(hl:P.length<=1000) :
 Calls Tryz.prog 64 #[.slice a P.length ca] w fun e w'=>RowG (naL P) w.heap.size w' e/\Below w.heap.size w w':=by
 have HH:Hid (Gr PdE S w a ca P):=h
 obtain⟨n,hnn⟩:∃n,P.length=n:=⟨_,rfl⟩
 have HN:Hid (P.length=n):=hnn
 rw[hnn]at hl ⊢;clear h
 obtain⟨i0,hi0,hz0,hz1,hz2⟩:=info_parts zs8
 obtain⟨u2,hmk,hown,hgrow⟩:=run_makeSlice_full w w.heap.size 37 3 i0 _ 1 Tryz.underlying37 hi0 hz0 hz1 .i64 .i64 n (by omega) (by rw[hz2];omega) (by unfold maxLen;omega) (Nat.le_refl _)
 have hG0:Gi w.heap.size u2 (.slice (some ⟨w.heap.size,0,none⟩) n n) (List.replicate n 0):=Gw.zeros (E:=El.int) hown rfl (by decide) (El.int_rep.2 ⟨rfl,by decide,by decide⟩)
 have hB2:Below w.heap.size w u2:=(Below.refl _ _).grown hgrow (Nat.le_refl _) (fun k hk=>by cases hk)
 obtain⟨g,hg⟩:∃g,w.heap.size=g:=⟨_,rfl⟩
 have HG:Hid (w.heap.size=g):=hg
 rw[hg]at hmk hG0
 have HG0:Hid (Gi g u2 (.slice (some ⟨g,0,none⟩) n n) (List.replicate n 0)):=hG0
 clear hi0 hz0 hz1 hz2 hown hgrow hnn hG0 hg
 go_enter Tryz.func64,Tryz.ntmps64
 go_wp2;clear hmk
 go_loopw [11] (fun i wr=>∃(k:Nat) (L:List Int),k<=n/\i=.int .i64 k/\Hid (L.length=n)/\Hid (∀j,j<k->L.getD j 0=(P.getD j Pd.none).g)/\Hid (Gi g wr (.slice (some ⟨g,0,none⟩) n n) L)/\Below w.heap.size w wr) (fun i _=>n-(intOf i).toNat)
 case atStart=>exact⟨0,_,Nat.zero_le _,rfl,List.length_replicate,(fun j hj=>by omega),HG0.out,hB2⟩
 case round =>
  clear HG0 hB2;obtain⟨k,L,hk,rfl,HLN,HLT,HR,hB⟩:=hrel
  by_cases hkn:k<n
  . obtain⟨b,off,ea,hb,hw4,d0,d1,d2,d3⟩:=HH.out.pd hB k (by rw[HN.out];exact hkn)
    obtain⟨p,hp⟩:∃p,P.getD k Pd.none=p:=⟨_,rfl⟩
    have HPP:Hid (P.getD k Pd.none=p):=hp
    rw[hp]at hw4 d0 d1 d2 d3;clear hp;obtain⟨pg,px,py,pa⟩:=p;dsimp only at d0 d1 d2 d3
    have hI:I64 pg:=hw4.1
    subst ea
    have i1:(0:Int)<=(k:Int):=by omega
    have i2:(k:Int)<(n:Int):=by omega
    obtain⟨U,hU,XG,hbU⟩:∃U,U=wr.alloc (.cells #[.int .i64 pg,.int .i64 px,.int .i64 py,.int .i64 pa] 66)/\Bk 66 U wr.heap.size [.int .i64 pg,.int .i64 px,.int .i64 py,.int .i64 pa]/\Below wr.heap.size wr U:=⟨_,rfl,Bk.new _ _ _,bl1 _⟩
    have hBU:=hB.trans (hbU.mono hB.size)
    obtain⟨zf2,hfz,c0⟩:=Gi.at21 (HR.out.below hbU) (k:=k) (by rw[HLN.out];exact hkn)
    have hfzk:=hfz k
    obtain⟨y0,y1,y2,y3,-⟩:=XG.four
    have HR2:Hid (Gi g (U.setCell ⟨g,k,none⟩ (.int .i64 pg)) (.slice (some ⟨g,0,none⟩) n n) (L.set k pg)):=zf2 pg hI
    have HB2:Hid (Below w.heap.size w (U.setCell ⟨g,k,none⟩ (.int .i64 pg))):=hBU.setCell (p:=⟨g,k,none⟩) (by show w.heap.size<=g;have:=HG.out;omega) _
    have HLN2:Hid ((L.set k pg).length=n):=by show _=_;rw[List.length_set];exact HLN.out
    have HLT2:Hid (∀j,j<k+1->(L.set k pg).getD j 0=(P.getD j Pd.none).g):=fun j hj=>by
     have:=HLN.out
     by_cases hjk:j=k
     . subst hjk
       rw[HPP.out]
       simp[List.getD,show j<L.length by omega]
     . rw[<-HLT.out j (by omega)]
       simp[List.getD,List.getElem?_set_ne (fun e=>hjk e.symm)]
    clear zf2 hfz HR HLN HLT HPP hw4 hI
    go_upto_region 5 with fail
    rw[<-hU];clear hU d0 d1 d2 d3 XG hbU;go_wp2
    go_roundw
    case rel=>exact⟨k+1,_,by omega,by go_num,HLN2,HLT2,HR2,HB2.out⟩
    case measure=>simp[intOf];omega
  . have HE:Hid (L=naL P):=by
      show _=_
      have h1:=HLN.out
      have h2:=HN.out
      apply List.ext_getElem (by rw[zce];omega)
      intro j h3 h4
      have:=HLT.out j (by omega)
      rw[<-zud]at this
      simpa [List.getD,h3,h4] using this
    have HV:Hid (RowG (naL P) w.heap.size wr (.returned (.slice (some ⟨g,0,none⟩) n n))):=⟨_,rfl,by rw[<-HE.out,HG.out];exact HR.out⟩
    have g4:¬(k:Int)<(n:Int):=by omega
    clear HLT HR HLN HE;go_wp2
    go_ret
    exact⟨HV.out,hB⟩
theorem PdW.zero:PdW Pd.none:=⟨⟨by decide,by decide⟩,⟨by decide,by decide⟩,⟨by decide,by decide⟩,⟨by decide,by decide⟩⟩
theorem ztn(a:Option Addr)(ca:Nat)(line:List Int)(b:Option Addr)(cb:Nat)(adv:List Int)(w:World)(h:Ri w a ca line)(h2:Ri w b cb adv)(hl:line.length<=1000) :
 Calls Tryz.prog 35 #[.slice a line.length ca,.slice b adv.length cb] w fun e w'=>RowP (laL line adv) w.heap.size w' e/\Below w.heap.size w w':=by
 have ka:=h2.lenB
 have HH:Hid (Ri w a ca line):=h
 have HA:Hid (Ri w b cb adv):=h2
 obtain⟨n,hnn⟩:∃n,line.length=n:=⟨_,rfl⟩
 have HN:Hid (line.length=n):=hnn
 rw[hnn]at hl ⊢;clear h h2
 obtain⟨i0,hi0,hz0,hz1,hz2⟩:=info_parts zeg
 obtain⟨u2,hmk,hown,hgrow⟩:=run_makeSlice_full w w.heap.size 46 66 i0 _ 4 Tryz.underlying46 hi0 hz0 hz1 .i64 .i64 n (by omega) (by rw[hz2];omega) (by unfold maxLen;omega) (Nat.le_refl _)
 have hG0:Ln w.heap.size u2 (.slice (some ⟨w.heap.size,0,none⟩) n n) (List.replicate n Pd.none):=Gw.zeros (E:=PdE) hown rfl (by decide) (zbq.2 ⟨rfl,PdW.zero⟩)
 have hB2:Below w.heap.size w u2:=(Below.refl _ _).grown hgrow (Nat.le_refl _) (fun k hk=>by cases hk)
 obtain⟨g,hg⟩:∃g,w.heap.size=g:=⟨_,rfl⟩
 have HG:Hid (w.heap.size=g):=hg
 rw[hg]at hmk hG0
 have HG0:Hid (Ln g u2 (.slice (some ⟨g,0,none⟩) n n) (List.replicate n Pd.none)):=hG0
 clear hi0 hz0 hz1 hz2 hown hgrow hnn hG0 hg
 go_enter Tryz.func35,Tryz.ntmps35
 go_wp2;clear hmk
 go_loopw [13] (fun i wr=>∃(k:Nat) (L:List Pd),k<=n/\i=.int .i64 k/\Hid (L.length=n)/\Hid (∀j,j<k->L.getD j Pd.none=⟨line.getD j 0,0,0,adv.getD j 0⟩)/\Hid (∀j,k<=j->j<n->L.getD j Pd.none=Pd.none)/\Hid (Ln g wr (.slice (some ⟨g,0,none⟩) n n) L)/\Below w.heap.size w wr) (fun i _=>n-(intOf i).toNat)
 case atStart=>exact⟨0,_,Nat.zero_le _,rfl,List.length_replicate,(fun j hj=>by omega),(fun j _ hj=>by simp[List.getD,hj]),HG0.out,hB2⟩
 case round =>
  clear HG0 hB2;obtain⟨k,L,hk,rfl,HLN,HLT,HLZ,HR,hB⟩:=hrel
  by_cases hkn:k<n
  . obtain⟨b1,off,ea,hb,d0⟩:=HH.out.at hB k (by rw[HN.out];exact hkn)
    have hI:I64 (line.getD k 0):=HH.out.i64 (by rw[HN.out];exact hkn)
    obtain⟨z,hz⟩:∃z,line.getD k 0=z:=⟨_,rfl⟩
    have HZZ:Hid (line.getD k 0=z):=hz
    rw[hz]at hI d0;clear hz;subst ea
    have i1:(0:Int)<=(k:Int):=by omega
    have i2:(k:Int)<(n:Int):=by omega
    have hkL:k<L.length:=by rw[HLN.out];exact hkn
    obtain⟨zf2,-,-,-,hfz,-,c0,-,-,-⟩:=Ln.at HR.out hkL
    have zng:=HLZ.out k (Nat.le_refl _) hkn
    rw[zng]at zf2 c0
    have hfzk:=hfz (k*4)
    obtain⟨V,hV⟩:∃V,V=wr.setCell ⟨g,k*4,none⟩ (.int .i64 z):=⟨_,rfl⟩
    have hR1:Ln g V (.slice (some ⟨g,0,none⟩) n n) (L.set k ⟨z,0,0,0⟩):=by rw[hV];exact zf2 z hI
    have hB1:Below w.heap.size w V:=by rw[hV];exact hB.setCell (p:=⟨g,k*4,none⟩) (by show w.heap.size<=g;have:=HG.out;omega) _
    have hget:(L.set k (⟨z,0,0,0⟩:Pd)).getD k Pd.none=⟨z,0,0,0⟩:=zdz hkL _
    obtain⟨-,-,-,znh,hfz3,-,-,-,-,c3⟩:=Ln.at hR1 (k:=k) (by rw[List.length_set];exact hkL)
    rw[hget]at znh c3
    dsimp only[Pd.none]at c0
    dsimp only at c3 znh
    simp only[List.set_set]at znh
    have hfz3k:=hfz3 (k*4+3)
    have HLE:Hid (∀q:Pd,(L.set k q).length=n):=fun q=>by rw[List.length_set];exact HLN.out
    have HTT:Hid (∀y,adv.getD k 0=y->∀j,j<k+1->(L.set k ⟨z,0,0,y⟩).getD j Pd.none=⟨line.getD j 0,0,0,adv.getD j 0⟩):=fun y hy j hj=>by
     by_cases hjk:j=k
     . subst hjk
       rw[HZZ.out,hy]
       exact zdz hkL _
     . rw[<-HLT.out j (by omega)]
       simp[List.getD,List.getElem?_set_ne (fun e=>hjk e.symm)]
    have HTZ:Hid (∀q:Pd,∀j,k+1<=j->j<n->(L.set k q).getD j Pd.none=Pd.none):=fun q j h1 h2=>by
     rw[ztc (show k≠j by omega)]
     exact HLZ.out j (by omega) h2
    have HR1:Hid (Ln g V (.slice (some ⟨g,0,none⟩) n n) (L.set k ⟨z,0,0,0⟩)):=hR1
    clear zf2 hfz HR HLN HLT HLZ HZZ hI zng hget hfz3 hR1
    by_cases hka:k<adv.length
    . obtain⟨b2,off2,ea2,hb2,e0⟩:=HA.out.at hB1 k hka
      have hIa:I64 (adv.getD k 0):=HA.out.i64 hka
      have zxp:=HTT.out _ rfl
      obtain⟨y,hy⟩:∃y,adv.getD k 0=y:=⟨_,rfl⟩
      rw[hy]at hIa e0 zxp
      have HTT3:Hid (∀j,j<k+1->(L.set k ⟨z,0,0,y⟩).getD j Pd.none=⟨line.getD j 0,0,0,adv.getD j 0⟩):=zxp
      have HR2:Hid (Ln g (V.setCell ⟨g,k*4+3,none⟩ (.int .i64 y)) (.slice (some ⟨g,0,none⟩) n n) (L.set k ⟨z,0,0,y⟩)):=znh y hIa
      have HB2:Hid (Below w.heap.size w (V.setCell ⟨g,k*4+3,none⟩ (.int .i64 y))):=hB1.setCell (p:=⟨g,k*4+3,none⟩) (by show w.heap.size<=g;have:=HG.out;omega) _
      have i3:(k:Int)<(adv.length:Int):=by omega
      have zxh:=HLE.out ⟨z,0,0,y⟩
      have HLE3:Hid ((L.set k (⟨z,0,0,y⟩:Pd)).length=n):=zxh
      have zzu:=HTZ.out ⟨z,0,0,y⟩
      have HTZ3:Hid (∀j,k+1<=j->j<n->(L.set k (⟨z,0,0,y⟩:Pd)).getD j Pd.none=Pd.none):=zzu
      subst ea2;clear znh hy hIa HTT zxp HLE zxh HTZ zzu HR1 hkL
      go_upto_region 6 with fail
      rw[<-hV];clear hV c0 d0 hfzk;go_wp2
      go_roundw
      case rel=>exact⟨k+1,_,by omega,by go_num,HLE3,HTT3,HTZ3,HR2,HB2.out⟩
      case measure=>simp[intOf];omega
    . have i3:¬(k:Int)<(adv.length:Int):=by omega
      have zxp:=HTT.out 0 (by rw[List.getD_eq_getElem?_getD,List.getElem?_eq_none (by omega)];rfl)
      have HTT3:Hid (∀j,j<k+1->(L.set k ⟨z,0,0,0⟩).getD j Pd.none=⟨line.getD j 0,0,0,adv.getD j 0⟩):=zxp
      have zxh:=HLE.out ⟨z,0,0,0⟩
      have HLE3:Hid ((L.set k (⟨z,0,0,0⟩:Pd)).length=n):=zxh
      have zzu:=HTZ.out ⟨z,0,0,0⟩
      have HTZ3:Hid (∀j,k+1<=j->j<n->(L.set k (⟨z,0,0,0⟩:Pd)).getD j Pd.none=Pd.none):=zzu
      have HB2:Hid (Below w.heap.size w V):=hB1
      clear znh HTT zxp HLE zxh HTZ zzu hkL hB1 c3 hfz3k hka
      go_upto_region 6 with fail
      rw[<-hV];clear hV c0 d0 hfzk;go_wp2
      go_roundw
      case rel=>exact⟨k+1,_,by omega,by go_num,HLE3,HTT3,HTZ3,HR1,HB2.out⟩
      case measure=>simp[intOf];omega
  . have HE:Hid (L=laL line adv):=by
      show _=_
      have h1:=HLN.out
      have h2:=HN.out
      apply List.ext_getElem (by rw[zdd];omega)
      intro j h3 h4
      have:=HLT.out j (by omega)
      rw[<-zyk (by omega)]at this
      simpa [List.getD,h3,h4] using this
    have HV:Hid (RowP (laL line adv) w.heap.size wr (.returned (.slice (some ⟨g,0,none⟩) n n))):=⟨_,rfl,by rw[<-HE.out,HG.out];exact HR.out⟩
    have g4:¬(k:Int)<(n:Int):=by omega
    clear HLT HLZ HR HLN HE;go_wp2
    go_ret
    exact⟨HV.out,hB⟩
theorem zqc:(Tryz.prog.info? 4).map (fun i=>(i.zero,i.size,i.bytes))=some (some (.bool false),1,1):=by kernel_rfl
theorem Gw.atB{base:Nat}{w:World}{g n c:Nat}{L:List Bool}(h:Gw El.bool 4 base (fun _=>False) w (.slice (some ⟨g,0,none⟩) n c) L){k:Nat}(hk:k<L.length) :
 (∀x,Gw El.bool 4 base (fun _=>False) (w.setCell ⟨g,k,none⟩ (.bool x)) (.slice (some ⟨g,0,none⟩) n c) (L.set k x))/\(∀j,w.frozen? ⟨g,j,none⟩=false)/\w.cell? ⟨g,k,none⟩=some (.bool (L.getD k false)):=by
 have hne:L≠[]:=fun e=>by rw[e]at hk;simp at hk
 obtain⟨g',cap,ev,_,_,_,hfz,zeq,zf2⟩:=Gw.own h hne
 have eg:g=g':=by injection ev with e1 _ _;cases e1;rfl
 subst eg
 obtain⟨vs,hr,hc⟩:=zeq k hk
 have hr2:vs=[.bool (L.getD k false)]:=hr
 subst hr2
 have e1:k*El.bool.sz=k:=Nat.mul_one k
 refine⟨fun x=>?_,hfz,?_⟩
 . have:=zf2 k 0 (.bool x) x hk (by decide) (fun S' us hu=>by
     have hu2:us=[.bool (L.getD k false)]:=hu
     subst hu2
     rfl)
   rw[e1]at this
   exact this
 . have:=hc 0 (by decide)
   rw[e1]at this
   exact this
theorem zgm(S:Nat->Prop)(a:Option Addr)(ca:Nat)(l:List Gl)(w:World)(h:Gr GlE S w a ca l)(hl:l.length<=1000) :
 Calls Tryz.prog 29 #[.slice a l.length ca] w fun e w'=>RowM (mkG l) w.heap.size w' e/\Below w.heap.size w w':=by
 have HH:Hid (Gr GlE S w a ca l):=h
 obtain⟨n,hnn⟩:∃n,l.length=n:=⟨_,rfl⟩
 have HN:Hid (l.length=n):=hnn
 rw[hnn]at hl ⊢;clear h
 obtain⟨i0,hi0,hz0,hz1,hz2⟩:=info_parts zqc
 obtain⟨u2,hmk,hown,hgrow⟩:=run_makeSlice_full w w.heap.size 77 4 i0 _ 1 Tryz.underlying77 hi0 hz0 hz1 .i64 .i64 n (by omega) (by rw[hz2];omega) (by unfold maxLen;omega) (Nat.le_refl _)
 have hG0:Gw El.bool 4 w.heap.size (fun _=>False) u2 (.slice (some ⟨w.heap.size,0,none⟩) n n) (List.replicate n false):=Gw.zeros (E:=El.bool) hown rfl (by decide) rfl
 have hB2:Below w.heap.size w u2:=(Below.refl _ _).grown hgrow (Nat.le_refl _) (fun k hk=>by cases hk)
 obtain⟨g,hg⟩:∃g,w.heap.size=g:=⟨_,rfl⟩
 have HG:Hid (w.heap.size=g):=hg
 rw[hg]at hmk hG0
 have HG0:Hid (Gw El.bool 4 g (fun _=>False) u2 (.slice (some ⟨g,0,none⟩) n n) (List.replicate n false)):=hG0
 clear hi0 hz0 hz1 hz2 hown hgrow hnn hG0 hg
 go_enter Tryz.func29,Tryz.ntmps29
 go_wp2;clear hmk
 go_loopw [11] (fun i wr=>∃(k:Nat) (L:List Bool),k<=n/\i=.int .i64 k/\Hid (L.length=n)/\Hid (∀j,j<k->L.getD j false=(l.getD j Gl.none).mr)/\Hid (Gw El.bool 4 g (fun _=>False) wr (.slice (some ⟨g,0,none⟩) n n) L)/\Below w.heap.size w wr) (fun i _=>n-(intOf i).toNat)
 case atStart=>exact⟨0,_,Nat.zero_le _,rfl,List.length_replicate,(fun j hj=>by omega),HG0.out,hB2⟩
 case round =>
  clear HG0 hB2;obtain⟨k,L,hk,rfl,HLN,HLT,HR,hB⟩:=hrel
  by_cases hkn:k<n
  . obtain⟨b,off,ga,gc,ha,hc,ea,eb,e9,hblk,hgw,d0,d1,d2,d3,d4,d5⟩:=HH.out.gl hB k (by rw[HN.out];exact hkn)
    obtain⟨p,hp⟩:∃p,l.getD k Gl.none=p:=⟨_,rfl⟩
    have HPP:Hid (l.getD k Gl.none=p):=hp
    rw[hp]at hgw d0 d1 d2 d3 d4 d5;clear hp;obtain⟨o,ts,ab,ar,mr⟩:=p;dsimp only at d0 d1 d2 d3 d4 d5;subst e9
    have i1:(0:Int)<=(k:Int):=by omega
    have i2:(k:Int)<(n:Int):=by omega
    obtain⟨U,hU,XG,hbU⟩:∃U,U=wr.alloc (.cells #[.slice ga o.cs.length gc,.slice ha o.ps.length hc,.slice ea ts.length eb,.int .i64 ab,.int .i64 ar,.bool mr] 64)/\Bk 64 U wr.heap.size [.slice ga o.cs.length gc,.slice ha o.ps.length hc,.slice ea ts.length eb,.int .i64 ab,.int .i64 ar,.bool mr]/\Below wr.heap.size wr U:=⟨_,rfl,Bk.new _ _ _,bl1 _⟩
    have hBU:=hB.trans (hbU.mono hB.size)
    obtain⟨zf2,hfz,c0⟩:=Gw.atB (HR.out.below hbU) (k:=k) (by rw[HLN.out];exact hkn)
    have hfzk:=hfz k
    obtain⟨y0,y1,y2,y3,y4,y5,-⟩:=XG.six
    have HR2:Hid (Gw El.bool 4 g (fun _=>False) (U.setCell ⟨g,k,none⟩ (.bool mr)) (.slice (some ⟨g,0,none⟩) n n) (L.set k mr)):=zf2 mr
    have HB2:Hid (Below w.heap.size w (U.setCell ⟨g,k,none⟩ (.bool mr))):=hBU.setCell (p:=⟨g,k,none⟩) (by show w.heap.size<=g;have:=HG.out;omega) _
    have HLN2:Hid ((L.set k mr).length=n):=by show _=_;rw[List.length_set];exact HLN.out
    have HLT2:Hid (∀j,j<k+1->(L.set k mr).getD j false=(l.getD j Gl.none).mr):=fun j hj=>by
     have:=HLN.out
     by_cases hjk:j=k
     . subst hjk
       rw[HPP.out]
       simp[List.getD,show j<L.length by omega]
     . rw[<-HLT.out j (by omega)]
       simp[List.getD,List.getElem?_set_ne (fun e=>hjk e.symm)]
    clear zf2 hfz HR HLN HLT HPP hgw
    go_upto_region 5 with fail
    rw[<-hU];clear hU d0 d1 d2 d3 d4 d5 XG hbU;go_wp2
    go_roundw
    case rel=>exact⟨k+1,_,by omega,by go_num,HLN2,HLT2,HR2,HB2.out⟩
    case measure=>simp[intOf];omega
  . have HE:Hid (L=mkG l):=by
      show _=_
      have h1:=HLN.out
      have h2:=HN.out
      apply List.ext_getElem (by rw[zaw];omega)
      intro j h3 h4
      have:=HLT.out j (by omega)
      rw[<-zyf (by omega)]at this
      simpa [List.getD,h3,h4] using this
    have HV:Hid (RowM (mkG l) w.heap.size wr (.returned (.slice (some ⟨g,0,none⟩) n n))):=⟨_,rfl,by rw[<-HE.out,HG.out];exact HR.out⟩
    have g4:¬(k:Int)<(n:Int):=by omega
    clear HLT HR HLN HE;go_wp2
    go_ret
    exact⟨HV.out,hB⟩
