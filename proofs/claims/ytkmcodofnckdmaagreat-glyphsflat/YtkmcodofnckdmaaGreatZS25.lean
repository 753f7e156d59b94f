import Derived.Deep.CutBlock
import Derived.Test.YtkmcodofnckdmaaGreatZS23
import Derived.Test.YtkmcodofnckdmaaGreatZS24
set_option maxHeartbeats 4000000
set_option maxRecDepth 100000
set_option linter.unusedSimpArgs false
set_option linter.unusedVariables false
namespace Go.Proofs.YtkmcodofnckdmaaGreat
open Go.RowKit Go.Maps
theorem zhm(z:Int):I64 (wrap64 z):=by
 unfold I64 wrap64
 omega
theorem zrf(a:Option Addr)(ca:Nat)(b:Option Addr)(cb:Nat)(s:Sr)(w:World)(hg:Tzz w a ca s.rg)(hm:Rii w b cb s.rw) :
 Calls Tryz.prog 30 #[.agg #[.slice a s.rg.length ca,.slice b s.rw.length cb]] w fun e w'=>∃q:Bool,e=.returned (.bool q)/\(q=true->s.rg.length<=20/\∀l∈s.rg,l.length<=8)/\Below w.heap.size w w':=by
 have k1:=hg.lenB
 have k2:=hm.lenB
 have HG:Hid (Tzz w a ca s.rg):=hg
 have HM:Hid (Rii w b cb s.rw):=hm
 clear hg hm
 obtain⟨W,hW,X1,hbW⟩:∃W,W=w.alloc (.cells #[.slice a s.rg.length ca,.slice b s.rw.length cb] 26)/\BxS W w.heap.size (.slice a s.rg.length ca) (.slice b s.rw.length cb)/\Below w.heap.size w W:=⟨_,rfl,BxS.new _ _ _,bl1 _⟩
 go_enter Tryz.func30,Tryz.ntmps30
 go_upto_block 0 with fail
 rw[<-hW];clear hW
 go_cut [3]from 4 to 26 (fun v wr=>∃z:Int,v=.int .i64 z/\I64 z/\BxS wr w.heap.size (.slice a s.rg.length ca) (.slice b s.rw.length cb)/\Below w.heap.size w wr)
 case first =>
  go_wp2_with fail
  go_loopw [3,4] (fun v i wr=>∃(k:Nat) (z:Int),k<=s.rg.length/\v=.int .i64 z/\I64 z/\i=.int .i64 k/\BxS wr w.heap.size (.slice a s.rg.length ca) (.slice b s.rw.length cb)/\Below w.heap.size w wr) (fun _ i _=>s.rg.length-(intOf i).toNat)
  case atStart=>exact⟨0,0,Nat.zero_le _,rfl,⟨by decide,by decide⟩,rfl,X1,hbW⟩
  case round =>
   clear X1 hbW;obtain⟨k,z,hk,rfl,hz,rfl,X1,hbW⟩:=hrel;obtain⟨p0,p1,_⟩:=X1.cells
   by_cases hkn:k<s.rg.length
   . have g1:decide ((k:Int)<(s.rg.length:Int))=true:=decide_eq_true (by omega)
     by_cases hz2:z<=2000
     . have g2:decide (z<=2000)=true:=decide_eq_true hz2
       obtain⟨b1,o1,a1,c1,ea,_,d0,hp⟩:=HG.out.at hbW k hkn
       have hpl:=hp.lenB
       generalize (s.rg.getD k []).length=n1 at *
       subst ea;clear hp hkn
       have i1:(0:Int)<=(k:Int):=by omega
       have i2:(k:Int)<(s.rg.length:Int):=of_decide_eq_true g1
       have HZ:Hid (∀y:Int,I64 (wrap64 y)):=zhm
       go_wp2_with fail
       go_roundw
       case rel=>exact⟨k+1,_,by omega,rfl,HZ.out _,by go_num,X1,hbW⟩
       case measure=>simp[intOf];omega
     . have g2:decide (z<=2000)=false:=decide_eq_false hz2
       have i2:(k:Int)<(s.rg.length:Int):=by omega
       clear hkn
       go_wp2_with fail
       go_meet
       exact⟨z,rfl,hz,X1,hbW⟩
   . have g1:decide ((k:Int)<(s.rg.length:Int))=false:=decide_eq_false (by omega)
     have i2:¬(k:Int)<(s.rg.length:Int):=by omega
     clear hkn
     go_wp2_with fail
     go_meet
     exact⟨z,rfl,hz,X1,hbW⟩
 case rest =>
  clear X1 hbW;obtain⟨z0,rfl,hzz0,X1,hbW⟩:=hcut
  go_upto_block 2 with fail
  go_cut [3]from 4 to 46 (fun v wr=>∃z:Int,v=.int .i64 z/\I64 z/\BxS wr w.heap.size (.slice a s.rg.length ca) (.slice b s.rw.length cb)/\Below w.heap.size w wr)
  case first =>
   go_wp2_with fail
   go_loopw [3,5] (fun v i wr=>∃(k:Nat) (z:Int),k<=s.rw.length/\v=.int .i64 z/\I64 z/\i=.int .i64 k/\BxS wr w.heap.size (.slice a s.rg.length ca) (.slice b s.rw.length cb)/\Below w.heap.size w wr) (fun _ i _=>s.rw.length-(intOf i).toNat)
   case atStart=>exact⟨0,z0,Nat.zero_le _,rfl,hzz0,rfl,X1,hbW⟩
   case round =>
    clear X1 hbW;obtain⟨k,z,hk,rfl,hz,rfl,X1,hbW⟩:=hrel;obtain⟨p0,p1,_⟩:=X1.cells
    by_cases hkn:k<s.rw.length
    . have g1:decide ((k:Int)<(s.rw.length:Int))=true:=decide_eq_true (by omega)
      by_cases hz2:z<=2000
      . have g2:decide (z<=2000)=true:=decide_eq_true hz2
        obtain⟨b1,o1,a1,c1,ea,_,d0,hp⟩:=HM.out.at hbW k hkn
        have hpl:=hp.lenB
        generalize (s.rw.getD k []).length=n1 at *
        subst ea;clear hp hkn
        have i1:(0:Int)<=(k:Int):=by omega
        have i2:(k:Int)<(s.rw.length:Int):=of_decide_eq_true g1
        have HZ:Hid (∀y:Int,I64 (wrap64 y)):=zhm
        go_wp2_with fail
        go_roundw
        case rel=>exact⟨k+1,_,by omega,rfl,HZ.out _,by go_num,X1,hbW⟩
        case measure=>simp[intOf];omega
      . have g2:decide (z<=2000)=false:=decide_eq_false hz2
        have i2:(k:Int)<(s.rw.length:Int):=by omega
        clear hkn
        go_wp2_with fail
        go_meet
        exact⟨z,rfl,hz,X1,hbW⟩
    . have g1:decide ((k:Int)<(s.rw.length:Int))=false:=decide_eq_false (by omega)
      have i2:¬(k:Int)<(s.rw.length:Int):=by omega
      clear hkn
      go_wp2_with fail
      go_meet
      exact⟨z,rfl,hz,X1,hbW⟩
  case rest =>
   clear X1 hbW hzz0;obtain⟨z1,rfl,hzz1,X1,hbW⟩:=hcut
   go_wp2_with fail
   go_loopw [6] (fun i wr=>∃k:Nat,k<=s.rg.length/\i=.int .i64 k/\(∀j,j<k->(s.rg.getD j []).length<=8)/\BxS wr w.heap.size (.slice a s.rg.length ca) (.slice b s.rw.length cb)/\Below w.heap.size w wr) (fun i _=>s.rg.length-(intOf i).toNat)
   case atStart=>exact⟨0,Nat.zero_le _,rfl,(fun j hj=>by omega),X1,hbW⟩
   case round =>
    clear X1 hbW;obtain⟨k,hk,rfl,hok,X1,hbW⟩:=hrel
    have HOK:Hid (∀j,j<k->(s.rg.getD j []).length<=8):=hok
    clear hok;obtain⟨p0,p1,_⟩:=X1.cells
    by_cases hkn:k<s.rg.length
    . obtain⟨b1,o1,a1,c1,ea,_,d0,hp⟩:=HG.out.at hbW k hkn
      have hpl:=hp.lenB
      obtain⟨n1,hn1⟩:∃n1,(s.rg.getD k []).length=n1:=⟨_,rfl⟩
      have HN:Hid ((s.rg.getD k []).length=n1):=hn1
      rw[hn1]at d0 hpl;subst ea;clear hp hn1
      by_cases h8:8<n1
      . have g3:(8:Int)<(n1:Int):=by omega
        go_wp2
        go_ret
        exact⟨false,rfl,(fun h=>by cases h),hbW⟩
      . have g3:¬(8:Int)<(n1:Int):=by omega
        have zdl:Hid (∀j,j<k+1->(s.rg.getD j []).length<=8):=fun j hj=>by
         rcases Nat.lt_or_ge j k with h1|h1
         . exact HOK.out j h1
         . rw[show j=k by omega,HN.out];omega
        go_wp2
        go_roundw
        case rel=>exact⟨k+1,by omega,by go_num,zdl.out,X1,hbW⟩
        case measure=>simp[intOf];omega
    . obtain rfl:k=s.rg.length:=by omega
      have HA:Hid (∀l∈s.rg,l.length<=8):=fun l hl=>by
       obtain⟨i,hi,e⟩:=List.getElem_of_mem hl
       have:=HOK.out i hi
       rw[getL hi,e]at this
       exact this
      by_cases hz2:z1<=2000
      . have g2:decide (z1<=2000)=true:=decide_eq_true hz2
        go_wp2
        go_ret
        exact⟨_,rfl,(fun h=>⟨by have:=of_decide_eq_true h;omega,HA.out⟩),hbW⟩
      . have g2:decide (z1<=2000)=false:=decide_eq_false hz2
        go_wp2
        exact bodyPost_ret (v:=.bool false) (by simp[results,Tryz.results30,go_sem]) rfl (by first | exact⟨false,rfl,(fun h=>by cases h),hbW⟩ | exact .inl ⟨rfl,hbW⟩)
structure zur(P:Prop)(e:Ending):Prop where
 out:∃q:Bool,e=.returned (.bool q)/\(q=true->P)
def FewG(l:List Gl):Prop:=l.length<=40/\∀x∈l,x.o.cs.flatten.length<=1000/\x.o.ps.length<=12
theorem FewG.ps{l:List Gl}(h:FewG l):∀x∈l,x.o.ps.length<=12:=fun x hx=>(h.2 x hx).2
theorem FewG.pt{l:List Gl}(h:FewG l):∀x∈l,x.o.cs.flatten.length<=100000:=fun x hx=>Nat.le_trans (h.2 x hx).1 (by decide)
theorem FewG.n{l:List Gl}(h:FewG l):l.length<=1000:=Nat.le_trans h.1 (by decide)
theorem zpu(S:Nat->Prop)(a:Option Addr)(ca:Nat)(l:List Gl)(w:World)(hl:Gr GlE S w a ca l) :
 Calls Tryz.prog 29 #[.slice a l.length ca] w fun e w'=>zur (FewG l) e/\Below w.heap.size w w':=by
 have kl:=hl.lenB
 have HL:Hid (Gr GlE S w a ca l):=hl
 clear hl
 by_cases hn:40<l.length
 . have g1:(40:Int)<(l.length:Int):=by omega
   go_enter Tryz.func29,Tryz.ntmps29
   go_wp2
   go_ret
   exact⟨⟨⟨false,rfl,(fun h=>by cases h)⟩⟩,Below.refl _ _⟩
 have g1:¬(40:Int)<(l.length:Int):=by omega
 go_enter Tryz.func29,Tryz.ntmps29
 go_wp2;clear g1
 go_loopw [3,4] (fun nv i wr=>∃(k:Nat) (z:Int),k<=l.length/\i=.int .i64 k/\nv=.int .i64 z/\Hid (∀j,j<k->(l.getD j Gl.none).o.cs.flatten.length<=1000/\(l.getD j Gl.none).o.ps.length<=12)/\Below w.heap.size w wr) (fun _ i _=>l.length-(intOf i).toNat)
 case atStart=>exact⟨0,0,Nat.zero_le _,rfl,rfl,(fun j hj=>by omega),Below.refl _ _⟩
 case round =>
  obtain⟨k,z,hk,rfl,rfl,HOK,hB⟩:=hrel
  by_cases hkn:k<l.length
  . obtain⟨b1,off,xa,xc,pa,pc,ta,tc,ea,hb1,hGC,c0,c1,c2,-⟩:=HL.out.gl hB k hkn
    subst ea
    obtain⟨x,hx⟩:∃x,l.getD k Gl.none=x:=⟨_,rfl⟩
    have HX:Hid (l.getD k Gl.none=x):=hx
    rw[hx]at hGC c0 c1 c2
    have i1:(0:Int)<=(k:Int):=by omega
    have i2:(k:Int)<(l.length:Int):=by omega
    have kcs:=hGC.cs.lenB
    have kps:=hGC.ps.lenB
    have kts:=hGC.ts.lenB
    have zxe:b1<wr.heap.size:=Nat.lt_of_lt_of_le hb1 hB.size
    have h1:=zpt S xa xc pa pc x.o wr hGC.cs hGC.ps
    have h2:=fun U (hU:Below wr.heap.size wr U)=>zps S ta tc x.ts U (hGC.below hU).ts
    have h3:=fun U (hU:Below wr.heap.size wr U) (hf:x.o.cs.flatten.length<=100000)=>zca S xa xc (.slice pa x.o.ps.length pc) x.o.cs U (hGC.below hU).cs hf rfl
    clear hx hGC
    cases hf1:fewB x.o with
    | false =>
     rw[hf1]at h1;clear hf1 h2 h3
     go_wp2_with fail
     refine h1.mono ?_
     rintro e u1 ⟨rfl,hb⟩
     replace hB:=hB.trans (hb.mono hB.size)
     clear h1 hb;go_wp2
     go_ret
     exact⟨⟨⟨false,rfl,(fun h=>by cases h)⟩⟩,hB⟩
    | true =>
    rw[hf1]at h1
    have hf9:=(zwm hf1).2.1
    clear hf1
    go_wp2_with fail
    refine h1.mono ?_
    rintro e u1 ⟨rfl,hb⟩;clear h1
    replace c0:=(hb.cell (p:=⟨b1,off+k*6,none⟩) zxe).trans c0
    replace c1:=(hb.cell (p:=⟨b1,off+k*6+1,none⟩) zxe).trans c1
    replace c2:=(hb.cell (p:=⟨b1,off+k*6+2,none⟩) zxe).trans c2
    have hB1:=hB.trans (hb.mono hB.size)
    have h2':=h2 _ hb
    cases hf2:fewT x.ts with
    | false =>
     rw[hf2]at h2';clear hf2 h2 h3 hb
     go_wp2_with fail
     refine h2'.mono ?_
     rintro e u2 ⟨rfl,hb⟩
     replace hB1:=hB1.trans (hb.mono hB1.size)
     clear h2' hb;go_wp2
     go_ret
     exact⟨⟨⟨false,rfl,(fun h=>by cases h)⟩⟩,hB1⟩
    | true =>
    rw[hf2]at h2'
    have htn:=(zwl hf2).1
    clear hf2 h2
    go_wp2_with fail
    refine h2'.mono ?_
    rintro e u2 ⟨rfl,hb2⟩
    have hus:=hb.size
    replace c0:=(hb2.cell (p:=⟨b1,off+k*6,none⟩) (by show b1<_;omega)).trans c0
    replace c1:=(hb2.cell (p:=⟨b1,off+k*6+1,none⟩) (by show b1<_;omega)).trans c1
    replace c2:=(hb2.cell (p:=⟨b1,off+k*6+2,none⟩) (by show b1<_;omega)).trans c2
    have hB2:=hB1.trans (hb2.mono hB1.size)
    have hb3:=hb.trans (hb2.mono hb.size)
    have hus2:=hb2.size
    clear h2' hb hb2 hB1 hB
    by_cases hp:12<x.o.ps.length
    . have g2:decide ((12:Int)<(x.o.ps.length:Int))=true:=decide_eq_true (by omega)
      have g3:(12:Int)<(x.o.ps.length:Int):=by omega
      clear h3 hb3;go_wp2
      go_ret
      exact⟨⟨⟨false,rfl,(fun h=>by cases h)⟩⟩,hB2⟩
    have g2:decide ((12:Int)<(x.o.ps.length:Int))=false:=decide_eq_false (by omega)
    have zdl:Hid (∀j,j<k+1->(l.getD j Gl.none).o.cs.flatten.length<=1000/\(l.getD j Gl.none).o.ps.length<=12):=fun j hj=>by
     rcases Nat.lt_or_ge j k with h1|h1
     . exact HOK.out j h1
     . rw[show j=k by omega,HX.out];exact⟨hf9,by omega⟩
    have hpo:=fun U hU=>h3 U (hb3.trans (Below.mono hU hb3.size)) (by omega)
    clear h3 HOK HX
    go_upto_region 9 with fail
    refine wp_region_held_drew (S:=fun w9=>w9.cell? ⟨b1,off+k*6,none⟩=some (.slice xa x.o.cs.length xc)/\w9.cell? ⟨b1,off+k*6+1,none⟩=some (.slice pa x.o.ps.length pc)/\w9.cell? ⟨b1,off+k*6+2,none⟩=some (.slice ta x.ts.length tc)) (by kernel_rfl) ?_ (fun hH=>?_)
    . (try dsimp only)
      go_keep
    have hdr:Below u2.heap.size u2 u2.drew:=Below.drew1
    have hpo2:=hpo _ hdr
    generalize u2.drew=Z at hdr hH hpo2 ⊢
    replace c0:=(hdr.cell (p:=⟨b1,off+k*6,none⟩) (by show b1<_;omega)).trans c0
    replace c1:=(hdr.cell (p:=⟨b1,off+k*6+1,none⟩) (by show b1<_;omega)).trans c1
    replace c2:=(hdr.cell (p:=⟨b1,off+k*6+2,none⟩) (by show b1<_;omega)).trans c2
    replace hB2:=hB2.trans (hdr.mono hB2.size)
    have hzs:=hdr.size
    clear hdr hpo hb3;refine hT 0 hH ?_;refine hT 1 hH ?_;refine hT 2 hH ?_;refine hT 3 hH ?_;refine hT 4 hH ?_;refine hT 5 hH ?_;refine hT 8 hH ?_;refine hT 9 hH ?_;refine hT 10 hH ?_;refine hT 11 hH ?_;refine hT 12 hH ?_;refine hT 13 hH ?_;refine hT 14 hH ?_
    refine hCall (i:=6) rfl (by kernel_rfl) (by rfl) (fun K hK=>?_)
    go_simp
    refine hpo2.mono ?_
    rintro e u3 ⟨a8,c8,rfl,-,-,hb⟩
    replace c0:=(hb.cell (p:=⟨b1,off+k*6,none⟩) (by show b1<_;omega)).trans c0
    replace c1:=(hb.cell (p:=⟨b1,off+k*6+1,none⟩) (by show b1<_;omega)).trans c1
    replace c2:=(hb.cell (p:=⟨b1,off+k*6+2,none⟩) (by show b1<_;omega)).trans c2
    replace hB2:=hB2.trans (hb.mono hB2.size)
    clear hb hpo2
    go_wp2_with fail
    refine hK.out _ _ ?_ (fun hH=>?_)
    . (try dsimp only)
      exact⟨c0,c1,c2⟩
    clear hK K
    try simp only[Act.put,pZ]
    refine hT 7 hH ?_;refine hT 15 hH ?_;refine hT 16 hH ?_;refine hT 17 hH ?_
    refine wpAnyH_done (by kernel_rfl) ?_ _
    clear hH c0 c1 c2;go_wp2
    go_roundw
    case rel=>exact⟨k+1,_,by omega,by go_num,rfl,zdl,hB2⟩
    case measure=>simp[intOf];omega
  . have ek:k=l.length:=by omega
    have g4:¬(k:Int)<(l.length:Int):=by omega
    have HF:Hid (FewG l):=⟨by omega,zgi (d:=Gl.none) (fun j hj=>HOK.out j (by omega))⟩
    clear HOK;go_wp2
    go_ret
    exact⟨⟨⟨_,rfl,fun _=>HF.out⟩⟩,hB⟩
theorem zn1(S S2:Nat->Prop)(a:Option Addr)(ca:Nat)(b:Option Addr)(cb:Nat)(cs:List (List Pn))(w:World)(ha:Gr PnE.row S w a ca cs)(hb:Gr PnE.row S2 w b cb cs) :
 Calls Tryz.prog 20 #[.slice a cs.length ca,.slice b cs.length cb] w fun e w'=>e=.returned (.bool true)/\Below w.heap.size w w':=by
 have h:=zn0 S S2 a ca none 0 b cb none 0 ⟨cs,[]⟩ w ha (Gr.nil _ _ _ _ _ (Nat.zero_le _) (fun _=>rfl)) hb (Gr.nil _ _ _ _ _ (Nat.zero_le _) (fun _=>rfl))
 go_enter Tryz.func20,Tryz.ntmps20
 go_wp2_with fail
 refine h.mono ?_
 rintro e u ⟨rfl,hb⟩;clear h;go_wp2
 go_ret
 exact⟨rfl,hb⟩
theorem zre(S:Nat->Prop)(a:Option Addr)(ca:Nat)(l:List Gl)(ga:Option Addr)(gc:Nat)(ma:Option Addr)(mc:Nat)(s:Sr)(ax:Int)(pa:Option Addr)(pn pc:Nat)(w:World)(hl:Gr GlE S w a ca l)(hg:Tzz w ga gc s.rg)(hm:Rii w ma mc s.rw)(hpn:pn<=9223372036854775807) :
 Calls Tryz.prog 10 #[.agg #[.slice a l.length ca,.slice ga s.rg.length gc,.slice ma s.rw.length mc,.int .i64 ax],.slice pa pn pc] w fun e w'=>zur (FewG l/\s.rg.length<=20/\(∀l∈s.rg,l.length<=8)/\pn<=20) e/\Below w.heap.size w w':=by
 obtain⟨W,hW,X1,hbW⟩:∃W,W=w.alloc (.cells #[.slice a l.length ca,.slice ga s.rg.length gc,.slice ma s.rw.length mc,.int .i64 ax] 28)/\Bk 28 W w.heap.size [.slice a l.length ca,.slice ga s.rg.length gc,.slice ma s.rw.length mc,.int .i64 ax]/\Below w.heap.size w W:=⟨_,rfl,Bk.new _ _ _,bl1 _⟩
 obtain⟨p0,p1,p2,p3,_⟩:=X1.four
 have c1:=zpu S a ca l W (hl.below hbW)
 have c2:=fun U (hb:Below W.heap.size W U)=>zrf ga gc ma mc s U ((hg.below hbW).below hb) ((hm.below hbW).below hb)
 clear hl hg hm
 go_enter Tryz.func10,Tryz.ntmps10
 go_upto_region 1 with fail
 rw[<-hW];clear hW
 go_wp2_with fail
 refine c1.mono ?_
 rintro e m1 ⟨⟨⟨q1,rfl,HF1⟩⟩,hb1⟩
 replace HF1:Hid (q1=true->FewG l):=HF1
 replace X1:=X1.below hb1;clear p0 p1 p2 p3 c1;obtain⟨p0,p1,p2,p3,_⟩:=X1.four
 cases q1 with
 | false =>
  have zay:=hbW.trans (hb1.mono hbW.size)
  clear c2;go_wp2
  go_ret
  exact⟨⟨⟨false,rfl,(fun h=>by cases h)⟩⟩,zay⟩
 | true =>
 have HG1:Hid (FewG l):=HF1.out rfl
 clear HF1
 go_wp2_with fail
 refine(c2 _ hb1).mono ?_
 rintro e m2 ⟨q2,rfl,HF2,hb2⟩
 replace HF2:Hid (q2=true->s.rg.length<=20/\∀l∈s.rg,l.length<=8):=HF2
 have zay:=(hbW.trans (hb1.mono hbW.size)).trans (hb2.mono (Nat.le_trans hbW.size hb1.size))
 clear c2 hb1 hb2
 cases q2 with
 | false =>
  go_wp2
  go_ret
  exact⟨⟨⟨false,rfl,(fun h=>by cases h)⟩⟩,zay⟩
 | true =>
 have HG2:Hid (s.rg.length<=20/\∀l∈s.rg,l.length<=8):=HF2.out rfl
 clear HF2
 have HP:Hid ((decide ((pn:Int)<=20))=true->pn<=20):=fun h=>by
  have:=of_decide_eq_true h
  omega
 go_wp2
 go_ret
 exact⟨⟨⟨decide ((pn:Int)<=20),rfl,fun h=>⟨HG1.out,HG2.out.1,HG2.out.2,HP.out h⟩⟩⟩,zay⟩
theorem zku(S:Nat->Prop)(a:Option Addr)(ca:Nat)(l:List Gl)(v1 v2:Value)(ax:Int)(g:Int)(w:World)(hl:Gr GlE S w a ca l)(hf:FewG l)(hg:I64 g)(h1:v1.cells=#[v1])(h2:v2.cells=#[v2]) :
 Calls Tryz.prog 17 #[.agg #[.slice a l.length ca,v1,v2,.int .i64 ax],.int .i64 g] w fun e w'=>e=.returned (.bool (decide (szG l g<=600)))/\Below w.heap.size w w':=by
 obtain⟨W,hW,X1,hbW⟩:∃W,W=w.alloc (.cells #[.slice a l.length ca,v1,v2,.int .i64 ax] 28)/\Bk 28 W w.heap.size [.slice a l.length ca,v1,v2,.int .i64 ax]/\Below w.heap.size w W:=⟨_,rfl,Bk.new _ _ _,bl1 _⟩
 obtain⟨p0,p1,p2,p3,_⟩:=X1.four
 have c1:=zdn S a ca l g W (hl.below hbW) hf.n hf.pt hg
 have HD:Hid (decide (((szG l g:Nat):Int)<=600)=decide (szG l g<=600)):=by show _=_;rw[decide_eq_decide];omega
 clear hl hf X1
 go_enter Tryz.func17,Tryz.ntmps17
 go_upto_region 1 with fail
 rw[<-hW];clear hW
 go_wp2_with fail
 refine c1.mono ?_
 rintro e m1 ⟨rfl,hb1⟩
 have zay:=hbW.trans (hb1.mono hbW.size)
 clear c1 hb1;go_wp2
 go_ret
 exact⟨zaa HD.out,zay⟩
theorem zcb(a:Option Addr)(cap:Nat)(xs:List Nat)(w:World)(h:Rd w a cap xs)(hl:xs.length<=1000000000) :
 Calls Tryz.prog 264 #[.slice a xs.length cap] w fun e w'=>∃a' cap',e=.returned (.slice a' (strip xs).length cap')/\Res 250 w.heap.size w' a' cap' (strip xs)/\Below w.heap.size w w':=by
 obtain⟨i0,hi,hz0,hz1,hz2⟩:=info_parts zbb
 have hsl:=zah xs
 have hc2:xs.length<=cap:=h.le
 have hc3:cap<=maxLen:=h.cap
 unfold maxLen at hc3
 have hst:=h.strip
 have lst:=h.lim.strip
 have fm:=h.fm
 clear h
 go_enter Tryz.func264,Tryz.ntmps264
 go_wp2
 go_loop [3] (fun n=>∃k:Nat,k<=xs.length/\n=.int .i64 k/\strip (xs.take k)=strip xs) (fun n=>(intOf n).toNat)
 case atStart=>exact⟨xs.length,Nat.le_refl _,rfl,by rw[List.take_length]⟩
 case round =>
  obtain⟨k,hk,rfl,hs0⟩:=hrel
  have HS:Hid (strip (xs.take k)=strip xs):=hs0
  clear hs0
  by_cases hk0:k=0
  . subst hk0
    have e0:strip xs=[]:=by rw[<-HS.out];rfl
    rw[e0]at hst lst
    have E0:Hid (strip xs=[]):=e0
    clear e0 HS
    go_wp2_with (at_builtin;refine zcc rfl _ _ 128 rfl w.heap.size 250 i0 Tryz.underlying128 hi hz0 hz1 hz2 _ 0 [] rfl (World.ownsRow_nil _ _ _ _) a cap 0 [] ?_ rfl hst (by simp) (Nat.le_refl _) ?_)
    intro v' w1 hown hgrow
    obtain⟨a',cap',rfl,hres⟩:=Res.of (xs:=[]) Lim.nil hown
    go_wp2
    go_ret
    exact⟨a',cap',by rw[E0.out];rfl,by rw[E0.out];exact hres,(Below.refl _ _).grown hgrow (Nat.le_refl _) (fun k hk=>by simp[Value.ownBlock]at hk)⟩
  . obtain⟨j,rfl⟩:∃j,k=j+1:=⟨k-1,by omega⟩
    obtain⟨b,off,rfl,_,hcj⟩:=fm.at (Below.refl _ _) j (by omega)
    obtain⟨x,hx⟩:∃x,xs.getD j 0=x:=⟨_,rfl⟩
    rw[hx]at hcj
    have HX:Hid (xs.getD j 0=x):=hx
    clear hx
    by_cases hx0:x=0
    . subst hx0
      go_wp2
      go_round
      case rel=>exact⟨j,by omega,rfl,by rw[<-HS.out,zch xs j (by omega) HX.out]⟩
      case measure=>simp[intOf]
    . have hx1:((x:Int)==0)=false:=by simp;omega
      have e:strip xs=xs.take (j+1):=by rw[<-HS.out];exact zci xs j (by omega) (by rw[HX.out];exact hx0)
      have el:j+1=(strip xs).length:=by rw[e];simp;omega
      have EL:Hid (j+1=(strip xs).length):=el
      clear e el
      go_wp2_with (at_builtin;refine zcc rfl _ _ 128 rfl w.heap.size 250 i0 Tryz.underlying128 hi hz0 hz1 hz2 _ 0 [] rfl (World.ownsRow_nil _ _ _ _) (some ⟨b,off,none⟩) cap (j+1) (strip xs) rfl EL.out hst (by omega) (Nat.le_refl _) ?_)
      intro v' w1 hown hgrow
      obtain⟨a',cap',rfl,hres⟩:=Res.of lst hown
      go_wp2
      go_ret
      exact⟨a',cap',rfl,hres,(Below.refl _ _).grown hgrow (Nat.le_refl _) (fun k hk=>by simp[Value.ownBlock]at hk)⟩
theorem zlx(n:Nat)(h:n<4294967296):bits BinOp.and IntKind.u32 (n:Int) 1=((n%2:Nat):Int):=by
 have:=u32_and_nat n 1 h (by decide)
 rw[Nat.and_one_is_mod]at this
 exact this
theorem V_bit(xs:List Nat)(lm:Lim xs)(i:Nat):V xs/2 ^ i%2=xs.getD (i/32) 0/2 ^ (i%32)%2:=by
 have e:=zcn xs (i/32)
 have hd:=zbm (xs.drop (i/32))
 have hg:(xs.drop (i/32)).getD 0 0=xs.getD (i/32) 0:=by simp[List.getD]
 rw[hg]at hd
 have hl:V (xs.take (i/32))<4294967296 ^ (i/32):=by
  have:=zcz xs (i/32)
  rw[this]
  exact Sv_lt (fun j _=>lm.getD j)
 have hp:2 ^ i=4294967296 ^ (i/32)*2 ^ (i%32):=by
  rw[show(4294967296:Nat)=2 ^ 32 from rfl,<-Nat.pow_mul,<-Nat.pow_add,Nat.div_add_mod]
 rw[hp,<-Nat.div_div_eq_div_mul,e,Nat.add_mul_div_left _ _ (Nat.pow_pos (by decide)),Nat.div_eq_of_lt hl,Nat.zero_add,hd]
 generalize V (xs.drop (i/32)).tail=T
 generalize xs.getD (i/32) 0=x
 have h32:(4294967296:Nat)=2 ^ (i%32)*(2*2 ^ (31-i%32)):=by
  have:(4294967296:Nat)=2 ^ 32:=rfl
  rw[this,<-Nat.pow_succ',<-Nat.pow_add]
  congr 1
  omega
 rw[h32,Nat.mul_assoc,Nat.add_mul_div_left _ _ (Nat.pow_pos (by decide)),Nat.mul_assoc,Nat.add_mul_mod_self_left]
theorem zjq(a:Option Addr)(n cap:Nat)(w:World)(hn:n<=100000000000000000) :
 Calls Tryz.prog 220 #[.slice a n cap] w fun e w'=>e=.returned (.int .i64 (32*(n:Int)))/\w=w':=by
 go_enter Tryz.func220,Tryz.ntmps220
 go_wp2
 go_ret
 exact⟨rfl,rfl⟩
theorem zmj(a:Option Addr)(cap:Nat)(xs:List Nat)(i:Nat)(w:World)(h:Rd w a cap xs)(hi:i<=100000000000000000) :
 Calls Tryz.prog 222 #[.slice a xs.length cap,.int .i64 (i:Int)] w fun e w'=>e=.returned (.int .u32 ((V xs/2 ^ i%2:Nat):Int))/\w=w':=by
 have k1:=h.le
 have k2:=h.cap
 unfold maxLen at k2
 have fm:=h.fm
 have lm:=h.lim
 clear h
 by_cases hlt:i/32<xs.length
 . obtain⟨b,off,rfl,_,hc⟩:=fm.at (Below.refl _ _) (i/32) hlt
   obtain⟨x,hx⟩:∃x,xs.getD (i/32) 0=x:=⟨_,rfl⟩
   rw[hx]at hc
   have bx:x<4294967296:=by rw[<-hx];exact lm.getD _
   go_enter Tryz.func222,Tryz.ntmps222
   go_wp2
   go_ret
   refine⟨zct ?_,rfl⟩
   have hq:x/2 ^ (i%32)<=x:=Nat.div_le_self _ _
   have hcast:(x:Int)/2 ^ (i%32)=((x/2 ^ (i%32):Nat):Int):=by simp
   rw[V_bit xs lm i,hx,hcast,zlx _ (by omega)]
 . go_enter Tryz.func222,Tryz.ntmps222
   go_wp2
   go_ret
   refine⟨zct ?_,rfl⟩
   rw[V_bit xs lm i,zbd _ _ (by omega)]
   simp
theorem zhh(m:Nat):4294967296 ^ m=2 ^ (32*m):=by rw[Nat.pow_mul]
theorem zij{v j:Nat}(h:v<2 ^ (j+1))(hb:v/2 ^ j%2=0):v<2 ^ j:=by
 have hp:0<2 ^ j:=Nat.pow_pos (by decide)
 rw[Nat.pow_succ]at h
 have h1:v/2 ^ j<2:=Nat.div_lt_of_lt_mul (by omega)
 have h2:v/2 ^ j=0:=by generalize v/2 ^ j=t at h1 hb ⊢;omega
 rcases (Nat.div_eq_zero_iff).1 h2 with h3|h3
 . omega
 . exact h3
theorem zh9{v j:Nat}(hb:v/2 ^ j%2=1):2 ^ j<=v:=by
 rcases Nat.lt_or_ge v (2 ^ j)with h|h
 . rw[Nat.div_eq_of_lt h]at hb;simp at hb
 . exact h
theorem zh6(a:Option Addr)(cap:Nat)(xs:List Nat)(w:World)(h:Rd w a cap xs)(hl:xs.length<=500000000) :
 Calls Tryz.prog 265 #[.slice a xs.length cap] w fun e w'=>∃n:Nat,e=.returned (.int .i64 (n:Int))/\n<=32*xs.length/\V xs<2 ^ n/\(1<=n->2 ^ (n-1)<=V xs)/\w=w':=by
 go_enter Tryz.func265,Tryz.ntmps265
 go_wp2_with fail
 refine(zjq _ _ _ _ (by omega)).mono ?_
 rintro e w' ⟨rfl,rfl⟩
 go_wp2
 go_loop [3] (fun i=>∃k:Nat,k<=32*xs.length/\i=.int .i64 (k:Int)/\V xs<2 ^ k) (fun i=>(intOf i).toNat)
 case atStart=>exact⟨32*xs.length,Nat.le_refl _,by go_num,by rw[<-zhh];exact V_lt h.lim⟩
 case round =>
  obtain⟨k,hk,rfl,hv⟩:=hrel
  have HV:Hid (V xs<2 ^ k):=hv
  clear hv
  by_cases hk0:k=0
  . subst hk0
    go_wp2
    go_ret
    exact⟨0,rfl,Nat.zero_le _,HV.out,fun h=>by omega,rfl⟩
  . obtain⟨j,rfl⟩:∃j,k=j+1:=⟨k-1,by omega⟩
    have hjj:((j+1:Nat):Int)-1=(j:Int):=by omega
    go_wp2_with fail
    refine(zmj _ _ _ _ _ h (by omega)).mono ?_
    rintro e w' ⟨rfl,rfl⟩
    rcases Nat.mod_two_eq_zero_or_one (V xs/2 ^ j)with hb0|hb0
    . rw[hb0]
      have HB:Hid (V xs/2 ^ j%2=0):=hb0
      clear hb0;go_wp2
      go_round
      case rel=>exact⟨j,by omega,by go_num,zij HV.out HB.out⟩
      case measure=>simp[intOf]
    . rw[hb0]
      have HB:Hid (V xs/2 ^ j%2=1):=hb0
      clear hb0;go_wp2
      go_ret
      exact⟨j+1,rfl,hk,HV.out,fun _=>zh9 HB.out,rfl⟩
theorem zus{zs xs:List Nat}{m k cy x p s:Nat}(hz:zs.length=m+k)(he:V zs+4294967296 ^ (m+k)*cy=4294967296 ^ m*(V (xs.take k)*2 ^ s))(hx:xs.getD k 0=x)(hp:x*2 ^ s=p) :
 V (zs++[(cy+p)%4294967296])+4294967296 ^ (m+(k+1))*((cy+p)/4294967296)=4294967296 ^ m*(V (xs.take (k+1))*2 ^ s):=by
 rw[zex,hz,zat,hx,<-Nat.add_assoc,Nat.pow_succ]
 have hd:=Nat.mod_add_div (cy+p) 4294967296
 generalize (cy+p)%4294967296=r at hd ⊢
 generalize (cy+p)/4294967296=d at hd ⊢
 subst hp;rw[Nat.pow_add]at he ⊢
 generalize 4294967296 ^ k=q at he ⊢
 generalize 4294967296 ^ m=t at he ⊢
 generalize V zs=o at he ⊢
 generalize V (xs.take k)=A at he ⊢
 generalize 2 ^ s=S at he hd ⊢
 have h1:t*q*(r+4294967296*d)=t*q*(cy+x*S):=by rw[hd]
 grind
theorem zva(a:Option Addr)(cap:Nat)(xs:List Nat)(n:Nat)(w:World)(h:Rd w a cap xs)(hl:xs.length<=400000000)(hn:n<=400000000) :
 Calls Tryz.prog 266 #[.slice a xs.length cap,.int .i64 (n:Int)] w fun e w' =>
     ∃a' cap' zs,e=.returned (.slice a' zs.length cap')/\V zs=V xs*2 ^ n/\Tr zs/\Res 250 w.heap.size w' a' cap' zs/\Below w.heap.size w w':=by
 obtain⟨i0,hi,hz0,hz1,hz2⟩:=info_parts zbb
 have fL:=h.fm
 have lL:=h.lim
 clear h
 obtain⟨m,hm⟩:∃m,n/32=m:=⟨_,rfl⟩
 obtain⟨s,hs⟩:∃s,n%32=s:=⟨_,rfl⟩
 have hs32:s<32:=by omega
 have hmb:m<=400000000:=by omega
 have hmi:(n:Int)/32=(m:Int):=by omega
 have hsi:(n:Int)%32=(s:Int):=by omega
 have HPW:Hid (2 ^ n=4294967296 ^ m*2 ^ s):=by
  show _=_
  rw[zhh,<-Nat.pow_add];congr 1;omega
 clear hm hs
 go_enter Tryz.func266,Tryz.ntmps266
 go_wp2_with (at_make;refine wpList_make_full _ rfl _ _ 128 rfl w.heap.size 250 i0 (.int .u32 0) 1 Tryz.underlying128 hi hz0 hz1 _ _ _ _ m rfl rfl (by omega) (by omega) (by rw[hz2];omega) (by unfold maxLen;omega) (Nat.le_refl _) ?_)
 intro u0 zc4 zbz
 have hb0:Below w.heap.size w u0:=(Below.refl _ _).grown zbz (Nat.le_refl _) (fun k h=>by cases h)
 have hown1:u0.ownsRow w.heap.size 250 1 (.slice (some ⟨w.heap.size,0,none⟩) m m) m ((List.replicate m 0).map U):=by
  rw[<-zdx];exact zc4
 clear zc4 zbz;go_wp2
 go_loopw [5,6,7] (fun out c i wr=>∃(k:Nat) (zs:List Nat) (cy:Nat),k<=xs.length/\i=.int .i64 k/\c=.int .u64 cy/\cy<2 ^ s/\zs.length=m+k/\Lim zs/\V zs+4294967296 ^ (m+k)*cy=4294967296 ^ m*(V (xs.take k)*2 ^ s)/\wr.ownsRow w.heap.size 250 1 out (m+k) (zs.map U)/\Below w.heap.size w wr) (fun _ _ i _=>xs.length-(intOf i).toNat)
 case atStart=>exact⟨0,List.replicate m 0,0,Nat.zero_le _,rfl,rfl,Nat.pow_pos (by decide),by simp,fun x hx=>by rw[List.eq_of_mem_replicate hx];decide,by rw[zlz];simp[V],hown1,hb0⟩
 case round =>
  obtain⟨k,zs,cy,hk,rfl,rfl,hcy,hzl,lz,heq,hown,hnx⟩:=hrel
  have HE:Hid (V zs+4294967296 ^ (m+k)*cy=4294967296 ^ m*(V (xs.take k)*2 ^ s)):=heq
  have HZ:Hid (zs.length=m+k):=hzl
  have hsz:=hnx.size
  have hP1:2 ^ s<=2 ^ 31:=Nat.pow_le_pow_right (by decide) (by omega)
  clear heq hzl
  by_cases hkn:k<xs.length
  . obtain⟨bl,ol,rfl,_,hcl⟩:=fL.at hnx k hkn
    obtain⟨x,hx⟩:∃x,xs.getD k 0=x:=⟨_,rfl⟩
    have bx:x<4294967296:=by rw[<-hx];exact lL.getD k
    rw[hx]at hcl
    have HX:Hid (xs.getD k 0=x):=hx
    obtain⟨p,hp⟩:∃p,x*2 ^ s=p:=⟨_,rfl⟩
    have bp0:p<=4294967295*2 ^ s:=by rw[<-hp];exact Nat.mul_le_mul_right _ (by omega)
    have bp:p<=9223372034707292160:=by omega
    have hpi:(x:Int)*2 ^ s=(p:Int):=by rw[<-hp];simp
    have hw1:IntKind.u64.wrap (p:Int)=(p:Int):=by rw[zfe];omega
    have zyg:(cy+p)/4294967296<2 ^ s:=Nat.div_lt_of_lt_mul (by omega)
    have HP:Hid (x*2 ^ s=p):=hp
    have bcy:cy<2147483648:=by omega
    have HCY:Hid ((cy+p)/4294967296<2 ^ s):=zyg
    clear hx hp hP1 bp0 hcy zyg
    go_wp2_with (at_builtin;refine zae rfl _ _ 128 rfl w.heap.size 250 i0 Tryz.underlying128 hi hz0 hz1 hz2 _ (m+k) zs rfl (hown.alloc _) wr.heap.size ((cy+p)%4294967296) rfl (zas _ _ _ _ (by omega)) (by omega) (by simp;omega) ?_)
    intro v' w1 hown1 zaw
    have hb1:Below w.heap.size w w1:=(hnx.alloc hsz _).grown zaw (by simp;omega) (fun k hk=>(hown.lt k hk).1)
    clear hown;go_wp2
    go_roundw
    case rel =>
     exact⟨k+1,zs++[(cy+p)%4294967296],(cy+p)/4294967296,by omega,by go_num,by go_num,HCY.out,by simp[HZ.out];omega,lz.snoc (by omega),zus HZ.out HE.out HX.out HP.out,za1 hown1,hb1⟩
    case measure=>simp[intOf];omega
  . obtain rfl:k=xs.length:=by omega
    have bcy:cy<4294967296:=by omega
    clear hcy hP1
    go_wp2_with (at_builtin;refine zae rfl _ _ 128 rfl w.heap.size 250 i0 Tryz.underlying128 hi hz0 hz1 hz2 _ _ zs rfl (hown.alloc _) wr.heap.size cy rfl (zas _ _ _ _ (by omega)) (by omega) (by simp;omega) ?_)
    intro v' w1 hown1 zaw
    have hb1:Below w.heap.size w w1:=(hnx.alloc hsz _).grown zaw (by simp;omega) (fun k hk=>(hown.lt k hk).1)
    have o1:=za1 hown1
    have lts:=lz.snoc bcy
    obtain⟨ts,hts⟩:∃ts,zs++[cy]=ts:=⟨_,rfl⟩
    have htl:ts.length<=1000000000:=by rw[<-hts];simp[HZ.out];omega
    rw[hts]at o1 lts
    have HT:Hid (zs++[cy]=ts):=hts
    obtain⟨a',cap',rfl,hres⟩:=Res.of lts o1
    clear hown1 hown hts o1
    go_wp2_with fail
    refine(zcb _ _ _ _ hres.rd htl).mono ?_
    rintro e w2 ⟨a2,c2,rfl,hr2,hb2⟩;go_wp2
    go_ret
    refine⟨a2,c2,_,rfl,?_,zap _,hr2.mono hb1.size,hb1.trans (hb2.mono hb1.size)⟩
    have h1:=HE.out
    rw[List.take_length]at h1;rw[zan,<-HT.out,zex,HZ.out,h1,HPW.out,Nat.mul_left_comm]
theorem zh4(a:Option Addr)(cap:Nat)(xs:List Nat)(b:Option Addr)(cbp:Nat)(ys:List Nat)(w:World)(ha:Rd w a cap xs)(hb:Rd w b cbp ys)(hla:xs.length<=500000000)(hlb:ys.length<=500000000) :
 Calls Tryz.prog 219 #[.slice a xs.length cap,.slice b ys.length cbp] w fun e w' =>
     ∃a' cap' zs,e=.returned (.slice a' zs.length cap')/\V zs=V xs-V ys/\Tr zs/\Res 250 w.heap.size w' a' cap' zs/\Below w.heap.size w w':=by
 obtain⟨i0,hi,hz0,hz1,hz2⟩:=info_parts zbb
 by_cases hle:V xs<=V ys
 . have hc:=zrm hle
   go_enter Tryz.func219,Tryz.ntmps219
   go_wp2_with fail
   refine(zeg _ _ _ _ _ _ _ ha hb).mono ?_
   rintro e w1 ⟨rfl,rfl⟩
   generalize cmpN (V xs) (V ys)=q at hc ⊢
   go_wp2
   go_ret
   refine⟨none,0,[],rfl,?_,zda,⟨Lim.nil,World.ownsRow_nil _ _ _ _⟩,Below.refl _ _⟩
   show 0=_;omega
 . have hc:=zrn (Nat.lt_of_not_le hle)
   have HC:Hid (cmpN (V xs) (V ys)=1):=hc
   have HV:Hid (V ys<V xs):=Nat.lt_of_not_le hle
   have lL:=ha.lim
   have lS:=hb.lim
   have fL:=ha.fm
   have fS:=hb.fm
   have q1:=ha.le
   have q2:=ha.cap
   unfold maxLen at q2
   clear hc
   go_enter Tryz.func219,Tryz.ntmps219
   go_wp2_with fail
   refine(zeg _ _ _ _ _ _ _ ha hb).mono ?_
   rintro e w0 ⟨rfl,rfl⟩;rw[HC.out];clear ha hb;go_wp2
   go_loopw [5,6,7] (fun out c i wr=>∃(k:Nat) (zs:List Nat) (cy:Nat),k<=xs.length/\i=.int .i64 k/\c=.int .u64 cy/\cy<=1/\zs.length=k/\Lim zs/\V zs+V (ys.take k)=V (xs.take k)+4294967296 ^ k*cy/\wr.ownsRow w.heap.size 250 1 out k (zs.map U)/\Below w.heap.size w wr) (fun _ _ i _=>xs.length-(intOf i).toNat)
   case atStart=>exact⟨0,[],0,Nat.zero_le _,rfl,rfl,Nat.zero_le _,rfl,Lim.nil,by simp[V],World.ownsRow_nil _ _ _ _,Below.refl _ _⟩
   case round =>
    obtain⟨k,zs,cy,hk,rfl,rfl,hcy,hzl,lz,heq,hown,hnx⟩:=hrel
    have HE:Hid (V zs+V (ys.take k)=V (xs.take k)+4294967296 ^ k*cy):=heq
    have HZ:Hid (zs.length=k):=hzl
    have hsz:=hnx.size
    clear heq hzl
    by_cases hkn:k<xs.length
    . obtain⟨bl,ol,rfl,_,hcl⟩:=fL.at hnx k hkn
      obtain⟨x,hx⟩:∃x,xs.getD k 0=x:=⟨_,rfl⟩
      obtain⟨y,hy⟩:∃y,ys.getD k 0=y:=⟨_,rfl⟩
      have bx:x<4294967296:=by rw[<-hx];exact lL.getD k
      have byy:y<4294967296:=by rw[<-hy];exact lS.getD k
      rw[hx]at hcl
      have HX:Hid (xs.getD k 0=x):=hx
      have HY:Hid (ys.getD k 0=y):=hy
      clear hx hy
      by_cases hkm:k<ys.length
      . obtain⟨bs,os,rfl,_,hcs⟩:=fS.at hnx k hkm
        rw[HY.out]at hcs
        go_wp2_with (at_builtin;refine zae rfl _ _ 128 rfl w.heap.size 250 i0 Tryz.underlying128 hi hz0 hz1 hz2 _ k zs rfl (hown.alloc _) wr.heap.size ((x+4294967296-cy-y)%4294967296) rfl (zas _ _ _ _ (by omega)) (by omega) (by simp;omega) ?_)
        intro v' w1 hown1 zaw
        have hb1:Below w.heap.size w w1:=(hnx.alloc hsz _).grown zaw (by simp;omega) (fun k hk=>(hown.lt k hk).1)
        clear hown;go_wp2
        go_roundw
        case rel =>
         exact⟨k+1,zs++[(x+4294967296-cy-y)%4294967296],1-(x+4294967296-cy-y)/4294967296,by omega,by go_num,zl7 (by omega),by omega,by simp[HZ.out],lz.snoc (by omega),zfr HZ.out HE.out HX.out HY.out (by omega) hcy byy bx,za1 hown1,hb1⟩
        case measure=>simp[intOf];omega
      . have y0:y=0:=by rw[<-HY.out];exact zbd _ _ (by omega)
        subst y0
        go_wp2_with (at_builtin;refine zae rfl _ _ 128 rfl w.heap.size 250 i0 Tryz.underlying128 hi hz0 hz1 hz2 _ k zs rfl (hown.alloc _) wr.heap.size ((x+4294967296-cy)%4294967296) rfl (zas _ _ _ _ (by omega)) (by omega) (by simp;omega) ?_)
        intro v' w1 hown1 zaw
        have hb1:Below w.heap.size w w1:=(hnx.alloc hsz _).grown zaw (by simp;omega) (fun k hk=>(hown.lt k hk).1)
        clear hown;go_wp2
        go_roundw
        case rel =>
         exact⟨k+1,zs++[(x+4294967296-cy)%4294967296],1-(x+4294967296-cy)/4294967296,by omega,by go_num,zl7 (by omega),by omega,by simp[HZ.out],lz.snoc (by omega),zfr HZ.out HE.out HX.out HY.out (by omega) hcy byy bx,za1 hown1,hb1⟩
        case measure=>simp[intOf];omega
    . obtain rfl:k=xs.length:=by omega
      obtain⟨a',cap',rfl,hres⟩:=Res.of lz hown
      clear hown
      go_wp2_with fail
      refine(zcb _ _ _ _ hres.rd (by rw[HZ.out];omega)).mono ?_
      rintro e w2 ⟨a2,c2,rfl,hr2,hb2⟩;go_wp2
      go_ret
      refine⟨a2,c2,_,rfl,?_,zap _,hr2.mono hsz,hnx.trans (hb2.mono hsz)⟩
      rw[zan]
      exact zpf lz HZ.out HE.out lL HV.out
theorem zoa{A B la lb n:Nat}(ha:A<2 ^ la)(hb:2 ^ (lb-1)<=B)(hlb:1<=lb)(hn:la-lb<=n):A<B*2 ^ (n+1):=by
 have h1:2 ^ (lb-1)*2 ^ (n+1)<=B*2 ^ (n+1):=Nat.mul_le_mul_right _ hb
 rw[<-Nat.pow_add]at h1
 have h2:2 ^ la<=2 ^ (lb-1+(n+1)):=Nat.pow_le_pow_right (by decide) (by omega)
 omega
theorem zql{Q:List Nat}(lQ:Lim Q){i:Nat}(h:V Q%2 ^ (i+1)=0):Q.getD (i/32) 0+2 ^ (i%32)<4294967296:=by
 have e:=zcn Q (i/32)
 have hd:=zbm (Q.drop (i/32))
 have hg:(Q.drop (i/32)).getD 0 0=Q.getD (i/32) 0:=by simp[List.getD]
 rw[hg]at hd
 have hl:V (Q.take (i/32))<4294967296 ^ (i/32):=by rw[zcz];exact Sv_lt (fun j _=>lQ.getD j)
 have hx:=lQ.getD (i/32)
 have hp:2 ^ (i+1)=4294967296 ^ (i/32)*2 ^ (i%32+1):=by rw[zhh,<-Nat.pow_add];congr 1;omega
 have hP:0<4294967296 ^ (i/32):=Nat.pow_pos (by decide)
 obtain⟨t,ht⟩:=Nat.dvd_of_mod_eq_zero h
 have h1:V (Q.drop (i/32))=2 ^ (i%32+1)*t:=by
  have:V Q/4294967296 ^ (i/32)=V (Q.drop (i/32)):=by rw[e,Nat.add_mul_div_left _ _ hP,Nat.div_eq_of_lt hl,Nat.zero_add]
  rw[<-this,ht,hp,Nat.mul_assoc,Nat.mul_div_cancel_left _ hP]
 have h32:(4294967296:Nat)=2 ^ (i%32+1)*2 ^ (31-i%32):=by rw[<-Nat.pow_add,show i%32+1+(31-i%32)=32 by omega]
 have hS:0<2 ^ (i%32):=Nat.pow_pos (by decide)
 generalize Q.getD (i/32) 0=x at *
 generalize V (Q.drop (i/32)).tail=T at *
 have h2:x%2 ^ (i%32+1)=0:=by
  have h3:(x+4294967296*T)%2 ^ (i%32+1)=0:=by rw[<-hd,h1,Nat.mul_mod_right]
  rw[h32,Nat.mul_assoc,Nat.add_mul_mod_self_left]at h3
  exact h3
 obtain⟨u,hu⟩:=Nat.dvd_of_mod_eq_zero h2
 rw[h32]at hx ⊢
 rw[Nat.pow_succ]at *
 generalize 2 ^ (i%32)=S at *
 generalize 2 ^ (31-i%32)=R at *
 rw[hu]at hx ⊢
 have hur:u<R:=Nat.lt_of_mul_lt_mul_left hx
 have h4:S*2*(u+1)<=S*2*R:=Nat.mul_le_mul_left _ hur
 rw[Nat.mul_add,Nat.mul_one]at h4
 omega
theorem zr4{Q:List Nat}{j d:Nat}(h:j<Q.length):V (Q.set j (Q.getD j 0+d))=V Q+4294967296 ^ j*d:=by
 have e1:=zcn (Q.set j (Q.getD j 0+d)) j
 have e2:=zcn Q j
 rw[zfo,zbg _ _ _ h,List.drop_set_of_lt (by omega),List.take_set_of_le (by omega)]at e1
 rw[zfo Q j]at e2;rw[e1,e2]
 generalize 4294967296 ^ j=p
 grind
theorem zpz{R B A Qv i:Nat}(hinv:R+B*Qv=A)(hge:B*2 ^ i<=R):(R-B*2 ^ i)+B*(Qv+2 ^ i)=A:=by
 rw[Nat.mul_add];omega
theorem zp0{R B i:Nat}(h:R<B*2 ^ (i+1))(hge:B*2 ^ i<=R):R-B*2 ^ i<B*2 ^ i:=by
 rw[Nat.pow_succ,<-Nat.mul_assoc]at h;omega
theorem zqh{v i:Nat}(h:v%2 ^ (i+1)=0):v%2 ^ i=0:=by
 obtain⟨t,ht⟩:=Nat.dvd_of_mod_eq_zero h
 rw[ht,Nat.pow_succ,Nat.mul_assoc,Nat.mul_mod_right]
theorem zk5{v i:Nat}(h:v%2 ^ (i+1)=0):(v+2 ^ i)%2 ^ i=0:=by
 rw[Nat.add_mod_right];exact zqh h
theorem Res.addr{e:TypeId}{base:Nat}{w:World}{a:Option Addr}{cap:Nat}{xs:List Nat}(h:Res e base w a cap xs)(g o:Nat)(ha:a=some ⟨g,o,none⟩):base<=g/\g<w.heap.size:=by
 rcases h.2.2 with ⟨h0,_⟩|⟨g',cap',cur,h1,h2,h3,_⟩
 . rw[ha]at h0;cases h0
 . rw[ha]at h1
   simp at h1
   rw[h1.1.1]
   exact⟨h2,(Array.getElem?_eq_some_iff.1 h3).1⟩
theorem Res.set_other{e:TypeId}{base k:Nat}{w:World}{a:Option Addr}{cap:Nat}{xs:List Nat}(h:Res e base w a cap xs)(hne:∀g o,a=some ⟨g,o,none⟩->g≠k)(i:Nat)(v:Value):Res e base (w.setCell ⟨k,i,none⟩ v) a cap xs:=by
 refine⟨h.1,h.2.1,?_⟩
 rcases h.2.2 with h0|⟨g,cap',cur,h1,h2,h3,h4⟩
 . exact .inl h0
 . have hg:g≠k:=hne g 0 (by simp at h1;exact h1.1)
   exact .inr ⟨g,cap',cur,h1,h2,(Below.heap_setCell w ⟨k,i,none⟩ v g hg).trans h3,h4⟩
theorem zvb(a:Option Addr)(cap n:Nat)(xs:List Nat)(w:World)(hn:n=xs.length)(h:Rd w a cap xs)(hl:xs.length<=1000000000) :
 Calls Tryz.prog 264 #[.slice a n cap] w fun e w'=>∃a' cap',e=.returned (.slice a' (strip xs).length cap')/\Res 250 w.heap.size w' a' cap' (strip xs)/\Below w.heap.size w w':=by
 subst hn;exact zcb a cap xs w h hl
theorem zfx(a:Option Addr)(cap:Nat)(xs:List Nat)(b:Option Addr)(cbp:Nat)(ys:List Nat)(w:World)(ha:Rd w a cap xs)(hb:Rd w b cbp ys)(hla:xs.length<=10000000)(hlb:ys.length<=10000000) :
 Calls Tryz.prog 214 #[.slice a xs.length cap,.slice b ys.length cbp] w fun e w' =>
     ∃a1 c1 z1 a2 c2 z2,e=.returned (.tuple #[.slice a1 z1.length c1,.slice a2 z2.length c2])/\V z1=V xs/V ys/\V z2=remN (V xs) (V ys)/\Tr z1/\Tr z2/\Res 250 w.heap.size w' a1 c1 z1/\Res 250 w.heap.size w' a2 c2 z2/\Below w.heap.size w w':=by
 obtain⟨i0,hi,hz0,hz1,hz2⟩:=info_parts zbb
 go_enter Tryz.func214,Tryz.ntmps214
 go_wp2_with fail
 refine(zcb _ _ xs _ ha (by omega)).mono ?_
 rintro e w1 ⟨aR,cR,rfl,hR1,hb1⟩
 have hs1:=hb1.size
 have ha1:=ha.below hb1
 have hb1r:=hb.below hb1
 have lx:=ha.lim
 have ly:=hb.lim
 clear ha
 go_wp2_with fail
 refine(zh6 _ _ ys _ hb1r (by omega)).mono ?_
 rintro e w' ⟨lb,rfl,hlb1,hlb2,hlb3,rfl⟩
 by_cases hlb0:lb=0
 . subst hlb0
   have hY0:V ys=0:=by simpa using hlb2
   have HY0:Hid (V ys=0):=hY0
   clear hY0 hlb2 hlb3;go_wp2
   go_ret2
   exact⟨none,0,[],none,0,[],rfl,by rw[HY0.out,Nat.div_zero];rfl,by rw[zjp _ HY0.out];rfl,zda,zda,⟨Lim.nil,World.ownsRow_nil _ _ _ _⟩,⟨Lim.nil,World.ownsRow_nil _ _ _ _⟩,hb1⟩
 . have hq:((lb:Int)==0)=false:=beq_eq_false_iff_ne.2 (by omega)
   have HLB:Hid (2 ^ (lb-1)<=V ys):=hlb3 (by omega)
   clear hlb2 hlb3
   go_wp2_with fail
   refine(zh6 _ _ xs _ ha1 (by omega)).mono ?_
   rintro e w' ⟨la,rfl,hla1,hla2,_,rfl⟩
   have HLA:Hid (V xs<2 ^ la):=hla2
   clear hla2
   go_wp2_with fail
   refine(zh6 _ _ ys _ hb1r (by omega)).mono ?_
   rintro e w' ⟨lb',rfl,hlb1',zvy,zyd,rfl⟩
   have zg4:0<V ys:=Nat.lt_of_lt_of_le (Nat.pow_pos (by decide)) HLB.out
   have zye:1<=lb':=by
    rcases Nat.eq_zero_or_pos lb' with h|h
    . rw[h]at zvy;simp at zvy;omega
    . exact h
   obtain⟨n,hn⟩:∃n,la-lb'=n:=⟨_,rfl⟩
   have hmx:max ((la:Int)-(lb':Int)) 0=(n:Int):=by omega
   have hnb:n<=320000000:=by omega
   have HST:Hid (V xs<V ys*2 ^ (n+1)):=zoa HLA.out (zyd zye) zye (by omega)
   have zy7:Hid (0<V ys):=zg4
   have HN32:Hid (n<=32*xs.length):=by show _<=_;omega
   clear zg4 zvy zyd hn HLB HLA
   go_wp2_with (at_make;refine wpList_make_full _ rfl _ _ 128 rfl w1.heap.size 250 i0 (.int .u32 0) 1 Tryz.underlying128 hi hz0 hz1 _ _ _ _ (n/32+1) rfl rfl (by omega) (by omega) (by rw[hz2];omega) (by unfold maxLen;omega) (Nat.le_refl _) ?_)
   intro u0 zc4 zbz
   have hb0:Below w1.heap.size w1 u0:=(Below.refl _ _).grown zbz (Nat.le_refl _) (fun k h=>by cases h)
   have hB0:=zf3 zc4
   have hR0:=hR1.below hb0
   have hbw0:Below w.heap.size w u0:=hb1.trans (hb0.mono hs1)
   have zym:∀g o,aR=some ⟨g,o,none⟩->g≠w1.heap.size:=fun g o e=>by have:=(hR1.addr g o e).2;omega
   have HAD:Hid (∀g o,aR=some ⟨g,o,none⟩->g≠w1.heap.size):=zym
   have HVS:Hid (V (strip xs)=V xs):=zan xs
   have tX:=zap xs
   clear zc4 zbz hmx zym
   generalize strip xs=X at hR0 hR1 HVS tX ⊢
   go_wp2
   go_loopw [6,9] (fun rv i wr=>∃(k:Nat) (q:Int) (aR:Option Addr) (cR:Nat) (R Q:List Nat),k<=n+1/\q=(k:Int)-1/\i=.int .i64 q/\rv=.slice aR R.length cR/\Tr R/\Res 250 w.heap.size wr aR cR R/\(∀g o,aR=some ⟨g,o,none⟩->g≠w1.heap.size) /\
       Q.length=n/32+1/\Lim Q/\Blk 250 wr w1.heap.size Q/\V R+V ys*V Q=V xs/\V R<V ys*2 ^ k/\V Q%2 ^ k=0/\Below w.heap.size w wr) (fun _ i _=>(intOf i+1).toNat)
   case atStart =>
    exact⟨n+1,_,aR,cR,X,List.replicate (n/32+1) 0,Nat.le_refl _,by omega,rfl,rfl,tX,hR0,HAD.out,List.length_replicate,fun x hx=>by rw[List.eq_of_mem_replicate hx];decide,hB0,by rw[zlz,Nat.mul_zero,Nat.add_zero];exact HVS.out,by rw[HVS.out];exact HST.out,by rw[zlz,Nat.zero_mod],hbw0⟩
   case round =>
    obtain⟨k,q,aR',cR',R,Q,hk,hqk,rfl,rfl,tR,hR,hadr,hQl,lQ,hB,hinv,zyc,zxc,hnx⟩:=hrel
    have HI:Hid (V R+V ys*V Q=V xs):=hinv
    have HL:Hid (V R<V ys*2 ^ k):=zyc
    have HM:Hid (V Q%2 ^ k=0):=zxc
    have HQ:Hid (Q.length=n/32+1):=hQl
    have HA:Hid (∀g o,aR'=some ⟨g,o,none⟩->g≠w1.heap.size):=hadr
    have hsz:=hnx.size
    have hRl:R.length<=xs.length:=zaj tR (Nat.lt_of_le_of_lt (by omega) (V_lt lx))
    clear hinv zyc zxc hQl hadr
    by_cases hk0:k=0
    . subst hk0
      obtain rfl:q=-1:=by omega
      clear hqk
      have hr:=hB.rd lQ 0 (n/32+1) (n/32+1) (by rw[HQ.out];omega) (Nat.le_refl _) (by unfold maxLen;omega)
      rw[List.drop_zero,List.take_of_length_le (by rw[HQ.out];exact Nat.le_refl _)]at hr
      go_wp2_with fail
      refine(zvb _ _ (n/32+1) Q _ HQ.out.symm hr (by rw[HQ.out];omega)).mono ?_
      rintro e v1 ⟨a1,c1,rfl,hr1,hv1⟩
      have hbv:Below w.heap.size w v1:=hnx.trans (hv1.mono hsz)
      have hR':=hR.below hv1
      go_wp2
      go_ret2
      have hl:=HL.out
      rw[Nat.pow_zero,Nat.mul_one]at hl
      have hi1:=HI.out
      refine⟨a1,c1,strip Q,aR',cR',R,rfl,?_,?_,zap _,tR,hr1.mono hsz,hR',hbv⟩
      . rw[zan,<-hi1,Nat.add_mul_div_left _ _ zy7.out,Nat.div_eq_of_lt hl,Nat.zero_add]
      . rw[zbx _ zy7.out,<-hi1,Nat.add_mul_mod_self_left,Nat.mod_eq_of_lt hl]
    . obtain⟨j,rfl⟩:∃j,k=j+1:=⟨k-1,by omega⟩
      obtain rfl:q=(j:Int):=by omega
      clear hqk
      go_wp2_with fail
      refine(zva _ _ ys j _ (hb.below hnx) (by omega) (by omega)).mono ?_
      rintro e v1 ⟨ax,cx,x,rfl,hxv,hxt,hxr,hv1⟩
      have zv4:Below w.heap.size w v1:=hnx.trans (hv1.mono hsz)
      have hR':=hR.below hv1
      have hB':=hB.below hv1
      have hxl:x.length<=ys.length+xs.length:=by
       refine zaj hxt ?_
       have h1:2 ^ j<=4294967296 ^ xs.length:=by rw[zhh];exact Nat.pow_le_pow_right (by decide) (by have:=HN32.out;omega)
       rw[hxv,Nat.pow_add]
       calc V ys*2 ^ j<=V ys*4294967296 ^ xs.length:=Nat.mul_le_mul_left _ h1
        _<4294967296 ^ ys.length*4294967296 ^ xs.length:=Nat.mul_lt_mul_of_pos_right (V_lt ly) (Nat.pow_pos (by decide))
      have HXV:Hid (V x=V ys*2 ^ j):=hxv
      clear hxv hR hB
      go_wp2_with fail
      refine(zeg _ _ _ _ _ _ _ hR'.rd hxr.rd).mono ?_
      rintro e v2 ⟨rfl,rfl⟩
      by_cases hge:V x<=V R
      . have hc:0<=cmpN (V R) (V x):=by unfold cmpN;rw[if_neg (by omega)];split <;> omega
        generalize cmpN (V R) (V x)=cc at hc ⊢
        have HGE:Hid (V ys*2 ^ j<=V R):=by show _<=_;rw[<-HXV.out];exact hge
        clear hge
        go_wp2_with fail
        refine(zh4 _ _ _ _ _ _ _ hR'.rd hxr.rd (by omega) (by omega)).mono ?_
        rintro e v2 ⟨a2,c2,R2,rfl,hv2,ht2,hr2,hb2⟩
        have zyi:Below w.heap.size w v2:=zv4.trans (hb2.mono zv4.size)
        have hB2:=hB'.below hb2
        have hBlt:=hB'.lt
        have HR2:Hid (V R2=V R-V ys*2 ^ j):=by show _=_;rw[hv2,HXV.out]
        have HA2:Hid (∀g o,a2=some ⟨g,o,none⟩->g≠w1.heap.size):=fun g o e=>by have:=(hr2.addr g o e).1;omega
        have hroom:=zql lQ HM.out
        have c2':=hB2.cell (j/32) (by rw[HQ.out];omega)
        have c3:=hB2.frozen (j/32)
        obtain⟨y,hy⟩:∃y,Q.getD (j/32) 0=y:=⟨_,rfl⟩
        obtain⟨S,hS⟩:∃S,2 ^ (j%32)=S:=⟨_,rfl⟩
        rw[hy,hS]at hroom;rw[hy]at c2'
        have HY:Hid (Q.getD (j/32) 0=y):=hy
        have HS:Hid (2 ^ (j%32)=S):=hS
        have hSi:(2:Int) ^ (j%32)=(S:Int):=by rw[<-hS];simp
        have hj32:j/32<n/32+1:=by omega
        clear hv2 hy hS hR' hxr hB'
        have HQV:Hid (V (Q.set (j/32) (y+S))=V Q+2 ^ j):=by
         show _=_
         rw[<-HY.out,zr4 (by rw[HQ.out];omega),<-HS.out,zhh,<-Nat.pow_add,show 32*(j/32)+j%32=j by omega]
        go_wp2
        go_roundw
        case rel =>
         exact⟨j,_,a2,c2,R2,Q.set (j/32) (y+S),by omega,rfl,by go_num,rfl,ht2,(hr2.mono zv4.size).set_other HA2.out _ _,HA2.out,by rw[List.length_set];exact HQ.out,lQ.set _ hroom,hB2.set _ _ _ (by rw[HQ.out];omega) (by omega),by rw[HR2.out,HQV.out];exact zpz HI.out HGE.out,by rw[HR2.out];exact zp0 HL.out HGE.out,by rw[HQV.out];exact zk5 HM.out,zyi.setCell hs1 _⟩
        case measure=>simp[intOf]
      . have hc:cmpN (V R) (V x)=-1:=by unfold cmpN;rw[if_pos (by omega)]
        rw[hc]
        have HLT:Hid (V R<V ys*2 ^ j):=by show _<_;rw[<-HXV.out];omega
        clear hc hge;go_wp2
        go_roundw
        case rel =>
         exact⟨j,_,aR',cR',R,Q,by omega,rfl,by go_num,rfl,tR,hR',HA.out,HQ.out,lQ,hB',HI.out,HLT.out,zqh HM.out,zv4⟩
        case measure=>simp[intOf]
theorem ze6(a:Option Addr)(cap:Nat)(xs:List Nat)(w:World)(h:Rd w a cap xs)(hl:xs.length<=1000000000) :
 Calls Tryz.prog 216 #[.slice a xs.length cap] w fun e w'=>e=.returned (.tuple #[.int .u64 (zge (V xs):Nat),.bool (zd4 (V xs))])/\Below w.heap.size w w':=by
 go_enter Tryz.func216,Tryz.ntmps216
 go_wp2_with fail
 refine(zcb a cap xs _ h hl).mono ?_
 rintro e w1 ⟨aT,cT,rfl,hT,hb1⟩
 have Xr:=hT.rd
 have tX:=zap xs
 clear h hT
 have HV:Hid (V (strip xs)=V xs):=zan xs
 generalize strip xs=X at Xr tX HV ⊢
 have k1:=Xr.le
 have k2:=Xr.cap
 unfold maxLen at k2
 have fX:=Xr.fm
 have lX:=Xr.lim
 clear Xr
 by_cases hl:2<X.length
 . have HG:Hid (¬V xs<18446744073709551616):=by show ¬_;rw[<-HV.out];exact zht tX hl
   go_wp2
   go_ret2
   exact⟨by rw[zbo HG.out,zbi HG.out];rfl,hb1⟩
 . have HG:Hid (V xs<18446744073709551616):=by show _<_;rw[<-HV.out];exact zi4 lX (by omega)
   go_wp2
   go_loop [5,6] (fun n i=>∃(k m:Nat) (q:Int),k<=X.length/\q=(k:Int)-1/\i=.int .i64 q/\n=.int .u64 m/\m=V (X.drop k)) (fun _ i=>(intOf i+1).toNat)
   case atStart=>exact⟨X.length,0,_,Nat.le_refl _,rfl,rfl,rfl,by simp[V]⟩
   case round =>
    obtain⟨k,m,q,hk,hq,rfl,rfl,hm⟩:=hrel
    have HM:Hid (m=V (X.drop k)):=hm
    clear hm
    by_cases hk0:k=0
    . subst hk0
      obtain rfl:q=-1:=by omega
      clear hq;go_wp2
      go_ret2
      refine⟨?_,hb1⟩
      rw[zaz HG.out,zau HG.out,<-HV.out]
      have:=HM.out
      rw[List.drop_zero]at this;rw[<-this]
      rfl
    . obtain⟨j,rfl⟩:∃j,k=j+1:=⟨k-1,by omega⟩
      obtain rfl:q=(j:Int):=by omega
      clear hq
      obtain⟨bl,ol,rfl,_,hcx⟩:=fX.at (Below.refl _ _) j (by omega)
      obtain⟨x,hx⟩:∃x,X.getD j 0=x:=⟨_,rfl⟩
      have bx:x<4294967296:=by rw[<-hx];exact lX.getD j
      rw[hx]at hcx
      have hd:=zfo X j
      rw[hx,<-HM.out]at hd
      have hlt:V (X.drop j)<18446744073709551616:=zi4 (lX.drop j) (by simp;omega)
      have hb2:x+4294967296*m<18446744073709551616:=by omega
      have HD:Hid (V (X.drop j)=x+4294967296*m):=hd
      clear hx hd hlt;go_wp2
      go_round
      case rel=>exact⟨j,m*4294967296+x,_,by omega,rfl,by go_num,congrArg (Value.int .u64) (by omega),by rw[HD.out];omega⟩
      case measure=>simp[intOf]
theorem zh7(a:Option Addr)(cap:Nat)(xs:List Nat)(b:Option Addr)(cbp:Nat)(ys:List Nat)(w:World)(ha:Rd w a cap xs)(hb:Rd w b cbp ys)(hla:xs.length<=10000000)(hlb:ys.length<=10000000) :
 Calls Tryz.prog 223 #[.slice a xs.length cap,.slice b ys.length cbp] w fun e w' =>
     ∃a' cap' zs,e=.returned (.slice a' zs.length cap')/\V zs=Nat.gcd (V xs) (V ys)/\Tr zs/\Res 250 w.heap.size w' a' cap' zs/\Below w.heap.size w w':=by
 go_enter Tryz.func223,Tryz.ntmps223
 go_wp2_with fail
 refine(zcb _ _ xs _ ha (by omega)).mono ?_
 rintro e w1 ⟨a1,c1,rfl,hr1,hb1⟩
 have hs1:=hb1.size
 go_wp2_with fail
 refine(zcb _ _ ys _ (hb.below hb1) (by omega)).mono ?_
 rintro e w2 ⟨a2,c2,rfl,hr2,hb2⟩
 have hr1':=hr1.below hb2
 have hbw2:Below w.heap.size w w2:=hb1.trans (hb2.mono hs1)
 have HV:Hid (V (strip xs)=V xs/\V (strip ys)=V ys):=⟨zan xs,zan ys⟩
 have t1:=zap xs
 have t2:=zap ys
 have l1:=zah xs
 have l2:=zah ys
 generalize strip xs=X0 at hr1 hr1' HV t1 l1 ⊢
 generalize strip ys=Y0 at hr2 HV t2 l2 ⊢
 clear ha hb hr1;go_wp2
 go_loopg [5,6] (V Y0) (fun k p q wr=>∃(aA:Option Addr) (cA:Nat) (X:List Nat) (aB:Option Addr) (cB:Nat) (Y:List Nat),p=.slice aA X.length cA/\q=.slice aB Y.length cB/\X.length<=10000000/\Y.length<=10000000/\V Y=k/\Tr X/\Tr Y/\Res 250 w.heap.size wr aA cA X/\Res 250 w.heap.size wr aB cB Y/\Nat.gcd (V X) (V Y)=Nat.gcd (V xs) (V ys)/\Below w.heap.size w wr)
 case atStart=>exact⟨a1,c1,X0,a2,c2,Y0,rfl,rfl,by omega,by omega,rfl,t1,t2,hr1',hr2.mono hs1,by rw[HV.out.1,HV.out.2],hbw2⟩
 case round =>
  obtain⟨aA,cA,X,aB,cB,Y,rfl,rfl,hX,hY,hk,tX,tY,rX,rY,hg,hnx⟩:=hrel
  have HG:Hid (Nat.gcd (V X) (V Y)=Nat.gcd (V xs) (V ys)):=hg
  have HK:Hid (V Y=gk):=hk
  have hsz:=hnx.size
  clear hg hk
  by_cases hy0:Y.length=0
  . have HY:Hid (V Y=0):=by show _=_;rw[List.length_eq_zero_iff.1 hy0];rfl
    have hyl:¬(0:Int)<(Y.length:Int):=by omega
    clear hy0;go_wp2
    go_ret
    refine⟨aA,cA,X,rfl,?_,tX,rX,hnx⟩
    rw[<-HG.out,HY.out,Nat.gcd_zero_right]
  . have hyl:(0:Int)<(Y.length:Int):=by omega
    have zg4:0<V Y:=by
     rcases Nat.eq_zero_or_pos (V Y)with h|h
     . exact absurd (by rw[zcm tY h];rfl) hy0
     . exact h
    have zy7:Hid (0<V Y):=zg4
    clear hy0 zg4
    go_wp2_with fail
    refine(zfx _ _ _ _ _ _ _ rX.rd rY.rd hX hY).mono ?_
    rintro e v1 ⟨b1,d1,z1,b2,d2,z2,rfl,hv1,hv2,ht1,ht2,hq1,hq2,hb3⟩;rw[zbx _ zy7.out]at hv2
    have hlt:V z2<V Y:=by rw[hv2];exact Nat.mod_lt _ zy7.out
    have HLT:Hid (V z2<gk):=by show _<_;rw[<-HK.out];exact hlt
    have hl2:z2.length<=Y.length:=by
     rcases Nat.lt_or_ge Y.length z2.length with h|h
     . have:=za2 rY.lim ht2 h;omega
     . exact h
    have HG2:Hid (Nat.gcd (V Y) (V z2)=Nat.gcd (V xs) (V ys)):=by show _=_;rw[hv2,zfz];exact HG.out
    have rY':=rY.below hb3
    have hbw:Below w.heap.size w v1:=hnx.trans (hb3.mono hsz)
    clear hv1 hv2 hlt hq1 rX;go_wp2
    go_roundg (V z2)
    case measure=>exact HLT.out
    case rel=>exact⟨aB,cB,Y,b2,d2,z2,rfl,rfl,hY,by omega,rfl,tY,ht2,rY',hq2.mono hsz,HG2.out,hbw⟩
theorem zk0(n:Nat)(w:World)(hn:n<18446744073709551616) :
 Calls Tryz.prog 224 #[.int .u64 (n:Int)] w fun e w'=>∃a cap ys,e=.returned (.slice a ys.length cap)/\V ys=n/\Tr ys/\Res 250 w.heap.size w' a cap ys/\Below w.heap.size w w':=by
 obtain⟨i0,hi,hz0,hz1,hz2⟩:=info_parts zbb
 go_enter Tryz.func224,Tryz.ntmps224
 go_wp2
 go_loopw [0,3] (fun s out wr=>∃(k m:Nat) (zs:List Nat),s=.int .u64 m/\m<18446744073709551616/\k=zs.length/\k<=2/\(k=2->m=0)/\(k=1->m<4294967296)/\Lim zs/\(m=0->Tr zs)/\V zs+4294967296 ^ k*m=n/\wr.ownsRow w.heap.size 250 1 out k (zs.map U)/\Below w.heap.size w wr) (fun s _ _=>(intOf s).toNat)
 case atStart=>exact⟨0,n,[],rfl,hn,rfl,by decide,fun h=>by omega,fun h=>by omega,Lim.nil,fun _=>zda,by simp[V],World.ownsRow_nil _ _ _ _,Below.refl _ _⟩
 case round =>
  obtain⟨k,m,zs,rfl,hm,hkz,hk2,hm2,hm1,lz,htr,heq,hown,hnx⟩:=hrel
  have HE:Hid (V zs+4294967296 ^ k*m=n):=heq
  have HZ:Hid (k=zs.length):=hkz
  have H2:Hid ((k=2->m=0)/\(k=1->m<4294967296)):=⟨hm2,hm1⟩
  have HT:Hid (m=0->Tr zs):=htr
  have hsz:=hnx.size
  clear heq hkz hm2 hm1 htr
  by_cases hm0:m=0
  . subst hm0
    obtain⟨a',cap',rfl,hres⟩:=Res.of lz hown
    clear hown;go_wp2
    go_ret
    refine⟨a',cap',zs,rfl,?_,HT.out (by first | rfl | trivial),hres,hnx⟩
    have:=HE.out;omega
  . have hp:1<=m:=by omega
    have hk1:k<=1:=by have:=H2.out.1;omega
    go_wp2_with (at_builtin;refine zae rfl _ _ 128 rfl w.heap.size 250 i0 Tryz.underlying128 hi hz0 hz1 hz2 _ k zs rfl (hown.alloc _) wr.heap.size (m%4294967296) rfl (zas _ _ _ _ (by omega)) (by omega) (by simp;omega) ?_)
    intro v' w1 hown1 zaw
    have hb1:Below w.heap.size w w1:=(hnx.alloc hsz _).grown zaw (by simp;omega) (fun k hk=>(hown.lt k hk).1)
    clear hown;go_wp2
    go_roundw
    case rel =>
     refine⟨k+1,m/4294967296,zs++[m%4294967296],by go_num,by omega,by rw[HZ.out];simp,by omega,fun h=>by have:=H2.out.2;omega,fun h=>by omega,lz.snoc (by omega),fun h=>zu0 (by omega),?_,za1 hown1,hb1⟩
     rw[zex,<-HZ.out,<-HE.out,Nat.pow_succ]
     have hd:=Nat.mod_add_div m 4294967296
     generalize m%4294967296=r at hd ⊢
     generalize m/4294967296=d at hd ⊢
     subst hd
     grind
    case measure=>simp[intOf];omega
