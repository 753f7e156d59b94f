import Derived.Deep.CutBlock
import Derived.Test.YtkmcodofnckdmaaGreatZK23
import Derived.Test.YtkmcodofnckdmaaGreatZK24
import Derived.WalkSpells
import Derived.Deep.OwnRows
set_option maxHeartbeats 4000000
set_option maxRecDepth 100000
set_option linter.unusedSimpArgs false
set_option linter.unusedVariables false
namespace Go.Proofs.YtkmcodofnckdmaaGreat
open Go.RowKit Go.Maps
theorem zhs(z:Int):I64 (wrap64 z):=by
 unfold I64 wrap64
 omega
theorem ztw(a:OA)(ca:Nat)(b:OA)(cb:Nat)(s:Sr)(w:World)(hg:Tzz w a ca s.rg)(hm:Rii w b cb s.rw) :
 Calls Tryz.prog 30 #[.agg #[.slice a s.rg.length ca,.slice b s.rw.length cb]] w fun e w'=>∃q:Bool,e=.returned (.bool q)/\(q=true->s.rg.length<=20/\∀l∈s.rg,l.length<=8)/\Below w.heap.size w w':=by
 have k1:=hg.lenB
 have k2:=hm.lenB
 have HG:Hid (Tzz w a ca s.rg):=hg
 have HM:Hid (Rii w b cb s.rw):=hm
 clear hg hm
 obtain⟨W,hW,X1,hbW⟩:∃W,W=w.alloc (.cells #[.slice a s.rg.length ca,.slice b s.rw.length cb] 26)/\BxS W w.heap.size (.slice a s.rg.length ca) (.slice b s.rw.length cb)/\Below w.heap.size w W:=⟨_,rfl,BxS.new _ _ _,bl1 _⟩
 go_enter Tryz.func30,Tryz.ntmps30
 go_upto_block 0 with fail
 rw[<-hW];clear hW
 go_cut [3]from 4 to 26 (fun v wr=>∃z:Int,v=.int .i64 z/\I64 z/\BxS wr w.heap.size (.slice a s.rg.length ca) (.slice b s.rw.length cb)/\Below w.heap.size w wr)
 case first =>
  go_wp2_with fail
  go_loopw [3,4] (fun v i wr=>∃(k:Nat) (z:Int),k<=s.rg.length/\v=.int .i64 z/\I64 z/\i=.int .i64 k/\BxS wr w.heap.size (.slice a s.rg.length ca) (.slice b s.rw.length cb)/\Below w.heap.size w wr) (fun _ i _=>s.rg.length-(intOf i).toNat)
  case atStart=>exact⟨0,0,Nat.zero_le _,rfl,⟨by decide,by decide⟩,rfl,X1,hbW⟩
  case round =>
   clear X1 hbW;obtain⟨k,z,hk,rfl,hz,rfl,X1,hbW⟩:=hrel;obtain⟨p0,p1,_⟩:=X1.cells
   by_cases hkn:k<s.rg.length
   . have g1:decide ((k:Int)<(s.rg.length:Int))=true:=decide_eq_true (by omega)
     by_cases hz2:z<=2000
     . have g2:decide (z<=2000)=true:=decide_eq_true hz2
       obtain⟨b1,o1,a1,c1,ea,_,d0,hp⟩:=HG.out.at hbW k hkn
       have hpl:=hp.lenB
       generalize (s.rg.getD k []).length=n1 at *
       subst ea;clear hp hkn
       have i1:(0:Int)<=(k:Int):=by omega
       have i2:(k:Int)<(s.rg.length:Int):=of_decide_eq_true g1
       have HZ:Hid (∀y:Int,I64 (wrap64 y)):=zhs
       go_wp2_with fail
       go_roundw
       case rel=>exact⟨k+1,_,by omega,rfl,HZ.out _,by go_num,X1,hbW⟩
       case measure=>simp[intOf];omega
     . have g2:decide (z<=2000)=false:=decide_eq_false hz2
       have i2:(k:Int)<(s.rg.length:Int):=by omega
       clear hkn
       go_wp2_with fail
       go_meet
       exact⟨z,rfl,hz,X1,hbW⟩
   . have g1:decide ((k:Int)<(s.rg.length:Int))=false:=decide_eq_false (by omega)
     have i2:¬(k:Int)<(s.rg.length:Int):=by omega
     clear hkn
     go_wp2_with fail
     go_meet
     exact⟨z,rfl,hz,X1,hbW⟩
 case rest =>
  clear X1 hbW;obtain⟨z0,rfl,hzz0,X1,hbW⟩:=hcut
  go_upto_block 2 with fail
  go_cut [3]from 4 to 46 (fun v wr=>∃z:Int,v=.int .i64 z/\I64 z/\BxS wr w.heap.size (.slice a s.rg.length ca) (.slice b s.rw.length cb)/\Below w.heap.size w wr)
  case first =>
   go_wp2_with fail
   go_loopw [3,5] (fun v i wr=>∃(k:Nat) (z:Int),k<=s.rw.length/\v=.int .i64 z/\I64 z/\i=.int .i64 k/\BxS wr w.heap.size (.slice a s.rg.length ca) (.slice b s.rw.length cb)/\Below w.heap.size w wr) (fun _ i _=>s.rw.length-(intOf i).toNat)
   case atStart=>exact⟨0,z0,Nat.zero_le _,rfl,hzz0,rfl,X1,hbW⟩
   case round =>
    clear X1 hbW;obtain⟨k,z,hk,rfl,hz,rfl,X1,hbW⟩:=hrel;obtain⟨p0,p1,_⟩:=X1.cells
    by_cases hkn:k<s.rw.length
    . have g1:decide ((k:Int)<(s.rw.length:Int))=true:=decide_eq_true (by omega)
      by_cases hz2:z<=2000
      . have g2:decide (z<=2000)=true:=decide_eq_true hz2
        obtain⟨b1,o1,a1,c1,ea,_,d0,hp⟩:=HM.out.at hbW k hkn
        have hpl:=hp.lenB
        generalize (s.rw.getD k []).length=n1 at *
        subst ea;clear hp hkn
        have i1:(0:Int)<=(k:Int):=by omega
        have i2:(k:Int)<(s.rw.length:Int):=of_decide_eq_true g1
        have HZ:Hid (∀y:Int,I64 (wrap64 y)):=zhs
        go_wp2_with fail
        go_roundw
        case rel=>exact⟨k+1,_,by omega,rfl,HZ.out _,by go_num,X1,hbW⟩
        case measure=>simp[intOf];omega
      . have g2:decide (z<=2000)=false:=decide_eq_false hz2
        have i2:(k:Int)<(s.rw.length:Int):=by omega
        clear hkn
        go_wp2_with fail
        go_meet
        exact⟨z,rfl,hz,X1,hbW⟩
    . have g1:decide ((k:Int)<(s.rw.length:Int))=false:=decide_eq_false (by omega)
      have i2:¬(k:Int)<(s.rw.length:Int):=by omega
      clear hkn
      go_wp2_with fail
      go_meet
      exact⟨z,rfl,hz,X1,hbW⟩
  case rest =>
   clear X1 hbW hzz0;obtain⟨z1,rfl,hzz1,X1,hbW⟩:=hcut
   go_wp2_with fail
   go_loopw [6] (fun i wr=>∃k:Nat,k<=s.rg.length/\i=.int .i64 k/\(∀j,j<k->(s.rg.getD j []).length<=8)/\BxS wr w.heap.size (.slice a s.rg.length ca) (.slice b s.rw.length cb)/\Below w.heap.size w wr) (fun i _=>s.rg.length-(intOf i).toNat)
   case atStart=>exact⟨0,Nat.zero_le _,rfl,(fun j hj=>by omega),X1,hbW⟩
   case round =>
    clear X1 hbW;obtain⟨k,hk,rfl,hok,X1,hbW⟩:=hrel
    have HOK:Hid (∀j,j<k->(s.rg.getD j []).length<=8):=hok
    clear hok;obtain⟨p0,p1,_⟩:=X1.cells
    by_cases hkn:k<s.rg.length
    . obtain⟨b1,o1,a1,c1,ea,_,d0,hp⟩:=HG.out.at hbW k hkn
      have hpl:=hp.lenB
      obtain⟨n1,hn1⟩:∃n1,(s.rg.getD k []).length=n1:=⟨_,rfl⟩
      have HN:Hid ((s.rg.getD k []).length=n1):=hn1
      rw[hn1]at d0 hpl;subst ea;clear hp hn1
      by_cases h8:8<n1
      . have g3:(8:Int)<(n1:Int):=by omega
        go_wp2
        go_ret
        exact⟨false,rfl,(fun h=>by cases h),hbW⟩
      . have g3:¬(8:Int)<(n1:Int):=by omega
        have zea:Hid (∀j,j<k+1->(s.rg.getD j []).length<=8):=fun j hj=>by
         rcases Nat.lt_or_ge j k with h1|h1
         . exact HOK.out j h1
         . rw[show j=k by omega,HN.out];omega
        go_wp2
        go_roundw
        case rel=>exact⟨k+1,by omega,by go_num,zea.out,X1,hbW⟩
        case measure=>simp[intOf];omega
    . obtain rfl:k=s.rg.length:=by omega
      have HA:Hid (∀l∈s.rg,l.length<=8):=fun l hl=>by
       obtain⟨i,hi,e⟩:=List.getElem_of_mem hl
       have:=HOK.out i hi
       rw[getL hi,e]at this
       exact this
      by_cases hz2:z1<=2000
      . have g2:decide (z1<=2000)=true:=decide_eq_true hz2
        go_wp2
        go_ret
        exact⟨_,rfl,(fun h=>⟨by have:=of_decide_eq_true h;omega,HA.out⟩),hbW⟩
      . have g2:decide (z1<=2000)=false:=decide_eq_false hz2
        go_wp2
        exact bodyPost_ret (v:=.bool false) (by simp[results,Tryz.results30,go_sem]) rfl (by first | exact⟨false,rfl,(fun h=>by cases h),hbW⟩ | exact .inl ⟨rfl,hbW⟩)
structure zzt(P:Prop)(e:Ending):Prop where
 out:∃q:Bool,e=.returned (.bool q)/\(q=true->P)
def FewG(l:List Gl):Prop:=l.length<=40/\∀x∈l,x.o.cs.flatten.length<=1000/\x.o.ps.length<=12/\x.ts.length<=30
theorem FewG.ps{l:List Gl}(h:FewG l):∀x∈l,x.o.ps.length<=12:=fun x hx=>(h.2 x hx).2.1
theorem FewG.ts{l:List Gl}(h:FewG l):∀x∈l,x.ts.length<=30:=fun x hx=>(h.2 x hx).2.2
theorem zrk(S:Nat->Prop)(a:OA)(ca:Nat)(l:List Gl)(w:World)(hl:Gr GlE S w a ca l) :
 Calls Tryz.prog 29 #[.slice a l.length ca] w fun e w'=>zzt (FewG l) e/\Below w.heap.size w w':=by
 have kl:=hl.lenB
 have HL:Hid (Gr GlE S w a ca l):=hl
 clear hl
 by_cases hn:40<l.length
 . have g1:(40:Int)<(l.length:Int):=by omega
   go_enter Tryz.func29,Tryz.ntmps29
   go_wp2
   go_ret
   exact⟨⟨⟨false,rfl,(fun h=>by cases h)⟩⟩,Below.refl _ _⟩
 have g1:¬(40:Int)<(l.length:Int):=by omega
 go_enter Tryz.func29,Tryz.ntmps29
 go_wp2;clear g1
 go_loopw [3,4] (fun nv i wr=>∃(k:Nat) (z:Int),k<=l.length/\i=.int .i64 k/\nv=.int .i64 z/\Hid (∀j,j<k->(l.getD j Gl.none).o.cs.flatten.length<=1000/\(l.getD j Gl.none).o.ps.length<=12/\(l.getD j Gl.none).ts.length<=30)/\Below w.heap.size w wr) (fun _ i _=>l.length-(intOf i).toNat)
 case atStart=>exact⟨0,0,Nat.zero_le _,rfl,rfl,(fun j hj=>by omega),Below.refl _ _⟩
 case round =>
  obtain⟨k,z,hk,rfl,rfl,HOK,hB⟩:=hrel
  by_cases hkn:k<l.length
  . obtain⟨b1,off,xa,xc,pa,pc,ta,tc,ea,hb1,hGC,c0,c1,c2,-⟩:=HL.out.gl hB k hkn
    subst ea
    obtain⟨x,hx⟩:∃x,l.getD k Gl.none=x:=⟨_,rfl⟩
    have HX:Hid (l.getD k Gl.none=x):=hx
    rw[hx]at hGC c0 c1 c2
    have i1:(0:Int)<=(k:Int):=by omega
    have i2:(k:Int)<(l.length:Int):=by omega
    have kcs:=hGC.cs.lenB
    have kps:=hGC.ps.lenB
    have kts:=hGC.ts.lenB
    have hb1w:b1<wr.heap.size:=Nat.lt_of_lt_of_le hb1 hB.size
    have h1:=zrj S xa xc pa pc x.o wr hGC.cs hGC.ps
    have h2:=fun U (hU:Below wr.heap.size wr U)=>zri S ta tc x.ts U (hGC.below hU).ts
    have h3:=fun U (hU:Below wr.heap.size wr U) (hf:x.o.cs.flatten.length<=100000)=>zj5 S xa xc (.slice pa x.o.ps.length pc) x.o.cs U (hGC.below hU).cs hf rfl
    clear hx hGC
    cases hf1:fewB x.o with
    | false =>
     rw[hf1]at h1;clear hf1 h2 h3
     go_wp2_with fail
     refine h1.mono ?_
     rintro e u1 ⟨rfl,hb⟩
     replace hB:=hB.trans (hb.mono hB.size)
     clear h1 hb;go_wp2
     go_ret
     exact⟨⟨⟨false,rfl,(fun h=>by cases h)⟩⟩,hB⟩
    | true =>
    rw[hf1]at h1
    have hf9:=(z2z hf1).2.1
    clear hf1
    go_wp2_with fail
    refine h1.mono ?_
    rintro e u1 ⟨rfl,hb⟩;clear h1
    replace c0:=(hb.cell (p:=⟨b1,off+k*6,none⟩) hb1w).trans c0
    replace c1:=(hb.cell (p:=⟨b1,off+k*6+1,none⟩) hb1w).trans c1
    replace c2:=(hb.cell (p:=⟨b1,off+k*6+2,none⟩) hb1w).trans c2
    have hB1:=hB.trans (hb.mono hB.size)
    have h2':=h2 _ hb
    cases hf2:fewT x.ts with
    | false =>
     rw[hf2]at h2';clear hf2 h2 h3 hb
     go_wp2_with fail
     refine h2'.mono ?_
     rintro e u2 ⟨rfl,hb⟩
     replace hB1:=hB1.trans (hb.mono hB1.size)
     clear h2' hb;go_wp2
     go_ret
     exact⟨⟨⟨false,rfl,(fun h=>by cases h)⟩⟩,hB1⟩
    | true =>
    rw[hf2]at h2'
    have htn:=(z2y hf2).1
    clear hf2 h2
    go_wp2_with fail
    refine h2'.mono ?_
    rintro e u2 ⟨rfl,hb2⟩
    have hus:=hb.size
    replace c0:=(hb2.cell (p:=⟨b1,off+k*6,none⟩) (by show b1<_;omega)).trans c0
    replace c1:=(hb2.cell (p:=⟨b1,off+k*6+1,none⟩) (by show b1<_;omega)).trans c1
    replace c2:=(hb2.cell (p:=⟨b1,off+k*6+2,none⟩) (by show b1<_;omega)).trans c2
    have hB2:=hB1.trans (hb2.mono hB1.size)
    have hb3:=hb.trans (hb2.mono hb.size)
    have hus2:=hb2.size
    clear h2' hb hb2 hB1 hB
    by_cases hp:12<x.o.ps.length
    . have g2:decide ((12:Int)<(x.o.ps.length:Int))=true:=decide_eq_true (by omega)
      have g3:(12:Int)<(x.o.ps.length:Int):=by omega
      clear h3 hb3;go_wp2
      go_ret
      exact⟨⟨⟨false,rfl,(fun h=>by cases h)⟩⟩,hB2⟩
    have g2:decide ((12:Int)<(x.o.ps.length:Int))=false:=decide_eq_false (by omega)
    have zea:Hid (∀j,j<k+1->(l.getD j Gl.none).o.cs.flatten.length<=1000/\(l.getD j Gl.none).o.ps.length<=12/\(l.getD j Gl.none).ts.length<=30):=fun j hj=>by
     rcases Nat.lt_or_ge j k with h1|h1
     . exact HOK.out j h1
     . rw[show j=k by omega,HX.out];exact⟨hf9,by omega⟩
    have hpo:=fun U hU=>h3 U (hb3.trans (Below.mono hU hb3.size)) (by omega)
    clear h3 HOK HX
    go_upto_region 9 with fail
    refine wp_region_held_drew (S:=fun w9=>w9.cell? ⟨b1,off+k*6,none⟩=some (.slice xa x.o.cs.length xc)/\w9.cell? ⟨b1,off+k*6+1,none⟩=some (.slice pa x.o.ps.length pc)/\w9.cell? ⟨b1,off+k*6+2,none⟩=some (.slice ta x.ts.length tc)) (by kernel_rfl) ?_ (fun hH=>?_)
    . (try dsimp only)
      go_keep
    have hdr:Below u2.heap.size u2 u2.drew:=Below.drew1
    have hpo2:=hpo _ hdr
    generalize u2.drew=Z at hdr hH hpo2 ⊢
    replace c0:=(hdr.cell (p:=⟨b1,off+k*6,none⟩) (by show b1<_;omega)).trans c0
    replace c1:=(hdr.cell (p:=⟨b1,off+k*6+1,none⟩) (by show b1<_;omega)).trans c1
    replace c2:=(hdr.cell (p:=⟨b1,off+k*6+2,none⟩) (by show b1<_;omega)).trans c2
    replace hB2:=hB2.trans (hdr.mono hB2.size)
    have hzs:=hdr.size
    clear hdr hpo hb3;refine hT 0 hH ?_;refine hT 1 hH ?_;refine hT 2 hH ?_;refine hT 3 hH ?_;refine hT 4 hH ?_;refine hT 5 hH ?_;refine hT 8 hH ?_;refine hT 9 hH ?_;refine hT 10 hH ?_;refine hT 11 hH ?_;refine hT 12 hH ?_;refine hT 13 hH ?_;refine hT 14 hH ?_
    refine hCall (i:=6) rfl (by kernel_rfl) (by rfl) (fun K hK=>?_)
    go_simp
    refine hpo2.mono ?_
    rintro e u3 ⟨a8,c8,rfl,-,-,hb⟩
    replace c0:=(hb.cell (p:=⟨b1,off+k*6,none⟩) (by show b1<_;omega)).trans c0
    replace c1:=(hb.cell (p:=⟨b1,off+k*6+1,none⟩) (by show b1<_;omega)).trans c1
    replace c2:=(hb.cell (p:=⟨b1,off+k*6+2,none⟩) (by show b1<_;omega)).trans c2
    replace hB2:=hB2.trans (hb.mono hB2.size)
    clear hb hpo2
    go_wp2_with fail
    refine hK.out _ _ ?_ (fun hH=>?_)
    . (try dsimp only)
      exact⟨c0,c1,c2⟩
    clear hK K
    try simp only[Act.put,pZ]
    refine hT 7 hH ?_;refine hT 15 hH ?_;refine hT 16 hH ?_;refine hT 17 hH ?_
    refine wpAnyH_done (by kernel_rfl) ?_ _
    clear hH c0 c1 c2;go_wp2
    go_roundw
    case rel=>exact⟨k+1,_,by omega,by go_num,rfl,zea,hB2⟩
    case measure=>simp[intOf];omega
  . have ek:k=l.length:=by omega
    have g4:¬(k:Int)<(l.length:Int):=by omega
    have HF:Hid (FewG l):=⟨by omega,znv (d:=Gl.none) (fun j hj=>HOK.out j (by omega))⟩
    clear HOK;go_wp2
    go_ret
    exact⟨⟨⟨_,rfl,fun _=>HF.out⟩⟩,hB⟩
theorem ztv(S:Nat->Prop)(a:OA)(ca:Nat)(l:List Gl)(ga:OA)(gc:Nat)(ma:OA)(mc:Nat)(s:Sr)(ax:Int)(pa:OA)(pn pc:Nat)(w:World)(hl:Gr GlE S w a ca l)(hg:Tzz w ga gc s.rg)(hm:Rii w ma mc s.rw)(hpn:pn<=9223372036854775807) :
 Calls Tryz.prog 10 #[.agg #[.slice a l.length ca,.slice ga s.rg.length gc,.slice ma s.rw.length mc,.int .i64 ax],.slice pa pn pc] w fun e w'=>zzt (FewG l/\s.rg.length<=20/\(∀l∈s.rg,l.length<=8)/\pn<=20) e/\Below w.heap.size w w':=by
 obtain⟨W,hW,X1,hbW⟩:∃W,W=w.alloc (.cells #[.slice a l.length ca,.slice ga s.rg.length gc,.slice ma s.rw.length mc,.int .i64 ax] 28)/\Bk 28 W w.heap.size [.slice a l.length ca,.slice ga s.rg.length gc,.slice ma s.rw.length mc,.int .i64 ax]/\Below w.heap.size w W:=⟨_,rfl,Bk.new _ _ _,bl1 _⟩
 obtain⟨p0,p1,p2,p3,_⟩:=X1.four
 have c1:=zrk S a ca l W (hl.below hbW)
 have c2:=fun U (hb:Below W.heap.size W U)=>ztw ga gc ma mc s U ((hg.below hbW).below hb) ((hm.below hbW).below hb)
 clear hl hg hm
 go_enter Tryz.func10,Tryz.ntmps10
 go_upto_region 1 with fail
 rw[<-hW];clear hW
 go_wp2_with fail
 refine c1.mono ?_
 rintro e m1 ⟨⟨⟨q1,rfl,HF1⟩⟩,hb1⟩
 replace HF1:Hid (q1=true->FewG l):=HF1
 replace X1:=X1.below hb1;clear p0 p1 p2 p3 c1;obtain⟨p0,p1,p2,p3,_⟩:=X1.four
 cases q1 with
 | false =>
  have zau:=hbW.trans (hb1.mono hbW.size)
  clear c2;go_wp2
  go_ret
  exact⟨⟨⟨false,rfl,(fun h=>by cases h)⟩⟩,zau⟩
 | true =>
 have HG1:Hid (FewG l):=HF1.out rfl
 clear HF1
 go_wp2_with fail
 refine(c2 _ hb1).mono ?_
 rintro e m2 ⟨q2,rfl,HF2,hb2⟩
 replace HF2:Hid (q2=true->s.rg.length<=20/\∀l∈s.rg,l.length<=8):=HF2
 have zau:=(hbW.trans (hb1.mono hbW.size)).trans (hb2.mono (Nat.le_trans hbW.size hb1.size))
 clear c2 hb1 hb2
 cases q2 with
 | false =>
  go_wp2
  go_ret
  exact⟨⟨⟨false,rfl,(fun h=>by cases h)⟩⟩,zau⟩
 | true =>
 have HG2:Hid (s.rg.length<=20/\∀l∈s.rg,l.length<=8):=HF2.out rfl
 clear HF2
 have HP:Hid ((decide ((pn:Int)<=20))=true->pn<=20):=fun h=>by
  have:=of_decide_eq_true h
  omega
 go_wp2
 go_ret
 exact⟨⟨⟨decide ((pn:Int)<=20),rfl,fun h=>⟨HG1.out,HG2.out.1,HG2.out.2,HP.out h⟩⟩⟩,zau⟩
def axI(d sh sm:Int):Int:=if d=0 then sm else if 0<d/\d<256 then sh+sm else if d<0/\-256<d then sh else 0
theorem axI_x(d:Int):axI d 2 16=(axF d 2 16:Int):=by unfold axI axF;split <;> (try split) <;> (try split) <;> rfl
theorem axI_y(d:Int):axI d 4 32=(axF d 4 32:Int):=by unfold axI axF;split <;> (try split) <;> (try split) <;> rfl
theorem zk9(d sh sm:Int):axI d sh sm=sm\/axI d sh sm=sh+sm\/axI d sh sm=sh\/axI d sh sm=0:=by
 unfold axI;split <;> (try split) <;> (try split) <;> simp
theorem or_xy(d e:Int):bits BinOp.or IntKind.i64 (axI d 2 16) (axI e 4 32)=axI d 2 16+axI e 4 32/\bits BinOp.or IntKind.i64 (axI d 2 16+axI e 4 32) 1=axI d 2 16+axI e 4 32+1/\0<=axI d 2 16+axI e 4 32/\axI d 2 16+axI e 4 32<=62:=by
 rcases zk9 d 2 16 with h|h|h|h <;> rcases zk9 e 4 32 with k|k|k|k <;> rw[h,k] <;> decide
theorem or_x:bits BinOp.or IntKind.i64 2 16=2+16:=by decide
theorem or_y:bits BinOp.or IntKind.i64 4 32=4+32:=by decide
theorem zk5(d sh sm:Int)(w:World)(hor:bits BinOp.or IntKind.i64 sh sm=sh+sm) :
 Calls Tryz.prog 186 #[.int .i64 d,.int .i64 sh,.int .i64 sm] w fun e w'=>e=.returned (.int .i64 (axI d sh sm))/\w=w':=by
 by_cases h0:d=0
 . have HE:Hid (axI d sh sm=sm):=if_pos h0
   have g1:(d==0)=true:=by simp[h0]
   clear h0
   go_enter Tryz.func186,Tryz.ntmps186
   go_wp2
   go_ret
   exact⟨by rw[HE.out];rfl,rfl⟩
 have g1:(d==0)=false:=by simp[h0]
 by_cases h1:0<d
 . have g2:decide (0<d)=true:=decide_eq_true h1
   have g4:decide (d<0)=false:=decide_eq_false (by omega)
   by_cases h2:d<=255
   . have HE:Hid (axI d sh sm=sh+sm):=by show _=_;rw[axI,if_neg h0,if_pos (by omega)]
     have g3:decide (d<=255)=true:=decide_eq_true h2
     clear h0 h1 h2
     go_enter Tryz.func186,Tryz.ntmps186
     go_wp2
     go_ret
     exact⟨by rw[HE.out];rfl,rfl⟩
   . have HE:Hid (axI d sh sm=0):=by show _=_;rw[axI,if_neg h0,if_neg (by omega),if_neg (by omega)]
     have g3:decide (d<=255)=false:=decide_eq_false h2
     clear h0 h1 h2
     go_enter Tryz.func186,Tryz.ntmps186
     go_wp2
     go_ret
     exact⟨by rw[HE.out];rfl,rfl⟩
 . have g2:decide (0<d)=false:=decide_eq_false h1
   have g4:decide (d<0)=true:=decide_eq_true (by omega)
   by_cases h2:-255<=d
   . have HE:Hid (axI d sh sm=sh):=by show _=_;rw[axI,if_neg h0,if_neg (by omega),if_pos (by omega)]
     have g3:decide (-255<=d)=true:=decide_eq_true h2
     clear h0 h1 h2
     go_enter Tryz.func186,Tryz.ntmps186
     go_wp2
     go_ret
     exact⟨by rw[HE.out];rfl,rfl⟩
   . have HE:Hid (axI d sh sm=0):=by show _=_;rw[axI,if_neg h0,if_neg (by omega),if_neg (by omega)]
     have g3:decide (-255<=d)=false:=decide_eq_false h2
     clear h0 h1 h2
     go_enter Tryz.func186,Tryz.ntmps186
     go_wp2
     go_ret
     exact⟨by rw[HE.out];rfl,rfl⟩
def stX(l:List Pn):LI:=(difs 0 0 l).map (fun t=>t.1)
def stY(l:List Pn):LI:=(difs 0 0 l).map (fun t=>t.2.1)
def ahP(l:List Pn)(k:Nat):Pn:=if k=0 then Pn.none else l.getD (k-1) Pn.none
theorem zgk(l:List Pn):(stX l).length=l.length:=by unfold stX;rw[List.length_map,zb5]
theorem zgj(l:List Pn):(stY l).length=l.length:=by unfold stY;rw[List.length_map,zb5]
theorem zel{α β:Type}(f:α->β)(l:List α)(k:Nat)(d:α)(e:β)(hk:k<l.length):(l.map f).getD k e=f (l.getD k d):=by simp[List.getD,hk]
theorem z0e{l:List Pn}{k:Nat}(hk:k<l.length):(stX l).getD k 0=(l.getD k Pn.none).x-(ahP l k).x:=by
 unfold stX ahP
 rw[zel _ _ _ (0,0,false) _ (by rw[zb5];exact hk),zjg l 0 0 k hk]
 by_cases h0:k=0
 . simp[h0,Pn.none]
 . simp[h0]
theorem z0d{l:List Pn}{k:Nat}(hk:k<l.length):(stY l).getD k 0=(l.getD k Pn.none).y-(ahP l k).y:=by
 unfold stY ahP
 rw[zel _ _ _ (0,0,false) _ (by rw[zb5];exact hk),zjg l 0 0 k hk]
 by_cases h0:k=0
 . simp[h0,Pn.none]
 . simp[h0]
theorem z2s{l:List Pn}{k:Nat}(hk:k<l.length):(flL l).getD k 0=axI ((stX l).getD k 0) 2 16+axI ((stY l).getD k 0) 4 32+(if (l.getD k Pn.none).on then 1 else 0):=by
 have hd:k<(difs 0 0 l).length:=by rw[zb5];exact hk
 unfold flL stX stY
 rw[zel _ _ _ (0,0,false) _ hd,zel _ _ _ (0,0,false) _ hd,zel _ _ _ (0,0,false) _ hd,axI_x,axI_y]
 have:=zjg l 0 0 k hk
 have h2:((difs 0 0 l).getD k (0,0,false)).2.2=(l.getD k Pn.none).on:=by rw[this]
 unfold flg
 rw[h2]
 cases (l.getD k Pn.none).on <;> simp
def PnF(p:Pn):Prop:=(-32768<=p.x/\p.x<=32767)/\(-32768<=p.y/\p.y<=32767)
theorem ahP_F{l:List Pn}(h:∀k,k<l.length->PnF (l.getD k Pn.none)){k:Nat}(hk:k<=l.length):PnF (ahP l k):=by
 unfold ahP
 split
 . exact⟨by decide,by decide⟩
 . exact h _ (by omega)
theorem zye(l:List Pn)(k:Nat):ahP l (k+1)=l.getD k Pn.none:=by unfold ahP;rw[if_neg (by omega),Nat.add_sub_cancel]
theorem Bk.set3{t:TypeId}{w:World}{g:Nat}{x y z:Value}(h:Bk t w g [x,y,z])(x' y' z':Value):Bk t (((w.setCell ⟨g,0,none⟩ x').setCell ⟨g,1,none⟩ y').setCell ⟨g,2,none⟩ z') g [x',y',z']:=((h.set 0 x').set 1 y').set 2 z'
theorem zx9{B g:Nat}{a w:World}(h:Below B a w)(hb:B<=g)(x' y' z':Value):Below B a (((w.setCell ⟨g,0,none⟩ x').setCell ⟨g,1,none⟩ y').setCell ⟨g,2,none⟩ z') :=
 ((h.setCell (p:=⟨g,0,none⟩) hb x').setCell (p:=⟨g,1,none⟩) hb y').setCell (p:=⟨g,2,none⟩) hb z'
theorem Gi.set3{base:Nat}{w:World}{v:Value}{l:LI}{t:TypeId}{g:Nat}{x y z:Value}(h:Gi base w v l)(hb:Bk t w g [x,y,z])(ht:t≠3)(x' y' z':Value):Gi base (((w.setCell ⟨g,0,none⟩ x').setCell ⟨g,1,none⟩ y').setCell ⟨g,2,none⟩ z') v l :=
 ((h.set hb ht 0 x').set (hb.set 0 x') ht 1 y').set ((hb.set 0 x').set 1 y') ht 2 z'
theorem zgh{l:LI}{k:Nat}{z:Int}(hk:k<l.length)(hz:l.getD k 0=z):l.take (k+1)=l.take k++[z]:=by rw[zaj (d:=0) hk,hz]
theorem zp5(S:Nat->Prop)(a:OA)(cap:Nat)(l:List Pn)(w:World)(h:Gr PnE S w a cap l)(hl:l.length<=1000)(hF:∀k,k<l.length->PnF (l.getD k Pn.none)) :
 Calls Tryz.prog 129 #[.slice a l.length cap] w fun e w'=>∃a1 c1 a2 c2,e=.returned (.tuple #[.slice a1 (stX l).length c1,.slice a2 (stY l).length c2])/\Ri w' a1 c1 (stX l)/\Ri w' a2 c2 (stY l) /\
     (∀b o,a1=some ⟨b,o,none⟩->w.heap.size<=b/\b<w'.heap.size)/\(∀b o,a2=some ⟨b,o,none⟩->w.heap.size<=b/\b<w'.heap.size)/\Below w.heap.size w w':=by
 have HH:Hid (Gr PnE S w a cap l):=h
 have HF:Hid (∀k,k<l.length->PnF (l.getD k Pn.none)):=hF
 obtain⟨W,hW,X0,hbW⟩:∃W,W=w.alloc (.cells #[.int .i64 0,.int .i64 0,.bool false] 65)/\Bk 65 W w.heap.size (pnC (ahP l 0))/\Below w.heap.size w W:=⟨_,rfl,Bk.new _ _ _,bl1 _⟩
 have HX0:Hid (Bk 65 W w.heap.size (pnC (ahP l 0))):=X0
 have HBW:Hid (Below w.heap.size w W):=hbW
 clear h hF X0 hbW
 go_enter Tryz.func129,Tryz.ntmps129
 go_wp2;rw[<-hW];clear hW
 go_loopw [4,5,11] (fun v4 v5 i wr=>∃k:Nat,k<=l.length/\i=.int .i64 k/\Gi w.heap.size wr v4 ((stX l).take k)/\Gi w.heap.size wr v5 ((stY l).take k)/\(∀g,v4.ownBlock=some g->v5.ownBlock≠some g)/\Bk 65 wr w.heap.size (pnC (ahP l k))/\Below w.heap.size w wr) (fun _ _ i _=>l.length-(intOf i).toNat)
 case atStart=>exact⟨0,Nat.zero_le _,rfl,Gi.nil _ _,Gi.nil _ _,(fun g hg=>by cases hg),HX0.out,HBW.out⟩
 case round =>
  clear HX0 HBW;obtain⟨k,hk,rfl,hT4,hT5,hap,hX,hB⟩:=hrel;obtain⟨a4,c4,rfl,hr4,hb4⟩:=hT4.slice;obtain⟨a5,c5,rfl,hr5,hb5⟩:=hT5.slice
  by_cases hkn:k<l.length
  rotate_left
  . obtain rfl:k=l.length:=by omega
    have HB4:Hid (∀b o,a4=some ⟨b,o,none⟩->w.heap.size<=b/\b<wr.heap.size):=hb4
    have HB5:Hid (∀b o,a5=some ⟨b,o,none⟩->w.heap.size<=b/\b<wr.heap.size):=hb5
    rw[List.take_of_length_le (by rw[zgk];exact Nat.le_refl _)]at hr4 ⊢
    rw[List.take_of_length_le (by rw[zgj];exact Nat.le_refl _)]at hr5 ⊢
    have g1:¬(l.length:Int)<(l.length:Int):=by omega
    clear hT4 hT5 hap hX hb4 hb5;go_wp2
    go_ret2
    exact⟨a4,c4,a5,c5,rfl,hr4,hr5,HB4.out,HB5.out,hB⟩
  obtain⟨b,off,ea,hb,⟨w0,w1⟩,q0,q1,q2⟩:=HH.out.pn hB k hkn
  subst ea
  have HSX:Hid (_):=zgh (l:=stX l) (by rw[zgk];exact hkn) (z0e hkn)
  have HSY:Hid (_):=zgh (l:=stY l) (by rw[zgj];exact hkn) (z0d hkn)
  have hfa:=ahP_F HF.out hk
  have hfp:=HF.out k hkn
  have HA1:Hid (_):=zye l k
  have hl4:((stX l).take k).length+1<=1000000:=by rw[List.length_take,zgk];omega
  have hl5:((stY l).take k).length+1<=1000000:=by rw[List.length_take,zgj];omega
  generalize ahP l k=p0 at *
  generalize l.getD k Pn.none=p at *
  obtain⟨x,y,on⟩:=p;obtain⟨x0,y0,on0⟩:=p0
  unfold PnF at hfa hfp
  unfold pnC at hX
  dsimp only at w0 w1 q0 q1 q2 hfa hfp hX HSX HSY
  obtain⟨dx,hdx⟩:∃d,x-x0=d:=⟨_,rfl⟩
  obtain⟨dy,hdy⟩:∃d,y-y0=d:=⟨_,rfl⟩
  have hdxi:I64 dx:=⟨by omega,by omega⟩
  have hdyi:I64 dy:=⟨by omega,by omega⟩
  have hdx1:-9223372036854775808<=dx/\dx<=9223372036854775807:=hdxi
  have hdy1:-9223372036854775808<=dy/\dy<=9223372036854775807:=hdyi
  rw[hdx]at HSX;rw[hdy]at HSY
  have i1:(0:Int)<=(k:Int):=by omega
  have i2:(k:Int)<(l.length:Int):=by omega
  clear hfa hfp hr4 hr5 hb4 hb5
  have hb1:=bl2 (w:=wr) (.cells #[.int .i64 x,.int .i64 y,.bool on] 65) (.cells #[.int .i64 dx] 3)
  have hB1:Below w.heap.size w ((wr.alloc (.cells #[.int .i64 x,.int .i64 y,.bool on] 65)).alloc (.cells #[.int .i64 dx] 3)):=hB.trans (hb1.mono hB.size)
  have hT4a:=hT4.below hb1
  have hT5a:=hT5.below hb1
  have hXa:=hX.below hb1
  have hY:Bk 65 ((wr.alloc (.cells #[.int .i64 x,.int .i64 y,.bool on] 65)).alloc (.cells #[.int .i64 dx] 3)) wr.heap.size [.int .i64 x,.int .i64 y,.bool on]:=(Bk.new _ _ _).below (bl1 _)
  have hN:=Bk.new1 3 wr (.cells #[.int .i64 x,.int .i64 y,.bool on] 65) [.int .i64 dx]
  have n0:=hN.cell 0 (by simp)
  have hgl:wr.heap.size+1<((wr.alloc (.cells #[.int .i64 x,.int .i64 y,.bool on] 65)).alloc (.cells #[.int .i64 dx] 3)).heap.size:=hN.lt
  have hbs:=hB1.size
  have n4:(Value.slice a4 ((stX l).take k).length c4).ownBlock≠some wr.heap.size:=fun e=>by have:=(hT4.lo e).2;omega
  have n4x:(Value.slice a4 ((stX l).take k).length c4).ownBlock≠some w.heap.size:=hT4a.ne hXa (by decide)
  obtain⟨x6,y6,z6,_⟩:=hX.three
  obtain⟨x7,y7,z7,_⟩:=(hX.below (bl1 (.cells #[.int .i64 x,.int .i64 y,.bool on] 65))).three
  have hX7:w.heap.size<wr.heap.size:=hX.lt
  clear hN
  generalize (stX l).take k=L4 at *
  generalize (stY l).take k=L5 at *
  go_wp2_with (at_builtin;refine zaf rfl _ _ rfl w.heap.size _ L4 rfl hT4a (wr.heap.size+1) dx rfl hgl n0 hdxi hl4 hbs ?_)
  intro v4 w4 hT4b hgrow hown
  have hB4:Below w.heap.size w w4:=hB1.grown hgrow hbs (fun k hk=>(hT4a.lo hk).1)
  have hT5b:=hT5a.grown hgrow (fun g hg e=>hap g e hg)
  have hXb:=hXa.grown hgrow n4x
  have hYb:=hY.grown hgrow n4
  have hap2:∀g,v4.ownBlock=some g->(Value.slice a5 L5.length c5).ownBlock≠some g:=fun g hg e=>by
   rcases hown with ho|ho
   . exact hap g (ho.symm.trans hg) e
   . rw[ho]at hg
     cases hg
     exact absurd (hT5a.lo e).2 (by simp)
  have HAP2:Hid (∀g,v4.ownBlock=some g->(Value.slice a5 L5.length c5).ownBlock≠some g):=hap2
  rw[<-HSX.out]at hT4b;clear hgrow hown hT4a hT5a hXa hY n0 hgl hbs n4 n4x hb1 hB1 hT4 hT5 hX hB hap hap2 HSX hl4 q0 q1 q2 x6 y6 z6 x7 y7 z7
  have hb2:=bl1 (w:=w4) (.cells #[.int .i64 dy] 3)
  have hB5:Below w.heap.size w (w4.alloc (.cells #[.int .i64 dy] 3)):=hB4.trans (hb2.mono hB4.size)
  have hT4c:=hT4b.below hb2
  have z44:=hT5b.below hb2
  have hXc:=hXb.below hb2
  have hYc:=hYb.below hb2
  have hN:=Bk.new 3 w4 [.int .i64 dy]
  have n0:=hN.cell 0 (by simp)
  have hgl:w4.heap.size<(w4.alloc (.cells #[.int .i64 dy] 3)).heap.size:=hN.lt
  have hbs:=hB5.size
  have n5x:(Value.slice a5 L5.length c5).ownBlock≠some w.heap.size:=z44.ne hXc (by decide)
  have n5y:(Value.slice a5 L5.length c5).ownBlock≠some wr.heap.size:=z44.ne hYc (by decide)
  obtain⟨x6,y6,z6,_⟩:=hXb.three;obtain⟨x8,y8,z8,_⟩:=hYb.three;clear hN
  go_wp2_with (at_builtin;refine zaf rfl _ _ rfl w.heap.size _ L5 rfl z44 w4.heap.size dy rfl hgl n0 hdyi hl5 hbs ?_)
  intro v5 w5 hT5d hgrow hown
  have hB6:Below w.heap.size w w5:=hB5.grown hgrow hbs (fun k hk=>(z44.lo hk).1)
  have hT4d:=hT4c.grown hgrow (fun g hg e=>HAP2.out g hg e)
  have hXd:=hXc.grown hgrow n5x
  have hYd:=hYc.grown hgrow n5y
  have HAP3:Hid (∀g,v4.ownBlock=some g->v5.ownBlock≠some g):=fun g hg e=>by
   rcases hown with ho|ho
   . exact HAP2.out g hg (ho.symm.trans e)
   . rw[ho]at e
     cases e
     exact absurd (hT4c.lo hg).2 (by simp)
  rw[<-HSY.out]at hT5d;clear hgrow hown hT4b hT5b hXb hYb hT4c z44 hXc hYc n0 hgl hbs n5x n5y hb2 hB4 hB5 HSY hl5 x6 y6 z6 x8 y8 z8 HAP2;obtain⟨x8,y8,z8,_⟩:=hYd.three;obtain⟨x6,y6,z6,f0,f1,f2⟩:=hXd.three
  have hXe:=hXd.set3 (.int .i64 x) (.int .i64 y) (.bool on)
  have hT4e:=hT4d.set3 hXd (by decide) (.int .i64 x) (.int .i64 y) (.bool on)
  have hT5e:=hT5d.set3 hXd (by decide) (.int .i64 x) (.int .i64 y) (.bool on)
  have hB7:=zx9 hB6 (Nat.le_refl _) (.int .i64 x) (.int .i64 y) (.bool on)
  clear hXd hYd hT4d hT5d hB6;go_wp2
  go_roundw
  case rel=>exact⟨k+1,by omega,by go_num,hT4e,hT5e,HAP3.out,by rw[HA1.out];exact hXe,hB7⟩
  case measure=>simp[intOf];omega
theorem zqb(S:Nat->Prop)(a:OA)(cap:Nat)(a1:OA)(c1:Nat)(a2:OA)(c2:Nat)(l:List Pn)(w:World)(h:Gr PnE S w a cap l)(hx:Ri w a1 c1 (stX l))(hy:Ri w a2 c2 (stY l))(hl:l.length<=1000) :
 Calls Tryz.prog 133 #[.slice a l.length cap,.slice a1 (stX l).length c1,.slice a2 (stY l).length c2] w fun e w'=>∃a3 c3,e=.returned (.slice a3 (flL l).length c3)/\Ri w' a3 c3 (flL l)/\(∀b o,a3=some ⟨b,o,none⟩->w.heap.size<=b/\b<w'.heap.size)/\Below w.heap.size w w':=by
 have HH:Hid (Gr PnE S w a cap l):=h
 have HX:Hid (Ri w a1 c1 (stX l)):=hx
 have HY:Hid (Ri w a2 c2 (stY l)):=hy
 have hlx:=zgk l
 have hly:=zgj l
 have HLX:Hid ((stX l).length=l.length):=hlx
 have HLY:Hid ((stY l).length=l.length):=hly
 rw[hlx,hly];clear h hx hy hlx hly
 go_enter Tryz.func133,Tryz.ntmps133
 go_wp2
 go_loopw [7,13] (fun v i wr=>∃k:Nat,k<=l.length/\i=.int .i64 k/\Gi w.heap.size wr v ((flL l).take k)/\Below w.heap.size w wr) (fun _ i _=>l.length-(intOf i).toNat)
 case atStart=>exact⟨0,Nat.zero_le _,rfl,Gi.nil _ _,Below.refl _ _⟩
 case round =>
  obtain⟨k,hk,rfl,hG7,hB⟩:=hrel;obtain⟨a7,c7,rfl,hr7,hb7⟩:=hG7.slice
  by_cases hkn:k<l.length
  rotate_left
  . obtain rfl:k=l.length:=by omega
    have HB7:Hid (∀b o,a7=some ⟨b,o,none⟩->w.heap.size<=b/\b<wr.heap.size):=hb7
    rw[List.take_of_length_le (by rw[zg2];exact Nat.le_refl _)]at hr7 ⊢
    have g1:¬(l.length:Int)<(l.length:Int):=by omega
    clear hG7 hb7;go_wp2
    go_ret
    exact⟨a7,c7,rfl,hr7,HB7.out,hB⟩
  obtain⟨b,off,ea,hb,⟨w0,w1⟩,q0,q1,q2⟩:=HH.out.pn hB k hkn
  have bp1:=bl1 (w:=wr) (.cells #[.int .i64 (l.getD k Pn.none).x,.int .i64 (l.getD k Pn.none).y,.bool (l.getD k Pn.none).on] 65)
  have hB1:=hB.trans (bp1.mono hB.size)
  obtain⟨b1,o1,e1,hb1,d1⟩:=HX.out.at hB1 k (by rw[HLX.out];exact hkn)
  obtain⟨b2,o2,e2,hb2,d2⟩:=HY.out.at hB1 k (by rw[HLY.out];exact hkn)
  subst ea e1 e2
  have HFL:=zgh (l:=flL l) (by rw[zg2];exact hkn) (z2s hkn)
  obtain⟨o1a,o2a,o3a,o4a⟩:=or_xy ((stX l).getD k 0) ((stY l).getD k 0)
  have hmx:=fun U=>zk5 ((stX l).getD k 0) 2 16 U or_x
  have hmy:=fun U=>zk5 ((stY l).getD k 0) 4 32 U or_y
  have hll:((flL l).take k).length+1<=1000000:=by rw[List.length_take,zg2];omega
  have hX:=Bk.new 65 wr [.int .i64 (l.getD k Pn.none).x,.int .i64 (l.getD k Pn.none).y,.bool (l.getD k Pn.none).on]
  have hX:Bk 65 (wr.alloc (.cells #[.int .i64 (l.getD k Pn.none).x,.int .i64 (l.getD k Pn.none).y,.bool (l.getD k Pn.none).on] 65)) wr.heap.size [.int .i64 (l.getD k Pn.none).x,.int .i64 (l.getD k Pn.none).y,.bool (l.getD k Pn.none).on]:=hX
  replace hG7:=hG7.below bp1
  generalize l.getD k Pn.none=p at *
  obtain⟨x,y,on⟩:=p;dsimp only at w0 w1 q0 q1 q2 hX hB1 d1 d2 hG7
  generalize axI ((stX l).getD k 0) 2 16=fx at *
  generalize axI ((stY l).getD k 0) 4 32=fy at *
  generalize (stX l).getD k 0=dx at *
  generalize (stY l).getD k 0=dy at *
  obtain⟨W,hW⟩:∃W,W=wr.alloc (.cells #[.int .i64 x,.int .i64 y,.bool on] 65):=⟨_,rfl⟩
  have HFL:Hid (_):=HFL
  rw[<-hW]at hX hB1 d1 d2 hG7
  generalize (flL l).take k=L7 at *
  obtain⟨r,hr⟩:∃r,fx+fy=r:=⟨_,rfl⟩
  rw[hr]at o1a o2a o3a o4a HFL
  have A1:Cl W b1 (o1+k) (.int .i64 dx):=⟨World.block_lt_of_cell? W _ d1,d1⟩
  have A2:Cl W b2 (o2+k) (.int .i64 dy):=⟨World.block_lt_of_cell? W _ d2,d2⟩
  have i1:(0:Int)<=(k:Int):=by omega
  have i2:(k:Int)<(l.length:Int):=by omega
  clear hr7 hb7 hB bp1 hr
  go_upto_region 5 with fail
  rw[<-hW];clear hW q0 q1 q2
  refine wp_region_held_drew (S:=(fun u=>u.cell? ⟨b1,o1+k,none⟩=some (.int .i64 dx)/\u.cell? ⟨b2,o2+k,none⟩=some (.int .i64 dy))) (by kernel_rfl) ?_ (fun hH=>?_)
  . (try dsimp only)
    go_keep
  have hdr:Below W.heap.size W W.drew:=Below.drew1
  generalize W.drew=ud at hdr hH ⊢
  replace A1:=A1.below hdr;replace A2:=A2.below hdr;replace hX:=hX.below hdr;replace hG7:=hG7.below hdr
  replace hB1:=hB1.trans (hdr.mono hB1.size)
  clear hdr d1 d2;refine hT 0 hH ?_;refine hT 1 hH ?_;refine hT 2 hH ?_;refine hT 3 hH ?_;refine hT 5 hH ?_;refine hT 6 hH ?_;refine hT 7 hH ?_;refine hT 8 hH ?_
  refine hCall (i:=4) rfl (by kernel_rfl) (by rfl) (fun K hK=>?_)
  go_simp
  refine(hmx _).mono ?_
  rintro e u1 ⟨rfl,rfl⟩
  go_wp2_with fail
  refine hK.out _ _ ?_ (fun hH=>?_)
  . (try dsimp only)
    exact⟨A1.2,A2.2⟩
  clear hK K
  try simp only[Act.put,pZ]
  refine hCall (i:=9) rfl (by kernel_rfl) (by rfl) (fun K hK=>?_)
  go_simp
  refine(hmy _).mono ?_
  rintro e u1 ⟨rfl,rfl⟩
  go_wp2_with fail
  refine hK.out _ _ ?_ (fun hH=>?_)
  . (try dsimp only)
    exact⟨A1.2,A2.2⟩
  clear hK K
  try simp only[Act.put,pZ]
  refine hT 10 hH ?_;refine hT 11 hH ?_
  refine wpAnyH_done (by kernel_rfl) ?_ _
  clear hH hmx hmy A1 A2;obtain⟨x8,y8,z8,_⟩:=hX.three
  obtain⟨n,hn⟩:∃n,(if on=true then r+1 else r)=n:=⟨_,rfl⟩
  have HFN:Hid ((flL l).take (k+1)=L7++[n]):=by
   show _=_
   rw[HFL.out,<-hn]
   cases on <;> simp
  have hni:I64 n:=by rw[<-hn];constructor <;> split <;> omega
  have HN:Hid ((on=true->r+1=n)/\(on=false->r=n)):=by rw[<-hn];constructor <;> intro h <;> simp[h]
  clear HFL hn
  have bp2:=bl1 (w:=ud) (.cells #[.int .i64 n] 3)
  have hT5:=hG7.below bp2
  have hN:=Bk.new 3 ud [.int .i64 n]
  have n0:=hN.cell 0 (by simp)
  have hgl:ud.heap.size<(ud.alloc (.cells #[.int .i64 n] 3)).heap.size:=hN.lt
  have hB5:=hB1.trans (bp2.mono hB1.size)
  have hbs:=hB5.size
  clear hN bp2
  cases on with
  | true =>
   obtain rfl:=HN.out.1 rfl
   go_wp2_with (at_builtin;refine zaf rfl _ _ rfl w.heap.size _ L7 rfl hT5 ud.heap.size (r+1) rfl hgl n0 hni hll hbs ?_)
   intro v9 w9 hT9 hgrow _
   have hB9:Below w.heap.size w w9:=hB5.grown hgrow hbs (fun k hk=>(hT5.lo hk).1)
   rw[<-HFN.out]at hT9;clear hgrow hT5 n0 hgl hbs HFN HN hB5;go_wp2
   go_roundw
   case rel=>exact⟨k+1,by omega,by go_num,hT9,hB9⟩
   case measure=>simp[intOf];omega
  | false =>
   obtain rfl:=HN.out.2 rfl
   go_wp2_with (at_builtin;refine zaf rfl _ _ rfl w.heap.size _ L7 rfl hT5 ud.heap.size r rfl hgl n0 hni hll hbs ?_)
   intro v9 w9 hT9 hgrow _
   have hB9:Below w.heap.size w w9:=hB5.grown hgrow hbs (fun k hk=>(hT5.lo hk).1)
   rw[<-HFN.out]at hT9;clear hgrow hT5 n0 hgl hbs HFN HN hB5;go_wp2
   go_roundw
   case rel=>exact⟨k+1,by omega,by go_num,hT9,hB9⟩
   case measure=>simp[intOf];omega
