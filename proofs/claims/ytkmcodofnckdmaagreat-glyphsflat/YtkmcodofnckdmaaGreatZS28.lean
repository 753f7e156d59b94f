import Derived.Test.YtkmcodofnckdmaaGreatZS27
set_option maxHeartbeats 2000000
set_option maxRecDepth 100000
set_option linter.unusedSimpArgs false
set_option linter.unusedVariables false
namespace Go.Proofs.YtkmcodofnckdmaaGreat
open Go.RowKit Go.Maps
def PaF(p:Pa):Prop:=(0<=p.g/\p.g<=65535)/\(-32768<=p.dx/\p.dx<=32767)/\(-32768<=p.dy/\p.dy<=32767)
theorem znc{z:Int}(h:fdB z=false):¬(-32768<=z/\z<=32767):=fun h1=>by rw[zbv.2 h1]at h;cases h
theorem zhg(S:Nat->Prop)(a:Option Addr)(ca:Nat)(b:Option Addr)(cb:Nat)(o:Ol)(w:World)(hc:Gr PnE.row S w a ca o.cs)(hp:Gr PaE S w b cb o.ps)(hl:o.cs.flatten.length<=100000) :
 Calls Tryz.prog 82 #[.agg #[.slice a o.cs.length ca,.slice b o.ps.length cb]] w fun e w'=>e=.returned (.bool (foB o))/\Below w.heap.size w w':=by
 have k1:=hc.lenB
 have k2:=hp.lenB
 have HNO:Hid (¬FoP o->false=foB o):=fun h=>(Bool.eq_false_iff.2 (fun h1=>h (zb5.1 h1))).symm
 have HYE:Hid (FoP o->true=foB o):=fun h=>(zb5.2 h).symm
 obtain⟨W,hW,X1,hbW⟩:∃W,W=w.alloc (.cells #[.slice a o.cs.length ca,.slice b o.ps.length cb] 57)/\Bk 57 W w.heap.size [.slice a o.cs.length ca,.slice b o.ps.length cb]/\Below w.heap.size w W:=⟨_,rfl,Bk.new _ _ _,bl1 _⟩
 have HC:Hid (Gr PnE.row S W a ca o.cs):=hc.below hbW
 have HP:Hid (Gr PaE S W b cb o.ps):=hp.below hbW
 have HX:Hid (Bk 57 W w.heap.size [.slice a o.cs.length ca,.slice b o.ps.length cb]):=X1
 have HBW:Hid (Below w.heap.size w W):=hbW
 have hpt:=fun U h1=>zca S a ca (.slice b o.ps.length cb) o.cs U h1 hl rfl
 obtain⟨x0,x1,_⟩:=X1.two;clear hc hp X1
 have HNA:Hid (¬(¬(0<o.cs.length/\0<o.ps.length)/\o.cs.length<=10/\o.ps.length<=6)->false=foB o):=fun h=>HNO.out (fun h1=>h ⟨by have:=h1.1;omega,h1.2.1,h1.2.2.1⟩)
 go_enter Tryz.func82,Tryz.ntmps82
 go_upto_region 1 with fail
 rw[<-hW];clear hW
 go_cut [29]from 8 (fun s29 wx=>∃q:Bool,s29=.bool q/\wx=W/\(q=true->false=foB o)/\(q=false->¬(0<o.cs.length/\0<o.ps.length)/\o.cs.length<=10/\o.ps.length<=6))
 case first =>
  clear HNO HYE hpt HC HP HX hbW HBW
  have fin:∀q:Bool,(q=true ↔ ¬(¬(0<o.cs.length/\0<o.ps.length)/\o.cs.length<=10/\o.ps.length<=6))->(q=true->false=foB o)/\(q=false->¬(0<o.cs.length/\0<o.ps.length)/\o.cs.length<=10/\o.ps.length<=6):=fun q h=>⟨fun h1=>HNA.out (h.1 h1),fun h1=>by
   by_cases h2:¬(0<o.cs.length/\0<o.ps.length)/\o.cs.length<=10/\o.ps.length<=6
   . exact h2
   . rw[h.2 h2]at h1;cases h1⟩
  have HFN:Hid (_):=fin
  clear fin HNA
  by_cases c0:0<o.cs.length
  . have g1:decide ((0:Int)<(o.cs.length:Int))=true:=decide_eq_true (by omega)
    by_cases p0:0<o.ps.length
    . have g2:decide ((0:Int)<(o.ps.length:Int))=true:=decide_eq_true (by omega)
      go_wp2_with fail
      go_meet
      exact⟨true,rfl,rfl,HFN.out true (by constructor <;> intro _ <;> first | omega | rfl)⟩
    . have g2:decide ((0:Int)<(o.ps.length:Int))=false:=decide_eq_false (by omega)
      by_cases c10:10<o.cs.length
      . have g3:decide ((10:Int)<(o.cs.length:Int))=true:=decide_eq_true (by omega)
        go_wp2_with fail
        go_meet
        exact⟨true,rfl,rfl,HFN.out true (by constructor <;> intro _ <;> first | omega | rfl)⟩
      . have g3:decide ((10:Int)<(o.cs.length:Int))=false:=decide_eq_false (by omega)
        have g4:decide ((6:Int)<(o.ps.length:Int))=false:=decide_eq_false (by omega)
        go_wp2_with fail
        go_meet
        exact⟨false,rfl,rfl,HFN.out false (by constructor;(intro h;cases h);(intro h;omega))⟩
  . have g1:decide ((0:Int)<(o.cs.length:Int))=false:=decide_eq_false (by omega)
    have g3:decide ((10:Int)<(o.cs.length:Int))=false:=decide_eq_false (by omega)
    by_cases p6:6<o.ps.length
    . have g4:decide ((6:Int)<(o.ps.length:Int))=true:=decide_eq_true (by omega)
      go_wp2_with fail
      go_meet
      exact⟨true,rfl,rfl,HFN.out true (by constructor <;> intro _ <;> first | omega | rfl)⟩
    . have g4:decide ((6:Int)<(o.ps.length:Int))=false:=decide_eq_false (by omega)
      go_wp2_with fail
      go_meet
      exact⟨false,rfl,rfl,HFN.out false (by constructor;(intro h;cases h);(intro h;omega))⟩
 case rest =>
 obtain⟨q,rfl,rfl,hq1,hq2⟩:=hcut
 cases q with
 | true =>
  have HF:Hid (false=foB o):=hq1 rfl
  clear hq1 hq2 HNO HYE HNA hpt HC HP HX;go_wp2
  go_ret
  exact⟨zaa HF.out,hbW⟩
 | false =>
 have HA:Hid (_):=hq2 rfl
 have hc10:=HA.out.2.1
 have hp6:=HA.out.2.2
 clear hq1 hq2 HNA x0 x1 hbW;go_wp2
 go_loopw [3] (fun i wr=>∃k:Nat,k<=o.cs.length/\i=.int .i64 k/\(∀j,j<k->0<(o.cs.getD j []).length)/\Below wc.heap.size wc wr) (fun i _=>o.cs.length-(intOf i).toNat)
 case atStart=>exact⟨0,Nat.zero_le _,rfl,(fun j hj=>by omega),Below.refl _ _⟩
 case round =>
  obtain⟨k,hk,rfl,hok,hB⟩:=hrel
  have HOK:Hid (∀j,j<k->0<(o.cs.getD j []).length):=hok
  clear hok
  obtain⟨x0,x1,_⟩:=(HX.out.below hB).two
  have hbW:Below w.heap.size w wr:=HBW.out.trans (hB.mono HBW.out.size)
  by_cases hkn:k<o.cs.length
  . obtain⟨b1,o1,a1,c1,ea,hb1,d0,_,hlb,_⟩:=HC.out.rw hB k hkn
    subst ea
    have HN:Hid ((o.cs.getD k []).length=0->false=foB o):=fun h=>HNO.out (fun h1=>by have:=h1.2.2.2.1 _ (zet hkn);omega)
    have HS:Hid (0<(o.cs.getD k []).length->∀j,j<k+1->0<(o.cs.getD j []).length):=fun h j hj=>by
     rcases Nat.lt_or_ge j k with h1|h1
     . exact HOK.out j h1
     . rw[show j=k by omega];exact h
    generalize (o.cs.getD k []).length=n at *
    have i1:(0:Int)<=(k:Int):=by omega
    have i2:(k:Int)<(o.cs.length:Int):=by omega
    clear hpt HOK
    rcases Nat.eq_zero_or_pos n with h0|h0
    . subst h0
      have HF:Hid (false=foB o):=HN.out rfl
      go_wp2
      go_ret
      exact⟨zaa HF.out,hbW⟩
    . have HS2:Hid (_):=HS.out h0
      have g1:¬(n:Int)=0:=by omega
      have g2:((n:Int)==0)=false:=by simp;omega
      clear HS HN;go_wp2
      go_roundw
      case rel=>exact⟨k+1,by omega,by go_num,HS2.out,hB⟩
      case measure=>simp[intOf];omega
  . obtain rfl:k=o.cs.length:=by omega
    have HNE:Hid (∀c∈o.cs,0<c.length):=zgi HOK.out
    have g1:¬(o.cs.length:Int)<(o.cs.length:Int):=by omega
    have hc1:=HC.out.below hB
    have hx:=HX.out.below hB
    have hp1:=HP.out.below hB
    clear HOK HC HX HP HBW hB
    go_wp2_with fail
    refine(hpt _ hc1).mono ?_
    rintro e u1 ⟨a1,c1,rfl,hL,_,hb1⟩
    have HX:Hid (Bk 57 u1 w.heap.size [.slice a o.cs.length ca,.slice b o.ps.length cb]):=hx.below hb1
    have HP:Hid (Gr PaE S u1 b cb o.ps):=hp1.below hb1
    have HB1:Hid (Below w.heap.size w u1):=hbW.trans (hb1.mono hbW.size)
    have HL:Hid (Gr PnE (fun _=>True) u1 a1 c1 o.cs.flatten):=hL
    have HF6:Hid (∀p∈o.ps,PaF p->True):=fun _ _ _=>trivial
    have HFP:Hid (FoP o↔(o.cs.flatten.length<=80/\(∀p∈o.cs.flatten,PnF p)/\∀p∈o.ps,PaF p)):=⟨fun h=>⟨h.2.2.2.2.1,h.2.2.2.2.2.1,h.2.2.2.2.2.2⟩,fun h=>⟨by have:=HA.out.1;omega,hc10,hp6,HNE.out,h.1,h.2.1,h.2.2⟩⟩
    clear hpt hc1 hx hp1 hb1 hL x0 x1 HF6 HA HNE hbW
    generalize o.cs.flatten=L at *
    by_cases h80:80<L.length
    . have HF:Hid (false=foB o):=HNO.out (fun h=>by have:=(HFP.out.1 h).1;omega)
      have g2:(80:Int)<(L.length:Int):=by omega
      go_wp2
      go_ret
      exact⟨zaa HF.out,HB1.out⟩
    have g2:¬(80:Int)<(L.length:Int):=by omega
    go_wp2
    go_loopw [5] (fun i wr=>∃k:Nat,k<=L.length/\i=.int .i64 k/\(∀j,j<k->PnF (L.getD j Pn.none))/\Below u1.heap.size u1 wr) (fun i _=>L.length-(intOf i).toNat)
    case atStart=>exact⟨0,Nat.zero_le _,rfl,(fun j hj=>by omega),Below.refl _ _⟩
    case round =>
     obtain⟨k,hk,rfl,hok,hB⟩:=hrel
     have HOK:Hid (∀j,j<k->PnF (L.getD j Pn.none)):=hok
     clear hok
     have hbW:Below w.heap.size w wr:=HB1.out.trans (hB.mono HB1.out.size)
     by_cases hkn:k<L.length
     . obtain⟨b2,o2,ea,hb2,_,d0,d1,_⟩:=HL.out.pn hB k hkn
       subst ea
       have HN:Hid (¬PnF (L.getD k Pn.none)->false=foB o):=fun h=>HNO.out (fun h1=>h ((HFP.out.1 h1).2.1 _ (zbt hkn)))
       have HS:Hid (PnF (L.getD k Pn.none)->∀j,j<k+1->PnF (L.getD j Pn.none)):=fun h j hj=>by
        rcases Nat.lt_or_ge j k with h1|h1
        . exact HOK.out j h1
        . rw[show j=k by omega];exact h
       generalize L.getD k Pn.none=p at *
       obtain⟨x,y,on⟩:=p;dsimp only at d0 d1
       have i1:(0:Int)<=(k:Int):=by omega
       have i2:(k:Int)<(L.length:Int):=by omega
       clear HOK
       go_wp2_with fail
       refine(za3 x _).mono ?_
       rintro e u2 ⟨rfl,rfl⟩
       cases hx:fdB x with
       | false =>
        have HF:Hid (false=foB o):=HN.out (fun h=>znc hx h.1)
        clear hx HN HS;go_wp2
        go_ret
        exact⟨zaa HF.out,hbW⟩
       | true =>
        go_wp2_with fail
        refine(za3 y _).mono ?_
        rintro e u2 ⟨rfl,rfl⟩
        cases hy:fdB y with
        | false =>
         have HF:Hid (false=foB o):=HN.out (fun h=>znc hy h.2)
         clear hx hy HN HS;go_wp2
         go_ret
         exact⟨zaa HF.out,hbW⟩
        | true =>
         have HS2:Hid (_):=HS.out ⟨zbv.1 hx,zbv.1 hy⟩
         clear hx hy HN HS;go_wp2
         go_roundw
         case rel=>exact⟨k+1,by omega,by go_num,HS2.out,hB⟩
         case measure=>simp[intOf];omega
     . obtain rfl:k=L.length:=by omega
       have HNE:Hid (∀c∈L,PnF c):=zgi HOK.out
       have g1:¬(L.length:Int)<(L.length:Int):=by omega
       have HX2:Hid (Bk 57 wr w.heap.size [.slice a o.cs.length ca,.slice b o.ps.length cb]):=HX.out.below hB
       have HP2:Hid (Gr PaE S wr b cb o.ps):=HP.out.below hB
       have HB2:Hid (Below w.heap.size w wr):=hbW
       have HFQ:Hid (FoP o ↔ ∀p∈o.ps,PaF p):=⟨fun h=>(HFP.out.1 h).2.2,fun h=>HFP.out.2 ⟨by omega,HNE.out,h⟩⟩
       clear HOK HX HP hB hbW HB1 HFP HNE HL
       obtain⟨u3,rfl⟩:∃u3,u3=wr:=⟨_,rfl⟩
       go_wp2
       go_loopw [6] (fun i wr=>∃k:Nat,k<=o.ps.length/\i=.int .i64 k/\(∀j,j<k->PaF (o.ps.getD j Pa.none))/\Below u3.heap.size u3 wr) (fun i _=>o.ps.length-(intOf i).toNat)
       case atStart=>exact⟨0,Nat.zero_le _,rfl,(fun j hj=>by omega),Below.refl _ _⟩
       case round =>
        obtain⟨k,hk,rfl,hok,hB⟩:=hrel
        have HOK:Hid (∀j,j<k->PaF (o.ps.getD j Pa.none)):=hok
        clear hok
        obtain⟨x0,x1,_⟩:=(HX2.out.below hB).two
        by_cases hkn:k<o.ps.length
        . obtain⟨b2,o2,ea,hb2,_,d0,d1,d2⟩:=HP2.out.pa hB k hkn
          subst ea
          have HN:Hid (¬PaF (o.ps.getD k Pa.none)->false=foB o):=fun h=>HNO.out (fun h1=>h (HFQ.out.1 h1 _ (zbt hkn)))
          have HS:Hid (PaF (o.ps.getD k Pa.none)->∀j,j<k+1->PaF (o.ps.getD j Pa.none)):=fun h j hj=>by
           rcases Nat.lt_or_ge j k with h1|h1
           . exact HOK.out j h1
           . rw[show j=k by omega];exact h
          generalize o.ps.getD k Pa.none=p at *
          obtain⟨gg,x,y⟩:=p;dsimp only at d0 d1 d2
          have i1:(0:Int)<=(k:Int):=by omega
          have i2:(k:Int)<(o.ps.length:Int):=by omega
          obtain⟨V,hV,Y1,hbV⟩:∃V,V=wr.alloc (.cells #[.int .i64 gg,.int .i64 x,.int .i64 y] 54)/\Bk 54 V wr.heap.size [.int .i64 gg,.int .i64 x,.int .i64 y]/\Below u3.heap.size u3 V:=⟨_,rfl,Bk.new _ _ _,hB.alloc hB.size _⟩
          have hbW:Below w.heap.size w V:=HB2.out.trans (hbV.mono HB2.out.size)
          obtain⟨y0,y1,y2,_⟩:=Y1.three;clear HOK Y1 hB
          go_upto_region 20 with fail
          rw[<-hV];clear hV x0 x1 d0 d1 d2
          by_cases hg0:gg<0
          . have HF:Hid (false=foB o):=HN.out (fun h=>by have h1:0<=gg:=h.1.1;omega)
            have g3:decide (gg<0)=true:=decide_eq_true hg0
            clear HN HS;go_wp2
            go_ret
            exact⟨zaa HF.out,hbW⟩
          have g3:decide (gg<0)=false:=decide_eq_false hg0
          by_cases hg1:65535<gg
          . have HF:Hid (false=foB o):=HN.out (fun h=>by have h1:gg<=65535:=h.1.2;omega)
            have g4:decide (65535<gg)=true:=decide_eq_true hg1
            clear HN HS;go_wp2
            go_ret
            exact⟨zaa HF.out,hbW⟩
          have g4:decide (65535<gg)=false:=decide_eq_false hg1
          go_wp2_with fail
          refine(za3 x _).mono ?_
          rintro e u5 ⟨rfl,rfl⟩
          cases hx:fdB x with
          | false =>
           have HF:Hid (false=foB o):=HN.out (fun h=>znc hx h.2.1)
           clear hx HN HS;go_wp2
           go_ret
           exact⟨zaa HF.out,hbW⟩
          | true =>
           go_wp2_with fail
           refine(za3 y _).mono ?_
           rintro e u5 ⟨rfl,rfl⟩
           cases hy:fdB y with
           | false =>
            have HF:Hid (false=foB o):=HN.out (fun h=>znc hy h.2.2)
            clear hx hy HN HS;go_wp2
            go_ret
            exact⟨zaa HF.out,hbW⟩
           | true =>
            have HS2:Hid (_):=HS.out ⟨⟨by omega,by omega⟩,zbv.1 hx,zbv.1 hy⟩
            clear hx hy HN HS;go_wp2
            go_roundw
            case rel=>exact⟨k+1,by omega,by go_num,HS2.out,hbV⟩
            case measure=>simp[intOf];omega
        . obtain rfl:k=o.ps.length:=by omega
          have HF:Hid (true=foB o):=HYE.out (HFQ.out.2 (zgi HOK.out))
          have g5:¬(o.ps.length:Int)<(o.ps.length:Int):=by omega
          have hbW:Below w.heap.size w wr:=HB2.out.trans (hB.mono HB2.out.size)
          go_wp2
          go_ret
          exact⟨zaa HF.out,hbW⟩
