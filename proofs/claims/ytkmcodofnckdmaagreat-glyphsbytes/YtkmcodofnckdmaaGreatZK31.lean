import Derived.Test.YtkmcodofnckdmaaGreatZK30
set_option maxHeartbeats 8000000
set_option maxRecDepth 100000
set_option linter.unusedSimpArgs false
set_option linter.unusedVariables false
namespace Go.Proofs.YtkmcodofnckdmaaGreat
open Tryz Go.RowKit Go.Maps
theorem zix(z:Int):I64 (wrap64 z):=by
 unfold I64 wrap64;omega
theorem zs9(a:OA)(ca:Nat)(b:OA)(cb:Nat)(s:Sr)(w:World)(hg:Tzz w a ca s.rg)(hm:Rii w b cb s.rw) :
 Calls Tryz.prog 30 #[.agg #[.slice a s.rg.length ca,.slice b s.rw.length cb]] w fun e w'=>∃q:Bool,e=.returned (.bool q)/\(q=true->s.rg.length<=20/\∀l∈s.rg,l.length<=8)/\Below w.heap.size w w':=by
 have k1:=hg.lenB;have k2:=hm.lenB;have HG:Hid (Tzz w a ca s.rg):=hg;have HM:Hid (Rii w b cb s.rw):=hm;clear hg hm;obtain⟨W,hW,X1,hbW⟩:∃W,W=w.alloc (.cells #[.slice a s.rg.length ca,.slice b s.rw.length cb] 26)/\BxS W w.heap.size (.slice a s.rg.length ca) (.slice b s.rw.length cb)/\Below w.heap.size w W:=⟨_,rfl,BxS.new _ _ _,bl1 _⟩;go_enter func30,ntmps30
 go_upto_block 0 with fail
 rw[<-hW];clear hW
 go_cut [3]from 4 to 26 (fun v wr=>∃z:Int,v=.int .i64 z/\I64 z/\BxS wr w.heap.size (.slice a s.rg.length ca) (.slice b s.rw.length cb)/\Below w.heap.size w wr)
 case first =>
  go_wp2_with fail
  go_loopw [3,4] (fun v i wr=>∃(k:Nat) (z:Int),k<=s.rg.length/\v=.int .i64 z/\I64 z/\i=.int .i64 k/\BxS wr w.heap.size (.slice a s.rg.length ca) (.slice b s.rw.length cb)/\Below w.heap.size w wr) (fun _ i _=>s.rg.length-(intOf i).toNat)
  case atStart=>exact⟨0,0,qD _,rfl,⟨by decide,by decide⟩,rfl,X1,hbW⟩
  case round =>
   clear X1 hbW;obtain⟨k,z,hk,rfl,hz,rfl,X1,hbW⟩:=hrel;obtain⟨p0,p1,_⟩:=X1.cells;by_cases hkn:k<s.rg.length
   . have g1:decide ((k:Int)<(s.rg.length:Int))=true:=qC (by omega)
     by_cases hz2:z<=2000
     . have g2:decide (z<=2000)=true:=qC hz2
       obtain⟨b1,o1,a1,c1,ea,_,d0,hp⟩:=HG.out.at hbW k hkn;have hpl:=hp.lenB;generalize (s.rg.getD k []).length=n1 at *;subst ea;clear hp hkn;have i1:(0:Int)<=(k:Int):=(by omega);have i2:(k:Int)<(s.rg.length:Int):=of_decide_eq_true g1;have HZ:Hid (∀y:Int,I64 (wrap64 y)):=zix;go_wp2_with fail
       go_roundw
       case rel=>exact⟨k+1,_,by omega,rfl,HZ.out _,by go_num,X1,hbW⟩
       case measure=>simp[intOf];omega
     . have g2:decide (z<=2000)=false:=qB hz2
       have i2:(k:Int)<(s.rg.length:Int):=(by omega);clear hkn;go_wp2_with fail
       go_meet;exact⟨z,rfl,hz,X1,hbW⟩
   . have g1:decide ((k:Int)<(s.rg.length:Int))=false:=qB (by omega)
     have i2:¬(k:Int)<(s.rg.length:Int):=(by omega);clear hkn;go_wp2_with fail
     go_meet;exact⟨z,rfl,hz,X1,hbW⟩
 case rest =>
  clear X1 hbW;obtain⟨z0,rfl,hzz0,X1,hbW⟩:=hcut
  go_upto_block 2 with fail
  go_cut [3]from 4 to 46 (fun v wr=>∃z:Int,v=.int .i64 z/\I64 z/\BxS wr w.heap.size (.slice a s.rg.length ca) (.slice b s.rw.length cb)/\Below w.heap.size w wr)
  case first =>
   go_wp2_with fail
   go_loopw [3,5] (fun v i wr=>∃(k:Nat) (z:Int),k<=s.rw.length/\v=.int .i64 z/\I64 z/\i=.int .i64 k/\BxS wr w.heap.size (.slice a s.rg.length ca) (.slice b s.rw.length cb)/\Below w.heap.size w wr) (fun _ i _=>s.rw.length-(intOf i).toNat)
   case atStart=>exact⟨0,z0,qD _,rfl,hzz0,rfl,X1,hbW⟩
   case round =>
    clear X1 hbW;obtain⟨k,z,hk,rfl,hz,rfl,X1,hbW⟩:=hrel;obtain⟨p0,p1,_⟩:=X1.cells;by_cases hkn:k<s.rw.length
    . have g1:decide ((k:Int)<(s.rw.length:Int))=true:=qC (by omega)
      by_cases hz2:z<=2000
      . have g2:decide (z<=2000)=true:=qC hz2
        obtain⟨b1,o1,a1,c1,ea,_,d0,hp⟩:=HM.out.at hbW k hkn;have hpl:=hp.lenB;generalize (s.rw.getD k []).length=n1 at *;subst ea;clear hp hkn;have i1:(0:Int)<=(k:Int):=(by omega);have i2:(k:Int)<(s.rw.length:Int):=of_decide_eq_true g1;have HZ:Hid (∀y:Int,I64 (wrap64 y)):=zix;go_wp2_with fail
        go_roundw
        case rel=>exact⟨k+1,_,by omega,rfl,HZ.out _,by go_num,X1,hbW⟩
        case measure=>simp[intOf];omega
      . have g2:decide (z<=2000)=false:=qB hz2
        have i2:(k:Int)<(s.rw.length:Int):=(by omega);clear hkn;go_wp2_with fail
        go_meet;exact⟨z,rfl,hz,X1,hbW⟩
    . have g1:decide ((k:Int)<(s.rw.length:Int))=false:=qB (by omega)
      have i2:¬(k:Int)<(s.rw.length:Int):=(by omega);clear hkn;go_wp2_with fail
      go_meet;exact⟨z,rfl,hz,X1,hbW⟩
  case rest =>
   clear X1 hbW hzz0;obtain⟨z1,rfl,hzz1,X1,hbW⟩:=hcut;go_wp2_with fail
   go_loopw [6] (fun i wr=>∃k:Nat,k<=s.rg.length/\i=.int .i64 k/\(∀j,j<k->(s.rg.getD j []).length<=8)/\BxS wr w.heap.size (.slice a s.rg.length ca) (.slice b s.rw.length cb)/\Below w.heap.size w wr) (fun i _=>s.rg.length-(intOf i).toNat)
   case atStart=>exact⟨0,qD _,rfl,(fun j hj=>by omega),X1,hbW⟩
   case round =>
    clear X1 hbW;obtain⟨k,hk,rfl,hok,X1,hbW⟩:=hrel;have HOK:Hid (∀j,j<k->(s.rg.getD j []).length<=8):=hok;clear hok;obtain⟨p0,p1,_⟩:=X1.cells;by_cases hkn:k<s.rg.length
    . obtain⟨b1,o1,a1,c1,ea,_,d0,hp⟩:=HG.out.at hbW k hkn
      have hpl:=hp.lenB;obtain⟨n1,hn1⟩:∃n1,(s.rg.getD k []).length=n1:=⟨_,rfl⟩;have HN:Hid ((s.rg.getD k []).length=n1):=hn1;rw[hn1]at d0 hpl;subst ea;clear hp hn1;by_cases h8:8<n1
      . have g3:(8:Int)<(n1:Int):=by omega
        go_wp2;go_ret;exact⟨false,rfl,(fun h=>by cases h),hbW⟩
      . have g3:¬(8:Int)<(n1:Int):=by omega
        have zb5:Hid (∀j,j<k+1->(s.rg.getD j []).length<=8):=fun j hj=>by
         rcases Nat.lt_or_ge j k with h1|h1
         . exact HOK.out j h1
         . rw[show j=k by omega,HN.out];omega
        go_wp2;go_roundw
        case rel=>exact⟨k+1,by omega,by go_num,zb5.out,X1,hbW⟩
        case measure=>simp[intOf];omega
    . obtain rfl:k=s.rg.length:=by omega
      have HA:Hid (∀l∈s.rg,l.length<=8):=fun l hl=>by
       obtain⟨i,hi,e⟩:=List.getElem_of_mem hl;have:=HOK.out i hi;rw[getL hi,e]at this;exact this
      by_cases hz2:z1<=2000
      . have g2:decide (z1<=2000)=true:=qC hz2
        go_wp2;go_ret;exact⟨_,rfl,(fun h=>⟨by have:=of_decide_eq_true h;omega,HA.out⟩),hbW⟩
      . have g2:decide (z1<=2000)=false:=qB hz2
        go_wp2;exact bodyPost_ret (v:=.bool false) (by simp[results,results30,go_sem]) rfl (by first | exact⟨false,rfl,(fun h=>by cases h),hbW⟩ | exact .inl ⟨rfl,hbW⟩)
structure zxs(P:Prop)(e:Ending):Prop where
 out:∃q:Bool,e=.returned (.bool q)/\(q=true->P)
def FewG(l:List Gl):Prop:=l.length<=40/\∀x∈l,x.o.cs.flatten.length<=1000/\x.o.ps.length<=12/\x.ts.length<=30
theorem FewG.ps{l:List Gl}(h:FewG l):∀x∈l,x.o.ps.length<=12:=fun x hx=>(h.2 x hx).2.1
theorem FewG.ts{l:List Gl}(h:FewG l):∀x∈l,x.ts.length<=30:=fun x hx=>(h.2 x hx).2.2
theorem FewG.pt{l:List Gl}(h:FewG l):∀x∈l,x.o.cs.flatten.length<=100000:=fun x hx=>qF (h.2 x hx).1 (by decide)
theorem zq0(S:Nat->Prop)(a:OA)(ca:Nat)(l:List Gl)(w:World)(hl:Gr GlE S w a ca l) :
 Calls Tryz.prog 29 #[.slice a l.length ca] w fun e w'=>zxs (FewG l) e/\Below w.heap.size w w':=by
 have kl:=hl.lenB;have HL:Hid (Gr GlE S w a ca l):=hl;clear hl;by_cases hn:40<l.length
 . have g1:(40:Int)<(l.length:Int):=by omega
   go_enter func29,ntmps29;go_wp2;go_ret;exact⟨⟨⟨false,rfl,(fun h=>by cases h)⟩⟩,Below.refl _ _⟩
 have g1:¬(40:Int)<(l.length:Int):=by omega
 go_enter func29,ntmps29;go_wp2;clear g1
 go_loopw [3,4] (fun nv i wr=>∃(k:Nat) (z:Int),k<=l.length/\i=.int .i64 k/\nv=.int .i64 z/\Hid (∀j,j<k->(l.getD j Gl.none).o.cs.flatten.length<=1000/\(l.getD j Gl.none).o.ps.length<=12/\(l.getD j Gl.none).ts.length<=30)/\Below w.heap.size w wr) (fun _ i _=>l.length-(intOf i).toNat)
 case atStart=>exact⟨0,0,qD _,rfl,rfl,(fun j hj=>by omega),Below.refl _ _⟩
 case round =>
  obtain⟨k,z,hk,rfl,rfl,HOK,hB⟩:=hrel;by_cases hkn:k<l.length
  . obtain⟨b1,off,xa,xc,pa,pc,ta,tc,ea,hb1,hGC,c0,c1,c2,-⟩:=HL.out.gl hB k hkn
    subst ea;obtain⟨x,hx⟩:∃x,l.getD k Gl.none=x:=⟨_,rfl⟩;have HX:Hid (l.getD k Gl.none=x):=hx;rw[hx]at hGC c0 c1 c2;have i1:(0:Int)<=(k:Int):=(by omega);have i2:(k:Int)<(l.length:Int):=(by omega);have kcs:=hGC.cs.lenB;have kps:=hGC.ps.lenB;have kts:=hGC.ts.lenB;have zt5:b1<wr.heap.size:=qN hb1 hB.size;have h1:=zqz S xa xc pa pc x.o wr hGC.cs hGC.ps;have h2:=fun U (hU:Below wr.heap.size wr U)=>zqy S ta tc x.ts U (hGC.below hU).ts;have h3:=fun U (hU:Below wr.heap.size wr U) (hf:x.o.cs.flatten.length<=100000)=>zby S xa xc (.slice pa x.o.ps.length pc) x.o.cs U (hGC.below hU).cs hf rfl;clear hx hGC;cases hf1:fewB x.o with
    | false =>
     rw[hf1]at h1;clear hf1 h2 h3;go_wp2_with fail
     refine h1.mono ?_;rintro e u1 ⟨rfl,hb⟩;replace hB:=hB.trans (hb.mono hB.size);clear h1 hb;go_wp2;go_ret;exact⟨⟨⟨false,rfl,(fun h=>by cases h)⟩⟩,hB⟩
    | true =>
    rw[hf1]at h1;have hf9:=(z0a hf1).2.1;clear hf1;go_wp2_with fail
    refine h1.mono ?_;rintro e u1 ⟨rfl,hb⟩;clear h1;replace c0:=(hb.cell (p:=⟨b1,off+k*6,none⟩) zt5).trans c0;replace c1:=(hb.cell (p:=⟨b1,off+k*6+1,none⟩) zt5).trans c1;replace c2:=(hb.cell (p:=⟨b1,off+k*6+2,none⟩) zt5).trans c2;have hB1:=hB.trans (hb.mono hB.size);have h2':=h2 _ hb;cases hf2:fewT x.ts with
    | false =>
     rw[hf2]at h2';clear hf2 h2 h3 hb;go_wp2_with fail
     refine h2'.mono ?_;rintro e u2 ⟨rfl,hb⟩;replace hB1:=hB1.trans (hb.mono hB1.size);clear h2' hb;go_wp2;go_ret;exact⟨⟨⟨false,rfl,(fun h=>by cases h)⟩⟩,hB1⟩
    | true =>
    rw[hf2]at h2';have htn:=(zz9 hf2).1;clear hf2 h2;go_wp2_with fail
    refine h2'.mono ?_;rintro e u2 ⟨rfl,hb2⟩;have hus:=hb.size;replace c0:=(hb2.cell (p:=⟨b1,off+k*6,none⟩) (by show b1<_;omega)).trans c0;replace c1:=(hb2.cell (p:=⟨b1,off+k*6+1,none⟩) (by show b1<_;omega)).trans c1;replace c2:=(hb2.cell (p:=⟨b1,off+k*6+2,none⟩) (by show b1<_;omega)).trans c2;have hB2:=hB1.trans (hb2.mono hB1.size);have hb3:=hb.trans (hb2.mono hb.size);have hus2:=hb2.size;clear h2' hb hb2 hB1 hB;by_cases hp:12<x.o.ps.length
    . have g2:decide ((12:Int)<(x.o.ps.length:Int))=true:=qC (by omega)
      have g3:(12:Int)<(x.o.ps.length:Int):=(by omega);clear h3 hb3;go_wp2;go_ret;exact⟨⟨⟨false,rfl,(fun h=>by cases h)⟩⟩,hB2⟩
    have g2:decide ((12:Int)<(x.o.ps.length:Int))=false:=qB (by omega);have zb5:Hid (∀j,j<k+1->(l.getD j Gl.none).o.cs.flatten.length<=1000/\(l.getD j Gl.none).o.ps.length<=12/\(l.getD j Gl.none).ts.length<=30):=fun j hj=>by
     rcases Nat.lt_or_ge j k with h1|h1
     . exact HOK.out j h1
     . rw[show j=k by omega,HX.out];exact⟨hf9,by omega⟩
    have hpo:=fun U hU=>h3 U (hb3.trans (Below.mono hU hb3.size)) (by omega);clear h3 HOK HX;go_upto_region 9 with fail
    refine wp_region_held_drew (S:=fun w9=>w9.cell? ⟨b1,off+k*6,none⟩=some (.slice xa x.o.cs.length xc)/\w9.cell? ⟨b1,off+k*6+1,none⟩=some (.slice pa x.o.ps.length pc)/\w9.cell? ⟨b1,off+k*6+2,none⟩=some (.slice ta x.ts.length tc)) (by kernel_rfl) ?_ (fun hH=>?_)
    . (try dsimp only)
      go_keep
    have hdr:Below u2.heap.size u2 u2.drew:=Below.drew1;have hpo2:=hpo _ hdr;generalize u2.drew=Z at hdr hH hpo2 ⊢;replace c0:=(hdr.cell (p:=⟨b1,off+k*6,none⟩) (by show b1<_;omega)).trans c0;replace c1:=(hdr.cell (p:=⟨b1,off+k*6+1,none⟩) (by show b1<_;omega)).trans c1;replace c2:=(hdr.cell (p:=⟨b1,off+k*6+2,none⟩) (by show b1<_;omega)).trans c2;replace hB2:=hB2.trans (hdr.mono hB2.size);have hzs:=hdr.size;clear hdr hpo hb3;refine hT 0 hH ?_;refine hT 1 hH ?_;refine hT 2 hH ?_;refine hT 3 hH ?_;refine hT 4 hH ?_;refine hT 5 hH ?_;refine hT 8 hH ?_;refine hT 9 hH ?_;refine hT 10 hH ?_;refine hT 11 hH ?_;refine hT 12 hH ?_;refine hT 13 hH ?_;refine hT 14 hH ?_;refine hCall (i:=6) rfl (by kernel_rfl) (by rfl) (fun K hK=>?_);go_simp;refine hpo2.mono ?_;rintro e u3 ⟨a8,c8,rfl,-,-,hb⟩;replace c0:=(hb.cell (p:=⟨b1,off+k*6,none⟩) (by show b1<_;omega)).trans c0;replace c1:=(hb.cell (p:=⟨b1,off+k*6+1,none⟩) (by show b1<_;omega)).trans c1;replace c2:=(hb.cell (p:=⟨b1,off+k*6+2,none⟩) (by show b1<_;omega)).trans c2;replace hB2:=hB2.trans (hb.mono hB2.size);clear hb hpo2;go_wp2_with fail
    refine hK.out _ _ ?_ (fun hH=>?_)
    . (try dsimp only)
      exact⟨c0,c1,c2⟩
    clear hK K;try simp only[Act.put,pZ]
    refine hT 7 hH ?_;refine hT 15 hH ?_;refine hT 16 hH ?_;refine hT 17 hH ?_;refine wpAnyH_done (by kernel_rfl) ?_ _;clear hH c0 c1 c2;go_wp2;go_roundw
    case rel=>exact⟨k+1,_,by omega,by go_num,rfl,zb5,hB2⟩
    case measure=>simp[intOf];omega
  . have ek:k=l.length:=by omega
    have g4:¬(k:Int)<(l.length:Int):=(by omega);have HF:Hid (FewG l):=⟨by omega,zfw (d:=Gl.none) (fun j hj=>HOK.out j (by omega))⟩;clear HOK;go_wp2;go_ret;exact⟨⟨⟨_,rfl,fun _=>HF.out⟩⟩,hB⟩
theorem zs8(S:Nat->Prop)(a:OA)(ca:Nat)(l:List Gl)(ga:OA)(gc:Nat)(ma:OA)(mc:Nat)(s:Sr)(ax:Int)(pa:OA)(pn pc:Nat)(w:World)(hl:Gr GlE S w a ca l)(hg:Tzz w ga gc s.rg)(hm:Rii w ma mc s.rw)(hpn:pn<=9223372036854775807) :
 Calls Tryz.prog 10 #[.agg #[.slice a l.length ca,.slice ga s.rg.length gc,.slice ma s.rw.length mc,.int .i64 ax],.slice pa pn pc] w fun e w'=>zxs (FewG l/\s.rg.length<=20/\(∀l∈s.rg,l.length<=8)/\pn<=20) e/\Below w.heap.size w w':=by
 obtain⟨W,hW,X1,hbW⟩:∃W,W=w.alloc (.cells #[.slice a l.length ca,.slice ga s.rg.length gc,.slice ma s.rw.length mc,.int .i64 ax] 28)/\Bk 28 W w.heap.size [.slice a l.length ca,.slice ga s.rg.length gc,.slice ma s.rw.length mc,.int .i64 ax]/\Below w.heap.size w W:=⟨_,rfl,Bk.new _ _ _,bl1 _⟩;obtain⟨p0,p1,p2,p3,_⟩:=X1.four;have c1:=zq0 S a ca l W (hl.below hbW);have c2:=fun U (hb:Below W.heap.size W U)=>zs9 ga gc ma mc s U ((hg.below hbW).below hb) ((hm.below hbW).below hb);clear hl hg hm;go_enter func10,ntmps10;go_upto_region 1 with fail
 rw[<-hW];clear hW;go_wp2_with fail
 refine c1.mono ?_;rintro e m1 ⟨⟨⟨q1,rfl,HF1⟩⟩,hb1⟩;replace HF1:Hid (q1=true->FewG l):=HF1;replace X1:=X1.below hb1;clear p0 p1 p2 p3 c1;obtain⟨p0,p1,p2,p3,_⟩:=X1.four;cases q1 with
 | false =>
  have za1:=hbW.trans (hb1.mono hbW.size);clear c2;go_wp2;go_ret;exact⟨⟨⟨false,rfl,(fun h=>by cases h)⟩⟩,za1⟩
 | true =>
 have HG1:Hid (FewG l):=HF1.out rfl;clear HF1;go_wp2_with fail
 refine(c2 _ hb1).mono ?_;rintro e m2 ⟨q2,rfl,HF2,hb2⟩;replace HF2:Hid (q2=true->s.rg.length<=20/\∀l∈s.rg,l.length<=8):=HF2;have za1:=(hbW.trans (hb1.mono hbW.size)).trans (hb2.mono (qF hbW.size hb1.size));clear c2 hb1 hb2;cases q2 with
 | false =>
  go_wp2;go_ret;exact⟨⟨⟨false,rfl,(fun h=>by cases h)⟩⟩,za1⟩
 | true =>
 have HG2:Hid (s.rg.length<=20/\∀l∈s.rg,l.length<=8):=HF2.out rfl;clear HF2;have HP:Hid ((decide ((pn:Int)<=20))=true->pn<=20):=fun h=>by
  have:=of_decide_eq_true h;omega
 go_wp2;go_ret;exact⟨⟨⟨decide ((pn:Int)<=20),rfl,fun h=>⟨HG1.out,HG2.out.1,HG2.out.2,HP.out h⟩⟩⟩,za1⟩
theorem zjz{l:List Gl}{s:Sr}{ax:Int}(h:¬(1<=l.length/\l.length<=100)):foG l s ax=false:=by unfold foG;rw[qB h];rfl
theorem zs1{l:List Gl}{s:Sr}{ax:Int}(h:stB s ax=false):foG l s ax=false:=by unfold foG;rw[h];simp
theorem zmc{l:List Gl}{s:Sr}{ax:Int}{k:Nat}(hk:k<l.length)(h:foGx l s ax k=false):foG l s ax=false:=by
 cases hf:foG l s ax with
 | false=>rfl
 | true =>
  have:=(zbt.1 hf).2.2 k hk;rw[h]at this;cases this
theorem zh2(S:Nat->Prop)(a:OA)(ca:Nat)(l:List Gl)(ga:OA)(gc:Nat)(ma:OA)(mc:Nat)(s:Sr)(ax:Int)(w:World)(hl:Gr GlE S w a ca l)(hps:∀x∈l,x.o.ps.length<=12)(hg:Tzz w ga gc s.rg)(hm:Rii w ma mc s.rw)(hi:I64 ax) :
 Calls Tryz.prog 27 #[.slice a l.length ca,.agg #[.slice ga s.rg.length gc,.slice ma s.rw.length mc],.int .i64 ax] w fun e w'=>e=.returned (.bool (foG l s ax))/\Below w.heap.size w w':=by
 have kl:=hl.lenB;have k2:=hm.lenB;obtain⟨W,hW,X1,hbW⟩:∃W,W=w.alloc (.cells #[.slice ga s.rg.length gc,.slice ma s.rw.length mc] 26)/\Bk 26 W w.heap.size [.slice ga s.rg.length gc,.slice ma s.rw.length mc]/\Below w.heap.size w W:=⟨_,rfl,Bk.new _ _ _,bl1 _⟩;obtain⟨x0,x1,_⟩:=X1.two;by_cases hn0:l.length<1
 . have HF:Hid (foG l s ax=false):=zjz (by omega)
   have g1:decide ((l.length:Int)<1)=true:=qC (by omega);have g2:(l.length:Int)<1:=(by omega);go_enter func27,ntmps27;go_upto_region 1 with fail
   rw[<-hW];clear hW;go_wp2;go_ret;exact⟨zaa HF.out.symm,hbW⟩
 have g1:decide ((l.length:Int)<1)=false:=qB (by omega);by_cases hn1:100<l.length
 . have HF:Hid (foG l s ax=false):=zjz (by omega)
   have g2:decide ((100:Int)<(l.length:Int))=true:=qC (by omega);go_enter func27,ntmps27;go_upto_region 1 with fail
   rw[<-hW];clear hW;go_wp2;go_ret;exact⟨zaa HF.out.symm,hbW⟩
 have g2:decide ((100:Int)<(l.length:Int))=false:=qB (by omega);have hsf:=zpz ga gc ma mc s ax W (hg.below hbW) (hm.below hbW);cases hst:stB s ax with
 | false =>
  rw[hst]at hsf;have HF:Hid (foG l s ax=false):=zs1 hst;clear hst;go_enter func27,ntmps27;go_upto_region 1 with fail
  rw[<-hW];clear hW;go_wp2_with fail
  refine hsf.mono ?_;rintro e u ⟨rfl,hb⟩;replace hbW:=hbW.trans (hb.mono hbW.size);clear hsf hb;go_wp2;go_ret;exact⟨zaa HF.out.symm,hbW⟩
 | true =>
 rw[hst]at hsf;have HST:Hid (stB s ax=true):=hst;clear hst;go_enter func27,ntmps27;go_upto_region 1 with fail
 rw[<-hW];clear hW;go_wp2_with fail
 refine hsf.mono ?_;rintro e u1 ⟨rfl,hb⟩;replace hl:=(hl.below hbW).below hb;replace X1:=X1.below hb;replace hbW:=hbW.trans (hb.mono hbW.size);clear hsf hb x0 x1 hg hm g1 g2;go_wp2_with fail
 refine(zel a l.length ca u1).mono ?_;rintro e V ⟨rfl,hSv,hMp,hbV⟩;have HL:Hid (Gr GlE S u1 a ca l):=hl;have HX1:Hid (Bk 26 u1 w.heap.size [.slice ga s.rg.length gc,.slice ma s.rw.length mc]):=X1;have HBW:Hid (Below w.heap.size w u1):=hbW;have HPS:Hid (∀x∈l,x.o.ps.length<=12):=hps;clear hl X1 hbW hps;go_wp2
 go_loopw [30] (fun i wr=>∃(k n':Nat) (F':Int->Option Value),k<=l.length/\i=.int .i64 k/\Hid (∀j,j<k->foGx l s ax j=true)/\Bk 119 wr (u1.heap.size+1) [.slice a l.length ca,.map (some u1.heap.size)]/\Mp wr u1.heap.size n' F'/\Hid (KnG l F')/\Hid (n'<=k*4000000)/\Below u1.heap.size u1 wr) (fun i _=>l.length-(intOf i).toNat)
 case atStart=>exact⟨0,0,_,qD _,rfl,(fun j hj=>by omega),hSv,hMp,KnG.nil l,qD _,hbV⟩
 case round =>
  clear hSv hMp hbV;obtain⟨k,n1,F1,hk,rfl,HOK,hSv,hMp,HKN,HN,hB⟩:=hrel;have hBw:Below w.heap.size w wr:=HBW.out.trans (hB.mono HBW.out.size);by_cases hkn:k<l.length
  . obtain⟨b1,off,xa,xc,pa,pc,ta,tc,ea,hb1,hGC,c0,c1,c2,c3,c4,c5⟩:=HL.out.gl hB k hkn
    subst ea;have hBad:∀q:Bool,foGx l s ax k=false->foG l s ax=false:=fun _ h=>zmc hkn h;have zkg:Hid (foGx l s ax k=false->foG l s ax=false):=zmc hkn;have HX:Hid (foGx l s ax k=((dq l 6 (k:Int)).isSome&&(decide (szG l (k:Int)<=2000)&&(foT (l.getD k Gl.none).o (l.getD k Gl.none).ts ax&&fiS s (l.getD k Gl.none).ab (l.getD k Gl.none).ar)))):=rfl;clear hBad;obtain⟨x,hx⟩:∃x,l.getD k Gl.none=x:=⟨_,rfl⟩;rw[hx]at hGC c0 c1 c2 c3 c4 c5 HX;have i1:(0:Int)<=(k:Int):=(by omega);have i2:(k:Int)<(l.length:Int):=(by omega);have kcs:=hGC.cs.lenB;have kps:=hGC.ps.lenB;have kts:=hGC.ts.lenB;obtain⟨U,hU,XG,hbU⟩:∃U,U=wr.alloc (.cells #[.slice xa x.o.cs.length xc,.slice pa x.o.ps.length pc,.slice ta x.ts.length tc,.int .i64 x.ab,.int .i64 x.ar,.bool x.mr] 62)/\Bk 62 U wr.heap.size [.slice xa x.o.cs.length xc,.slice pa x.o.ps.length pc,.slice ta x.ts.length tc,.int .i64 x.ab,.int .i64 x.ar,.bool x.mr]/\Below wr.heap.size wr U:=⟨_,rfl,Bk.new _ _ _,bl1 _⟩;have hG2:=hGC.below hbU;have hto:=zd8 S xa xc pa pc x.o S ta tc x.ts ax U hG2.cs hG2.ps hG2.ts hi;replace hSv:=hSv.below hbU;replace hMp:=hMp.below hbU;replace hB:=hB.trans (hbU.mono hB.size);replace hBw:=hBw.trans (hbU.mono hBw.size);obtain⟨q0,q1,q2,q3,q4,q5,_⟩:=XG.six;go_upto_region 7 with fail
    rw[<-hU];clear hU c0 c1 c2 c3 c4 c5 hx;cases hf1:foT x.o x.ts ax with
    | false =>
     rw[hf1]at hto;have HF:Hid (foG l s ax=false):=zkg.out (by rw[HX.out,hf1];simp);clear hf1 HX zkg;go_wp2_with fail
     refine hto.mono ?_;rintro e u2 ⟨rfl,hb⟩;replace hBw:=hBw.trans (hb.mono hBw.size);clear hto hb;go_wp2;go_ret;exact⟨zaa HF.out.symm,hBw⟩
    | true =>
    rw[hf1]at hto;replace HX:Hid (foGx l s ax k=((dq l 6 (k:Int)).isSome&&(decide (szG l (k:Int)<=2000)&&fiS s x.ab x.ar))):=(by show _=_;rw[HX.out,hf1,Bool.true_and]);clear hf1;go_wp2_with fail
    refine hto.mono ?_;rintro e u2 ⟨rfl,hb⟩;replace hSv:=hSv.below hb;replace hMp:=hMp.below hb;replace XG:=XG.below hb;replace hB:=hB.trans (hb.mono hB.size);replace hBw:=hBw.trans (hb.mono hBw.size);have hX1:=HX1.out.below hB;obtain⟨x0,x1,_⟩:=hX1.two;clear q0 q1 q2 q3 q4 q5 hto hb;obtain⟨q0,q1,q2,q3,q4,q5,_⟩:=XG.six;have hfi:=zto ga gc ma mc s x.ab x.ar u2 k2 hGC.2.2.2.1 hGC.2.2.2.2;cases hf2:fiS s x.ab x.ar with
    | false =>
     rw[hf2]at hfi;have HF:Hid (foG l s ax=false):=zkg.out (by rw[HX.out,hf2];simp);clear hf2 HX zkg;go_wp2_with fail
     refine hfi.mono ?_;rintro e u3 ⟨rfl,hb⟩;replace hBw:=hBw.trans (hb.mono hBw.size);clear hfi hb;go_wp2;go_ret;exact⟨zaa HF.out.symm,hBw⟩
    | true =>
    rw[hf2]at hfi;replace HX:Hid (foGx l s ax k=((dq l 6 (k:Int)).isSome&&decide (szG l (k:Int)<=2000))):=(by show _=_;rw[HX.out,hf2,Bool.and_true]);clear hf2;go_wp2_with fail
    refine hfi.mono ?_;rintro e u3 ⟨rfl,hb⟩;replace hSv:=hSv.below hb;replace hMp:=hMp.below hb;replace hB:=hB.trans (hb.mono hB.size);replace hBw:=hBw.trans (hb.mono hBw.size);clear q0 q1 q2 q3 q4 q5 hfi hb x0 x1 hX1 XG hGC hG2 hbU
    have hof:=zsu u1 S _ ca l HL.out HPS.out (u1.heap.size+1) u1.heap.size (qE _) (by omega) 7 0 rfl (k:Int) n1 F1 u3 ⟨by omega,by omega⟩ (by
     have h1:=tk_le (qE 7);have h2:=HN.out
     omega) hB hSv hMp HKN.out
    rw[show((0:Nat):Int)=0 from rfl]at hof;go_wp2_with fail
    refine hof.mono ?_;rintro e u4 ⟨zzq,⟨n2,F2,z2v,hKN2,hn2⟩,hKp⟩;replace hSv:=hSv.kp hKp (by omega);have hb4:=hKp.below hB.size (qE _);replace hB:=hB.trans hb4;replace hBw:=hBw.trans (hb4.mono HBW.out.size);have HN2:Hid (n2<=(k+1)*4000000):=by
     have h1:=tk_le (qE 7);have h2:=HN.out;show _<=_;omega
    have HKN2:Hid (KnG l F2):=hKN2;clear hof hb4 hKp hMp hKN2 HN HKN hn2;rcases zzq with ⟨dk,hdk,rfl⟩|⟨zn0,rfl⟩
    . obtain⟨sz,hsz⟩:∃z,szG l (k:Int)=z:=⟨_,rfl⟩
      rw[hsz,hdk]at HX;rw[hsz];obtain⟨U2,hU2,XE,zk7⟩:∃U,U=u4.alloc (.cells #[.int .i64 (dk:Int),.int .i64 (sz:Int)] 71)/\Bk 71 U u4.heap.size [.int .i64 (dk:Int),.int .i64 (sz:Int)]/\Below u4.heap.size u4 U:=⟨_,rfl,Bk.new _ _ _,bl1 _⟩;replace hSv:=hSv.below zk7;replace z2v:=z2v.below zk7;replace hB:=hB.trans (zk7.mono hB.size);replace hBw:=hBw.trans (zk7.mono hBw.size);obtain⟨e0,e1,_⟩:=XE.two;go_upto_region 10 with fail
      rw[<-hU2];clear hU2 hdk hsz zk7;by_cases hs2:sz<=2000
      . have g5:decide ((2000:Int)<(sz:Int))=false:=qB (by omega)
        have zb5:Hid (∀j,j<k+1->foGx l s ax j=true):=fun j hj=>by
         rcases Nat.lt_or_ge j k with h1|h1
         . exact HOK.out j h1
         . rw[show j=k by omega,HX.out,qC hs2];rfl
        clear HX zkg HOK XE;go_wp2;go_roundw
        case rel=>exact⟨k+1,n2,F2,by omega,by go_num,zb5,hSv,z2v,HKN2,HN2,hB⟩
        case measure=>simp[intOf];omega
      . have g5:decide ((2000:Int)<(sz:Int))=true:=qC (by omega)
        have HF:Hid (foG l s ax=false):=zkg.out (by rw[HX.out,qB hs2];rfl);clear HX zkg HOK XE hSv z2v;go_wp2;go_ret;exact⟨zaa HF.out.symm,hBw⟩
    . have HF:Hid (foG l s ax=false):=zkg.out (by rw[HX.out,zr3 zn0];rfl)
      have hBf:Below w.heap.size w (u4.alloc (.cells #[.int .i64 0,.int .i64 0] 71)):=hBw.trans ((bl1 _).mono hBw.size);clear HX zkg HOK hSv z2v zn0 hBw;go_wp2;go_ret;exact⟨zaa HF.out.symm,hBf⟩
  . have ek:k=l.length:=by omega
    have HF:Hid (foG l s ax=true):=zbt.2 ⟨⟨by omega,by omega⟩,HST.out,fun j hj=>HOK.out j (by omega)⟩;have g4:¬(k:Int)<(l.length:Int):=(by omega);clear HOK hSv hMp;go_wp2;go_ret;exact⟨zaa HF.out.symm,hBw⟩
theorem za6(z:Int)(w:World) :
 Calls Tryz.prog 108 #[.int .i64 z] w fun e w'=>e=.returned (.bool (fdB z))/\w=w':=by
 by_cases h1:-32768<=z
 . have g1:decide (-32768<=z)=true:=qC h1
   have HE:Hid (decide (z<=32767)=fdB z):=(by show _=_;rw[fdB];exact decide_eq_decide.2 ⟨fun h=>⟨h1,h⟩,fun h=>h.2⟩);go_enter func108,ntmps108;go_wp2;go_ret;exact⟨zaa HE.out,rfl⟩
 . have g1:decide (-32768<=z)=false:=qB h1
   have HE:Hid (false=fdB z):=(by show _=_;rw[fdB];exact(qB (fun h=>h1 h.1)).symm);go_enter func108,ntmps108;go_wp2;go_ret;exact⟨zaa HE.out,rfl⟩
open Classical
theorem zac(z:Int)(w:World):Calls Tryz.prog 200 #[.int .i64 z] w fun e w'=>e=.returned (.bool (crd z))/\w=w':=by
 by_cases h1:-16384<=z
 . go_enter func200,ntmps200
   go_wp2;go_ret;exact⟨zch (by simp[crd,h1]),rfl⟩
 . go_enter func200,ntmps200
   go_wp2;go_ret;exact⟨zch (by simp[crd];omega),rfl⟩
theorem z04{t:Te}(h1:crd t.st=true)(h2:crd t.pk=true)(h3:crd t.en=true)(h:0<t.pk):tfB t=(decide (0<=t.st)&&(decide (t.st<t.pk)&&(decide (t.pk<t.en)||(t.pk==16384&&t.en==16384)))):=by
 rw[crdT]at h1 h2 h3;rw[Bool.eq_iff_iff,zc0];unfold TfT;simp;omega
theorem zua{t:Te}(h1:crd t.st=true)(h2:crd t.pk=true)(h3:crd t.en=true)(h:t.pk<0):tfB t=(decide (t.en<=0)&&(decide (t.pk<t.en)&&(decide (t.st<t.pk)||(t.pk == -16384&&t.st == -16384)))):=by
 rw[crdT]at h1 h2 h3;rw[Bool.eq_iff_iff,zc0];unfold TfT;simp;omega
theorem zx3{t:Te}(h1:crd t.st=true)(h2:crd t.pk=true)(h3:crd t.en=true)(h:t.pk=0):tfB t=(t.st==0&&t.en==0):=by
 rw[crdT]at h1 h2 h3;rw[Bool.eq_iff_iff,zc0];unfold TfT;simp;omega
theorem zo3(t:Te)(w:World) :
 Calls Tryz.prog 158 #[.agg #[.int .i64 t.st,.int .i64 t.pk,.int .i64 t.en]] w fun e w'=>e=.returned (.bool (tfB t))/\Below w.heap.size w w':=by
 obtain⟨W,hW,X1,hbW⟩:∃W,W=w.alloc (.cells #[.int .i64 t.st,.int .i64 t.pk,.int .i64 t.en] 146)/\Box 146 W w.heap.size (.int .i64 t.st) (.int .i64 t.pk) (.int .i64 t.en)/\Below w.heap.size w W:=⟨_,rfl,Box.new _ _ _ _ _,al1 _⟩;cases c1:crd t.st with
 | false =>
  have HF:Hid (tfB t=false):=zin (fun h=>by rw[crdT.2 h.1]at c1;cases c1);obtain⟨st,pk,en⟩:=t;dsimp only at *;obtain⟨p0,p1,p2,_⟩:=X1.cells;go_enter func158,ntmps158;go_wp2_with fail
  rw[<-hW];clear hW;refine(zac st _).mono ?_;rintro e u1 ⟨rfl,rfl⟩;rw[c1];go_wp2;go_ret;exact⟨zaa HF.out.symm,hbW⟩
 | true =>
  cases c2:crd t.pk with
  | false =>
   have HF:Hid (tfB t=false):=zin (fun h=>by rw[crdT.2 h.2.1]at c2;cases c2);obtain⟨st,pk,en⟩:=t;dsimp only at *;obtain⟨p0,p1,p2,_⟩:=X1.cells;go_enter func158,ntmps158;go_wp2_with fail
   rw[<-hW];clear hW;refine(zac st _).mono ?_;rintro e u1 ⟨rfl,rfl⟩;rw[c1];go_wp2_with fail
   refine(zac pk _).mono ?_;rintro e u1 ⟨rfl,rfl⟩;rw[c2];go_wp2;go_ret;exact⟨zaa HF.out.symm,hbW⟩
  | true =>
   cases c3:crd t.en with
   | false =>
    have HF:Hid (tfB t=false):=zin (fun h=>by rw[crdT.2 h.2.2.1]at c3;cases c3);obtain⟨st,pk,en⟩:=t;dsimp only at *;obtain⟨p0,p1,p2,_⟩:=X1.cells;go_enter func158,ntmps158;go_wp2_with fail
    rw[<-hW];clear hW;refine(zac st _).mono ?_;rintro e u1 ⟨rfl,rfl⟩;rw[c1];go_wp2_with fail
    refine(zac pk _).mono ?_;rintro e u1 ⟨rfl,rfl⟩;rw[c2];go_wp2_with fail
    refine(zac en _).mono ?_;rintro e u1 ⟨rfl,rfl⟩;rw[c3];go_wp2;go_ret;exact⟨zaa HF.out.symm,hbW⟩
   | true =>
    by_cases hu:0<t.pk
    . have HF:Hid (tfB t=_):=z04 c1 c2 c3 hu
      cases g1:(decide (0<=t.st):Bool) with
      | false =>
       rw[g1]at HF;obtain⟨st,pk,en⟩:=t;dsimp only at *;obtain⟨p0,p1,p2,_⟩:=X1.cells;go_enter func158,ntmps158;go_wp2_with fail
       rw[<-hW];clear hW;refine(zac st _).mono ?_;rintro e u1 ⟨rfl,rfl⟩;rw[c1];go_wp2_with fail
       refine(zac pk _).mono ?_;rintro e u1 ⟨rfl,rfl⟩;rw[c2];go_wp2_with fail
       refine(zac en _).mono ?_;rintro e u1 ⟨rfl,rfl⟩;rw[c3];clear c1 c2 c3;go_wp2;go_ret;exact⟨zaa (by rw[HF.out];simp),hbW⟩
      | true =>
       cases g2:(decide (t.st<t.pk):Bool) with
       | false =>
        rw[g1,g2]at HF;obtain⟨st,pk,en⟩:=t;dsimp only at *;obtain⟨p0,p1,p2,_⟩:=X1.cells;go_enter func158,ntmps158;go_wp2_with fail
        rw[<-hW];clear hW;refine(zac st _).mono ?_;rintro e u1 ⟨rfl,rfl⟩;rw[c1];go_wp2_with fail
        refine(zac pk _).mono ?_;rintro e u1 ⟨rfl,rfl⟩;rw[c2];go_wp2_with fail
        refine(zac en _).mono ?_;rintro e u1 ⟨rfl,rfl⟩;rw[c3];clear c1 c2 c3;go_wp2;go_ret;exact⟨zaa (by rw[HF.out];simp),hbW⟩
       | true =>
        cases g3:(decide (t.pk<t.en):Bool) with
        | false =>
         cases g4:(t.pk==16384:Bool) with
         | false =>
          rw[g1,g2,g3,g4]at HF;obtain⟨st,pk,en⟩:=t;dsimp only at *;obtain⟨p0,p1,p2,_⟩:=X1.cells;go_enter func158,ntmps158;go_wp2_with fail
          rw[<-hW];clear hW;refine(zac st _).mono ?_;rintro e u1 ⟨rfl,rfl⟩;rw[c1];go_wp2_with fail
          refine(zac pk _).mono ?_;rintro e u1 ⟨rfl,rfl⟩;rw[c2];go_wp2_with fail
          refine(zac en _).mono ?_;rintro e u1 ⟨rfl,rfl⟩;rw[c3];clear c1 c2 c3;go_wp2;go_ret;exact⟨zaa (by rw[HF.out];simp),hbW⟩
         | true =>
          rw[g1,g2,g3,g4]at HF;obtain⟨st,pk,en⟩:=t;dsimp only at *;obtain⟨p0,p1,p2,_⟩:=X1.cells;go_enter func158,ntmps158;go_wp2_with fail
          rw[<-hW];clear hW;refine(zac st _).mono ?_;rintro e u1 ⟨rfl,rfl⟩;rw[c1];go_wp2_with fail
          refine(zac pk _).mono ?_;rintro e u1 ⟨rfl,rfl⟩;rw[c2];go_wp2_with fail
          refine(zac en _).mono ?_;rintro e u1 ⟨rfl,rfl⟩;rw[c3];clear c1 c2 c3;go_wp2;go_ret;exact⟨zaa (by rw[HF.out];simp),hbW⟩
        | true =>
         rw[g1,g2,g3]at HF;obtain⟨st,pk,en⟩:=t;dsimp only at *;obtain⟨p0,p1,p2,_⟩:=X1.cells;go_enter func158,ntmps158;go_wp2_with fail
         rw[<-hW];clear hW;refine(zac st _).mono ?_;rintro e u1 ⟨rfl,rfl⟩;rw[c1];go_wp2_with fail
         refine(zac pk _).mono ?_;rintro e u1 ⟨rfl,rfl⟩;rw[c2];go_wp2_with fail
         refine(zac en _).mono ?_;rintro e u1 ⟨rfl,rfl⟩;rw[c3];clear c1 c2 c3;go_wp2;go_ret;exact⟨zaa (by rw[HF.out];simp),hbW⟩
    . by_cases hd:t.pk<0
      . have HF:Hid (tfB t=_):=zua c1 c2 c3 hd
        cases g1:(decide (t.en<=0):Bool) with
        | false =>
         rw[g1]at HF;obtain⟨st,pk,en⟩:=t;dsimp only at *;obtain⟨p0,p1,p2,_⟩:=X1.cells;go_enter func158,ntmps158;go_wp2_with fail
         rw[<-hW];clear hW;refine(zac st _).mono ?_;rintro e u1 ⟨rfl,rfl⟩;rw[c1];go_wp2_with fail
         refine(zac pk _).mono ?_;rintro e u1 ⟨rfl,rfl⟩;rw[c2];go_wp2_with fail
         refine(zac en _).mono ?_;rintro e u1 ⟨rfl,rfl⟩;rw[c3];clear c1 c2 c3;go_wp2;go_ret;exact⟨zaa (by rw[HF.out];simp),hbW⟩
        | true =>
         cases g2:(decide (t.pk<t.en):Bool) with
         | false =>
          rw[g1,g2]at HF;obtain⟨st,pk,en⟩:=t;dsimp only at *;obtain⟨p0,p1,p2,_⟩:=X1.cells;go_enter func158,ntmps158;go_wp2_with fail
          rw[<-hW];clear hW;refine(zac st _).mono ?_;rintro e u1 ⟨rfl,rfl⟩;rw[c1];go_wp2_with fail
          refine(zac pk _).mono ?_;rintro e u1 ⟨rfl,rfl⟩;rw[c2];go_wp2_with fail
          refine(zac en _).mono ?_;rintro e u1 ⟨rfl,rfl⟩;rw[c3];clear c1 c2 c3;go_wp2;go_ret;exact⟨zaa (by rw[HF.out];simp),hbW⟩
         | true =>
          cases g3:(decide (t.st<t.pk):Bool) with
          | false =>
           cases g4:(t.pk == -16384:Bool) with
           | false =>
            rw[g1,g2,g3,g4]at HF;obtain⟨st,pk,en⟩:=t;dsimp only at *;obtain⟨p0,p1,p2,_⟩:=X1.cells;go_enter func158,ntmps158;go_wp2_with fail
            rw[<-hW];clear hW;refine(zac st _).mono ?_;rintro e u1 ⟨rfl,rfl⟩;rw[c1];go_wp2_with fail
            refine(zac pk _).mono ?_;rintro e u1 ⟨rfl,rfl⟩;rw[c2];go_wp2_with fail
            refine(zac en _).mono ?_;rintro e u1 ⟨rfl,rfl⟩;rw[c3];clear c1 c2 c3;go_wp2;go_ret;exact⟨zaa (by rw[HF.out];simp),hbW⟩
           | true =>
            rw[g1,g2,g3,g4]at HF;obtain⟨st,pk,en⟩:=t;dsimp only at *;obtain⟨p0,p1,p2,_⟩:=X1.cells;go_enter func158,ntmps158;go_wp2_with fail
            rw[<-hW];clear hW;refine(zac st _).mono ?_;rintro e u1 ⟨rfl,rfl⟩;rw[c1];go_wp2_with fail
            refine(zac pk _).mono ?_;rintro e u1 ⟨rfl,rfl⟩;rw[c2];go_wp2_with fail
            refine(zac en _).mono ?_;rintro e u1 ⟨rfl,rfl⟩;rw[c3];clear c1 c2 c3;go_wp2;go_ret;exact⟨zaa (by rw[HF.out];simp),hbW⟩
          | true =>
           rw[g1,g2,g3]at HF;obtain⟨st,pk,en⟩:=t;dsimp only at *;obtain⟨p0,p1,p2,_⟩:=X1.cells;go_enter func158,ntmps158;go_wp2_with fail
           rw[<-hW];clear hW;refine(zac st _).mono ?_;rintro e u1 ⟨rfl,rfl⟩;rw[c1];go_wp2_with fail
           refine(zac pk _).mono ?_;rintro e u1 ⟨rfl,rfl⟩;rw[c2];go_wp2_with fail
           refine(zac en _).mono ?_;rintro e u1 ⟨rfl,rfl⟩;rw[c3];clear c1 c2 c3;go_wp2;go_ret;exact⟨zaa (by rw[HF.out];simp),hbW⟩
      . have HF:Hid (tfB t=_):=zx3 c1 c2 c3 (by omega)
        cases g1:(t.st==0:Bool) with
        | false =>
         rw[g1]at HF;obtain⟨st,pk,en⟩:=t;dsimp only at *;obtain⟨p0,p1,p2,_⟩:=X1.cells;go_enter func158,ntmps158;go_wp2_with fail
         rw[<-hW];clear hW;refine(zac st _).mono ?_;rintro e u1 ⟨rfl,rfl⟩;rw[c1];go_wp2_with fail
         refine(zac pk _).mono ?_;rintro e u1 ⟨rfl,rfl⟩;rw[c2];go_wp2_with fail
         refine(zac en _).mono ?_;rintro e u1 ⟨rfl,rfl⟩;rw[c3];clear c1 c2 c3;go_wp2;go_ret;exact⟨zaa (by rw[HF.out];simp),hbW⟩
        | true =>
         rw[g1]at HF;obtain⟨st,pk,en⟩:=t;dsimp only at *;obtain⟨p0,p1,p2,_⟩:=X1.cells;go_enter func158,ntmps158;go_wp2_with fail
         rw[<-hW];clear hW;refine(zac st _).mono ?_;rintro e u1 ⟨rfl,rfl⟩;rw[c1];go_wp2_with fail
         refine(zac pk _).mono ?_;rintro e u1 ⟨rfl,rfl⟩;rw[c2];go_wp2_with fail
         refine(zac en _).mono ?_;rintro e u1 ⟨rfl,rfl⟩;rw[c3];clear c1 c2 c3;go_wp2;go_ret;exact⟨zaa (by rw[HF.out];simp),hbW⟩
theorem zhf(a:OA)(cap:Nat)(l:List Te)(n:Int)(w:World)(h:Tz w a cap l) :
 Calls Tryz.prog 107 #[.slice a l.length cap,.int .i64 n] w fun e w'=>e=.returned (.bool (rgB l n))/\Below w.heap.size w w':=by
 have k1:=h.1;have k2:=h.lenB;have HH:Hid (Tz w a cap l):=h;clear h;go_enter func107,ntmps107;go_wp2
 go_loopw [5] (fun i wr=>∃k:Nat,k<=l.length/\i=.int .i64 k/\(∀j,j<k->tfB (l.getD j Te.none)=true)/\Below w.heap.size w wr) (fun i _=>l.length-(intOf i).toNat)
 case atStart=>exact⟨0,qD _,rfl,(fun j hj=>by omega),Below.refl _ _⟩
 case round =>
  obtain⟨k,hk,rfl,hok,hB⟩:=hrel;have HOK:Hid (∀j,j<k->tfB (l.getD j Te.none)=true):=hok;clear hok;by_cases hkn:k<l.length
  . obtain⟨b,off,ea,hb,d0,d1,d2⟩:=HH.out.at hB k hkn
    subst ea;have hfo:=fun U=>zo3 (l.getD k Te.none) U;obtain⟨t,ht⟩:∃t,l.getD k Te.none=t:=⟨_,rfl⟩;have HT:Hid (l.getD k Te.none=t):=ht;rw[ht]at d0 d1 d2 hfo;clear ht;cases hf:tfB t with
    | false =>
     have HF:Hid (rgB l n=false):=(by show _=_;rw[rgB,ztx hkn (by rw[HT.out];exact hf),Bool.false_and]);simp only[hf]at hfo;clear hf HT HOK;obtain⟨st,pk,en⟩:=t;dsimp only at *;go_wp2_with fail
     refine(hfo _).mono ?_;rintro e u1 ⟨rfl,hb1⟩;replace hB:=hB.trans (hb1.mono hB.size);clear hb1 hfo;go_wp2;go_ret;exact⟨zaa HF.out.symm,hB⟩
    | true =>
     have zb5:Hid (∀j,j<k+1->tfB (l.getD j Te.none)=true):=fun j hj=>by
      rcases Nat.lt_or_ge j k with h1|h1
      . exact HOK.out j h1
      . rw[show j=k by omega,HT.out];exact hf
     simp only[hf]at hfo;clear hf HT HOK;obtain⟨st,pk,en⟩:=t;dsimp only at *;go_wp2_with fail
     refine(hfo _).mono ?_;rintro e u1 ⟨rfl,hb1⟩;replace hB:=hB.trans (hb1.mono hB.size);clear hb1 hfo;go_wp2;go_roundw
     case rel=>exact⟨k+1,by omega,by go_num,zb5.out,hB⟩
     case measure=>simp[intOf];omega
  . obtain rfl:k=l.length:=by omega
    have HF:Hid (rgB l n=decide ((l.length:Int)=n)):=(by show _=_;rw[rgB,allT.2 HOK.out,Bool.true_and]);clear HOK;go_wp2;go_ret;exact⟨zaa (by rw[HF.out];by_cases e:(l.length:Int)=n <;> simp[e]),hB⟩
theorem zo4(a:OA)(ca:Nat)(b:OA)(cb:Nat)(s:Sr)(n:Int)(w:World)(hg:Tzz w a ca s.rg)(hm:Rii w b cb s.rw) :
 Calls Tryz.prog 60 #[.agg #[.slice a s.rg.length ca,.slice b s.rw.length cb],.int .i64 n] w fun e w'=>e=.returned (.bool (stB s n))/\Below w.heap.size w w':=by
 have k1:=hg.lenB;have k2:=hm.lenB;have HNO:Hid (∀h:¬((0<=n/\n<=4)/\s.rg.length<=40/\s.rw.length<=400/\(∀l∈s.rg,rgB l n=true)/\(∀r∈s.rw,r.length=s.rg.length/\r.all fdB=true)),stB s n=false):=fun h=>zwu h;have HG:Hid (Tzz w a ca s.rg):=hg;have HM:Hid (Rii w b cb s.rw):=hm;clear hg hm;by_cases h1:n<0
 . have g1:decide (n<0)=true:=qC h1
   have HE:Hid (stB s n=false):=HNO.out (fun h=>by omega);go_enter func60,ntmps60;go_wp2;go_ret;exact⟨zaa HE.out.symm,bl1 _⟩
 have g1:decide (n<0)=false:=qB h1;by_cases h2:4<n
 . have g2:decide (4<n)=true:=qC h2
   have HE:Hid (stB s n=false):=HNO.out (fun h=>by omega);go_enter func60,ntmps60;go_wp2;go_ret;exact⟨zaa HE.out.symm,bl1 _⟩
 have g2:decide (4<n)=false:=qB h2;by_cases h3:40<s.rg.length
 . have g3:decide ((40:Int)<(s.rg.length:Int))=true:=qC (by omega)
   have HE:Hid (stB s n=false):=HNO.out (fun h=>by omega);go_enter func60,ntmps60;go_wp2;go_ret;exact⟨zaa HE.out.symm,bl1 _⟩
 have g3:decide ((40:Int)<(s.rg.length:Int))=false:=qB (by omega);by_cases h4:400<s.rw.length
 . have g4:decide ((400:Int)<(s.rw.length:Int))=true:=qC (by omega)
   have HE:Hid (stB s n=false):=HNO.out (fun h=>by omega);go_enter func60,ntmps60;go_wp2;go_ret;exact⟨zaa HE.out.symm,bl1 _⟩
 have g4:decide ((400:Int)<(s.rw.length:Int))=false:=qB (by omega);have HB:Hid ((0<=n/\n<=4)/\s.rg.length<=40/\s.rw.length<=400):=⟨⟨by omega,by omega⟩,by omega,by omega⟩;obtain⟨W,hW,X1,hbW⟩:∃W,W=w.alloc (.cells #[.slice a s.rg.length ca,.slice b s.rw.length cb] 26)/\BxS W w.heap.size (.slice a s.rg.length ca) (.slice b s.rw.length cb)/\Below w.heap.size w W:=⟨_,rfl,BxS.new _ _ _,bl1 _⟩;go_enter func60,ntmps60;go_wp2;rw[<-hW];clear hW
 go_loopw [5] (fun i wr=>∃k:Nat,k<=s.rg.length/\i=.int .i64 k/\(∀j,j<k->rgB (s.rg.getD j []) n=true)/\BxS wr w.heap.size (.slice a s.rg.length ca) (.slice b s.rw.length cb)/\Below w.heap.size w wr) (fun i _=>s.rg.length-(intOf i).toNat)
 case atStart=>exact⟨0,qD _,rfl,(fun j hj=>by omega),X1,hbW⟩
 case round =>
  clear X1 hbW;obtain⟨k,hk,rfl,hok,X1,hB⟩:=hrel;have HOK:Hid (∀j,j<k->rgB (s.rg.getD j []) n=true):=hok;clear hok;by_cases hkn:k<s.rg.length
  . obtain⟨b1,o1,a1,c1,ea,_,d0,hp⟩:=HG.out.at hB k hkn
    have zc5:=zgo hkn;have hrg:=zhf a1 c1 (s.rg.getD k []) n wr hp;obtain⟨l,hl⟩:∃l,s.rg.getD k []=l:=⟨_,rfl⟩;have HL:Hid (s.rg.getD k []=l):=hl;rw[hl]at d0 zc5 hrg;subst ea;clear hl hp;obtain⟨x0,x1,_⟩:=X1.cells;have i1:(0:Int)<=(k:Int):=(by omega);have i2:(k:Int)<(s.rg.length:Int):=(by omega);cases hf:rgB l n with
    | false =>
     have HE:Hid (stB s n=false):=HNO.out (fun h=>by have:=h.2.2.2.1 l zc5;rw[hf]at this;cases this);rw[hf]at hrg;clear hf zc5 HL HOK;go_wp2_with fail
     refine hrg.mono ?_;rintro e u1 ⟨rfl,hb1⟩;replace hB:=hB.trans (hb1.mono hB.size);clear hb1 hrg;go_wp2;go_ret;exact⟨zaa HE.out.symm,hB⟩
    | true =>
     have zb5:Hid (∀j,j<k+1->rgB (s.rg.getD j []) n=true):=fun j hj=>by
      rcases Nat.lt_or_ge j k with h1|h1
      . exact HOK.out j h1
      . rw[show j=k by omega,HL.out];exact hf
     rw[hf]at hrg;clear hf zc5 HL HOK;go_wp2_with fail
     refine hrg.mono ?_;rintro e u1 ⟨rfl,hb1⟩;replace hB:=hB.trans (hb1.mono hB.size);replace X1:=X1.below hb1;clear hb1 hrg;go_wp2;go_roundw
     case rel=>exact⟨k+1,by omega,by go_num,zb5.out,X1,hB⟩
     case measure=>simp[intOf];omega
  . obtain rfl:k=s.rg.length:=by omega
    obtain⟨x0,x1,_⟩:=X1.cells;go_wp2
    go_loopw [6] (fun i wr=>∃k:Nat,k<=s.rw.length/\i=.int .i64 k/\(∀j,j<k->(s.rw.getD j []).length=s.rg.length/\(s.rw.getD j []).all fdB=true)/\BxS wr w.heap.size (.slice a s.rg.length ca) (.slice b s.rw.length cb)/\Below w.heap.size w wr) (fun i _=>s.rw.length-(intOf i).toNat)
    case atStart=>exact⟨0,qD _,rfl,(fun j hj=>by omega),X1,hB⟩
    case round =>
     clear X1 hB x0 x1 hk hkn;obtain⟨k,hk,rfl,hok,X1,hB⟩:=hrel;have zp9:Hid (∀j,j<k->(s.rw.getD j []).length=s.rg.length/\(s.rw.getD j []).all fdB=true):=hok;clear hok;by_cases hkn:k<s.rw.length
     . obtain⟨b1,o1,a1,c1,ea,_,d0,hp⟩:=HM.out.at hB k hkn
       have zc5:=zgo hkn;have hrl:=hp.lenB;obtain⟨r,hr⟩:∃r,s.rw.getD k []=r:=⟨_,rfl⟩;have HL:Hid (s.rw.getD k []=r):=hr;rw[hr]at d0 zc5 hp hrl;have HR:Hid (Ri wr a1 c1 r):=hp;subst ea;clear hr hp;have A0:Cl wr b1 (o1+k) (.slice a1 r.length c1):=⟨World.block_lt_of_cell? wr _ d0,d0⟩;have i1:(0:Int)<=(k:Int):=(by omega);have i2:(k:Int)<(s.rw.length:Int):=(by omega);replace hbW:=hB;clear hB;obtain⟨x0,x1,_⟩:=X1.cells;have q0:=A0.2;by_cases hlen:r.length=s.rg.length;rotate_left
       . have HE:Hid (stB s n=false):=HNO.out (fun h=>hlen (h.2.2.2.2 r zc5).1)
         have g5:((r.length:Int) != (s.rg.length:Int))=true:=bne_iff_ne.2 (by omega);clear zc5 HL zp9 hlen;go_upto_region 11 with fail
         refine wp_region_held_drew (S:=(fun u=>u.cell? ⟨w.heap.size,0,none⟩=some (.slice a s.rg.length ca)/\u.cell? ⟨w.heap.size,1,none⟩=some (.slice (some ⟨b1,o1,none⟩) s.rw.length cb)/\u.cell? ⟨b1,o1+k,none⟩=some (.slice a1 r.length c1))) (by kernel_rfl) ?_ (fun hH=>?_)
         . (try dsimp only)
           go_keep
         have hdr:Below wr.heap.size wr wr.drew:=Below.drew1;generalize wr.drew=ud1 at hdr hH ⊢;replace A0:=A0.below hdr;replace X1:=X1.below hdr;replace hbW:Below w.heap.size w ud1:=hbW.trans (hdr.mono hbW.size);clear hdr;clear x0 x1;obtain⟨p00,p01,_⟩:=X1.cells;refine hT 0 hH ?_;refine hT 1 hH ?_;refine hT 2 hH ?_;refine hT 3 hH ?_;refine hT 4 hH ?_;refine hT 5 hH ?_;refine hT 6 hH ?_;refine hT 7 hH ?_;refine hT 8 hH ?_;refine hT 9 hH ?_;refine wpAnyH_done (by kernel_rfl) ?_ _;clear hH;go_wp2;go_ret;exact⟨zaa HE.out.symm,hbW⟩
       have g5:((r.length:Int) != (s.rg.length:Int))=false:=(by simp[hlen]);have HLN:Hid (r.length=s.rg.length):=hlen;clear hlen;go_upto_region 11 with fail
       have HWR:Hid (Below wr.heap.size wr wr):=Below.refl _ _;have hbR:Below wr.heap.size wr wr:=Below.refl _ _;refine wp_region_held_drew (S:=(fun u=>u.cell? ⟨w.heap.size,0,none⟩=some (.slice a s.rg.length ca)/\u.cell? ⟨w.heap.size,1,none⟩=some (.slice (some ⟨b1,o1,none⟩) s.rw.length cb)/\u.cell? ⟨b1,o1+k,none⟩=some (.slice a1 r.length c1))) (by kernel_rfl) ?_ (fun hH=>?_)
       . (try dsimp only)
         go_keep
       have hdr:Below wr.heap.size wr wr.drew:=Below.drew1;generalize wr.drew=ud2 at hdr hH ⊢;replace A0:=A0.below hdr;replace X1:=X1.below hdr;replace hbW:Below w.heap.size w ud2:=hbW.trans (hdr.mono hbW.size);replace hbR:Below wr.heap.size wr ud2:=hbR.trans (hdr.mono hbR.size);clear hdr;clear x0 x1;obtain⟨p00,p01,_⟩:=X1.cells;refine hT 0 hH ?_;refine hT 1 hH ?_;refine hT 2 hH ?_;refine hT 3 hH ?_;refine hT 4 hH ?_;refine hT 5 hH ?_;refine hT 6 hH ?_;refine hT 7 hH ?_;refine hT 8 hH ?_;refine hT 9 hH ?_;refine wpAnyH_done (by kernel_rfl) ?_ _;clear hH g5;have HR2:Hid (Ri ud2 a1 c1 r):=HR.out.below hbR;clear hbR HWR;have q0:=A0.2;go_wp2
       go_loopw [7] (fun i wq=>∃j:Nat,j<=r.length/\i=.int .i64 j/\(∀j',j'<j->fdB (r.getD j' 0)=true)/\BxS wq w.heap.size (.slice a s.rg.length ca) (.slice (some ⟨b1,o1,none⟩) s.rw.length cb)/\Cl wq b1 (o1+k) (.slice a1 r.length c1)/\Below ud2.heap.size ud2 wq) (fun i _=>r.length-(intOf i).toNat)
       case atStart=>exact⟨0,qD _,rfl,(fun j hj=>by omega),X1,A0,Below.refl _ _⟩
       case round =>
        clear X1 A0 q0 p00 p01;obtain⟨j,hj,rfl,hok,X1,A0,hB⟩:=hrel;have HOKJ:Hid (∀j',j'<j->fdB (r.getD j' 0)=true):=hok;have hbV:=hbW.trans (hB.mono hbW.size);clear hok;obtain⟨x0,x1,_⟩:=X1.cells;have q0:=A0.2;by_cases hjn:j<r.length
        . obtain⟨b9,o9,eb,hb9,dz⟩:=HR2.out.at hB j hjn
          subst eb;obtain⟨z,hz⟩:∃z,r.getD j 0=z:=⟨_,rfl⟩;have HZ:Hid (r.getD j 0=z):=hz;rw[hz]at dz;have hfd:=fun U=>za6 z U;clear hz;have i3:(0:Int)<=(j:Int):=(by omega);have i4:(j:Int)<(r.length:Int):=(by omega);cases hf:fdB z with
          | false =>
           have HE:Hid (stB s n=false):=HNO.out (fun h=>by have:=(h.2.2.2.2 r zc5).2;rw[zty hjn (by rw[HZ.out];exact hf)]at this;cases this);simp only[hf]at hfd;clear hf HZ zc5 HOKJ;go_wp2_with fail
           refine(hfd _).mono ?_;rintro e v1 ⟨rfl,rfl⟩;go_wp2;go_ret;exact⟨zaa HE.out.symm,hbV⟩
          | true =>
           have HOKJ2:Hid (∀j',j'<j+1->fdB (r.getD j' 0)=true):=fun j' hj'=>by
            rcases Nat.lt_or_ge j' j with h1|h1
            . exact HOKJ.out j' h1
            . rw[show j'=j by omega,HZ.out];exact hf
           simp only[hf]at hfd;clear hf HZ zc5 HOKJ;go_wp2_with fail
           refine(hfd _).mono ?_;rintro e v1 ⟨rfl,rfl⟩;go_wp2;go_roundw
           case rel=>exact⟨j+1,by omega,by go_num,HOKJ2.out,X1,A0,hB⟩
           case measure=>simp[intOf];omega
        . obtain rfl:j=r.length:=by omega
          have HOK4:Hid (∀j,j<k+1->(s.rw.getD j []).length=s.rg.length/\(s.rw.getD j []).all fdB=true):=fun j hj=>by
           rcases Nat.lt_or_ge j k with h1|h1
           . exact zp9.out j h1
           . rw[show j=k by omega,HL.out];exact⟨HLN.out,zom HOKJ.out⟩
          have g6:¬(r.length:Int)<(r.length:Int):=(by omega);go_wp2;go_roundw
          case rel=>exact⟨k+1,by omega,by go_num,HOK4.out,X1,hbV⟩
          case measure=>simp[intOf];omega
     . obtain rfl:k=s.rw.length:=by omega
       have HE:Hid (stB s n=true):=zqv HB.out.1 HB.out.2.1 HB.out.2.2 HOK.out zp9.out;clear HOK zp9;obtain⟨x0,x1,_⟩:=X1.cells;go_wp2;go_ret;exact⟨zaa HE.out.symm,hB⟩
