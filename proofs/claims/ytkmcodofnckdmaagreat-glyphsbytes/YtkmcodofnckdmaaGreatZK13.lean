import Derived.Test.YtkmcodofnckdmaaGreatZK12
set_option maxHeartbeats 4000000
set_option maxRecDepth 100000
set_option linter.unusedSimpArgs false
set_option linter.unusedVariables false
namespace Go.Proofs.YtkmcodofnckdmaaGreat
open Tryz Go.RowKit Go.Maps
theorem ztx{l:List Te}{p:Te->Bool}{k:Nat}(hk:k<l.length)(h:p (l.getD k Te.none)=false):l.all p=false:=by
 rw[Bool.eq_false_iff];intro e;have:=allT.1 e k hk;rw[h]at this;cases this
theorem zh5(a:OA)(cap:Nat)(l:List Te)(n:Int)(w:World)(h:Tz w a cap l) :
 Calls Tryz.prog 99 #[.slice a l.length cap,.int .i64 n] w fun e w'=>e=.returned (.bool (rgB l n))/\Below w.heap.size w w':=by
 have k1:=h.1;have k2:=h.lenB;by_cases hl:(l.length:Int)=n
 . have HR:Hid (rgB l n=l.all tfB):=by show _=_;rw[rgB,qC hl,Bool.and_true]
   have g1:((l.length:Int) != n)=false:=(by simp[hl]);have HH:Hid (Tz w a cap l):=h;clear hl h;go_enter func99,ntmps99;go_wp2
   go_loopw [13] (fun i wr=>∃k:Nat,k<=l.length/\i=.int .i64 k/\(∀j,j<k->tfB (l.getD j Te.none)=true)/\Below w.heap.size w wr) (fun i _=>l.length-(intOf i).toNat)
   case atStart=>exact⟨0,qD _,rfl,(fun j hj=>by omega),Below.refl _ _⟩
   case round =>
    obtain⟨k,hk,rfl,hok,hB⟩:=hrel;have HOK:Hid (∀j,j<k->tfB (l.getD j Te.none)=true):=hok;clear hok;by_cases hkn:k<l.length
    . obtain⟨b,off,ea,hb,d0,d1,d2⟩:=HH.out.at hB k hkn
      subst ea;have hfo:=fun U=>zpy (l.getD k Te.none) U;obtain⟨t,ht⟩:∃t,l.getD k Te.none=t:=⟨_,rfl⟩;have HT:Hid (l.getD k Te.none=t):=ht;rw[ht]at d0 d1 d2 hfo;clear ht;cases hf:tfB t with
      | false =>
       have HF:Hid (rgB l n=false):=(by show _=_;rw[HR.out];exact ztx hkn (by rw[HT.out];exact hf));simp only[hf]at hfo;clear hf HT HOK;obtain⟨st,pk,en⟩:=t;dsimp only at *;go_wp2_with fail
       refine(hfo _).mono ?_;rintro e u1 ⟨rfl,hb1⟩;replace hB:=(hB.alloc hB.size _).trans (hb1.mono (hB.alloc hB.size _).size);clear hb1 hfo;go_wp2;go_ret;exact⟨zaa HF.out.symm,hB⟩
      | true =>
       have zb5:Hid (∀j,j<k+1->tfB (l.getD j Te.none)=true):=fun j hj=>by
        rcases Nat.lt_or_ge j k with h1|h1
        . exact HOK.out j h1
        . rw[show j=k by omega,HT.out];exact hf
       simp only[hf]at hfo;clear hf HT HOK;obtain⟨st,pk,en⟩:=t;dsimp only at *;go_wp2_with fail
       refine(hfo _).mono ?_;rintro e u1 ⟨rfl,hb1⟩;replace hB:=(hB.alloc hB.size _).trans (hb1.mono (hB.alloc hB.size _).size);clear hb1 hfo;go_wp2;go_roundw
       case rel=>exact⟨k+1,by omega,by go_num,zb5.out,hB⟩
       case measure=>simp[intOf];omega
    . obtain rfl:k=l.length:=by omega
      have HF:Hid (rgB l n=true):=(by show _=_;rw[HR.out];exact allT.2 HOK.out);clear HOK;go_wp2;go_ret;exact⟨zaa HF.out.symm,hB⟩
 . have HR:Hid (rgB l n=false):=by show _=_;rw[rgB,qB hl,Bool.and_false]
   have g1:((l.length:Int) != n)=true:=(by simp[hl]);clear h hl;go_enter func99,ntmps99;go_wp2;go_ret;exact⟨zaa HR.out.symm,Below.refl _ _⟩
theorem zln(a:OA)(ca:Nat)(pts:LI)(n:Nat)(w:World)(h:Ri w a ca pts)(hn:n<=1000000) :
 Calls Tryz.prog 157 #[.slice a pts.length ca,.int .i64 (n:Int)] w fun e w'=>e=.returned (.bool (risB pts n))/\w=w':=by
 have k2:=h.lenB;have HH:Hid (Ri w a ca pts):=h;clear h;go_enter func157,ntmps157;go_wp2
 go_loopw [5,10] (fun l i wr=>∃k:Nat,k<=pts.length/\i=.int .i64 k/\l=.int .i64 (lastI pts k)/\(∀j,j<k->risP pts n j)/\w=wr) (fun _ i _=>pts.length-(intOf i).toNat)
 case atStart=>exact⟨0,qD _,rfl,rfl,(fun j hj=>by omega),rfl⟩
 case round =>
  obtain⟨k,hk,rfl,rfl,hok,rfl⟩:=hrel;have HOK:Hid (∀j,j<k->risP pts n j):=hok;clear hok;by_cases hkn:k<pts.length
  . obtain⟨b,off,ea,hb,d0⟩:=HH.out.at (Below.refl _ _) k hkn
    have hzi:=HH.out.i64 hkn;subst ea;have HL:Hid (lastI pts (k+1)=pts.getD k 0):=(by show _=_;unfold lastI;rw[if_neg (by omega),Nat.add_sub_cancel]);obtain⟨z,hzz⟩:∃z,pts.getD k 0=z:=⟨_,rfl⟩;obtain⟨l,hll⟩:∃z,lastI pts k=z:=⟨_,rfl⟩;have HP:Hid (risP pts n k↔l<z/\z<(n:Int)):=(by show _↔_;unfold risP;rw[hzz,hll]);rw[hzz]at d0 HL hzi;rw[hll];have i1:(0:Int)<=(k:Int):=(by omega);have i2:(k:Int)<(pts.length:Int):=(by omega);clear hzz hll;by_cases h1:l<z
    . have g1:¬z<=l:=by omega
      have g1b:decide (z<=l)=false:=qB g1;by_cases h2:z<(n:Int)
      . have g2:decide (z ≥ (n:Int))=false:=qB (by omega)
        have zb5:Hid (∀j,j<k+1->risP pts n j):=zb6 HOK.out (HP.out.2 ⟨h1,h2⟩);clear HOK HP;go_wp2;go_roundw
        case rel=>exact⟨k+1,by omega,by go_num,by rw[HL.out],zb5.out,trivial⟩
        case measure=>simp[intOf];omega
      . have g2:decide (z ≥ (n:Int))=true:=qC (by omega)
        have HF:Hid (risB pts n=false):=zlx hkn (fun h=>h2 (HP.out.1 h).2);clear HOK HP;go_wp2;go_ret;exact⟨zaa HF.out.symm,rfl⟩
    . have g1:z<=l:=by omega
      have g1b:decide (z<=l)=true:=qC g1;have HF:Hid (risB pts n=false):=zlx hkn (fun h=>h1 (HP.out.1 h).1);clear HOK HP;go_wp2;go_ret;exact⟨zaa HF.out.symm,rfl⟩
  . obtain rfl:k=pts.length:=by omega
    have HF:Hid (risB pts n=true):=zun HOK.out;have g1:¬(pts.length:Int)<(pts.length:Int):=(by omega);clear HOK;go_wp2;go_ret;exact⟨zaa HF.out.symm,rfl⟩
theorem zg1(a:OA)(cap:Nat)(r:LI)(w:World)(h:Ri w a cap r) :
 Calls Tryz.prog 104 #[.slice a r.length cap] w fun e w'=>e=.returned (.bool (r.all fdB))/\w=w':=by
 have k2:=h.lenB;have HH:Hid (Ri w a cap r):=h;clear h;go_enter func104,ntmps104;go_wp2
 go_loopw [7] (fun i wr=>∃k:Nat,k<=r.length/\i=.int .i64 k/\(∀j,j<k->fdB (r.getD j 0)=true)/\w=wr) (fun i _=>r.length-(intOf i).toNat)
 case atStart=>exact⟨0,qD _,rfl,(fun j hj=>by omega),rfl⟩
 case round =>
  obtain⟨k,hk,rfl,hok,rfl⟩:=hrel;have HOK:Hid (∀j,j<k->fdB (r.getD j 0)=true):=hok;clear hok;by_cases hkn:k<r.length
  . obtain⟨b,off,ea,hb,d0⟩:=HH.out.at (Below.refl _ _) k hkn
    subst ea;obtain⟨z,hzz⟩:∃z,r.getD k 0=z:=⟨_,rfl⟩;have HZ:Hid (r.getD k 0=z):=hzz;rw[hzz]at d0;have i1:(0:Int)<=(k:Int):=(by omega);have i2:(k:Int)<(r.length:Int):=(by omega);have hw1:=zki z;have hw2:=zil z;clear hzz;cases hf:fdB z with
    | false =>
     have HF:Hid (r.all fdB=false):=zkd hkn (by rw[HZ.out];exact hf);rw[hf]at hw2;clear hf HZ HOK;go_wp2;go_ret;exact⟨zaa HF.out.symm,rfl⟩
    | true =>
     have zb5:Hid (∀j,j<k+1->fdB (r.getD j 0)=true):=zb6 HOK.out (by rw[HZ.out];exact hf);rw[hf]at hw2;clear hf HZ HOK;go_wp2;go_roundw
     case rel=>exact⟨k+1,by omega,by go_num,zb5.out,trivial⟩
     case measure=>simp[intOf];omega
  . obtain rfl:k=r.length:=by omega
    have HF:Hid (r.all fdB=true):=zgw HOK.out;have g1:¬(r.length:Int)<(r.length:Int):=(by omega);clear HOK;go_wp2;go_ret;exact⟨zaa HF.out.symm,rfl⟩
theorem z1n{t:Tu}{n:Nat}(ha:t.al=true):nmB t n=(decide (t.pts.length=0)&&(decide (t.dx.length=n)&&decide (t.dy.length=n))):=by
 unfold nmB;rw[if_pos ha];by_cases h1:t.pts.length=0 <;> by_cases h2:t.dx.length=n <;> by_cases h3:t.dy.length=n <;> simp[h1,h2,h3]
theorem zy6{t:Tu}{n:Nat}(ha:t.al=false):nmB t n=(decide (0<t.pts.length)&&(risB t.pts n&&(decide (t.dx.length=t.pts.length)&&decide (t.dy.length=t.pts.length)))):=by
 unfold nmB;rw[if_neg (by rw[ha];decide)];by_cases h2:t.dx.length=t.pts.length <;> by_cases h3:t.dy.length=t.pts.length <;> simp[h2,h3]
theorem zpw(S:Nat->Prop)(ra:OA)(rc:Nat)(pa:OA)(pc:Nat)(xa:OA)(xc:Nat)(ya:OA)(yc:Nat)(t:Tu)(n:Nat)(w:World)(h:TuC S w ra rc pa pc xa xc ya yc t)(hn:n<=1000000) :
 Calls Tryz.prog 103 #[.agg #[.slice ra t.rg.length rc,.bool t.al,.slice pa t.pts.length pc,.slice xa t.dx.length xc,.slice ya t.dy.length yc],.int .i64 (n:Int)] w fun e w'=>e=.returned (.bool (nmB t n))/\Below w.heap.size w w':=by
 obtain⟨b0,b1,b2,b3⟩:=h.len;obtain⟨W,hW,X1,hbW⟩:∃W,W=w.alloc (.cells #[.slice ra t.rg.length rc,.bool t.al,.slice pa t.pts.length pc,.slice xa t.dx.length xc,.slice ya t.dy.length yc] 144)/\Bk 144 W w.heap.size [.slice ra t.rg.length rc,.bool t.al,.slice pa t.pts.length pc,.slice xa t.dx.length xc,.slice ya t.dy.length yc]/\Below w.heap.size w W:=⟨_,rfl,Bk.new _ _ _,bl1 _⟩;obtain⟨p0,p1,p2,p3,p4,_⟩:=X1.five;have hP:=(h.below hbW).pts;cases ha:t.al with
 | true =>
  have HE:Hid (_):=z1n (n:=n) ha;rw[ha]at hW X1 p1;clear ha X1 hP h;generalize t.pts.length=m at *;generalize t.dx.length=x at *;generalize t.dy.length=y at *;generalize nmB t n=Q at *;go_enter func103,ntmps103;go_upto_region 1 with fail
  rw[<-hW];clear hW;by_cases h1:m=0;rotate_left
  . have g1:((m:Int)==0)=false:=beq_eq_false_iff_ne.2 (by omega)
    have HF:Hid (Q=false):=(by show _=_;rw[HE.out,qB h1];rfl);clear HE;go_wp2;go_ret;exact⟨zaa HF.out.symm,hbW⟩
  have g1:((m:Int)==0)=true:=beq_iff_eq.2 (by omega);by_cases h2:x=n;rotate_left
  . have g2:((x:Int)==(n:Int))=false:=beq_eq_false_iff_ne.2 (by omega)
    have HF:Hid (Q=false):=(by show _=_;rw[HE.out,qC h1,qB h2];rfl);clear HE h1;go_wp2;go_ret;exact⟨zaa HF.out.symm,hbW⟩
  have g2:((x:Int)==(n:Int))=true:=beq_iff_eq.2 (by omega);by_cases h3:y=n
  . have g3:((y:Int)==(n:Int))=true:=beq_iff_eq.2 (by omega)
    have HF:Hid (Q=true):=(by show _=_;rw[HE.out,qC h1,qC h2,qC h3];rfl);clear HE h1 h2 h3;go_wp2;go_ret;exact⟨zaa HF.out.symm,hbW⟩
  . have g3:((y:Int)==(n:Int))=false:=beq_eq_false_iff_ne.2 (by omega)
    have HF:Hid (Q=false):=(by show _=_;rw[HE.out,qC h1,qC h2,qB h3];rfl);clear HE h1 h2 h3;go_wp2;go_ret;exact⟨zaa HF.out.symm,hbW⟩
 | false =>
  have HE:Hid (_):=zy6 (n:=n) ha;have hr:=zln pa pc t.pts n W hP hn;rw[ha]at hW X1 p1;clear ha X1 hP h;generalize risB t.pts n=r at *;generalize t.pts.length=m at *;generalize t.dx.length=x at *;generalize t.dy.length=y at *;generalize nmB t n=Q at *;go_enter func103,ntmps103;go_upto_region 1 with fail
  rw[<-hW];clear hW;by_cases h1:0<m;rotate_left
  . have g1:decide ((m:Int) > 0)=false:=qB (by omega)
    have HF:Hid (Q=false):=(by show _=_;rw[HE.out,qB h1];rfl);clear HE hr;go_wp2;go_ret;exact⟨zaa HF.out.symm,hbW⟩
  have g1:decide ((m:Int) > 0)=true:=qC (by omega);cases r with
  | false =>
   have HF:Hid (Q=false):=(by show _=_;rw[HE.out,qC h1];rfl);clear HE;go_wp2_with fail
   refine hr.mono ?_;rintro e u ⟨rfl,rfl⟩;go_wp2;go_ret;exact⟨zaa HF.out.symm,hbW⟩
  | true =>
  by_cases h2:x=m;rotate_left
  . have g2:((x:Int)==(m:Int))=false:=beq_eq_false_iff_ne.2 (by omega)
    have HF:Hid (Q=false):=(by show _=_;rw[HE.out,qC h1,qB h2];rfl);clear HE;go_wp2_with fail
    refine hr.mono ?_;rintro e u ⟨rfl,rfl⟩;go_wp2;go_ret;exact⟨zaa HF.out.symm,hbW⟩
  have g2:((x:Int)==(m:Int))=true:=beq_iff_eq.2 (by omega);by_cases h3:y=m
  . have g3:((y:Int)==(m:Int))=true:=beq_iff_eq.2 (by omega)
    have HF:Hid (Q=true):=(by show _=_;rw[HE.out,qC h1,qC h2,qC h3];rfl);clear HE h2 h3;go_wp2_with fail
    refine hr.mono ?_;rintro e u ⟨rfl,rfl⟩;go_wp2;go_ret;exact⟨zaa HF.out.symm,hbW⟩
  . have g3:((y:Int)==(m:Int))=false:=beq_eq_false_iff_ne.2 (by omega)
    have HF:Hid (Q=false):=(by show _=_;rw[HE.out,qC h1,qC h2,qB h3];rfl);clear HE h2 h3;go_wp2_with fail
    refine hr.mono ?_;rintro e u ⟨rfl,rfl⟩;go_wp2;go_ret;exact⟨zaa HF.out.symm,hbW⟩
theorem foT_1{o:Ol}{l:List Tu}{ax:Int}(h:foB o=false):foT o l ax=false:=by unfold foT;rw[h];rfl
theorem foT_2{o:Ol}{l:List Tu}{ax:Int}(h:¬(0<=ax/\ax<=4)):foT o l ax=false:=by unfold foT;rw[qB h];simp
theorem foT_3{o:Ol}{l:List Tu}{ax:Int}(h:¬l.length<=40):foT o l ax=false:=by unfold foT;rw[qB h];simp
theorem foT_4{o:Ol}{l:List Tu}{ax:Int}{k:Nat}(hk:k<l.length)(h:tuB (l.getD k Tu.none) (cntO o) ax=false):foT o l ax=false :=
 z26 (fun hc=>by have:=hc.2.2.2 k hk;rw[h]at this;cases this)
theorem zd8(S:Nat->Prop)(a:OA)(ca:Nat)(b:OA)(cb:Nat)(o:Ol)(S2:Nat->Prop)(la:OA)(lc:Nat)(l:List Tu)(ax:Int)(w:World)(hc:Gr PnE.row S w a ca o.cs)(hp:Gr PaE S w b cb o.ps)(hl:Gr TuE S2 w la lc l)(hi:I64 ax) :
 Calls Tryz.prog 58 #[.agg #[.slice a o.cs.length ca,.slice b o.ps.length cb],.slice la l.length lc,.int .i64 ax] w fun e w'=>e=.returned (.bool (foT o l ax))/\Below w.heap.size w w':=by
 have kl:=hl.lenB;obtain⟨W,hW,X1,hbW⟩:∃W,W=w.alloc (.cells #[.slice a o.cs.length ca,.slice b o.ps.length cb] 57)/\Bk 57 W w.heap.size [.slice a o.cs.length ca,.slice b o.ps.length cb]/\Below w.heap.size w W:=⟨_,rfl,Bk.new _ _ _,bl1 _⟩;replace hc:=hc.below hbW;replace hp:=hp.below hbW;replace hl:=hl.below hbW;obtain⟨p0,p1,_⟩:=X1.two;have hf1:=zi2 S a ca b cb o W hc hp;unfold I64 at hi;obtain⟨Q,hQ⟩:∃q,foT o l ax=q:=⟨_,rfl⟩;have HQQ:Hid (foT o l ax=Q):=hQ;rw[hQ];clear hQ;go_enter func58,ntmps58;go_upto_region 1 with fail
 rw[<-hW];clear hW;cases hfo:foB o with
 | false =>
  have HF:Hid (Q=false):=by show _=_;rw[<-HQQ.out];exact foT_1 hfo
  rw[hfo]at hf1;clear hfo;go_wp2_with fail
  refine hf1.mono ?_;rintro e m2 ⟨rfl,hb1⟩;have za1:=hbW.trans (hb1.mono hbW.size);clear hb1 hf1;go_wp2;go_ret;exact⟨zaa HF.out.symm,za1⟩
 | true =>
 rw[hfo]at hf1;have HFO:Hid (foB o=true):=hfo;have HOL:Hid (o.cs.flatten.length<=100000/\o.ps.length<=100000):=by have:=zbg.1 hfo;exact⟨by have:=this.2.2.2.2.1;omega,by have:=this.2.2.1;omega⟩
 have HCN:Hid (cntO o<=86):=zf3 hfo;clear hfo;go_wp2_with fail
 refine hf1.mono ?_;rintro e m1 ⟨rfl,hb1⟩;replace hc:=hc.below hb1;replace hp:=hp.below hb1;replace hl:=hl.below hb1;replace X1:=X1.below hb1;replace hbW:=hbW.trans (hb1.mono hbW.size);clear hb1 hf1 p0 p1;obtain⟨p0,p1,_⟩:=X1.two;by_cases h0:ax<0
 . have g0:decide (ax<0)=true:=qC h0
   have HF:Hid (Q=false):=(by show _=_;rw[<-HQQ.out];exact foT_2 (by omega));go_wp2;go_ret;exact⟨zaa HF.out.symm,hbW⟩
 have g0:decide (ax<0)=false:=qB h0;by_cases h4:ax > 4
 . have g4:decide (ax > 4)=true:=qC h4
   have HF:Hid (Q=false):=(by show _=_;rw[<-HQQ.out];exact foT_2 (by omega));go_wp2;go_ret;exact⟨zaa HF.out.symm,hbW⟩
 have g4:decide (ax > 4)=false:=qB h4;by_cases h40:l.length<=40;rotate_left
 . have g5:decide ((l.length:Int) > 40)=true:=qC (by omega)
   have HF:Hid (Q=false):=(by show _=_;rw[<-HQQ.out];exact foT_3 h40);clear hl;generalize l.length=n at *;go_wp2;go_ret;exact⟨zaa HF.out.symm,hbW⟩
 have g5:decide ((l.length:Int) > 40)=false:=qB (by omega);have HAX:Hid (0<=ax/\ax<=4):=⟨by omega,by omega⟩;go_wp2_with fail
 refine(zi3 S a ca b cb o _ hc hp HOL.out.1 HOL.out.2).mono ?_;rintro e m2 ⟨rfl,hb1⟩;replace hl:=hl.below hb1;replace hbW:=hbW.trans (hb1.mono hbW.size);clear hb1 p0 p1 X1 hc hp g0 g4 h0 h4;have HL:Hid (Gr TuE S2 m2 la lc l):=hl;have HBW:Hid (Below w.heap.size w m2):=hbW;clear hl hbW;obtain⟨cn,hcn⟩:∃n,cntO o=n:=⟨_,rfl⟩;have HCO:Hid (cntO o=cn):=hcn;rw[hcn]at HCN ⊢;clear hcn;have HQN:Hid (∀k,k<l.length->tuB (l.getD k Tu.none) cn ax=false->Q=false):=fun k hk h=>by rw[<-HQQ.out];exact foT_4 hk (by rw[HCO.out];exact h)
 have HQY:Hid ((∀k,k<l.length->tuB (l.getD k Tu.none) cn ax=true)->Q=true):=fun h=>by rw[<-HQQ.out];exact zbb.2 ⟨HFO.out,HAX.out,h40,fun k hk=>by rw[HCO.out];exact h k hk⟩
 clear HFO HAX HOL HCO;go_wp2;clear g5
 go_loopw [30] (fun i wr=>∃k:Nat,k<=l.length/\i=.int .i64 k/\(∀j,j<k->tuB (l.getD j Tu.none) cn ax=true)/\Below m2.heap.size m2 wr) (fun i _=>l.length-(intOf i).toNat)
 case atStart=>exact⟨0,qD _,rfl,(fun j hj=>by omega),Below.refl _ _⟩
 case round =>
  obtain⟨k,hk,rfl,hok,hB⟩:=hrel;have HOK:Hid (∀j,j<k->tuB (l.getD j Tu.none) cn ax=true):=hok;clear hok;by_cases hkn:k<l.length
  . obtain⟨b0,off,ra,rc,pa,pc,xa,xc,ya,yc,ea,hb,ht,d0,d1,d2,d3,d4⟩:=HL.out.tu hB k hkn
    subst ea;have HN:=fun(h:tuB (l.getD k Tu.none) cn ax=false)=>HQN.out k hkn h;have HY:=fun(h:tuB (l.getD k Tu.none) cn ax=true)=>zb6 HOK.out h;obtain⟨t,htt⟩:∃t,l.getD k Tu.none=t:=⟨_,rfl⟩;rw[htt]at ht d0 d1 d2 d3 d4 HN HY;have HY:Hid (tuB t cn ax=true->∀j,j<k+1->tuB (l.getD j Tu.none) cn ax=true):=HY;have HN:Hid (tuB t cn ax=false->Q=false):=HN;clear htt HOK;have i1:(0:Int)<=(k:Int):=(by omega);have i2:(k:Int)<(l.length:Int):=(by omega);obtain⟨V,hV,X0,hb0⟩:∃V,V=wr.alloc (.cells #[.slice ra t.rg.length rc,.bool t.al,.slice pa t.pts.length pc,.slice xa t.dx.length xc,.slice ya t.dy.length yc] 144)/\Bk 144 V wr.heap.size [.slice ra t.rg.length rc,.bool t.al,.slice pa t.pts.length pc,.slice xa t.dx.length xc,.slice ya t.dy.length yc]/\Below wr.heap.size wr V:=⟨_,rfl,Bk.new _ _ _,bl1 _⟩;replace ht:=ht.below hb0;replace hB:=hB.trans (hb0.mono hB.size);obtain⟨q0,q1,q2,q3,q4,_⟩:=X0.five;go_upto_region 7 with fail
    rw[<-hV];clear hV d0 d1 d2 d3 d4 hb0;have c1:=zh5 ra rc t.rg ax V ht.tz;cases h1:rgB t.rg ax with
    | false =>
     have HF:Hid (Q=false):=HN.out (by unfold tuB;rw[h1];rfl);rw[h1]at c1;clear h1 HN HY HQN HQY;go_wp2_with fail
     refine c1.mono ?_;rintro e y1 ⟨rfl,hb1⟩;have za1:=HBW.out.trans ((hB.trans (hb1.mono hB.size)).mono HBW.out.size);clear hb1 c1 hB;go_wp2;go_ret;exact⟨zaa HF.out.symm,za1⟩
    | true =>
    rw[h1]at c1;go_wp2_with fail
    refine c1.mono ?_;rintro e y1 ⟨rfl,hb1⟩;replace ht:=ht.below hb1;replace hB:=hB.trans (hb1.mono hB.size);replace X0:=X0.below hb1;clear q0 q1 q2 q3 q4 hb1 c1;obtain⟨q0,q1,q2,q3,q4,_⟩:=X0.five;have c1:=zpw S2 ra rc pa pc xa xc ya yc t cn y1 ht (by have:=HCN.out;omega);cases h2:nmB t cn with
    | false =>
     have HF:Hid (Q=false):=HN.out (by unfold tuB;rw[h1,h2];rfl);rw[h2]at c1;clear h1 h2 HN HY HQN HQY;go_wp2_with fail
     refine c1.mono ?_;rintro e y2 ⟨rfl,hb1⟩;have za1:=HBW.out.trans ((hB.trans (hb1.mono hB.size)).mono HBW.out.size);clear hb1 c1 hB;go_wp2;go_ret;exact⟨zaa HF.out.symm,za1⟩
    | true =>
    rw[h2]at c1;go_wp2_with fail
    refine c1.mono ?_;rintro e y2 ⟨rfl,hb1⟩;replace ht:=ht.below hb1;replace hB:=hB.trans (hb1.mono hB.size);replace X0:=X0.below hb1;clear q0 q1 q2 q3 q4 hb1 c1;obtain⟨q0,q1,q2,q3,q4,_⟩:=X0.five;have c1:=zg1 xa xc t.dx y2 ht.dx;have c2:=zg1 ya yc t.dy y2 ht.dy;cases h3:t.dx.all fdB with
    | false =>
     have HF:Hid (Q=false):=HN.out (by unfold tuB;rw[h1,h2,h3];rfl);rw[h3]at c1;clear h1 h2 h3 HN HY HQN HQY;go_wp2_with fail
     refine c1.mono ?_;rintro e y3 ⟨rfl,rfl⟩;have za1:=HBW.out.trans (hB.mono HBW.out.size);clear c1 hB;go_wp2;go_ret;exact⟨zaa HF.out.symm,za1⟩
    | true =>
    rw[h3]at c1;go_wp2_with fail
    refine c1.mono ?_;rintro e y3 ⟨rfl,rfl⟩;clear c1;cases h5:t.dy.all fdB with
    | false =>
     have HF:Hid (Q=false):=HN.out (by unfold tuB;rw[h1,h2,h3,h5];rfl);rw[h5]at c2;clear h1 h2 h3 h5 HN HY HQN HQY;go_wp2_with fail
     refine c2.mono ?_;rintro e y3 ⟨rfl,rfl⟩;have za1:=HBW.out.trans (hB.mono HBW.out.size);clear c2 hB;go_wp2;go_ret;exact⟨zaa HF.out.symm,za1⟩
    | true =>
    rw[h5]at c2;have HY2:Hid (∀j,j<k+1->tuB (l.getD j Tu.none) cn ax=true):=HY.out (by unfold tuB;rw[h1,h2,h3,h5];rfl);have HB2:Hid (Below m2.heap.size m2 y2):=hB;clear h1 h2 h3 h5 HN HY HQN HQY hB;go_wp2_with fail
    refine c2.mono ?_;rintro e y3 ⟨rfl,rfl⟩;clear c2;go_wp2;go_roundw
    case rel=>exact⟨k+1,by omega,by go_num,HY2.out,HB2.out⟩
    case measure=>simp[intOf];omega
  . obtain rfl:k=l.length:=by omega
    have g9:¬(l.length:Int)<(l.length:Int):=(by omega);have HF:Hid (Q=true):=HQY.out HOK.out;have za1:=HBW.out.trans (hB.mono HBW.out.size);clear HOK HQN HQY;go_wp2;go_ret;exact⟨zaa HF.out.symm,za1⟩
def teE(t:Te):LN:=be2 t.st++(be2 t.pk++be2 t.en)
def tesE:List Te->LN
 | []=>[]
 | t::l=>teE t++tesE l
theorem zg5(l m:List Te):tesE (l++m)=tesE l++tesE m:=by
 induction l with
 | nil=>rfl
 | cons t l ih=>rw[List.cons_append,tesE,tesE,ih,qI]
theorem zx6(t:Te):(teE t).length=6:=rfl
theorem zcg(l:List Te):(tesE l).length=6*l.length:=by
 induction l with
 | nil=>rfl
 | cons t l ih=>rw[tesE,qA,ih,zx6,List.length_cons];omega
def teAt(b:LN)(p:Nat):Te:=⟨sx16 (nmV b (p:Int) 2),sx16 (nmV b ((p+2:Nat):Int) 2),sx16 (nmV b ((p+4:Nat):Int) 2)⟩
def tesAt(b:LN)(p n:Nat):List Te:=(List.range n).map (fun i=>teAt b (p+6*i))
theorem zag(b:LN)(p n:Nat):(tesAt b p n).length=n:=by simp[tesAt]
theorem zio(b:LN)(p n:Nat):tesAt b p (n+1)=tesAt b p n++[teAt b (p+6*n)]:=by simp[tesAt,List.range_succ]
theorem zub{b A Z:LN}{p:Nat}{t:Te}(hb:b=A++(teE t++Z))(hp:A.length=p)(h:tfB t=true):teAt b p=t:=by
 have hf:=zc0.1 h;unfold TfT at hf;have b1:b=A++(be2 t.st++(be2 t.pk++(be2 t.en++Z))):=by rw[hb,teE];simp only[qI]
 have b2:b=(A++be2 t.st)++(be2 t.pk++(be2 t.en++Z)):=by rw[b1];simp only[qI]
 have b3:b=(A++be2 t.st++be2 t.pk)++(be2 t.en++Z):=by rw[b1];simp only[qI]
 have v1:=zbl (q:=p) (n:=2) b1 hp rfl;have v2:=zbl (q:=p+2) (n:=2) b2 (by rw[qA,be2L,hp]) rfl;have v3:=zbl (q:=p+4) (n:=2) b3 (by rw[qA,qA,be2L,be2L,hp]) rfl;obtain⟨st,pk,en⟩:=t;dsimp only at *;rw[teAt,v1,v2,v3,zeu (by omega) (by omega),zeu (by omega) (by omega),zeu (by omega) (by omega)]
theorem zqr{b:LN}:∀ {l:List Te} {A Z:LN} {p:Nat},b=A++(tesE l++Z)->A.length=p->l.all tfB=true->tesAt b p l.length=l:=by
 intro l A Z p hb hp hl;apply List.ext_getElem
 . simp[tesAt]
 . intro i h1 h2
   simp only[tesAt,List.getElem_map,List.getElem_range];have es:l=l.take i++l[i]::l.drop (i+1):=(by simp);have hi:(l.take i).length=i:=(by simp;omega);refine zub (A:=A++tesE (l.take i)) (Z:=tesE (l.drop (i+1))++Z) ?_ (by rw[qA,zcg,hi,hp]) (List.all_eq_true.1 hl _ (List.getElem_mem h2));have e2:tesE l=tesE (l.take i)++(teE l[i]++tesE (l.drop (i+1))):=by
    conv=>lhs;rw[es,zg5,tesE]
   rw[hb,e2];simp only[qI]
structure Fit(P:Pk)(R:Rp)(D:Int->Prop):Prop where
 hM:0<P.M
 eM:R.M=P.M
 top:∀x,D x->P.M*P.c x+P.M<=R.top/\P.M*P.c x+P.M<=256
 sz:∀x,D x->(P.en (P.c x) x).length=R.sz (P.c x)
 vl:∀b A Z x,D x->b=A++(P.en (P.c x) x++Z)->R.vl b (P.c x) A.length=x
 by':∀x,D x->Byt (P.en (P.c x) x)
theorem zul{l:LI}(i:Nat)(h:i<l.length):l=l.take i++l[i]::l.drop (i+1):=by
 rw[<-List.drop_eq_getElem_cons h,List.take_append_drop]
theorem zka{P:Pk}{R:Rp}{D:Int->Prop}(hf:Fit P R D){kd:Nat}:∀ {m:LI},(∀x∈m,D x/\P.c x=kd)->(m.flatMap (P.en kd)).length=m.length*R.sz kd:=by
 intro m
 induction m with
 | nil=>intro _;simp
 | cons x t ih =>
  intro h;obtain⟨h1,h2⟩:=h x (by simp);have:=hf.sz x h1;rw[h2]at this;rw[List.flatMap_cons,qA,this,ih (fun y hy=>h y (by simp[hy])),List.length_cons,Nat.add_mul];omega
theorem zdk{P:Pk}{l:LI}:∀x∈l.take (rn P.c P.M l),P.c x=P.c (l.getD 0 0):=by
 intro x hx;obtain⟨i,hi,e⟩:=List.getElem_of_mem hx;have h1:i<rn P.c P.M l:=by rw[qL]at hi;omega
 have h2:=zlv h1;rw[<-e];rw[qL]at hi;have h3:l.getD i 0=(l.take (rn P.c P.M l))[i]:=by simp[List.getD,show i<l.length by omega]
 rw[<-h3];exact h2
theorem zpj{M c k:Nat}(h1:1<=k)(h2:k<=M):(M*c+k-1)%M=k-1/\(M*c+k-1)/M=c:=by
 have e:M*c+k-1=(k-1)+M*c:=by omega
 rw[e,Nat.add_mul_mod_self_left,Nat.mod_eq_of_lt (by omega),Nat.add_mul_div_left _ _ (by omega),Nat.div_eq_of_lt (by omega)];exact⟨rfl,by omega⟩
theorem byt_pk{P:Pk}{R:Rp}{D:Int->Prop}(hf:Fit P R D):∀(n:Nat) (l:LI),l.length=n->(∀x∈l,D x)->Byt (pk P l):=by
 intro n
 induction n using Nat.strongRecOn with
 | ind n ih =>
  intro l hn hD;by_cases hl:l=[]
  . subst hl;exact Byt.nil
  have h1:=ze0 (c:=P.c) hf.hM hl;obtain⟨h2,h3⟩:=rn_le (c:=P.c) (M:=P.M) l;have hx0:l.getD 0 0∈l:=by
   have:0<l.length:=List.length_pos_iff.2 hl;rw[qH,qG this];exact List.getElem_mem this
  rw[zjm P hf.hM hl];refine Byt.append (fun y hy=>?_) (Byt.append (fun y hy=>?_) (ih (l.length-rn P.c P.M l) (by omega) _ (by rw[qJ]) (fun x hx=>hD x (List.mem_of_mem_drop hx))))
  . rw[List.mem_singleton]at hy
    have:=(hf.top _ (hD _ hx0)).2;omega
  . obtain⟨x,hx,hy⟩:=List.mem_flatMap.1 hy
    have hc:=zdk (P:=P) x hx;rw[<-hc]at hy;exact hf.by' x (hD x (List.mem_of_mem_take hx)) y hy
theorem rd_pk{P:Pk}{R:Rp}{D:Int->Prop}(hf:Fit P R D):∀(n:Nat) (l:LI) (A Z:LN) (f:Nat),l.length=n->(∀x∈l,D x)->l.length<=f->rdF R (A++(pk P l++Z)) f A.length l.length=some (l,A.length+(pk P l).length):=by
 intro n
 induction n using Nat.strongRecOn with
 | ind n ih =>
  intro l A Z f hn hD hfu;by_cases hl:l=[]
  . subst hl;rw[List.length_nil,zbe];rfl
  have zsk:0<l.length:=List.length_pos_iff.2 hl;have h1:=ze0 (c:=P.c) hf.hM hl;obtain⟨h2,h3⟩:=rn_le (c:=P.c) (M:=P.M) l;have hx0:l.getD 0 0∈l:=by
   rw[qH,qG zsk];exact List.getElem_mem zsk
  have zk5:=zdk (P:=P) (l:=l);have hpk:=zjm P hf.hM hl;obtain⟨t1,t2⟩:=hf.top _ (hD _ hx0);obtain⟨k,hk⟩:∃k,rn P.c P.M l=k:=⟨_,rfl⟩;obtain⟨c0,hc0⟩:∃c,P.c (l.getD 0 0)=c:=⟨_,rfl⟩;rw[hk]at h1 h2 h3 zk5 hpk;rw[hc0]at zk5 hpk t1 t2;obtain⟨q1,q2⟩:=zpj (c:=c0) h1 h3;have hbl:=zka hf (m:=l.take k) (fun x hx=>⟨hD x (List.mem_of_mem_take hx),zk5 x hx⟩);have hlt:(l.take k).length=k:=by rw[qL];omega
  rw[hlt]at hbl;obtain⟨h,hh⟩:∃h,P.M*c0+k-1=h:=⟨_,rfl⟩;rw[hh]at hpk q1 q2;obtain⟨body,zzo⟩:∃b,(l.take k).flatMap (P.en c0)=b:=⟨_,rfl⟩;obtain⟨rest,z12⟩:∃b,pk P (l.drop k)=b:=⟨_,rfl⟩;rw[zzo,z12]at hpk;rw[zzo]at hbl;obtain⟨b,hb⟩:∃b,A++(pk P l++Z)=b:=⟨_,rfl⟩;have hb1:b=A++([h]++(body++rest++Z)):=by rw[<-hb,hpk];simp only[qI]
  have hv:nmV b (A.length:Int) 1=h:=by
   have:=zbl (q:=A.length) (n:=1) hb1 rfl rfl;rw[this];simp[V8]
  have hlen:b.length=A.length+1+body.length+rest.length+Z.length:=by rw[hb1];simp only[qA,List.length_singleton];omega
  obtain⟨m,hm⟩:∃m,l.length=m+1:=⟨l.length-1,by omega⟩;obtain⟨f,rfl⟩:∃g,f=g+1:=⟨f-1,by omega⟩;have hd:hdB R b A.length (m+1)=true:=by
   rw[hdB,hv,hf.eM,q1,q2,show k-1+1=k by omega,<-hbl];exact qC ⟨by omega,by omega,by omega,by omega⟩
  have hdl:(l.drop k).length=m+1-k:=by rw[qJ];omega
  have zsj:=ih (l.drop k).length (by omega) (l.drop k) (A++([h]++body)) Z f rfl (fun x hx=>hD x (List.mem_of_mem_drop hx)) (by omega);rw[z12,hdl]at zsj;have hb2:A++([h]++body)++(rest++Z)=b:=by rw[hb1];simp
  have hal:(A++([h]++body)).length=A.length+1+k*R.sz c0:=by simp only[qA,List.length_singleton];omega
  rw[hb2,hal]at zsj;have hrun:runV R b c0 (A.length+1) k=l.take k:=by
   apply List.ext_getElem
   . rw[zaw,hlt]
   . intro i hi1 hi2
     rw[hlt]at hi2;simp only[runV,List.getElem_map,List.getElem_range];have es:l.take k=(l.take k).take i++(l.take k)[i]::(l.take k).drop (i+1):=zul _ _;have zc5:(l.take k)[i]∈l.take k:=List.getElem_mem _;have hxi:=zk5 _ zc5;have hti:((l.take k).take i).length=i:=(by rw[qL,hlt];omega);have hbi:=zka hf (m:=(l.take k).take i) (fun x hx=>⟨hD x (List.mem_of_mem_take (List.mem_of_mem_take hx)),zk5 x (List.mem_of_mem_take hx)⟩);rw[hti]at hbi;have eb:body=((l.take k).take i).flatMap (P.en c0)++(P.en c0 (l.take k)[i]++((l.take k).drop (i+1)).flatMap (P.en c0)):=by
      rw[<-zzo]
      conv=>lhs;rw[es]
      rw[List.flatMap_append,List.flatMap_cons]
     have hv':=hf.vl b (A++([h]++((l.take k).take i).flatMap (P.en c0))) (((l.take k).drop (i+1)).flatMap (P.en c0)++rest++Z) (l.take k)[i] (hD _ (List.mem_of_mem_take zc5)) (by rw[hxi,hb1,eb];simp only[qI]);rw[hxi]at hv';have e9:(A++([h]++((l.take k).take i).flatMap (P.en c0))).length=A.length+1+i*R.sz c0:=(by simp only[qA,List.length_singleton];omega);rw[e9]at hv';exact hv'
  have za1:(pk P l).length=1+body.length+rest.length:=by rw[hpk];simp only[qA,List.length_singleton];omega
  rw[hb,hm,rdF,if_pos hd,hv,hf.eM,q1,q2,show k-1+1=k by omega,zsj];dsimp only;rw[hrun,List.take_append_drop,za1,hbl];congr 2;omega
theorem zrv{P:Pk}{R:Rp}{D:Int->Prop}(hf:Fit P R D){l:LI}(hD:∀x∈l,D x)(A Z:LN){f:Nat}(hfu:l.length<=f):rdF R (A++(pk P l++Z)) f A.length l.length=some (l,A.length+(pk P l).length):=rd_pk hf _ l A Z f rfl hD hfu
theorem zgk{P:Pk}{R:Rp}{D:Int->Prop}(hf:Fit P R D){m:Nat}(hm:∀x,D x->R.sz (P.c x)+1<=m):∀(n:Nat) (l:LI),l.length=n->(∀x∈l,D x)->(pk P l).length<=m*l.length:=by
 intro n
 induction n using Nat.strongRecOn with
 | ind n ih =>
  intro l hn hD;by_cases hl:l=[]
  . subst hl;exact qD _
  have zsk:0<l.length:=List.length_pos_iff.2 hl;have h1:=ze0 (c:=P.c) hf.hM hl;obtain⟨h2,h3⟩:=rn_le (c:=P.c) (M:=P.M) l;have hx0:l.getD 0 0∈l:=by
   rw[qH,qG zsk];exact List.getElem_mem zsk
  have zsj:=ih (l.drop (rn P.c P.M l)).length (by rw[qJ];omega) _ rfl (fun x hx=>hD x (List.mem_of_mem_drop hx));have hbl:=zka hf (m:=l.take (rn P.c P.M l)) (fun x hx=>⟨hD x (List.mem_of_mem_take hx),zdk x hx⟩);have hs:=hm _ (hD _ hx0);have hlt:(l.take (rn P.c P.M l)).length=rn P.c P.M l:=by rw[qL];omega
  rw[hlt]at hbl;rw[qJ]at zsj;rw[zjm P hf.hM hl];simp only[qA,List.length_singleton];rw[hbl];generalize rn P.c P.M l=k at *;have e:l.length=k+(l.length-k):=by omega
  rw[e,Nat.mul_add];have h5:1+k*R.sz (P.c (l.getD 0 0))<=m*k:=by
   have:k*(R.sz (P.c (l.getD 0 0))+1)<=k*m:=Nat.mul_le_mul_left k hs;rw[Nat.mul_add,Nat.mul_one,Nat.mul_comm k m]at this;omega
  omega
theorem z3w{z:Int}(h1:0<=z)(h2:z<=255):((V8 (be1 z):Nat):Int)=z:=by
 simp only[be1,V8,List.foldl_cons,List.foldl_nil];omega
theorem zt3{z:Int}(h1:0<=z)(h2:z<=65535):((V8 (be2 z):Nat):Int)=z:=by
 simp only[be2,V8,List.foldl_cons,List.foldl_nil];omega
def sx8(v:Nat):Int:=if 128<=v then (v:Int)-256 else v
theorem z06{z:Int}(h1:-128<=z)(h2:z<=127):sx8 (V8 (be1 z))=z:=by
 simp only[be1,V8,List.foldl_cons,List.foldl_nil];unfold sx8;split <;> omega
def kdC(n:Int):Nat:=if n=0 then 2 else if n < -128\/127<n then 1 else 0
def enC(kd:Nat)(n:Int):LN:=if kd=0 then be1 n else if kd=1 then be2 n else []
def PC:Pk:=⟨kdC,64,enC⟩
def szC(kd:Nat):Nat:=if kd=0 then 1 else if kd=1 then 2 else 0
def vlC(b:LN)(kd p:Nat):Int:=if kd=0 then sx8 (nmV b (p:Int) 1)else if kd=1 then sx16 (nmV b (p:Int) 2)else 0
def RC:Rp:=⟨64,192,szC,vlC⟩
def DC(x:Int):Prop:=-32768<=x/\x<=32767
theorem zba(x:Int):(x=0/\kdC x=2)\/(x≠0/\(x < -128\/127<x)/\kdC x=1)\/(x≠0/\(-128<=x/\x<=127)/\kdC x=0):=by
 unfold kdC;by_cases h0:x=0
 . exact .inl ⟨h0,if_pos h0⟩
 . by_cases h1:x < -128\/127<x
   . exact .inr (.inl ⟨h0,h1,by rw[if_neg h0,if_pos h1]⟩)
   . exact .inr (.inr ⟨h0,by omega,by rw[if_neg h0,if_neg h1]⟩)
theorem fitC:Fit PC RC DC where
 hM:=by decide
 eM:=rfl
 top:=fun x _=>by
  have:kdC x<=2:=by rcases zba x with h | h | h <;> omega
  show 64*kdC x+64<=192/\64*kdC x+64<=256;omega
 sz:=fun x _=>by
  show(enC (kdC x) x).length=szC (kdC x);rcases zba x with h|h|h
  . rw[h.2];rfl
  . rw[h.2.2];rfl
  . rw[h.2.2];rfl
 vl:=fun b A Z x hx hb=>by
  change b=A++(enC (kdC x) x++Z)at hb;show vlC b (kdC x) A.length=x;rcases zba x with h|h|h
  . rw[h.2,h.1];rfl
  . rw[h.2.2]at hb ⊢
    have:=zbl (q:=A.length) (n:=2) (X:=be2 x) hb rfl rfl;show sx16 (nmV b (A.length:Int) 2)=x;rw[this];exact zeu hx.1 hx.2
  . rw[h.2.2]at hb ⊢
    have:=zbl (q:=A.length) (n:=1) (X:=be1 x) hb rfl rfl;show sx8 (nmV b (A.length:Int) 1)=x;rw[this];exact z06 h.2.1.1 h.2.1.2
 by':=fun x _=>by
  show Byt (enC (kdC x) x);rcases zba x with h|h|h
  . rw[h.2];exact Byt.nil
  . rw[h.2.2];exact zb4 _
  . rw[h.2.2];exact zj9 _
def chB(l:LI):Bool:=l.all (fun z=>decide (-32768<=z/\z<=32767))&&decide (l.length<=2000)
theorem zcp{l:LI}:chB l=true↔(∀z∈l,DC z)/\l.length<=2000:=by
 unfold chB DC;simp only[Bool.and_eq_true,List.all_eq_true,qM]
def pcB(l:LI):LN:=if chB l then pk PC l else []
def pcE(l:LI):Int:=if chB l then 0 else 1
def rcO(b:LN)(n:Int):Option (LI×Nat):=if 0<=n/\n<=2000 then rdF RC b n.toNat 0 n.toNat else none
def rcL(b:LN)(n:Int):LI:=match rcO b n with | some p=>p.1 | none=>[]
def rcN(b:LN)(n:Int):Int:=match rcO b n with | some p=>(p.2:Int) | none=>0
def rcE(b:LN)(n:Int):Int:=match rcO b n with | some _=>0 | none=>if 0<=n/\n<=2000 then 2 else 4
theorem zro{l:LI}(h:chB l=true)(Z:LN):rcO (pcB l++Z) (l.length:Int)=some (l,(pcB l).length):=by
 obtain⟨h1,h2⟩:=zcp.1 h;rw[rcO,if_pos (by omega),Int.toNat_natCast,pcB,if_pos h];have:=zrv fitC h1 [] Z (f:=l.length) (qE _);simpa using this
theorem zci{l:LI}(h:chB l=true):(pcB l).length<=3*l.length:=by
 rw[pcB,if_pos h];exact zgk fitC (m:=3) (fun x _=>by show szC (kdC x)+1<=3;unfold szC;split <;> (try split) <;> omega) _ l rfl (zcp.1 h).1
def kdP(n:Int):Nat:=if 255<n then 1 else 0
def enP(kd:Nat)(n:Int):LN:=if kd=0 then be1 n else be2 n
def PP:Pk:=⟨kdP,128,enP⟩
def szP(kd:Nat):Nat:=if kd=0 then 1 else 2
def vlP(b:LN)(kd p:Nat):Int:=if kd=0 then ((nmV b (p:Int) 1:Nat):Int)else ((nmV b (p:Int) 2:Nat):Int)
def RPt:Rp:=⟨128,256,szP,vlP⟩
def DP(x:Int):Prop:=0<=x/\x<=65535
theorem za9(x:Int):(255<x/\kdP x=1)\/(x<=255/\kdP x=0):=by
 unfold kdP;by_cases h:255<x
 . exact .inl ⟨h,if_pos h⟩
 . exact .inr ⟨by omega,if_neg h⟩
theorem fitP:Fit PP RPt DP where
 hM:=by decide
 eM:=rfl
 top:=fun x _=>by
  have:kdP x<=1:=by rcases za9 x with h | h <;> omega
  show 128*kdP x+128<=256/\128*kdP x+128<=256;omega
 sz:=fun x _=>by
  show(enP (kdP x) x).length=szP (kdP x);rcases za9 x with h|h <;> rw[h.2] <;> rfl
 vl:=fun b A Z x hx hb=>by
  change b=A++(enP (kdP x) x++Z)at hb;show vlP b (kdP x) A.length=x;rcases za9 x with h|h
  . rw[h.2]at hb ⊢
    have:=zbl (q:=A.length) (n:=2) (X:=be2 x) hb rfl rfl;show((nmV b (A.length:Int) 2:Nat):Int)=x;rw[this];exact zt3 hx.1 hx.2
  . rw[h.2]at hb ⊢
    have:=zbl (q:=A.length) (n:=1) (X:=be1 x) hb rfl rfl;show((nmV b (A.length:Int) 1:Nat):Int)=x;rw[this];exact z3w hx.1 h.1
 by':=fun x _=>by
  show Byt (enP (kdP x) x);rcases za9 x with h|h <;> rw[h.2]
  . exact zb4 _
  . exact zj9 _
def stps(a:Int):LI->LI
 | []=>[]
 | x::t=>(x-a)::stps x t
def sums(a:Int):LI->LI
 | []=>[]
 | d::t=>(a+d)::sums (a+d) t
theorem zbj(a:Int)(l:LI):(stps a l).length=l.length:=by
 induction l generalizing a with
 | nil=>rfl
 | cons x t ih=>rw[stps,List.length_cons,ih,List.length_cons]
theorem zgb(a:Int)(l:LI):(sums a l).length=l.length:=by
 induction l generalizing a with
 | nil=>rfl
 | cons x t ih=>rw[sums,List.length_cons,ih,List.length_cons]
theorem zqt(a:Int)(l:LI):sums a (stps a l)=l:=by
 induction l generalizing a with
 | nil=>rfl
 | cons x t ih=>rw[stps,sums,show a+(x-a)=x by omega,ih]
def lastS(a:Int):LI->Int
 | []=>a
 | d::t=>lastS (a+d) t
theorem zg9(a:Int)(d e:LI):sums a (d++e)=sums a d++sums (lastS a d) e:=by
 induction d generalizing a with
 | nil=>rfl
 | cons x t ih=>rw[List.cons_append,sums,sums,ih,List.cons_append];rfl
theorem zfx(a:Int)(d e:LI):lastS a (d++e)=lastS (lastS a d) e:=by
 induction d generalizing a with
 | nil=>rfl
 | cons x t ih=>rw[List.cons_append,lastS,lastS,ih]
def ptF(a:Int):LI->Bool
 | []=>true
 | x::t=>decide (a<x/\x<=65535)&&ptF x t
def ptB(l:LI):Bool:=ptF (-1) l&&decide (l.length<=2000)
theorem zrs:∀(l:LI) (a:Int),-1<=a->ptF a l=true->∀z∈stps (max a 0) l,DP z:=by
 intro l
 induction l with
 | nil=>intro a _ _ z hz;cases hz
 | cons x t ih =>
  intro a ha h z hz;rw[ptF,Bool.and_eq_true,qM]at h;rw[stps]at hz;rcases List.mem_cons.1 hz with hz|hz
  . rw[hz]
    unfold DP;omega
  . have:=ih x (by omega) h.2 z
    rw[show max x 0=x by omega]at this;exact this hz
theorem zb1{l:LI}(h:ptB l=true):(∀z∈stps 0 l,DP z)/\l.length<=2000:=by
 unfold ptB at h;rw[Bool.and_eq_true,qM]at h;have:=zrs l (-1) (by omega) h.1;rw[show max (-1:Int) 0=0 by omega]at this;exact⟨this,h.2⟩
def cnE(n:Nat):LN:=if n<128 then [n]else [128+n/256,n%256]
def ppB(l:LI):LN:=if ptB l then cnE l.length++pk PP (stps 0 l)else []
def ppE(l:LI):Int:=if ptB l then 0 else 1
def ptN(b:LN):Nat:=if 128<=nmV b 0 1 then (nmV b 0 1-128)*256+nmV b 1 1 else nmV b 0 1
def ptA(b:LN):Nat:=if 128<=nmV b 0 1 then 2 else 1
def ptO(b:LN):Bool:=decide (ptA b<=b.length)
def rpO(b:LN):Option (LI×Nat):=if ptO b then (match rdF RPt b (ptN b) (ptA b) (ptN b)with | some p=>if ptB (sums 0 p.1)then some (sums 0 p.1,p.2)else none | none=>none)else none
def rpL(b:LN):LI:=match rpO b with | some p=>p.1 | none=>[]
def rpN(b:LN):Int:=match rpO b with | some p=>(p.2:Int) | none=>0
def rpE(b:LN):Int:=match rpO b with | some _=>0 | none=>2
theorem zv7{n:Nat}(hn:n<=2000)(Z:LN):ptN (cnE n++Z)=n/\ptA (cnE n++Z)=(cnE n).length/\ptO (cnE n++Z)=true:=by
 unfold ptN ptA ptO ptA cnE;by_cases h:n<128
 . rw[if_pos h]
   have v:=zbl (b:=[n]++Z) (A:=[]) (X:=[n]) (Z:=Z) (q:=0) (n:=1) rfl rfl rfl;have v':nmV ([n]++Z) 0 1=n:=by
    have e:V8 [n]=n:=(by simp[V8]);exact v.trans e
   rw[v',if_neg (by omega),if_neg (by omega)];refine⟨rfl,rfl,qC (by simp)⟩
 . rw[if_neg h]
   have v:=zbl (b:=[128+n/256,n%256]++Z) (A:=[]) (X:=[128+n/256]) (Z:=[n%256]++Z) (q:=0) (n:=1) rfl rfl rfl;have w:=zbl (b:=[128+n/256,n%256]++Z) (A:=[128+n/256]) (X:=[n%256]) (Z:=Z) (q:=1) (n:=1) rfl rfl rfl;have v':nmV ([128+n/256,n%256]++Z) 0 1=128+n/256:=by
    have e:V8 [128+n/256]=128+n/256:=(by simp[V8]);exact v.trans e
   have w':nmV ([128+n/256,n%256]++Z) 1 1=n%256:=by
    have e:V8 [n%256]=n%256:=(by simp[V8]);exact w.trans e
   rw[v',w',if_pos (by omega),if_pos (by omega)];refine⟨by omega,rfl,qC (by simp)⟩
theorem zyh{l:LI}(h:ptB l=true)(Z:LN):rpO (ppB l++Z)=some (l,(ppB l).length):=by
 obtain⟨h1,h2⟩:=zb1 h;have hr:=zrv fitP h1 (cnE l.length) Z (f:=l.length) (by rw[zbj];exact qE _);rw[zbj]at hr;rw[ppB,if_pos h,qI,rpO];obtain⟨c1,c2,c3⟩:=zv7 h2 (pk PP (stps 0 l)++Z);rw[c1,c2,c3,if_pos rfl,hr];dsimp only;rw[zqt,if_pos h,qA]
theorem zjk:∀(l:LI) (a:Int),ptF a l=true ↔ ∀i,i<l.length->(if i=0 then a else l.getD (i-1) 0)<l.getD i 0/\l.getD i 0<=65535:=by
 intro l
 induction l with
 | nil=>intro a;exact⟨fun _ i hi=>by simp at hi,fun _=>rfl⟩
 | cons x t ih =>
  intro a;rw[ptF,Bool.and_eq_true,qM,ih];constructor
  . rintro ⟨h1,h2⟩ i hi
    cases i with
    | zero=>simpa using h1
    | succ i =>
     have:=h2 i (by simpa using hi);cases i with
     | zero=>simpa using this
     | succ i=>simpa using this
  . intro h
    refine⟨by simpa using h 0 (by simp),fun i hi=>?_⟩;have:=h (i+1) (by simpa using hi);cases i with
    | zero=>simpa using this
    | succ i=>simpa using this
theorem zrt{l:LI}(h:∀i,i<l.length->0<=l.getD i 0/\l.getD i 0<=65535/\(0<i->l.getD (i-1) 0<l.getD i 0)):ptB l=decide (l.length<=2000):=by
 unfold ptB
 rw[(zjk l (-1)).2 (fun i hi=>by
  obtain⟨h1,h2,h3⟩:=h i hi;split
  . omega
  . exact⟨h3 (by omega),h2⟩),Bool.true_and]
theorem znu{l:LI}(h:ptB l=true){i:Nat}(hi:i<l.length):0<=l.getD i 0/\l.getD i 0<=65535/\(0<i->l.getD (i-1) 0<l.getD i 0):=by
 unfold ptB at h;rw[Bool.and_eq_true]at h;have key:=(zjk l (-1)).1 h.1;have hge:∀j,j<l.length->0<=l.getD j 0:=by
  intro j
  induction j with
  | zero=>intro hj;have:=key 0 hj;rw[if_pos rfl]at this;omega
  | succ j ih=>intro hj;have:=key (j+1) hj;have h2:=ih (by omega);rw[if_neg (by omega)]at this;simp only[Nat.add_sub_cancel]at this;omega
 have:=key i hi;refine⟨hge i hi,this.2,fun h0=>?_⟩;rw[if_neg (by omega)]at this;exact this.1
theorem z1i{l:LI}{i:Nat}(hi:i<l.length)(h:l.getD i 0<0\/65535<l.getD i 0\/(0<i/\l.getD i 0<=l.getD (i-1) 0)):ptB l=false:=by
 rw[Bool.eq_false_iff];intro e;obtain⟨h1,h2,h3⟩:=znu e hi;rcases h with h|h|⟨h,h4⟩
 . omega
 . omega
 . have:=h3 h
   omega
theorem ztm{l:LI}{i:Nat}(hi:i<l.length)(h:l.getD i 0 < -32768\/32767<l.getD i 0):chB l=false:=by
 rw[Bool.eq_false_iff];intro e;have:=(zcp.1 e).1 (l.getD i 0) (by rw[qH,qG hi];exact List.getElem_mem hi);unfold DC at this;omega
theorem ztl{l:LI}(h:∀i,i<l.length->-32768<=l.getD i 0/\l.getD i 0<=32767):chB l=decide (l.length<=2000):=by
 unfold chB;have:l.all (fun z=>decide (-32768<=z/\z<=32767))=true:=by
  rw[List.all_eq_true];intro z hz;obtain⟨i,hi,e⟩:=List.getElem_of_mem hz;have:=h i hi;rw[qH,qG hi]at this;rw[<-e];exact qC this
 rw[this,Bool.true_and]
def stpK(l:LI)(k:Nat):LI:=(List.range k).map (fun i=>if i=0 then l.getD 0 0 else l.getD i 0-l.getD (i-1) 0)
theorem zew(l:LI)(k:Nat):(stpK l k).length=k:=by simp[stpK]
theorem zhc(l:LI)(k:Nat):stpK l (k+1)=stpK l k++[if k=0 then l.getD 0 0 else l.getD k 0-l.getD (k-1) 0]:=by simp[stpK,List.range_succ]
theorem zuj:∀(l:LI) (a:Int) (i:Nat),i<l.length->(stps a l).getD i 0=if i=0 then l.getD 0 0-a else l.getD i 0-l.getD (i-1) 0:=by
 intro l
 induction l with
 | nil=>intro a i hi;simp at hi
 | cons x t ih =>
  intro a i hi;cases i with
  | zero=>rfl
  | succ i =>
   rw[stps,List.getD_cons_succ,ih x i (by simpa using hi)];cases i with
   | zero=>simp
   | succ i=>simp
theorem zqu(l:LI):stpK l l.length=stps 0 l:=by
 apply List.ext_getElem
 . rw[zew,zbj]
 . intro i h1 h2
   rw[zbj]at h2;have h:=zuj l 0 i h2;rw[qH,qG (by rw[zbj];exact h2)]at h;simp only[Option.getD_some]at h;rw[h];simp only[stpK,List.getElem_map,List.getElem_range];split <;> simp
