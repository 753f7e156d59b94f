import Derived.Test.YtkmcodofnckdmaaGreatZK11
set_option maxHeartbeats 2000000
set_option maxRecDepth 100000
set_option linter.unusedSimpArgs false
set_option linter.unusedVariables false
namespace Go.Proofs.YtkmcodofnckdmaaGreat
open Tryz Go.RowKit Go.Maps
theorem zi3(S:Nat->Prop)(a:OA)(ca:Nat)(b:OA)(cb:Nat)(o:Ol)(w:World)(hc:Gr PnE.row S w a ca o.cs)(hp:Gr PaE S w b cb o.ps)(hl:o.cs.flatten.length<=100000)(hl2:o.ps.length<=100000) :
 Calls Tryz.prog 102 #[.agg #[.slice a o.cs.length ca,.slice b o.ps.length cb]] w fun e w'=>e=.returned (.int .i64 (cntO o:Int))/\Below w.heap.size w w':=by
 have k2:=hc.lenB;obtain⟨W,hW,X1,hbW⟩:∃W,W=w.alloc (.cells #[.slice a o.cs.length ca,.slice b o.ps.length cb] 57)/\Bk 57 W w.heap.size [.slice a o.cs.length ca,.slice b o.ps.length cb]/\Below w.heap.size w W:=⟨_,rfl,Bk.new _ _ _,bl1 _⟩;obtain⟨x0,x1,_⟩:=X1.two;have HH:Hid (Gr PnE.row S W a ca o.cs):=hc.below hbW;have HC:Hid (cntO o=o.ps.length+ofC o.cs o.cs.length):=by show _=_;rw[zy2];rfl
 clear hc hp X1;obtain⟨cs,ps⟩:=o;dsimp only at *;go_enter func102,ntmps102;go_upto_region 1 with fail
 rw[<-hW];clear hW;go_wp2;clear x0 x1
 go_loopw [3,12] (fun c i wr=>∃k:Nat,k<=cs.length/\i=.int .i64 k/\c=.int .i64 ((ps.length+ofC cs k:Nat):Int)/\W=wr) (fun _ i _=>cs.length-(intOf i).toNat)
 case atStart=>exact⟨0,qD _,rfl,rfl,rfl⟩
 case round =>
  obtain⟨k,hk,rfl,rfl,rfl⟩:=hrel;by_cases hkn:k<cs.length
  . obtain⟨b0,off,a1,c1,ea,hb,d0,hrow,hlb,_⟩:=HH.out.rw (Below.refl _ _) k hkn
    subst ea;have hst:=zu6 hkn;have hle:=z1m cs (k+1);obtain⟨m,hm⟩:∃m,(cs.getD k []).length=m:=⟨_,rfl⟩;rw[hm]at d0 hst;obtain⟨x,hx⟩:∃x,ofC cs k=x:=⟨_,rfl⟩;obtain⟨y,hy⟩:∃x,ofC cs (k+1)=x:=⟨_,rfl⟩;have HY:Hid (ofC cs (k+1)=y):=hy;rw[hx,hy]at hst;rw[hy]at hle;rw[hx];have i1:(0:Int)<=(k:Int):=(by omega);have i2:(k:Int)<(cs.length:Int):=(by omega);have hs:((ps.length+x:Nat):Int)+(m:Int)=((ps.length+y:Nat):Int):=(by omega);clear hm hx hy hrow hlb;go_wp2;go_roundw
    case rel=>exact⟨k+1,by omega,by go_num,by rw[HY.out];exact congrArg (Value.int .i64) (by omega),trivial⟩
    case measure=>simp[intOf];omega
  . obtain rfl:k=cs.length:=by omega
    have g4:¬(cs.length:Int)<(cs.length:Int):=(by omega);rw[<-HC.out];go_wp2;go_ret;exact⟨rfl,hbW⟩
def riB(t:Te):Bool:=decide (0<=t.st)&&(decide (t.st<t.pk)&&(decide (t.pk<t.en)||(t.pk==16384&&t.en==16384)))
theorem zkr(t:Te)(w:World) :
 Calls Tryz.prog 198 #[.agg #[.int .i64 t.st,.int .i64 t.pk,.int .i64 t.en]] w fun e w'=>e=.returned (.bool (riB t))/\Below w.heap.size w w':=by
 obtain⟨st,pk,en⟩:=t;simp only[riB];by_cases h1:0<=st
 . have g1:decide (0<=st)=true:=qC h1
   rw[g1];by_cases h2:st<pk
   . have g2:decide (st<pk)=true:=qC h2
     rw[g2];by_cases h3:pk<en
     . have g3:decide (pk<en)=true:=qC h3
       rw[g3];go_enter func198,ntmps198;go_wp2;go_ret;exact⟨zaa (by simp),al1 _⟩
     . have g3:decide (pk<en)=false:=qB h3
       rw[g3];by_cases h4:pk=16384
       . have g4:(pk==16384)=true:=by simp[h4]
         rw[g4];clear h4;go_enter func198,ntmps198;go_wp2;go_ret;exact⟨zaa (by simp),al1 _⟩
       . have g4:(pk==16384)=false:=by simp[h4]
         rw[g4];clear h4;go_enter func198,ntmps198;go_wp2;go_ret;exact⟨zaa (by simp),al1 _⟩
   . have g2:decide (st<pk)=false:=qB h2
     rw[g2];go_enter func198,ntmps198;go_wp2;go_ret;exact⟨zaa (by simp),al1 _⟩
 . have g1:decide (0<=st)=false:=qB h1
   rw[g1];go_enter func198,ntmps198;go_wp2;go_ret;exact⟨zaa (by simp),al1 _⟩
theorem zov(t:Te)(w:World)(h1:crd t.st=true)(h2:crd t.pk=true)(h3:crd t.en=true) :
 Calls Tryz.prog 199 #[.agg #[.int .i64 t.st,.int .i64 t.pk,.int .i64 t.en]] w fun e w'=>e=.returned (.agg #[.int .i64 (-t.en),.int .i64 (-t.pk),.int .i64 (-t.st)])/\Below w.heap.size w w':=by
 obtain⟨st,pk,en⟩:=t;rw[crdT]at h1 h2 h3;dsimp only at *;have k1:IntKind.i64.wrap (-en)=-en:=zbn (by omega) (by omega);have k2:IntKind.i64.wrap (-pk)=-pk:=zbn (by omega) (by omega);have k3:IntKind.i64.wrap (-st)=-st:=zbn (by omega) (by omega);go_enter func199,ntmps199;go_wp2;exact bodyPost_ret (v:=.agg #[.int .i64 (-en),.int .i64 (-pk),.int .i64 (-st)]) (by simp[results,results199,go_sem]) rfl ⟨rfl,al2 _ _⟩
theorem zq7{t:Te}:riB t=true↔(0<=t.st/\t.st<t.pk/\(t.pk<t.en\/(t.pk=16384/\t.en=16384))):=by
 simp[riB]
theorem zx5{t:Te}(h1:crd t.st=true)(h2:crd t.pk=true)(h3:crd t.en=true)(h:t.pk<0):riB ⟨-t.en,-t.pk,-t.st⟩=tfB t:=by
 rw[crdT]at h1 h2 h3;rw[Bool.eq_iff_iff,zq7,zc0];unfold TfT;dsimp only;omega
theorem zx4{t:Te}(h1:crd t.st=true)(h2:crd t.pk=true)(h3:crd t.en=true)(h:¬t.pk<0)(hz:¬(t.st=0/\t.pk=0/\t.en=0)):riB t=tfB t:=by
 rw[crdT]at h1 h2 h3;rw[Bool.eq_iff_iff,zq7,zc0];unfold TfT;omega
theorem zpy(t:Te)(w:World) :
 Calls Tryz.prog 154 #[.agg #[.int .i64 t.st,.int .i64 t.pk,.int .i64 t.en]] w fun e w'=>e=.returned (.bool (tfB t))/\Below w.heap.size w w':=by
 obtain⟨W,hW,X1,hbW⟩:∃W,W=w.alloc (.cells #[.int .i64 t.st,.int .i64 t.pk,.int .i64 t.en] 146)/\Box 146 W w.heap.size (.int .i64 t.st) (.int .i64 t.pk) (.int .i64 t.en)/\Below w.heap.size w W:=⟨_,rfl,Box.new _ _ _ _ _,al1 _⟩;cases c1:crd t.st with
 | false =>
  have HF:Hid (tfB t=false):=zin (fun h=>by rw[crdT.2 h.1]at c1;cases c1);obtain⟨st,pk,en⟩:=t;dsimp only at *;go_enter func154,ntmps154;go_wp2_with fail
  refine(za4 st _).mono ?_;rintro e u1 ⟨rfl,rfl⟩;rw[c1];go_wp2;go_ret;exact⟨zaa HF.out.symm,hW ▸ hbW⟩
 | true =>
  cases c2:crd t.pk with
  | false =>
   have HF:Hid (tfB t=false):=zin (fun h=>by rw[crdT.2 h.2.1]at c2;cases c2);obtain⟨st,pk,en⟩:=t;dsimp only at *;go_enter func154,ntmps154;go_wp2_with fail
   refine(za4 st _).mono ?_;rintro e u1 ⟨rfl,rfl⟩;rw[c1];go_wp2_with fail
   refine(za4 pk _).mono ?_;rintro e u1 ⟨rfl,rfl⟩;rw[c2];go_wp2;go_ret;exact⟨zaa HF.out.symm,hW ▸ hbW⟩
  | true =>
   cases c3:crd t.en with
   | false =>
    have HF:Hid (tfB t=false):=zin (fun h=>by rw[crdT.2 h.2.2.1]at c3;cases c3);obtain⟨st,pk,en⟩:=t;dsimp only at *;go_enter func154,ntmps154;go_wp2_with fail
    refine(za4 st _).mono ?_;rintro e u1 ⟨rfl,rfl⟩;rw[c1];go_wp2_with fail
    refine(za4 pk _).mono ?_;rintro e u1 ⟨rfl,rfl⟩;rw[c2];go_wp2_with fail
    refine(za4 en _).mono ?_;rintro e u1 ⟨rfl,rfl⟩;rw[c3];go_wp2;go_ret;exact⟨zaa HF.out.symm,hW ▸ hbW⟩
   | true =>
    by_cases hn:t.pk<0
    . have HF:Hid (riB ⟨-t.en,-t.pk,-t.st⟩=tfB t):=zx5 c1 c2 c3 hn
      have ht:=fun U=>zov t U c1 c2 c3;have hr:=fun U=>zkr ⟨-t.en,-t.pk,-t.st⟩ U;obtain⟨st,pk,en⟩:=t;dsimp only at *;go_enter func154,ntmps154;go_wp2_with fail
      rw[<-hW];clear hW;refine(za4 st _).mono ?_;rintro e u1 ⟨rfl,rfl⟩;rw[c1];obtain⟨p0,p1,p2,_⟩:=X1.cells;go_wp2_with fail
      refine(za4 pk _).mono ?_;rintro e u1 ⟨rfl,rfl⟩;rw[c2];go_wp2_with fail
      refine(za4 en _).mono ?_;rintro e u1 ⟨rfl,rfl⟩;rw[c3];clear c1 c2 c3;go_wp2_with fail
      refine(ht _).mono ?_;rintro e u1 ⟨rfl,hb1⟩;replace hbW:=hbW.trans (hb1.mono hbW.size);clear ht hb1 p0 p1 p2;go_wp2_with fail
      refine(hr _).mono ?_;rintro e u2 ⟨rfl,hb2⟩;rw[HF.out];replace hbW:=hbW.trans (hb2.mono hbW.size);clear hr hb2;go_wp2;go_ret;exact⟨rfl,hbW⟩
    . have HF:Hid (¬(t.st=0/\t.pk=0/\t.en=0)->riB t=tfB t):=zx4 c1 c2 c3 hn
      have HZ:Hid (t.st=0/\t.pk=0/\t.en=0->tfB t=true):=fun h=>by
       rw[zc0];unfold TfT;omega
      have hr:=fun U=>zkr t U;obtain⟨st,pk,en⟩:=t;dsimp only at *;go_enter func154,ntmps154;go_wp2_with fail
      rw[<-hW];clear hW;refine(za4 st _).mono ?_;rintro e u1 ⟨rfl,rfl⟩;rw[c1];obtain⟨p0,p1,p2,_⟩:=X1.cells;go_wp2_with fail
      refine(za4 pk _).mono ?_;rintro e u1 ⟨rfl,rfl⟩;rw[c2];go_wp2_with fail
      refine(za4 en _).mono ?_;rintro e u1 ⟨rfl,rfl⟩;rw[c3];clear c1 c2 c3;by_cases s0:st=0
      . subst s0
        by_cases q0:pk=0
        . subst q0
          by_cases e0:en=0
          . subst e0
            go_wp2;go_ret;exact⟨zaa (HZ.out (by simp)).symm,hbW⟩
          . go_wp2_with fail
            refine(hr _).mono ?_;rintro e u2 ⟨rfl,hb2⟩;rw[HF.out (by omega)];replace hbW:=hbW.trans (hb2.mono hbW.size);clear hr hb2;go_wp2;go_ret;exact⟨rfl,hbW⟩
        . go_wp2_with fail
          refine(hr _).mono ?_;rintro e u2 ⟨rfl,hb2⟩;rw[HF.out (by omega)];replace hbW:=hbW.trans (hb2.mono hbW.size);clear hr hb2;go_wp2;go_ret;exact⟨rfl,hbW⟩
      . go_wp2_with fail
        refine(hr _).mono ?_;rintro e u2 ⟨rfl,hb2⟩;rw[HF.out (by omega)];replace hbW:=hbW.trans (hb2.mono hbW.size);clear hr hb2;go_wp2;go_ret;exact⟨rfl,hbW⟩
