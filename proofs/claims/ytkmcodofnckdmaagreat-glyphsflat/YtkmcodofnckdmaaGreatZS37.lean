import Derived.Test.YtkmcodofnckdmaaGreatZS36
set_option maxHeartbeats 8000000
set_option maxRecDepth 100000
set_option linter.unusedSimpArgs false
set_option linter.unusedVariables false
namespace Go.Proofs.YtkmcodofnckdmaaGreat
open Go.RowKit Go.Maps
theorem zxg{t:Te}(h1:crd t.st=true)(h2:crd t.pk=true)(h3:crd t.en=true)(h:0<t.pk):tfB t=(decide (0<=t.st)&&(decide (t.st<t.pk)&&(decide (t.pk<t.en)||(t.pk==16384&&t.en==16384)))):=by
 rw[crdT]at h1 h2 h3;rw[Bool.eq_iff_iff,zc0]
 unfold TfT
 simp
 omega
theorem zsh{t:Te}(h1:crd t.st=true)(h2:crd t.pk=true)(h3:crd t.en=true)(h:t.pk<0):tfB t=(decide (t.en<=0)&&(decide (t.pk<t.en)&&(decide (t.st<t.pk)||(t.pk == -16384&&t.st == -16384)))):=by
 rw[crdT]at h1 h2 h3;rw[Bool.eq_iff_iff,zc0]
 unfold TfT
 simp
 omega
theorem zu3{t:Te}(h1:crd t.st=true)(h2:crd t.pk=true)(h3:crd t.en=true)(h:t.pk=0):tfB t=(t.st==0&&t.en==0):=by
 rw[crdT]at h1 h2 h3;rw[Bool.eq_iff_iff,zc0]
 unfold TfT
 simp
 omega
theorem zhf(t:Te)(w:World) :
 Calls Tryz.prog 158 #[.agg #[.int .i64 t.st,.int .i64 t.pk,.int .i64 t.en]] w fun e w'=>e=.returned (.bool (tfB t))/\Below w.heap.size w w':=by
 obtain⟨W,hW,X1,hbW⟩:∃W,W=w.alloc (.cells #[.int .i64 t.st,.int .i64 t.pk,.int .i64 t.en] 146)/\Box 146 W w.heap.size (.int .i64 t.st) (.int .i64 t.pk) (.int .i64 t.en)/\Below w.heap.size w W:=⟨_,rfl,Box.new _ _ _ _ _,al1 _⟩
 cases c1:crd t.st with
 | false =>
  have HF:Hid (tfB t=false):=zhb (fun h=>by rw[crdT.2 h.1]at c1;cases c1)
  obtain⟨st,pk,en⟩:=t
  dsimp only at *
  obtain⟨p0,p1,p2,_⟩:=X1.cells
  go_enter Tryz.func158,Tryz.ntmps158
  go_wp2_with fail
  rw[<-hW];clear hW
  refine(zac st _).mono ?_
  rintro e u1 ⟨rfl,rfl⟩;rw[c1];go_wp2
  go_ret
  exact⟨zaa HF.out.symm,hbW⟩
 | true =>
  cases c2:crd t.pk with
  | false =>
   have HF:Hid (tfB t=false):=zhb (fun h=>by rw[crdT.2 h.2.1]at c2;cases c2)
   obtain⟨st,pk,en⟩:=t
   dsimp only at *
   obtain⟨p0,p1,p2,_⟩:=X1.cells
   go_enter Tryz.func158,Tryz.ntmps158
   go_wp2_with fail
   rw[<-hW];clear hW
   refine(zac st _).mono ?_
   rintro e u1 ⟨rfl,rfl⟩;rw[c1]
   go_wp2_with fail
   refine(zac pk _).mono ?_
   rintro e u1 ⟨rfl,rfl⟩;rw[c2];go_wp2
   go_ret
   exact⟨zaa HF.out.symm,hbW⟩
  | true =>
   cases c3:crd t.en with
   | false =>
    have HF:Hid (tfB t=false):=zhb (fun h=>by rw[crdT.2 h.2.2.1]at c3;cases c3)
    obtain⟨st,pk,en⟩:=t
    dsimp only at *
    obtain⟨p0,p1,p2,_⟩:=X1.cells
    go_enter Tryz.func158,Tryz.ntmps158
    go_wp2_with fail
    rw[<-hW];clear hW
    refine(zac st _).mono ?_
    rintro e u1 ⟨rfl,rfl⟩;rw[c1]
    go_wp2_with fail
    refine(zac pk _).mono ?_
    rintro e u1 ⟨rfl,rfl⟩;rw[c2]
    go_wp2_with fail
    refine(zac en _).mono ?_
    rintro e u1 ⟨rfl,rfl⟩;rw[c3];go_wp2
    go_ret
    exact⟨zaa HF.out.symm,hbW⟩
   | true =>
    by_cases hu:0<t.pk
    . have HF:Hid (tfB t=_):=zxg c1 c2 c3 hu
      cases g1:(decide (0<=t.st):Bool) with
      | false =>
       rw[g1]at HF;obtain⟨st,pk,en⟩:=t
       dsimp only at *
       obtain⟨p0,p1,p2,_⟩:=X1.cells
       go_enter Tryz.func158,Tryz.ntmps158
       go_wp2_with fail
       rw[<-hW];clear hW
       refine(zac st _).mono ?_
       rintro e u1 ⟨rfl,rfl⟩;rw[c1]
       go_wp2_with fail
       refine(zac pk _).mono ?_
       rintro e u1 ⟨rfl,rfl⟩;rw[c2]
       go_wp2_with fail
       refine(zac en _).mono ?_
       rintro e u1 ⟨rfl,rfl⟩;rw[c3];clear c1 c2 c3;go_wp2
       go_ret
       exact⟨zaa (by rw[HF.out];simp),hbW⟩
      | true =>
       cases g2:(decide (t.st<t.pk):Bool) with
       | false =>
        rw[g1,g2]at HF;obtain⟨st,pk,en⟩:=t
        dsimp only at *
        obtain⟨p0,p1,p2,_⟩:=X1.cells
        go_enter Tryz.func158,Tryz.ntmps158
        go_wp2_with fail
        rw[<-hW];clear hW
        refine(zac st _).mono ?_
        rintro e u1 ⟨rfl,rfl⟩;rw[c1]
        go_wp2_with fail
        refine(zac pk _).mono ?_
        rintro e u1 ⟨rfl,rfl⟩;rw[c2]
        go_wp2_with fail
        refine(zac en _).mono ?_
        rintro e u1 ⟨rfl,rfl⟩;rw[c3];clear c1 c2 c3;go_wp2
        go_ret
        exact⟨zaa (by rw[HF.out];simp),hbW⟩
       | true =>
        cases g3:(decide (t.pk<t.en):Bool) with
        | false =>
         cases g4:(t.pk==16384:Bool) with
         | false =>
          rw[g1,g2,g3,g4]at HF;obtain⟨st,pk,en⟩:=t
          dsimp only at *
          obtain⟨p0,p1,p2,_⟩:=X1.cells
          go_enter Tryz.func158,Tryz.ntmps158
          go_wp2_with fail
          rw[<-hW];clear hW
          refine(zac st _).mono ?_
          rintro e u1 ⟨rfl,rfl⟩;rw[c1]
          go_wp2_with fail
          refine(zac pk _).mono ?_
          rintro e u1 ⟨rfl,rfl⟩;rw[c2]
          go_wp2_with fail
          refine(zac en _).mono ?_
          rintro e u1 ⟨rfl,rfl⟩;rw[c3];clear c1 c2 c3;go_wp2
          go_ret
          exact⟨zaa (by rw[HF.out];simp),hbW⟩
         | true =>
          rw[g1,g2,g3,g4]at HF;obtain⟨st,pk,en⟩:=t
          dsimp only at *
          obtain⟨p0,p1,p2,_⟩:=X1.cells
          go_enter Tryz.func158,Tryz.ntmps158
          go_wp2_with fail
          rw[<-hW];clear hW
          refine(zac st _).mono ?_
          rintro e u1 ⟨rfl,rfl⟩;rw[c1]
          go_wp2_with fail
          refine(zac pk _).mono ?_
          rintro e u1 ⟨rfl,rfl⟩;rw[c2]
          go_wp2_with fail
          refine(zac en _).mono ?_
          rintro e u1 ⟨rfl,rfl⟩;rw[c3];clear c1 c2 c3;go_wp2
          go_ret
          exact⟨zaa (by rw[HF.out];simp),hbW⟩
        | true =>
         rw[g1,g2,g3]at HF;obtain⟨st,pk,en⟩:=t
         dsimp only at *
         obtain⟨p0,p1,p2,_⟩:=X1.cells
         go_enter Tryz.func158,Tryz.ntmps158
         go_wp2_with fail
         rw[<-hW];clear hW
         refine(zac st _).mono ?_
         rintro e u1 ⟨rfl,rfl⟩;rw[c1]
         go_wp2_with fail
         refine(zac pk _).mono ?_
         rintro e u1 ⟨rfl,rfl⟩;rw[c2]
         go_wp2_with fail
         refine(zac en _).mono ?_
         rintro e u1 ⟨rfl,rfl⟩;rw[c3];clear c1 c2 c3;go_wp2
         go_ret
         exact⟨zaa (by rw[HF.out];simp),hbW⟩
    . by_cases hd:t.pk<0
      . have HF:Hid (tfB t=_):=zsh c1 c2 c3 hd
        cases g1:(decide (t.en<=0):Bool) with
        | false =>
         rw[g1]at HF;obtain⟨st,pk,en⟩:=t
         dsimp only at *
         obtain⟨p0,p1,p2,_⟩:=X1.cells
         go_enter Tryz.func158,Tryz.ntmps158
         go_wp2_with fail
         rw[<-hW];clear hW
         refine(zac st _).mono ?_
         rintro e u1 ⟨rfl,rfl⟩;rw[c1]
         go_wp2_with fail
         refine(zac pk _).mono ?_
         rintro e u1 ⟨rfl,rfl⟩;rw[c2]
         go_wp2_with fail
         refine(zac en _).mono ?_
         rintro e u1 ⟨rfl,rfl⟩;rw[c3];clear c1 c2 c3;go_wp2
         go_ret
         exact⟨zaa (by rw[HF.out];simp),hbW⟩
        | true =>
         cases g2:(decide (t.pk<t.en):Bool) with
         | false =>
          rw[g1,g2]at HF;obtain⟨st,pk,en⟩:=t
          dsimp only at *
          obtain⟨p0,p1,p2,_⟩:=X1.cells
          go_enter Tryz.func158,Tryz.ntmps158
          go_wp2_with fail
          rw[<-hW];clear hW
          refine(zac st _).mono ?_
          rintro e u1 ⟨rfl,rfl⟩;rw[c1]
          go_wp2_with fail
          refine(zac pk _).mono ?_
          rintro e u1 ⟨rfl,rfl⟩;rw[c2]
          go_wp2_with fail
          refine(zac en _).mono ?_
          rintro e u1 ⟨rfl,rfl⟩;rw[c3];clear c1 c2 c3;go_wp2
          go_ret
          exact⟨zaa (by rw[HF.out];simp),hbW⟩
         | true =>
          cases g3:(decide (t.st<t.pk):Bool) with
          | false =>
           cases g4:(t.pk == -16384:Bool) with
           | false =>
            rw[g1,g2,g3,g4]at HF;obtain⟨st,pk,en⟩:=t
            dsimp only at *
            obtain⟨p0,p1,p2,_⟩:=X1.cells
            go_enter Tryz.func158,Tryz.ntmps158
            go_wp2_with fail
            rw[<-hW];clear hW
            refine(zac st _).mono ?_
            rintro e u1 ⟨rfl,rfl⟩;rw[c1]
            go_wp2_with fail
            refine(zac pk _).mono ?_
            rintro e u1 ⟨rfl,rfl⟩;rw[c2]
            go_wp2_with fail
            refine(zac en _).mono ?_
            rintro e u1 ⟨rfl,rfl⟩;rw[c3];clear c1 c2 c3;go_wp2
            go_ret
            exact⟨zaa (by rw[HF.out];simp),hbW⟩
           | true =>
            rw[g1,g2,g3,g4]at HF;obtain⟨st,pk,en⟩:=t
            dsimp only at *
            obtain⟨p0,p1,p2,_⟩:=X1.cells
            go_enter Tryz.func158,Tryz.ntmps158
            go_wp2_with fail
            rw[<-hW];clear hW
            refine(zac st _).mono ?_
            rintro e u1 ⟨rfl,rfl⟩;rw[c1]
            go_wp2_with fail
            refine(zac pk _).mono ?_
            rintro e u1 ⟨rfl,rfl⟩;rw[c2]
            go_wp2_with fail
            refine(zac en _).mono ?_
            rintro e u1 ⟨rfl,rfl⟩;rw[c3];clear c1 c2 c3;go_wp2
            go_ret
            exact⟨zaa (by rw[HF.out];simp),hbW⟩
          | true =>
           rw[g1,g2,g3]at HF;obtain⟨st,pk,en⟩:=t
           dsimp only at *
           obtain⟨p0,p1,p2,_⟩:=X1.cells
           go_enter Tryz.func158,Tryz.ntmps158
           go_wp2_with fail
           rw[<-hW];clear hW
           refine(zac st _).mono ?_
           rintro e u1 ⟨rfl,rfl⟩;rw[c1]
           go_wp2_with fail
           refine(zac pk _).mono ?_
           rintro e u1 ⟨rfl,rfl⟩;rw[c2]
           go_wp2_with fail
           refine(zac en _).mono ?_
           rintro e u1 ⟨rfl,rfl⟩;rw[c3];clear c1 c2 c3;go_wp2
           go_ret
           exact⟨zaa (by rw[HF.out];simp),hbW⟩
      . have HF:Hid (tfB t=_):=zu3 c1 c2 c3 (by omega)
        cases g1:(t.st==0:Bool) with
        | false =>
         rw[g1]at HF;obtain⟨st,pk,en⟩:=t
         dsimp only at *
         obtain⟨p0,p1,p2,_⟩:=X1.cells
         go_enter Tryz.func158,Tryz.ntmps158
         go_wp2_with fail
         rw[<-hW];clear hW
         refine(zac st _).mono ?_
         rintro e u1 ⟨rfl,rfl⟩;rw[c1]
         go_wp2_with fail
         refine(zac pk _).mono ?_
         rintro e u1 ⟨rfl,rfl⟩;rw[c2]
         go_wp2_with fail
         refine(zac en _).mono ?_
         rintro e u1 ⟨rfl,rfl⟩;rw[c3];clear c1 c2 c3;go_wp2
         go_ret
         exact⟨zaa (by rw[HF.out];simp),hbW⟩
        | true =>
         rw[g1]at HF;obtain⟨st,pk,en⟩:=t
         dsimp only at *
         obtain⟨p0,p1,p2,_⟩:=X1.cells
         go_enter Tryz.func158,Tryz.ntmps158
         go_wp2_with fail
         rw[<-hW];clear hW
         refine(zac st _).mono ?_
         rintro e u1 ⟨rfl,rfl⟩;rw[c1]
         go_wp2_with fail
         refine(zac pk _).mono ?_
         rintro e u1 ⟨rfl,rfl⟩;rw[c2]
         go_wp2_with fail
         refine(zac en _).mono ?_
         rintro e u1 ⟨rfl,rfl⟩;rw[c3];clear c1 c2 c3;go_wp2
         go_ret
         exact⟨zaa (by rw[HF.out];simp),hbW⟩
theorem zks(a:Option Addr)(cap:Nat)(l:List Te)(n:Int)(w:World)(h:Tz w a cap l) :
 Calls Tryz.prog 107 #[.slice a l.length cap,.int .i64 n] w fun e w'=>e=.returned (.bool (rgB l n))/\Below w.heap.size w w':=by
 have k1:=h.1
 have k2:=h.lenB
 have HH:Hid (Tz w a cap l):=h
 clear h
 go_enter Tryz.func107,Tryz.ntmps107
 go_wp2
 go_loopw [5] (fun i wr=>∃k:Nat,k<=l.length/\i=.int .i64 k/\(∀j,j<k->tfB (l.getD j Te.none)=true)/\Below w.heap.size w wr) (fun i _=>l.length-(intOf i).toNat)
 case atStart=>exact⟨0,Nat.zero_le _,rfl,(fun j hj=>by omega),Below.refl _ _⟩
 case round =>
  obtain⟨k,hk,rfl,hok,hB⟩:=hrel
  have HOK:Hid (∀j,j<k->tfB (l.getD j Te.none)=true):=hok
  clear hok
  by_cases hkn:k<l.length
  . obtain⟨b,off,ea,hb,d0,d1,d2⟩:=HH.out.at hB k hkn
    subst ea
    have hfo:=fun U=>zhf (l.getD k Te.none) U
    obtain⟨t,ht⟩:∃t,l.getD k Te.none=t:=⟨_,rfl⟩
    have HT:Hid (l.getD k Te.none=t):=ht
    rw[ht]at d0 d1 d2 hfo;clear ht
    cases hf:tfB t with
    | false =>
     have HF:Hid (rgB l n=false):=by show _=_;rw[rgB,zrz hkn (by rw[HT.out];exact hf),Bool.false_and]
     simp only[hf]at hfo
     clear hf HT HOK;obtain⟨st,pk,en⟩:=t
     dsimp only at *
     go_wp2_with fail
     refine(hfo _).mono ?_
     rintro e u1 ⟨rfl,hb1⟩
     replace hB:=hB.trans (hb1.mono hB.size)
     clear hb1 hfo;go_wp2
     go_ret
     exact⟨zaa HF.out.symm,hB⟩
    | true =>
     have zdl:Hid (∀j,j<k+1->tfB (l.getD j Te.none)=true):=fun j hj=>by
      rcases Nat.lt_or_ge j k with h1|h1
      . exact HOK.out j h1
      . rw[show j=k by omega,HT.out];exact hf
     simp only[hf]at hfo
     clear hf HT HOK;obtain⟨st,pk,en⟩:=t
     dsimp only at *
     go_wp2_with fail
     refine(hfo _).mono ?_
     rintro e u1 ⟨rfl,hb1⟩
     replace hB:=hB.trans (hb1.mono hB.size)
     clear hb1 hfo;go_wp2
     go_roundw
     case rel=>exact⟨k+1,by omega,by go_num,zdl.out,hB⟩
     case measure=>simp[intOf];omega
  . obtain rfl:k=l.length:=by omega
    have HF:Hid (rgB l n=decide ((l.length:Int)=n)):=by show _=_;rw[rgB,allT.2 HOK.out,Bool.true_and]
    clear HOK;go_wp2
    go_ret
    exact⟨zaa (by rw[HF.out];by_cases e:(l.length:Int)=n <;> simp[e]),hB⟩
theorem zux{t:Tu}{n:Nat}{ax:Int}(h:rgB t.rg ax=false):tuB t n ax=false:=by unfold tuB;rw[h];rfl
theorem zuw{t:Tu}{n:Nat}{ax:Int}(h:t.dx.length≠t.dy.length):tuB t n ax=false:=by
 cases ht:tuB t n ax with
 | false=>rfl
 | true =>
  obtain⟨_,h2,_⟩:=ze0.1 ht
  cases ha:t.al with
  | true=>obtain⟨_,k2,k3⟩:=(zig ha).1 h2;omega
  | false=>obtain⟨_,_,k2,k3⟩:=(zem ha).1 h2;omega
theorem zf5{l:List Int}{p:Int->Bool}:l.all p=true ↔ ∀j,j<l.length->p (l.getD j 0)=true:=by
 rw[List.all_eq_true]
 constructor
 . intro h j hj
   rw[List.getD_eq_getElem?_getD,List.getElem?_eq_getElem hj]
   exact h _ (List.getElem_mem hj)
 . intro h x hx
   obtain⟨j,hj,e⟩:=List.getElem_of_mem hx
   have:=h j hj
   rw[List.getD_eq_getElem?_getD,List.getElem?_eq_getElem hj,Option.getD_some,e]at this
   exact this
theorem zuv{t:Tu}{n:Nat}{ax:Int}{k:Nat}(hk:k<t.dx.length)(h:fdB (t.dx.getD k 0)=false):tuB t n ax=false:=by
 cases ht:tuB t n ax with
 | false=>rfl
 | true =>
  have:=zf5.1 (ze0.1 ht).2.2.1 k hk
  rw[h]at this
  cases this
theorem zuu{t:Tu}{n:Nat}{ax:Int}{k:Nat}(hk:k<t.dy.length)(h:fdB (t.dy.getD k 0)=false):tuB t n ax=false:=by
 cases ht:tuB t n ax with
 | false=>rfl
 | true =>
  have:=zf5.1 (ze0.1 ht).2.2.2 k hk
  rw[h]at this
  cases this
theorem zxf{t:Tu}{n:Nat}{ax:Int}(hr:rgB t.rg ax=true)(hxy:t.dx.length=t.dy.length)(hf:∀j,j<t.dx.length->fdB (t.dx.getD j 0)=true/\fdB (t.dy.getD j 0)=true):tuB t n ax=nmB t n:=by
 have h1:t.dx.all fdB=true:=zf5.2 (fun j hj=>(hf j hj).1)
 have h2:t.dy.all fdB=true:=zf5.2 (fun j hj=>(hf j (by omega)).2)
 unfold tuB
 rw[hr,h1,h2]
 simp
theorem zxu{t:Tu}{n:Nat}(ha:t.al=true)(hxy:t.dx.length=t.dy.length):nmB t n=(((t.pts.length:Int)==0)&&((t.dx.length:Int)==(n:Int))):=by
 rw[Bool.eq_iff_iff,zig ha,<-List.length_eq_zero_iff]
 simp
 omega
theorem zxt{t:Tu}{n:Nat}(ha:t.al=false)(hxy:t.dx.length=t.dy.length)(hr:risB t.pts n=true):nmB t n=(decide ((1:Int)<=(t.pts.length:Int))&&((t.dx.length:Int)==(t.pts.length:Int))):=by
 rw[Bool.eq_iff_iff,zem ha,hr]
 simp
 omega
theorem zxs{t:Tu}{n:Nat}(ha:t.al=false)(hr:risB t.pts n=false):nmB t n=false:=by
 cases ht:nmB t n with
 | false=>rfl
 | true=>rw[((zem ha).1 ht).2.1]at hr;cases hr
theorem zxm{pts:List Int}{n k:Nat}(hok:∀j,j<k->risP pts n j)(hk:k<pts.length)(h:pts.getD k 0<0\/(n:Int)<=pts.getD k 0\/(0<k/\pts.getD k 0<=pts.getD (k-1) 0)):risB pts n=false:=by
 refine ze7 hk (fun hr=>?_)
 have h0:=(zck k (fun j hj=>by rcases Nat.lt_or_ge j k with h1 | h1;exact hok j h1;rw[show j=k by omega];exact hr)).1
 unfold risP lastI at hr
 split at hr
 . rcases h with h|h|h <;> omega
 . rcases h with h|h|h <;> omega
theorem zvd{pts:List Int}{n k:Nat}(h:0<=pts.getD k 0/\pts.getD k 0<(n:Int)/\(0<k->pts.getD (k-1) 0<pts.getD k 0)):risP pts n k:=by
 unfold risP lastI
 split
 . omega
 . exact⟨h.2.2 (by omega),h.2.1⟩
theorem zpm(S:Nat->Prop)(ra:Option Addr)(rc:Nat)(pa:Option Addr)(pc:Nat)(xa:Option Addr)(xc:Nat)(ya:Option Addr)(yc:Nat)(t:Tu)(n:Nat)(ax:Int)(w:World)(h:TuC S w ra rc pa pc xa xc ya yc t)(hn:n<=1000000) :
 Calls Tryz.prog 109 #[.agg #[.slice ra t.rg.length rc,.bool t.al,.slice pa t.pts.length pc,.slice xa t.dx.length xc,.slice ya t.dy.length yc],.int .i64 (n:Int),.int .i64 ax] w fun e w'=>e=.returned (.bool (tuB t n ax))/\Below w.heap.size w w':=by
 obtain⟨n1,n2,n3,n4⟩:=h.len
 obtain⟨W0,hW,X1,hbW⟩:∃W,W=w.alloc (.cells #[.slice ra t.rg.length rc,.bool t.al,.slice pa t.pts.length pc,.slice xa t.dx.length xc,.slice ya t.dy.length yc] 144)/\Bk 144 W w.heap.size [.slice ra t.rg.length rc,.bool t.al,.slice pa t.pts.length pc,.slice xa t.dx.length xc,.slice ya t.dy.length yc]/\Below w.heap.size w W:=⟨_,rfl,Bk.new _ _ _,bl1 _⟩
 replace h:=h.below hbW
 have zw9:=zks ra rc t.rg ax W0 h.tz
 obtain⟨c0,c1,c2,c3,c4,-⟩:=X1.five
 go_enter Tryz.func109,Tryz.ntmps109
 go_upto_region 1 with fail
 rw[<-hW];clear hW
 cases hr:rgB t.rg ax with
 | false =>
  rw[hr]at zw9
  have HE:Hid (tuB t n ax=false):=zux hr
  clear hr h
  go_wp2_with fail
  refine zw9.mono ?_
  rintro e u ⟨rfl,hb⟩
  replace hbW:=hbW.trans (hb.mono hbW.size)
  clear zw9 hb;go_wp2
  go_ret
  exact⟨zaa HE.out.symm,hbW⟩
 | true =>
 rw[hr]at zw9
 have HR:Hid (rgB t.rg ax=true):=hr
 clear hr
 go_wp2_with fail
 refine zw9.mono ?_
 rintro e W ⟨rfl,hb⟩
 replace hbW:=hbW.trans (hb.mono hbW.size)
 replace h:=h.below hb;replace X1:=X1.below hb;clear zw9 hb c0 c1 c2 c3 c4
 have HX1:Hid (Bk 144 W w.heap.size [.slice ra t.rg.length rc,.bool t.al,.slice pa t.pts.length pc,.slice xa t.dx.length xc,.slice ya t.dy.length yc]):=X1
 have HPT:Hid (Ri W pa pc t.pts):=h.pts
 have HDX:Hid (Ri W xa xc t.dx):=h.dx
 have HDY:Hid (Ri W ya yc t.dy):=h.dy
 have HBW:Hid (Below w.heap.size w W):=hbW
 obtain⟨c0,c1,c2,c3,c4,-⟩:=X1.five;clear X1 h
 by_cases hxy:t.dx.length=t.dy.length
 rotate_left
 . have g1:((t.dx.length:Int) != (t.dy.length:Int))=true:=by simp;omega
   have HE:Hid (tuB t n ax=false):=zuw hxy
   clear hxy HR;go_wp2
   go_ret
   exact⟨zaa HE.out.symm,hbW⟩
 have g1:((t.dx.length:Int) != (t.dy.length:Int))=false:=by simp;omega
 have HXY:Hid (t.dx.length=t.dy.length):=hxy
 clear hxy hbW;go_wp2;clear c0 c1 c2 c3 c4 g1
 go_loopw [7] (fun i wr=>∃k:Nat,k<=t.dx.length/\i=.int .i64 k/\(∀j,j<k->fdB (t.dx.getD j 0)=true/\fdB (t.dy.getD j 0)=true)/\Below W.heap.size W wr) (fun i _=>t.dx.length-(intOf i).toNat)
 case atStart=>exact⟨0,Nat.zero_le _,rfl,(fun j hj=>by omega),Below.refl _ _⟩
 case round =>
  obtain⟨k,hk,rfl,hok,hbW⟩:=hrel
  have HOK:Hid (∀j,j<k->fdB (t.dx.getD j 0)=true/\fdB (t.dy.getD j 0)=true):=hok
  clear hok
  have X1:=HX1.out.below hbW
  obtain⟨c0,c1,c2,c3,c4,-⟩:=X1.five;clear X1
  by_cases hkn:k<t.dx.length
  . obtain⟨b1,o1,ea,_,d1⟩:=HDX.out.at hbW k hkn
    obtain⟨b2,o2,eb,_,d2⟩:=HDY.out.at hbW k (by rw[<-HXY.out];exact hkn)
    have HN3:Hid (fdB (t.dx.getD k 0)=false->tuB t n ax=false):=fun h=>zuv hkn h
    have HN4:Hid (fdB (t.dy.getD k 0)=false->tuB t n ax=false):=fun h=>zuu (by rw[<-HXY.out];exact hkn) h
    have HY:Hid (fdB (t.dx.getD k 0)=true->fdB (t.dy.getD k 0)=true->∀j,j<k+1->fdB (t.dx.getD j 0)=true/\fdB (t.dy.getD j 0)=true):=fun h1 h2 j hj=>by
     rcases Nat.lt_or_ge j k with h3|h3
     . exact HOK.out j h3
     . rw[show j=k by omega];exact⟨h1,h2⟩
    obtain⟨x,hx⟩:∃x,t.dx.getD k 0=x:=⟨_,rfl⟩
    obtain⟨y,hy⟩:∃y,t.dy.getD k 0=y:=⟨_,rfl⟩
    rw[hx]at d1 HN3 HY;rw[hy]at d2 HN4 HY;rw[ea]at c3;rw[eb]at c4
    have i1:(0:Int)<=(k:Int):=by omega
    have i2:(k:Int)<(t.dx.length:Int):=by omega
    have i3:(k:Int)<(t.dy.length:Int):=by have:=HXY.out;omega
    clear hx hy ea eb HOK
    go_wp2_with fail
    refine(za3 x wr).mono ?_
    rintro e u1 ⟨rfl,rfl⟩
    cases hfx:fdB x with
    | false =>
     have HE:Hid (tuB t n ax=false):=HN3.out hfx
     clear hfx HN3 HN4 HY;go_wp2
     go_ret
     exact⟨zaa HE.out.symm,HBW.out.trans (hbW.mono HBW.out.size)⟩
    | true =>
     go_wp2_with fail
     refine(za3 y wr).mono ?_
     rintro e u1 ⟨rfl,rfl⟩
     cases hfy:fdB y with
     | false =>
      have HE:Hid (tuB t n ax=false):=HN4.out hfy
      clear hfx hfy HN3 HN4 HY;go_wp2
      go_ret
      exact⟨zaa HE.out.symm,HBW.out.trans (hbW.mono HBW.out.size)⟩
     | true =>
      have zdl:Hid (_):=HY.out hfx hfy
      clear hfx hfy HN3 HN4 HY;go_wp2
      go_roundw
      case rel=>exact⟨k+1,by omega,by go_num,zdl.out,hbW⟩
      case measure=>simp[intOf];omega
  . have ek:k=t.dx.length:=by omega
    rw[ek]at HOK ⊢
    have g1:¬(t.dx.length:Int)<(t.dx.length:Int):=by omega
    have HOF:Hid (tuB t n ax=nmB t n):=zxf HR.out HXY.out HOK.out
    clear ek hk hkn HOK HR
    cases hal:t.al with
    | true =>
     have HE:Hid (tuB t n ax=(((t.pts.length:Int)==0)&&((t.dx.length:Int)==(n:Int)))):=HOF.out.trans (zxu hal HXY.out)
     rw[hal]at c1;clear hal
     by_cases hp0:t.pts.length=0
     . have gp:((t.pts.length:Int)==0)=true:=by rw[hp0];rfl
       rw[gp,Bool.true_and]at HE;clear hp0;go_wp2
       go_ret
       exact⟨zaa HE.out.symm,HBW.out.trans (hbW.mono HBW.out.size)⟩
     . have gp:((t.pts.length:Int)==0)=false:=beq_eq_false_iff_ne.2 (by omega)
       rw[gp,Bool.false_and]at HE;clear hp0;go_wp2
       go_ret
       exact⟨zaa HE.out.symm,HBW.out.trans (hbW.mono HBW.out.size)⟩
    | false =>
     have HAL:Hid (t.al=false):=hal
     rw[hal]at c1;clear hal;go_wp2;clear c0 c1 c2 c3 c4 g1
     go_loopw [8] (fun i wr=>∃k:Nat,k<=t.pts.length/\i=.int .i64 k/\(∀j,j<k->risP t.pts n j)/\Below W.heap.size W wr) (fun i _=>t.pts.length-(intOf i).toNat)
     case atStart=>exact⟨0,Nat.zero_le _,rfl,(fun j hj=>by omega),hbW⟩
     case round =>
      clear hbW;obtain⟨k,hk,rfl,hok,hbW⟩:=hrel
      have HOK:Hid (∀j,j<k->risP t.pts n j):=hok
      clear hok
      have X1:=HX1.out.below hbW
      obtain⟨c0,c1,c2,c3,c4,-⟩:=X1.five;clear X1
      by_cases hkn:k<t.pts.length
      rotate_left
      . obtain rfl:k=t.pts.length:=by omega
        have g1:¬(t.pts.length:Int)<(t.pts.length:Int):=by omega
        have hrs:risB t.pts n=true:=zdr.2 HOK.out
        have HE:Hid (tuB t n ax=(decide ((1:Int)<=(t.pts.length:Int))&&((t.dx.length:Int)==(t.pts.length:Int)))):=HOF.out.trans (zxt HAL.out HXY.out hrs)
        clear HOK hrs hkn hk
        by_cases hl1:1<=t.pts.length
        . have gl:decide ((1:Int)<=(t.pts.length:Int))=true:=decide_eq_true (by omega)
          rw[gl,Bool.true_and]at HE;go_wp2
          go_ret
          exact⟨zaa HE.out.symm,HBW.out.trans (hbW.mono HBW.out.size)⟩
        . have gl:decide ((1:Int)<=(t.pts.length:Int))=false:=decide_eq_false (by omega)
          have gl2:¬(1:Int)<=(t.pts.length:Int):=by omega
          rw[gl,Bool.false_and]at HE;go_wp2
          go_ret
          exact⟨zaa HE.out.symm,HBW.out.trans (hbW.mono HBW.out.size)⟩
      obtain⟨b,off,ea,hb,d0⟩:=HPT.out.at hbW k hkn
      have hzi:=HPT.out.i64 hkn
      have HNO:Hid ((t.pts.getD k 0<0\/(n:Int)<=t.pts.getD k 0\/(0<k/\t.pts.getD k 0<=t.pts.getD (k-1) 0))->tuB t n ax=false):=fun h=>HOF.out.trans (zxs HAL.out (zxm HOK.out hkn h))
      have HY:Hid ((0<=t.pts.getD k 0/\t.pts.getD k 0<(n:Int)/\(0<k->t.pts.getD (k-1) 0<t.pts.getD k 0))->∀j,j<k+1->risP t.pts n j):=fun h j hj=>by
       rcases Nat.lt_or_ge j k with h1|h1
       . exact HOK.out j h1
       . rw[show j=k by omega];exact zvd h
      have HP:Hid (0<k->∃m,k=m+1/\wr.cell? ⟨b,off+m,none⟩=some (.int .i64 (t.pts.getD m 0))):=fun h0=>by
       obtain⟨b',off',ea',_,d1⟩:=HPT.out.at hbW (k-1) (by omega)
       rw[ea]at ea'
       cases ea'
       exact⟨k-1,by omega,d1⟩
      obtain⟨x,hx⟩:∃x,t.pts.getD k 0=x:=⟨_,rfl⟩
      rw[hx]at d0 HNO HY hzi;rw[ea]at c2;clear hx ea c0 c1 c3 c4
      obtain⟨gq,hgq⟩:∃g,w.heap.size=g:=⟨_,rfl⟩
      rw[hgq]at c2 ⊢;clear hgq
      have i1:(0:Int)<=(k:Int):=by omega
      have i2:(k:Int)<(t.pts.length:Int):=by omega
      by_cases h1:x<0
      . have g1:decide (x<0)=true:=decide_eq_true h1
        have HE:Hid (tuB t n ax=false):=HNO.out (.inl h1)
        clear h1 HOK HY HP
        go_upto_region 13 with fail
        refine wp_region_held_drew (S:=(fun u=>u.cell? ⟨gq,2,none⟩=some (.slice (some ⟨b,off,none⟩) t.pts.length pc)/\u.cell? ⟨b,off+k,none⟩=some (.int .i64 x))) (by kernel_rfl) ?_ (fun hH=>?_)
        . (try dsimp only)
          go_keep
        have hdr:Below wr.heap.size wr wr.drew:=Below.drew1
        generalize wr.drew=ud at hdr hH ⊢
        replace hbW:Below W.heap.size W ud:=hbW.trans (hdr.mono hbW.size)
        clear hdr c2;refine hT 0 hH ?_;refine hT 1 hH ?_;refine hT 2 hH ?_;refine hT 3 hH ?_;refine hT 4 hH ?_;refine hT 5 hH ?_;refine hT 6 hH ?_;refine hN 7 hH ?_;refine hN 8 hH ?_;refine hN 9 hH ?_;refine hN 10 hH ?_;refine hN 11 hH ?_;refine hN 12 hH ?_
        refine hN 13 hH ?_;refine hT 14 hH ?_;refine hT 15 hH ?_;refine hN 16 hH ?_;refine hN 17 hH ?_;refine hN 18 hH ?_;refine hN 19 hH ?_;refine hN 20 hH ?_;refine hN 21 hH ?_;refine hN 22 hH ?_;refine hN 23 hH ?_;refine hN 24 hH ?_;refine hN 25 hH ?_
        refine hN 26 hH ?_;refine hN 27 hH ?_;refine hN 28 hH ?_;refine hN 29 hH ?_;refine hN 30 hH ?_;refine hN 31 hH ?_;refine hT 32 hH ?_
        refine wpAnyH_done (by kernel_rfl) ?_ _
        clear hH;go_wp2
        go_ret
        exact⟨zaa HE.out.symm,HBW.out.trans (hbW.mono HBW.out.size)⟩
      have g1:decide (x<0)=false:=decide_eq_false h1
      by_cases h2:(n:Int)<=x
      . have g2:decide ((n:Int)<=x)=true:=decide_eq_true h2
        have HE:Hid (tuB t n ax=false):=HNO.out (.inr (.inl h2))
        clear h1 h2 HOK HY HP
        go_upto_region 13 with fail
        refine wp_region_held_drew (S:=(fun u=>u.cell? ⟨gq,2,none⟩=some (.slice (some ⟨b,off,none⟩) t.pts.length pc)/\u.cell? ⟨b,off+k,none⟩=some (.int .i64 x))) (by kernel_rfl) ?_ (fun hH=>?_)
        . (try dsimp only)
          go_keep
        have hdr:Below wr.heap.size wr wr.drew:=Below.drew1
        generalize wr.drew=ud at hdr hH ⊢
        replace hbW:Below W.heap.size W ud:=hbW.trans (hdr.mono hbW.size)
        clear hdr c2;refine hT 0 hH ?_;refine hT 1 hH ?_;refine hT 2 hH ?_;refine hT 3 hH ?_;refine hT 4 hH ?_;refine hT 5 hH ?_;refine hT 6 hH ?_;refine hT 7 hH ?_;refine hT 8 hH ?_;refine hT 9 hH ?_;refine hT 10 hH ?_;refine hT 11 hH ?_;refine hT 12 hH ?_
        refine hT 13 hH ?_;refine hT 14 hH ?_;refine hT 15 hH ?_;refine hN 16 hH ?_;refine hN 17 hH ?_;refine hN 18 hH ?_;refine hN 19 hH ?_;refine hN 20 hH ?_;refine hN 21 hH ?_;refine hN 22 hH ?_;refine hN 23 hH ?_;refine hN 24 hH ?_;refine hN 25 hH ?_
        refine hN 26 hH ?_;refine hN 27 hH ?_;refine hN 28 hH ?_;refine hN 29 hH ?_;refine hN 30 hH ?_;refine hN 31 hH ?_;refine hT 32 hH ?_
        refine wpAnyH_done (by kernel_rfl) ?_ _
        clear hH;go_wp2
        go_ret
        exact⟨zaa HE.out.symm,HBW.out.trans (hbW.mono HBW.out.size)⟩
      have g2:decide ((n:Int)<=x)=false:=decide_eq_false h2
      by_cases h3:k=0
      . have g3:decide (0<k)=false:=decide_eq_false (by omega)
        have zdl:Hid (∀j,j<k+1->risP t.pts n j):=HY.out ⟨by omega,by omega,fun h=>by omega⟩
        clear h1 h2 h3 HOK HNO HP
        go_upto_region 13 with fail
        refine wp_region_held_drew (S:=(fun u=>u.cell? ⟨gq,2,none⟩=some (.slice (some ⟨b,off,none⟩) t.pts.length pc)/\u.cell? ⟨b,off+k,none⟩=some (.int .i64 x))) (by kernel_rfl) ?_ (fun hH=>?_)
        . (try dsimp only)
          go_keep
        have hdr:Below wr.heap.size wr wr.drew:=Below.drew1
        generalize wr.drew=ud at hdr hH ⊢
        replace hbW:Below W.heap.size W ud:=hbW.trans (hdr.mono hbW.size)
        clear hdr c2;refine hT 0 hH ?_;refine hT 1 hH ?_;refine hT 2 hH ?_;refine hT 3 hH ?_;refine hT 4 hH ?_;refine hT 5 hH ?_;refine hT 6 hH ?_;refine hT 7 hH ?_;refine hT 8 hH ?_;refine hT 9 hH ?_;refine hT 10 hH ?_;refine hT 11 hH ?_;refine hT 12 hH ?_
        refine hT 13 hH ?_;refine hT 14 hH ?_;refine hT 15 hH ?_;refine hT 16 hH ?_;refine hT 17 hH ?_;refine hT 18 hH ?_;refine hN 19 hH ?_;refine hN 20 hH ?_;refine hN 21 hH ?_;refine hN 22 hH ?_;refine hN 23 hH ?_;refine hN 24 hH ?_;refine hN 25 hH ?_
        refine hN 26 hH ?_;refine hN 27 hH ?_;refine hN 28 hH ?_;refine hN 29 hH ?_;refine hN 30 hH ?_;refine hT 31 hH ?_;refine hT 32 hH ?_
        refine wpAnyH_done (by kernel_rfl) ?_ _
        clear hH;go_wp2
        go_roundw
        case rel=>exact⟨k+1,by omega,by go_num,zdl.out,hbW⟩
        case measure=>simp[intOf];omega
      obtain⟨m,hm,q1⟩:=HP.out (by omega)
      have hmk:(k:Int)-1=(m:Int):=by omega
      have hwm:IntKind.i64.wrap (m:Int)=(m:Int):=zbr (by omega) (by omega)
      have i3:(0:Int)<=(m:Int):=by omega
      have i4:(m:Int)<(t.pts.length:Int):=by omega
      have g3:decide (0<k)=true:=decide_eq_true (by omega)
      have hk1:k-1=m:=by omega
      rw[hk1]at HNO HY
      obtain⟨y,hy⟩:∃y,t.pts.getD m 0=y:=⟨_,rfl⟩
      rw[hy]at q1 HNO HY;clear hy hk1 HP
      by_cases h4:x<=y
      . have g4:decide (x<=y)=true:=decide_eq_true h4
        have HE:Hid (tuB t n ax=false):=HNO.out (.inr (.inr ⟨by omega,h4⟩))
        clear h1 h2 h3 h4 HOK HY hm
        go_upto_region 13 with fail
        refine wp_region_held_drew (S:=(fun u=>u.cell? ⟨gq,2,none⟩=some (.slice (some ⟨b,off,none⟩) t.pts.length pc)/\u.cell? ⟨b,off+k,none⟩=some (.int .i64 x)/\u.cell? ⟨b,off+m,none⟩=some (.int .i64 y))) (by kernel_rfl) ?_ (fun hH=>?_)
        . (try dsimp only)
          go_keep
        have hdr:Below wr.heap.size wr wr.drew:=Below.drew1
        generalize wr.drew=ud at hdr hH ⊢
        replace hbW:Below W.heap.size W ud:=hbW.trans (hdr.mono hbW.size)
        clear hdr c2;refine hT 0 hH ?_;refine hT 1 hH ?_;refine hT 2 hH ?_;refine hT 3 hH ?_;refine hT 4 hH ?_;refine hT 5 hH ?_;refine hT 6 hH ?_;refine hT 7 hH ?_;refine hT 8 hH ?_;refine hT 9 hH ?_;refine hT 10 hH ?_;refine hT 11 hH ?_;refine hT 12 hH ?_
        refine hT 13 hH ?_;refine hT 14 hH ?_;refine hT 15 hH ?_;refine hT 16 hH ?_;refine hT 17 hH ?_;refine hT 18 hH ?_;refine hT 19 hH ?_;refine hT 20 hH ?_;refine hT 21 hH ?_;refine hT 22 hH ?_;refine hT 23 hH ?_;refine hT 24 hH ?_;refine hT 25 hH ?_
        refine hT 26 hH ?_;refine hT 27 hH ?_;refine hT 28 hH ?_;refine hT 29 hH ?_;refine hT 30 hH ?_;refine hT 31 hH ?_;refine hT 32 hH ?_
        refine wpAnyH_done (by kernel_rfl) ?_ _
        clear hH;go_wp2
        go_ret
        exact⟨zaa HE.out.symm,HBW.out.trans (hbW.mono HBW.out.size)⟩
      . have g4:decide (x<=y)=false:=decide_eq_false h4
        have zdl:Hid (∀j,j<k+1->risP t.pts n j):=HY.out ⟨by omega,by omega,fun _=>by omega⟩
        clear h1 h2 h3 h4 HOK HNO hm
        go_upto_region 13 with fail
        refine wp_region_held_drew (S:=(fun u=>u.cell? ⟨gq,2,none⟩=some (.slice (some ⟨b,off,none⟩) t.pts.length pc)/\u.cell? ⟨b,off+k,none⟩=some (.int .i64 x)/\u.cell? ⟨b,off+m,none⟩=some (.int .i64 y))) (by kernel_rfl) ?_ (fun hH=>?_)
        . (try dsimp only)
          go_keep
        have hdr:Below wr.heap.size wr wr.drew:=Below.drew1
        generalize wr.drew=ud at hdr hH ⊢
        replace hbW:Below W.heap.size W ud:=hbW.trans (hdr.mono hbW.size)
        clear hdr c2;refine hT 0 hH ?_;refine hT 1 hH ?_;refine hT 2 hH ?_;refine hT 3 hH ?_;refine hT 4 hH ?_;refine hT 5 hH ?_;refine hT 6 hH ?_;refine hT 7 hH ?_;refine hT 8 hH ?_;refine hT 9 hH ?_;refine hT 10 hH ?_;refine hT 11 hH ?_;refine hT 12 hH ?_
        refine hT 13 hH ?_;refine hT 14 hH ?_;refine hT 15 hH ?_;refine hT 16 hH ?_;refine hT 17 hH ?_;refine hT 18 hH ?_;refine hT 19 hH ?_;refine hT 20 hH ?_;refine hT 21 hH ?_;refine hT 22 hH ?_;refine hT 23 hH ?_;refine hT 24 hH ?_;refine hT 25 hH ?_
        refine hT 26 hH ?_;refine hT 27 hH ?_;refine hT 28 hH ?_;refine hT 29 hH ?_;refine hT 30 hH ?_;refine hT 31 hH ?_;refine hT 32 hH ?_
        refine wpAnyH_done (by kernel_rfl) ?_ _
        clear hH;go_wp2
        go_roundw
        case rel=>exact⟨k+1,by omega,by go_num,zdl.out,hbW⟩
        case measure=>simp[intOf];omega
