import Derived.Test.YtkmcodofnckdmaaGreatZK36
set_option maxHeartbeats 8000000
set_option maxRecDepth 100000
set_option linter.unusedSimpArgs false
set_option linter.unusedVariables false
namespace Go.Proofs.YtkmcodofnckdmaaGreat
open Tryz Go.RowKit Go.Maps
theorem zx0{t:Tu}{n:Nat}{ax:Int}(h:rgB t.rg ax=false):tuB t n ax=false:=by unfold tuB;rw[h];rfl
theorem zxz{t:Tu}{n:Nat}{ax:Int}(h:t.dx.length≠t.dy.length):tuB t n ax=false:=by
 cases ht:tuB t n ax with
 | false=>rfl
 | true =>
  obtain⟨_,h2,_⟩:=zcz.1 ht;cases ha:t.al with
  | true=>obtain⟨_,k2,k3⟩:=(zjr ha).1 h2;omega
  | false=>obtain⟨_,_,k2,k3⟩:=(ze2 ha).1 h2;omega
theorem zgx{l:LI}{p:Int->Bool}:l.all p=true ↔ ∀j,j<l.length->p (l.getD j 0)=true:=by
 rw[List.all_eq_true];constructor
 . intro h j hj
   rw[qH,qG hj];exact h _ (List.getElem_mem hj)
 . intro h x hx
   obtain⟨j,hj,e⟩:=List.getElem_of_mem hx;have:=h j hj;rw[qH,qG hj,Option.getD_some,e]at this;exact this
theorem zxy{t:Tu}{n:Nat}{ax:Int}{k:Nat}(hk:k<t.dx.length)(h:fdB (t.dx.getD k 0)=false):tuB t n ax=false:=by
 cases ht:tuB t n ax with
 | false=>rfl
 | true =>
  have:=zgx.1 (zcz.1 ht).2.2.1 k hk;rw[h]at this;cases this
theorem zxx{t:Tu}{n:Nat}{ax:Int}{k:Nat}(hk:k<t.dy.length)(h:fdB (t.dy.getD k 0)=false):tuB t n ax=false:=by
 cases ht:tuB t n ax with
 | false=>rfl
 | true =>
  have:=zgx.1 (zcz.1 ht).2.2.2 k hk;rw[h]at this;cases this
theorem z02{t:Tu}{n:Nat}{ax:Int}(hr:rgB t.rg ax=true)(hxy:t.dx.length=t.dy.length)(hf:∀j,j<t.dx.length->fdB (t.dx.getD j 0)=true/\fdB (t.dy.getD j 0)=true):tuB t n ax=nmB t n:=by
 have h1:t.dx.all fdB=true:=zgx.2 (fun j hj=>(hf j hj).1);have h2:t.dy.all fdB=true:=zgx.2 (fun j hj=>(hf j (by omega)).2);unfold tuB;rw[hr,h1,h2];simp
theorem z1q{t:Tu}{n:Nat}(ha:t.al=true)(hxy:t.dx.length=t.dy.length):nmB t n=(((t.pts.length:Int)==0)&&((t.dx.length:Int)==(n:Int))):=by
 rw[Bool.eq_iff_iff,zjr ha,<-List.length_eq_zero_iff];simp;omega
theorem z1p{t:Tu}{n:Nat}(ha:t.al=false)(hxy:t.dx.length=t.dy.length)(hr:risB t.pts n=true):nmB t n=(decide ((1:Int)<=(t.pts.length:Int))&&((t.dx.length:Int)==(t.pts.length:Int))):=by
 rw[Bool.eq_iff_iff,ze2 ha,hr];simp;omega
theorem z1o{t:Tu}{n:Nat}(ha:t.al=false)(hr:risB t.pts n=false):nmB t n=false:=by
 cases ht:nmB t n with
 | false=>rfl
 | true=>rw[((ze2 ha).1 ht).2.1]at hr;cases hr
theorem z1a{pts:LI}{n k:Nat}(hok:∀j,j<k->risP pts n j)(hk:k<pts.length)(h:pts.getD k 0<0\/(n:Int)<=pts.getD k 0\/(0<k/\pts.getD k 0<=pts.getD (k-1) 0)):risB pts n=false:=by
 refine zlx hk (fun hr=>?_);have h0:=(zeh k (fun j hj=>by rcases Nat.lt_or_ge j k with h1 | h1;exact hok j h1;rw[show j=k by omega];exact hr)).1;unfold risP lastI at hr;split at hr
 . rcases h with h|h|h <;> omega
 . rcases h with h|h|h <;> omega
theorem zym{pts:LI}{n k:Nat}(h:0<=pts.getD k 0/\pts.getD k 0<(n:Int)/\(0<k->pts.getD (k-1) 0<pts.getD k 0)):risP pts n k:=by
 unfold risP lastI;split
 . omega
 . exact⟨h.2.2 (by omega),h.2.1⟩
theorem zqw(S:Nat->Prop)(ra:OA)(rc:Nat)(pa:OA)(pc:Nat)(xa:OA)(xc:Nat)(ya:OA)(yc:Nat)(t:Tu)(n:Nat)(ax:Int)(w:World)(h:TuC S w ra rc pa pc xa xc ya yc t)(hn:n<=1000000) :
 Calls Tryz.prog 109 #[.agg #[.slice ra t.rg.length rc,.bool t.al,.slice pa t.pts.length pc,.slice xa t.dx.length xc,.slice ya t.dy.length yc],.int .i64 (n:Int),.int .i64 ax] w fun e w'=>e=.returned (.bool (tuB t n ax))/\Below w.heap.size w w':=by
 obtain⟨n1,n2,n3,n4⟩:=h.len;obtain⟨W0,hW,X1,hbW⟩:∃W,W=w.alloc (.cells #[.slice ra t.rg.length rc,.bool t.al,.slice pa t.pts.length pc,.slice xa t.dx.length xc,.slice ya t.dy.length yc] 144)/\Bk 144 W w.heap.size [.slice ra t.rg.length rc,.bool t.al,.slice pa t.pts.length pc,.slice xa t.dx.length xc,.slice ya t.dy.length yc]/\Below w.heap.size w W:=⟨_,rfl,Bk.new _ _ _,bl1 _⟩;replace h:=h.below hbW;have z0u:=zhf ra rc t.rg ax W0 h.tz;obtain⟨c0,c1,c2,c3,c4,-⟩:=X1.five;go_enter func109,ntmps109;go_upto_region 1 with fail
 rw[<-hW];clear hW;cases hr:rgB t.rg ax with
 | false =>
  rw[hr]at z0u;have HE:Hid (tuB t n ax=false):=zx0 hr;clear hr h;go_wp2_with fail
  refine z0u.mono ?_;rintro e u ⟨rfl,hb⟩;replace hbW:=hbW.trans (hb.mono hbW.size);clear z0u hb;go_wp2;go_ret;exact⟨zaa HE.out.symm,hbW⟩
 | true =>
 rw[hr]at z0u;have HR:Hid (rgB t.rg ax=true):=hr;clear hr;go_wp2_with fail
 refine z0u.mono ?_;rintro e W ⟨rfl,hb⟩;replace hbW:=hbW.trans (hb.mono hbW.size);replace h:=h.below hb;replace X1:=X1.below hb;clear z0u hb c0 c1 c2 c3 c4;have HX1:Hid (Bk 144 W w.heap.size [.slice ra t.rg.length rc,.bool t.al,.slice pa t.pts.length pc,.slice xa t.dx.length xc,.slice ya t.dy.length yc]):=X1;have HPT:Hid (Ri W pa pc t.pts):=h.pts;have HDX:Hid (Ri W xa xc t.dx):=h.dx;have HDY:Hid (Ri W ya yc t.dy):=h.dy;have HBW:Hid (Below w.heap.size w W):=hbW;obtain⟨c0,c1,c2,c3,c4,-⟩:=X1.five;clear X1 h;by_cases hxy:t.dx.length=t.dy.length;rotate_left
 . have g1:((t.dx.length:Int) != (t.dy.length:Int))=true:=by simp;omega
   have HE:Hid (tuB t n ax=false):=zxz hxy;clear hxy HR;go_wp2;go_ret;exact⟨zaa HE.out.symm,hbW⟩
 have g1:((t.dx.length:Int) != (t.dy.length:Int))=false:=by simp;omega
 have HXY:Hid (t.dx.length=t.dy.length):=hxy;clear hxy hbW;go_wp2;clear c0 c1 c2 c3 c4 g1
 go_loopw [7] (fun i wr=>∃k:Nat,k<=t.dx.length/\i=.int .i64 k/\(∀j,j<k->fdB (t.dx.getD j 0)=true/\fdB (t.dy.getD j 0)=true)/\Below W.heap.size W wr) (fun i _=>t.dx.length-(intOf i).toNat)
 case atStart=>exact⟨0,qD _,rfl,(fun j hj=>by omega),Below.refl _ _⟩
 case round =>
  obtain⟨k,hk,rfl,hok,hbW⟩:=hrel;have HOK:Hid (∀j,j<k->fdB (t.dx.getD j 0)=true/\fdB (t.dy.getD j 0)=true):=hok;clear hok;have X1:=HX1.out.below hbW;obtain⟨c0,c1,c2,c3,c4,-⟩:=X1.five;clear X1;by_cases hkn:k<t.dx.length
  . obtain⟨b1,o1,ea,_,d1⟩:=HDX.out.at hbW k hkn
    obtain⟨b2,o2,eb,_,d2⟩:=HDY.out.at hbW k (by rw[<-HXY.out];exact hkn);have HN3:Hid (fdB (t.dx.getD k 0)=false->tuB t n ax=false):=fun h=>zxy hkn h;have HN4:Hid (fdB (t.dy.getD k 0)=false->tuB t n ax=false):=fun h=>zxx (by rw[<-HXY.out];exact hkn) h;have HY:Hid (fdB (t.dx.getD k 0)=true->fdB (t.dy.getD k 0)=true->∀j,j<k+1->fdB (t.dx.getD j 0)=true/\fdB (t.dy.getD j 0)=true):=fun h1 h2 j hj=>by
     rcases Nat.lt_or_ge j k with h3|h3
     . exact HOK.out j h3
     . rw[show j=k by omega];exact⟨h1,h2⟩
    obtain⟨x,hx⟩:∃x,t.dx.getD k 0=x:=⟨_,rfl⟩;obtain⟨y,hy⟩:∃y,t.dy.getD k 0=y:=⟨_,rfl⟩;rw[hx]at d1 HN3 HY;rw[hy]at d2 HN4 HY;rw[ea]at c3;rw[eb]at c4;have i1:(0:Int)<=(k:Int):=(by omega);have i2:(k:Int)<(t.dx.length:Int):=(by omega);have i3:(k:Int)<(t.dy.length:Int):=(by have:=HXY.out;omega);clear hx hy ea eb HOK;go_wp2_with fail
    refine(za6 x wr).mono ?_;rintro e u1 ⟨rfl,rfl⟩;cases hfx:fdB x with
    | false =>
     have HE:Hid (tuB t n ax=false):=HN3.out hfx;clear hfx HN3 HN4 HY;go_wp2;go_ret;exact⟨zaa HE.out.symm,HBW.out.trans (hbW.mono HBW.out.size)⟩
    | true =>
     go_wp2_with fail
     refine(za6 y wr).mono ?_;rintro e u1 ⟨rfl,rfl⟩;cases hfy:fdB y with
     | false =>
      have HE:Hid (tuB t n ax=false):=HN4.out hfy;clear hfx hfy HN3 HN4 HY;go_wp2;go_ret;exact⟨zaa HE.out.symm,HBW.out.trans (hbW.mono HBW.out.size)⟩
     | true =>
      have zb5:Hid (_):=HY.out hfx hfy;clear hfx hfy HN3 HN4 HY;go_wp2;go_roundw
      case rel=>exact⟨k+1,by omega,by go_num,zb5.out,hbW⟩
      case measure=>simp[intOf];omega
  . have ek:k=t.dx.length:=by omega
    rw[ek]at HOK ⊢;have g1:¬(t.dx.length:Int)<(t.dx.length:Int):=(by omega);have HOF:Hid (tuB t n ax=nmB t n):=z02 HR.out HXY.out HOK.out;clear ek hk hkn HOK HR;cases hal:t.al with
    | true =>
     have HE:Hid (tuB t n ax=(((t.pts.length:Int)==0)&&((t.dx.length:Int)==(n:Int)))):=HOF.out.trans (z1q hal HXY.out);rw[hal]at c1;clear hal;by_cases hp0:t.pts.length=0
     . have gp:((t.pts.length:Int)==0)=true:=by rw[hp0];rfl
       rw[gp,Bool.true_and]at HE;clear hp0;go_wp2;go_ret;exact⟨zaa HE.out.symm,HBW.out.trans (hbW.mono HBW.out.size)⟩
     . have gp:((t.pts.length:Int)==0)=false:=beq_eq_false_iff_ne.2 (by omega)
       rw[gp,Bool.false_and]at HE;clear hp0;go_wp2;go_ret;exact⟨zaa HE.out.symm,HBW.out.trans (hbW.mono HBW.out.size)⟩
    | false =>
     have HAL:Hid (t.al=false):=hal;rw[hal]at c1;clear hal;go_wp2;clear c0 c1 c2 c3 c4 g1
     go_loopw [8] (fun i wr=>∃k:Nat,k<=t.pts.length/\i=.int .i64 k/\(∀j,j<k->risP t.pts n j)/\Below W.heap.size W wr) (fun i _=>t.pts.length-(intOf i).toNat)
     case atStart=>exact⟨0,qD _,rfl,(fun j hj=>by omega),hbW⟩
     case round =>
      clear hbW;obtain⟨k,hk,rfl,hok,hbW⟩:=hrel;have HOK:Hid (∀j,j<k->risP t.pts n j):=hok;clear hok;have X1:=HX1.out.below hbW;obtain⟨c0,c1,c2,c3,c4,-⟩:=X1.five;clear X1;by_cases hkn:k<t.pts.length;rotate_left
      . obtain rfl:k=t.pts.length:=by omega
        have g1:¬(t.pts.length:Int)<(t.pts.length:Int):=(by omega);have hrs:risB t.pts n=true:=zd1.2 HOK.out;have HE:Hid (tuB t n ax=(decide ((1:Int)<=(t.pts.length:Int))&&((t.dx.length:Int)==(t.pts.length:Int)))):=HOF.out.trans (z1p HAL.out HXY.out hrs);clear HOK hrs hkn hk;by_cases hl1:1<=t.pts.length
        . have gl:decide ((1:Int)<=(t.pts.length:Int))=true:=qC (by omega)
          rw[gl,Bool.true_and]at HE;go_wp2;go_ret;exact⟨zaa HE.out.symm,HBW.out.trans (hbW.mono HBW.out.size)⟩
        . have gl:decide ((1:Int)<=(t.pts.length:Int))=false:=qB (by omega)
          have gl2:¬(1:Int)<=(t.pts.length:Int):=(by omega);rw[gl,Bool.false_and]at HE;go_wp2;go_ret;exact⟨zaa HE.out.symm,HBW.out.trans (hbW.mono HBW.out.size)⟩
      obtain⟨b,off,ea,hb,d0⟩:=HPT.out.at hbW k hkn;have hzi:=HPT.out.i64 hkn;have HNO:Hid ((t.pts.getD k 0<0\/(n:Int)<=t.pts.getD k 0\/(0<k/\t.pts.getD k 0<=t.pts.getD (k-1) 0))->tuB t n ax=false):=fun h=>HOF.out.trans (z1o HAL.out (z1a HOK.out hkn h));have HY:Hid ((0<=t.pts.getD k 0/\t.pts.getD k 0<(n:Int)/\(0<k->t.pts.getD (k-1) 0<t.pts.getD k 0))->∀j,j<k+1->risP t.pts n j):=fun h j hj=>by
       rcases Nat.lt_or_ge j k with h1|h1
       . exact HOK.out j h1
       . rw[show j=k by omega];exact zym h
      have HP:Hid (0<k->∃m,k=m+1/\wr.cell? ⟨b,off+m,none⟩=some (.int .i64 (t.pts.getD m 0))):=fun h0=>by
       obtain⟨b',off',ea',_,d1⟩:=HPT.out.at hbW (k-1) (by omega);rw[ea]at ea';cases ea';exact⟨k-1,by omega,d1⟩
      obtain⟨x,hx⟩:∃x,t.pts.getD k 0=x:=⟨_,rfl⟩;rw[hx]at d0 HNO HY hzi;rw[ea]at c2;clear hx ea c0 c1 c3 c4;obtain⟨gq,hgq⟩:∃g,w.heap.size=g:=⟨_,rfl⟩;rw[hgq]at c2 ⊢;clear hgq;have i1:(0:Int)<=(k:Int):=(by omega);have i2:(k:Int)<(t.pts.length:Int):=(by omega);by_cases h1:x<0
      . have g1:decide (x<0)=true:=qC h1
        have HE:Hid (tuB t n ax=false):=HNO.out (.inl h1);clear h1 HOK HY HP;go_upto_region 13 with fail
        refine wp_region_held_drew (S:=(fun u=>u.cell? ⟨gq,2,none⟩=some (.slice (some ⟨b,off,none⟩) t.pts.length pc)/\u.cell? ⟨b,off+k,none⟩=some (.int .i64 x))) (by kernel_rfl) ?_ (fun hH=>?_)
        . (try dsimp only)
          go_keep
        have hdr:Below wr.heap.size wr wr.drew:=Below.drew1;generalize wr.drew=ud at hdr hH ⊢;replace hbW:Below W.heap.size W ud:=hbW.trans (hdr.mono hbW.size);clear hdr c2;refine hT 0 hH ?_;refine hT 1 hH ?_;refine hT 2 hH ?_;refine hT 3 hH ?_;refine hT 4 hH ?_;refine hT 5 hH ?_;refine hT 6 hH ?_;refine hN 7 hH ?_;refine hN 8 hH ?_;refine hN 9 hH ?_;refine hN 10 hH ?_;refine hN 11 hH ?_;refine hN 12 hH ?_;refine hN 13 hH ?_;refine hT 14 hH ?_;refine hT 15 hH ?_;refine hN 16 hH ?_;refine hN 17 hH ?_;refine hN 18 hH ?_;refine hN 19 hH ?_;refine hN 20 hH ?_;refine hN 21 hH ?_;refine hN 22 hH ?_;refine hN 23 hH ?_;refine hN 24 hH ?_;refine hN 25 hH ?_;refine hN 26 hH ?_;refine hN 27 hH ?_;refine hN 28 hH ?_;refine hN 29 hH ?_;refine hN 30 hH ?_;refine hN 31 hH ?_;refine hT 32 hH ?_;refine wpAnyH_done (by kernel_rfl) ?_ _;clear hH;go_wp2;go_ret;exact⟨zaa HE.out.symm,HBW.out.trans (hbW.mono HBW.out.size)⟩
      have g1:decide (x<0)=false:=qB h1;by_cases h2:(n:Int)<=x
      . have g2:decide ((n:Int)<=x)=true:=qC h2
        have HE:Hid (tuB t n ax=false):=HNO.out (.inr (.inl h2));clear h1 h2 HOK HY HP;go_upto_region 13 with fail
        refine wp_region_held_drew (S:=(fun u=>u.cell? ⟨gq,2,none⟩=some (.slice (some ⟨b,off,none⟩) t.pts.length pc)/\u.cell? ⟨b,off+k,none⟩=some (.int .i64 x))) (by kernel_rfl) ?_ (fun hH=>?_)
        . (try dsimp only)
          go_keep
        have hdr:Below wr.heap.size wr wr.drew:=Below.drew1;generalize wr.drew=ud at hdr hH ⊢;replace hbW:Below W.heap.size W ud:=hbW.trans (hdr.mono hbW.size);clear hdr c2;refine hT 0 hH ?_;refine hT 1 hH ?_;refine hT 2 hH ?_;refine hT 3 hH ?_;refine hT 4 hH ?_;refine hT 5 hH ?_;refine hT 6 hH ?_;refine hT 7 hH ?_;refine hT 8 hH ?_;refine hT 9 hH ?_;refine hT 10 hH ?_;refine hT 11 hH ?_;refine hT 12 hH ?_;refine hT 13 hH ?_;refine hT 14 hH ?_;refine hT 15 hH ?_;refine hN 16 hH ?_;refine hN 17 hH ?_;refine hN 18 hH ?_;refine hN 19 hH ?_;refine hN 20 hH ?_;refine hN 21 hH ?_;refine hN 22 hH ?_;refine hN 23 hH ?_;refine hN 24 hH ?_;refine hN 25 hH ?_;refine hN 26 hH ?_;refine hN 27 hH ?_;refine hN 28 hH ?_;refine hN 29 hH ?_;refine hN 30 hH ?_;refine hN 31 hH ?_;refine hT 32 hH ?_;refine wpAnyH_done (by kernel_rfl) ?_ _;clear hH;go_wp2;go_ret;exact⟨zaa HE.out.symm,HBW.out.trans (hbW.mono HBW.out.size)⟩
      have g2:decide ((n:Int)<=x)=false:=qB h2;by_cases h3:k=0
      . have g3:decide (0<k)=false:=qB (by omega)
        have zb5:Hid (∀j,j<k+1->risP t.pts n j):=HY.out ⟨by omega,by omega,fun h=>by omega⟩;clear h1 h2 h3 HOK HNO HP;go_upto_region 13 with fail
        refine wp_region_held_drew (S:=(fun u=>u.cell? ⟨gq,2,none⟩=some (.slice (some ⟨b,off,none⟩) t.pts.length pc)/\u.cell? ⟨b,off+k,none⟩=some (.int .i64 x))) (by kernel_rfl) ?_ (fun hH=>?_)
        . (try dsimp only)
          go_keep
        have hdr:Below wr.heap.size wr wr.drew:=Below.drew1;generalize wr.drew=ud at hdr hH ⊢;replace hbW:Below W.heap.size W ud:=hbW.trans (hdr.mono hbW.size);clear hdr c2;refine hT 0 hH ?_;refine hT 1 hH ?_;refine hT 2 hH ?_;refine hT 3 hH ?_;refine hT 4 hH ?_;refine hT 5 hH ?_;refine hT 6 hH ?_;refine hT 7 hH ?_;refine hT 8 hH ?_;refine hT 9 hH ?_;refine hT 10 hH ?_;refine hT 11 hH ?_;refine hT 12 hH ?_;refine hT 13 hH ?_;refine hT 14 hH ?_;refine hT 15 hH ?_;refine hT 16 hH ?_;refine hT 17 hH ?_;refine hT 18 hH ?_;refine hN 19 hH ?_;refine hN 20 hH ?_;refine hN 21 hH ?_;refine hN 22 hH ?_;refine hN 23 hH ?_;refine hN 24 hH ?_;refine hN 25 hH ?_;refine hN 26 hH ?_;refine hN 27 hH ?_;refine hN 28 hH ?_;refine hN 29 hH ?_;refine hN 30 hH ?_;refine hT 31 hH ?_;refine hT 32 hH ?_;refine wpAnyH_done (by kernel_rfl) ?_ _;clear hH;go_wp2;go_roundw
        case rel=>exact⟨k+1,by omega,by go_num,zb5.out,hbW⟩
        case measure=>simp[intOf];omega
      obtain⟨m,hm,q1⟩:=HP.out (by omega);have hmk:(k:Int)-1=(m:Int):=(by omega);have hwm:IntKind.i64.wrap (m:Int)=(m:Int):=zbn (by omega) (by omega);have i3:(0:Int)<=(m:Int):=(by omega);have i4:(m:Int)<(t.pts.length:Int):=(by omega);have g3:decide (0<k)=true:=qC (by omega);have hk1:k-1=m:=(by omega);rw[hk1]at HNO HY;obtain⟨y,hy⟩:∃y,t.pts.getD m 0=y:=⟨_,rfl⟩;rw[hy]at q1 HNO HY;clear hy hk1 HP;by_cases h4:x<=y
      . have g4:decide (x<=y)=true:=qC h4
        have HE:Hid (tuB t n ax=false):=HNO.out (.inr (.inr ⟨by omega,h4⟩));clear h1 h2 h3 h4 HOK HY hm;go_upto_region 13 with fail
        refine wp_region_held_drew (S:=(fun u=>u.cell? ⟨gq,2,none⟩=some (.slice (some ⟨b,off,none⟩) t.pts.length pc)/\u.cell? ⟨b,off+k,none⟩=some (.int .i64 x)/\u.cell? ⟨b,off+m,none⟩=some (.int .i64 y))) (by kernel_rfl) ?_ (fun hH=>?_)
        . (try dsimp only)
          go_keep
        have hdr:Below wr.heap.size wr wr.drew:=Below.drew1;generalize wr.drew=ud at hdr hH ⊢;replace hbW:Below W.heap.size W ud:=hbW.trans (hdr.mono hbW.size);clear hdr c2;refine hT 0 hH ?_;refine hT 1 hH ?_;refine hT 2 hH ?_;refine hT 3 hH ?_;refine hT 4 hH ?_;refine hT 5 hH ?_;refine hT 6 hH ?_;refine hT 7 hH ?_;refine hT 8 hH ?_;refine hT 9 hH ?_;refine hT 10 hH ?_;refine hT 11 hH ?_;refine hT 12 hH ?_;refine hT 13 hH ?_;refine hT 14 hH ?_;refine hT 15 hH ?_;refine hT 16 hH ?_;refine hT 17 hH ?_;refine hT 18 hH ?_;refine hT 19 hH ?_;refine hT 20 hH ?_;refine hT 21 hH ?_;refine hT 22 hH ?_;refine hT 23 hH ?_;refine hT 24 hH ?_;refine hT 25 hH ?_;refine hT 26 hH ?_;refine hT 27 hH ?_;refine hT 28 hH ?_;refine hT 29 hH ?_;refine hT 30 hH ?_;refine hT 31 hH ?_;refine hT 32 hH ?_;refine wpAnyH_done (by kernel_rfl) ?_ _;clear hH;go_wp2;go_ret;exact⟨zaa HE.out.symm,HBW.out.trans (hbW.mono HBW.out.size)⟩
      . have g4:decide (x<=y)=false:=qB h4
        have zb5:Hid (∀j,j<k+1->risP t.pts n j):=HY.out ⟨by omega,by omega,fun _=>by omega⟩;clear h1 h2 h3 h4 HOK HNO hm;go_upto_region 13 with fail
        refine wp_region_held_drew (S:=(fun u=>u.cell? ⟨gq,2,none⟩=some (.slice (some ⟨b,off,none⟩) t.pts.length pc)/\u.cell? ⟨b,off+k,none⟩=some (.int .i64 x)/\u.cell? ⟨b,off+m,none⟩=some (.int .i64 y))) (by kernel_rfl) ?_ (fun hH=>?_)
        . (try dsimp only)
          go_keep
        have hdr:Below wr.heap.size wr wr.drew:=Below.drew1;generalize wr.drew=ud at hdr hH ⊢;replace hbW:Below W.heap.size W ud:=hbW.trans (hdr.mono hbW.size);clear hdr c2;refine hT 0 hH ?_;refine hT 1 hH ?_;refine hT 2 hH ?_;refine hT 3 hH ?_;refine hT 4 hH ?_;refine hT 5 hH ?_;refine hT 6 hH ?_;refine hT 7 hH ?_;refine hT 8 hH ?_;refine hT 9 hH ?_;refine hT 10 hH ?_;refine hT 11 hH ?_;refine hT 12 hH ?_;refine hT 13 hH ?_;refine hT 14 hH ?_;refine hT 15 hH ?_;refine hT 16 hH ?_;refine hT 17 hH ?_;refine hT 18 hH ?_;refine hT 19 hH ?_;refine hT 20 hH ?_;refine hT 21 hH ?_;refine hT 22 hH ?_;refine hT 23 hH ?_;refine hT 24 hH ?_;refine hT 25 hH ?_;refine hT 26 hH ?_;refine hT 27 hH ?_;refine hT 28 hH ?_;refine hT 29 hH ?_;refine hT 30 hH ?_;refine hT 31 hH ?_;refine hT 32 hH ?_;refine wpAnyH_done (by kernel_rfl) ?_ _;clear hH;go_wp2;go_roundw
        case rel=>exact⟨k+1,by omega,by go_num,zb5.out,hbW⟩
        case measure=>simp[intOf];omega
theorem zz5{o:Ol}{l:List Tu}{ax:Int}(h:foB o=false):foT o l ax=false:=by unfold foT;rw[h];rfl
theorem zsz{o:Ol}{l:List Tu}{ax:Int}(h:¬(0<=ax/\ax<=4)):foT o l ax=false:=by unfold foT;rw[qB h];simp
theorem zz4{o:Ol}{l:List Tu}{ax:Int}(h:¬l.length<=40):foT o l ax=false:=by unfold foT;rw[qB h];simp
theorem zz3{o:Ol}{l:List Tu}{ax:Int}{k:Nat}(hk:k<l.length)(h:tuB (l.getD k Tu.none) (cntO o) ax=false):foT o l ax=false:=by
 cases hf:foT o l ax with
 | false=>rfl
 | true =>
  have:=(zbb.1 hf).2.2.2 k hk;rw[h]at this;cases this
theorem zip(S:Nat->Prop)(a:OA)(ca:Nat)(b:OA)(cb:Nat)(o:Ol)(S2:Nat->Prop)(la:OA)(lc:Nat)(l:List Tu)(ax:Int)(w:World)(hc:Gr PnE.row S w a ca o.cs)(hp:Gr PaE S w b cb o.ps)(hl:Gr TuE S2 w la lc l)(hfl:o.cs.flatten.length<=100000)(hpl:o.ps.length<=100000)(hi:I64 ax) :
 Calls Tryz.prog 61 #[.agg #[.slice a o.cs.length ca,.slice b o.ps.length cb],.slice la l.length lc,.int .i64 ax] w fun e w'=>e=.returned (.bool (foT o l ax))/\Below w.heap.size w w':=by
 have kl:=hl.lenB;have kc:=hc.lenB;obtain⟨W,hW,X1,hbW⟩:∃W,W=w.alloc (.cells #[.slice a o.cs.length ca,.slice b o.ps.length cb] 57)/\Bk 57 W w.heap.size [.slice a o.cs.length ca,.slice b o.ps.length cb]/\Below w.heap.size w W:=⟨_,rfl,Bk.new _ _ _,bl1 _⟩;replace hc:=hc.below hbW;replace hp:=hp.below hbW;replace hl:=hl.below hbW;obtain⟨p0,p1,_⟩:=X1.two;have hfo:=ziq S a ca b cb o W hc hp hfl;go_enter func61,ntmps61;go_upto_region 1 with fail
 rw[<-hW];clear hW;cases hf:foB o with
 | false =>
  rw[hf]at hfo;have HE:Hid (foT o l ax=false):=zz5 hf;clear hf;go_wp2_with fail
  refine hfo.mono ?_;rintro e m1 ⟨rfl,hb1⟩;replace hbW:=hbW.trans (hb1.mono hbW.size);clear hb1 hfo;go_wp2;go_ret;exact⟨zaa HE.out.symm,hbW⟩
 | true =>
 rw[hf]at hfo;have HF:Hid (foB o=true):=hf;clear hf;go_wp2_with fail
 refine hfo.mono ?_;rintro e m1 ⟨rfl,hb1⟩;replace hbW:=hbW.trans (hb1.mono hbW.size);replace hc:=hc.below hb1;replace hp:=hp.below hb1;replace hl:=hl.below hb1;replace X1:=X1.below hb1;clear hb1 hfo p0 p1;by_cases h0:ax<0
 . have HE:Hid (foT o l ax=false):=zsz (by omega)
   go_wp2;go_ret;exact⟨zaa HE.out.symm,hbW⟩
 by_cases h4:4<ax
 . have HE:Hid (foT o l ax=false):=zsz (by omega)
   go_wp2;go_ret;exact⟨zaa HE.out.symm,hbW⟩
 by_cases h40:(40:Int)<(l.length:Int)
 . have HE:Hid (foT o l ax=false):=zz4 (by omega)
   go_wp2;go_ret;exact⟨zaa HE.out.symm,hbW⟩
 have HX1:Hid (Bk 57 m1 w.heap.size [.slice a o.cs.length ca,.slice b o.ps.length cb]):=X1;have HC:Hid (Gr PnE.row S m1 a ca o.cs):=hc;have HP:Hid (Gr PaE S m1 b cb o.ps):=hp;have HL:Hid (Gr TuE S2 m1 la lc l):=hl;have HBW:Hid (Below w.heap.size w m1):=hbW;clear hc hp hl X1;go_wp2
 go_loopw [7] (fun i wr=>∃k:Nat,k<=l.length/\i=.int .i64 k/\(∀j,j<k->tuB (l.getD j Tu.none) (cntO o) ax=true)/\Below m1.heap.size m1 wr) (fun i _=>l.length-(intOf i).toNat)
 case atStart=>exact⟨0,qD _,rfl,(fun j hj=>by omega),Below.refl _ _⟩
 case round =>
  obtain⟨k,hk,rfl,hok,hB⟩:=hrel;have HOK:Hid (∀j,j<k->tuB (l.getD j Tu.none) (cntO o) ax=true):=hok;clear hok hbW;by_cases hkn:k<l.length
  . obtain⟨b1,o1,ra,rc,pa,pc,xa,xc,ya,yc,ea,hl1,ht1,c0,c1,c2,c3,c4⟩:=HL.out.tu (Below.refl _ _) k hkn
    have HN4:Hid (tuB (l.getD k Tu.none) (cntO o) ax=false->foT o l ax=false):=fun h=>zz3 hkn h;have HY:Hid (tuB (l.getD k Tu.none) (cntO o) ax=true->∀j,j<k+1->tuB (l.getD j Tu.none) (cntO o) ax=true):=fun h j hj=>by
     rcases Nat.lt_or_ge j k with h1|h1
     . exact HOK.out j h1
     . rw[show j=k by omega];exact h
    obtain⟨t,htt⟩:∃t,l.getD k Tu.none=t:=⟨_,rfl⟩;rw[htt]at ht1 c0 c1 c2 c3 c4 HN4 HY;clear htt;have HSE:Hid (∀u,Below m1.heap.size m1 u->u.cell? ⟨b1,o1+k*5,none⟩=some (.slice ra t.rg.length rc)/\u.cell? ⟨b1,o1+k*5+1,none⟩=some (.bool t.al)/\u.cell? ⟨b1,o1+k*5+2,none⟩=some (.slice pa t.pts.length pc)/\u.cell? ⟨b1,o1+k*5+3,none⟩=some (.slice xa t.dx.length xc)/\u.cell? ⟨b1,o1+k*5+4,none⟩=some (.slice ya t.dy.length yc)/\u.cell? ⟨w.heap.size,0,none⟩=some (.slice a o.cs.length ca)/\u.cell? ⟨w.heap.size,1,none⟩=some (.slice b o.ps.length cb)):=fun u hU=>⟨(hU.cell (p:=⟨b1,o1+k*5,none⟩) hl1).trans c0,(hU.cell (p:=⟨b1,o1+k*5+1,none⟩) hl1).trans c1,(hU.cell (p:=⟨b1,o1+k*5+2,none⟩) hl1).trans c2,(hU.cell (p:=⟨b1,o1+k*5+3,none⟩) hl1).trans c3,(hU.cell (p:=⟨b1,o1+k*5+4,none⟩) hl1).trans c4,(HX1.out.below hU).two.1,(HX1.out.below hU).two.2.1⟩;have hcc:=fun U (hU:Below m1.heap.size m1 U)=>zfu S a ca b cb o U (HC.out.below hU) hfl hpl;have hcl:=zf3 HF.out;obtain⟨N,hN⟩:∃N,cntO o=N:=⟨_,rfl⟩;rw[hN]at hcc hcl HN4 HY;have HRL:Hid (cntO o=N):=hN;have hon:=fun U (hU:Below m1.heap.size m1 U)=>zqw S2 ra rc pa pc xa xc ya yc t N ax U (ht1.below hU) (by omega);obtain⟨bt,hbt⟩:∃x,tuB t N ax=x:=⟨_,rfl⟩;rw[hbt]at hon HN4 HY;clear hbt hN ht1 c0 c1 c2 c3 c4 HOK;obtain⟨gw,hgw⟩:∃g,w.heap.size=g:=⟨_,rfl⟩;rw[hgw]at HSE ⊢;clear hgw;have i1:(0:Int)<=(k:Int):=(by omega);have i2:(k:Int)<(l.length:Int):=(by omega);subst ea;go_upto_region 6 with fail
    refine wp_region_held_drew (S:=(fun u=>u.cell? ⟨b1,o1+k*5,none⟩=some (.slice ra t.rg.length rc)/\u.cell? ⟨b1,o1+k*5+1,none⟩=some (.bool t.al)/\u.cell? ⟨b1,o1+k*5+2,none⟩=some (.slice pa t.pts.length pc)/\u.cell? ⟨b1,o1+k*5+3,none⟩=some (.slice xa t.dx.length xc)/\u.cell? ⟨b1,o1+k*5+4,none⟩=some (.slice ya t.dy.length yc)/\u.cell? ⟨gw,0,none⟩=some (.slice a o.cs.length ca)/\u.cell? ⟨gw,1,none⟩=some (.slice b o.ps.length cb))) (by kernel_rfl) ?_ (fun hH=>?_)
    . (try dsimp only)
      exact HSE.out _ (hB.trans (Below.drew1.mono hB.size))
    have hdr:Below wr.heap.size wr wr.drew:=Below.drew1;generalize wr.drew=ud at hdr hH ⊢;replace hB:=hB.trans (hdr.mono hB.size);clear hdr;refine hT 0 hH ?_;refine hT 1 hH ?_;refine hT 2 hH ?_;refine hT 3 hH ?_;refine hT 4 hH ?_;refine hT 6 hH ?_;refine hCall (i:=5) rfl (by kernel_rfl) (by rfl) (fun K hK=>?_);go_simp;refine(hcc _ hB).mono ?_;rintro e u1 ⟨rfl,hb1⟩;replace hB:=hB.trans (hb1.mono hB.size);clear hcc hb1;go_wp2_with fail
    refine hK.out _ _ ?_ (fun hH=>?_)
    . (try dsimp only)
      exact HSE.out _ hB
    clear hK K;try simp only[Act.put,pZ]
    refine hCall (i:=7) rfl (by kernel_rfl) (by rfl) (fun K hK=>?_);go_simp;refine(hon _ hB).mono ?_;rintro e u2 ⟨rfl,hb1⟩;replace hB:=hB.trans (hb1.mono hB.size);clear hon hb1;go_wp2_with fail
    refine hK.out _ _ ?_ (fun hH=>?_)
    . (try dsimp only)
      exact HSE.out _ hB
    clear hK K;try simp only[Act.put,pZ]
    refine hT 8 hH ?_;refine wpAnyH_done (by kernel_rfl) ?_ _;clear hH HSE;cases bt with
    | false =>
     have HE:Hid (foT o l ax=false):=HN4.out rfl;have hbW:=HBW.out.trans (hB.mono HBW.out.size);clear HN4 HY;go_wp2;go_ret;exact⟨zaa HE.out.symm,hbW⟩
    | true =>
     have zb5:Hid (∀j,j<k+1->tuB (l.getD j Tu.none) (cntO o) ax=true):=by
      rw[HRL.out];exact HY.out rfl
     clear HN4 HY;go_wp2;go_roundw
     case rel=>exact⟨k+1,by omega,by go_num,zb5.out,hB⟩
     case measure=>simp[intOf];omega
  . have ek:k=l.length:=by omega
    rw[ek]at HOK ⊢;have g1:¬(l.length:Int)<(l.length:Int):=(by omega);have HE:Hid (foT o l ax=true):=zbb.2 ⟨HF.out,⟨by omega,by omega⟩,by omega,HOK.out⟩;have hbW:=HBW.out.trans (hB.mono HBW.out.size);clear ek hk hkn HOK;go_wp2;go_ret;exact⟨zaa HE.out.symm,hbW⟩
theorem nineB{n gd gn b1 h k off:Nat}{w U:World}{v0 v1 v2 v3 v4 v5 v6 v7 v8:Value}(hb:Below n w U)(hlt:gd<n/\gn<n/\b1<n/\h<n)(hC:w.cell? ⟨gd,k,none⟩=some v0/\w.cell? ⟨gn,k,none⟩=some v1/\w.cell? ⟨b1,off+k*6,none⟩=some v2/\w.cell? ⟨b1,off+k*6+1,none⟩=some v3/\w.cell? ⟨b1,off+k*6+2,none⟩=some v4/\w.cell? ⟨b1,off+k*6+3,none⟩=some v5/\w.cell? ⟨b1,off+k*6+4,none⟩=some v6/\w.cell? ⟨h,0,none⟩=some v7/\w.cell? ⟨h,1,none⟩=some v8):U.cell? ⟨gd,k,none⟩=some v0/\U.cell? ⟨gn,k,none⟩=some v1/\U.cell? ⟨b1,off+k*6,none⟩=some v2/\U.cell? ⟨b1,off+k*6+1,none⟩=some v3/\U.cell? ⟨b1,off+k*6+2,none⟩=some v4/\U.cell? ⟨b1,off+k*6+3,none⟩=some v5/\U.cell? ⟨b1,off+k*6+4,none⟩=some v6/\U.cell? ⟨h,0,none⟩=some v7/\U.cell? ⟨h,1,none⟩=some v8 :=
 ⟨(hb.cell (p:=⟨gd,k,none⟩) hlt.1).trans hC.1,(hb.cell (p:=⟨gn,k,none⟩) hlt.2.1).trans hC.2.1,(hb.cell (p:=⟨b1,off+k*6,none⟩) hlt.2.2.1).trans hC.2.2.1,(hb.cell (p:=⟨b1,off+k*6+1,none⟩) hlt.2.2.1).trans hC.2.2.2.1,(hb.cell (p:=⟨b1,off+k*6+2,none⟩) hlt.2.2.1).trans hC.2.2.2.2.1,(hb.cell (p:=⟨b1,off+k*6+3,none⟩) hlt.2.2.1).trans hC.2.2.2.2.2.1,(hb.cell (p:=⟨b1,off+k*6+4,none⟩) hlt.2.2.1).trans hC.2.2.2.2.2.2.1,(hb.cell (p:=⟨h,0,none⟩) hlt.2.2.2).trans hC.2.2.2.2.2.2.2.1,(hb.cell (p:=⟨h,1,none⟩) hlt.2.2.2).trans hC.2.2.2.2.2.2.2.2⟩
theorem zir(S:Nat->Prop)(a:OA)(ca:Nat)(l:List Gl)(ga:OA)(gc:Nat)(ma:OA)(mc:Nat)(s:Sr)(ax:Int)(w:World)(hl:Gr GlE S w a ca l)(hpt:∀x∈l,x.o.cs.flatten.length<=100000)(hpp:∀x∈l,x.o.ps.length<=100000)(hg:Tzz w ga gc s.rg)(hm:Rii w ma mc s.rw)(hi:I64 ax) :
 Calls Tryz.prog 28 #[.slice a l.length ca,.agg #[.slice ga s.rg.length gc,.slice ma s.rw.length mc],.int .i64 ax] w fun e w'=>e=.returned (.bool (foG l s ax))/\Below w.heap.size w w':=by
 have kl:=hl.lenB;have k2:=hm.lenB;obtain⟨W,hW,X1,hbW⟩:∃W,W=w.alloc (.cells #[.slice ga s.rg.length gc,.slice ma s.rw.length mc] 26)/\Bk 26 W w.heap.size [.slice ga s.rg.length gc,.slice ma s.rw.length mc]/\Below w.heap.size w W:=⟨_,rfl,Bk.new _ _ _,bl1 _⟩;obtain⟨x0,x1,_⟩:=X1.two;by_cases hn0:l.length<1
 . have HF:Hid (foG l s ax=false):=zjz (by omega)
   have g1:decide ((l.length:Int)<1)=true:=qC (by omega);have g2:(l.length:Int)<1:=(by omega);go_enter func28,ntmps28;go_upto_region 1 with fail
   rw[<-hW];clear hW;go_wp2;go_ret;exact⟨zaa HF.out.symm,hbW⟩
 have g1:decide ((l.length:Int)<1)=false:=qB (by omega);by_cases hn1:100<l.length
 . have HF:Hid (foG l s ax=false):=zjz (by omega)
   have g2:decide ((100:Int)<(l.length:Int))=true:=qC (by omega);go_enter func28,ntmps28;go_upto_region 1 with fail
   rw[<-hW];clear hW;go_wp2;go_ret;exact⟨zaa HF.out.symm,hbW⟩
 have g2:decide ((100:Int)<(l.length:Int))=false:=qB (by omega);have hsf:=zo4 ga gc ma mc s ax W (hg.below hbW) (hm.below hbW);cases hst:stB s ax with
 | false =>
  rw[hst]at hsf;have HF:Hid (foG l s ax=false):=zs1 hst;clear hst;go_enter func28,ntmps28;go_upto_region 1 with fail
  rw[<-hW];clear hW;go_wp2_with fail
  refine hsf.mono ?_;rintro e u ⟨rfl,hb⟩;replace hbW:=hbW.trans (hb.mono hbW.size);clear hsf hb;go_wp2;go_ret;exact⟨zaa HF.out.symm,hbW⟩
 | true =>
 rw[hst]at hsf;have HST:Hid (stB s ax=true):=hst;clear hst;go_enter func28,ntmps28;go_upto_region 1 with fail
 rw[<-hW];clear hW;go_wp2_with fail
 refine hsf.mono ?_;rintro e u1 ⟨rfl,hb⟩;replace hl:=(hl.below hbW).below hb;replace X1:=X1.below hb;replace hbW:=hbW.trans (hb.mono hbW.size);have hds:=zhi S a ca l u1 hl (by omega);clear hsf hb x0 x1 hg hm g1 g2;go_wp2_with fail
 refine hds.mono ?_;rintro e u2 ⟨gd,rfl,hgd,hD,hb⟩;replace hl:=hl.below hb;replace X1:=X1.below hb;have hgd2:w.heap.size<=gd:=qF hbW.size hgd;replace hbW:=hbW.trans (hb.mono hbW.size);have hss:=zoy S a ca l u2 hl (by omega) hpt;clear hds hb hgd;go_wp2_with fail
 refine hss.mono ?_;rintro e u3 ⟨gn,rfl,hgn,hNs,hb⟩;replace hl:=hl.below hb;replace X1:=X1.below hb;replace hD:=hD.below hb;replace hbW:=hbW.trans (hb.mono hbW.size);have HL:Hid (Gr GlE S u3 a ca l):=hl;have HX1:Hid (Bk 26 u3 w.heap.size [.slice ga s.rg.length gc,.slice ma s.rw.length mc]):=X1;have HD:Hid (Bk 3 u3 gd (iv (fz l.length (fun j=>dI (dq l 6 (j:Int))) l.length))):=hD;have HNs:Hid (Bk 3 u3 gn (iv (fz l.length (fun j=>((szG l (j:Int):Nat):Int)) l.length))):=hNs;have HBW:Hid (Below w.heap.size w u3):=hbW;have HPT:Hid (∀x∈l,x.o.cs.flatten.length<=100000):=hpt;have HPP:Hid (∀x∈l,x.o.ps.length<=100000):=hpp;clear hss hb hl X1 hD hNs hbW hpt hpp hgn;go_wp2
 go_loopw [9] (fun i wr=>∃k:Nat,k<=l.length/\i=.int .i64 k/\Hid (∀j,j<k->foGx l s ax j=true)/\Below u3.heap.size u3 wr) (fun i _=>l.length-(intOf i).toNat)
 case atStart=>exact⟨0,qD _,rfl,(fun j hj=>by omega),Below.refl _ _⟩
 case round =>
  obtain⟨k,hk,rfl,HOK,hB⟩:=hrel;have hBw:Below w.heap.size w wr:=HBW.out.trans (hB.mono HBW.out.size);by_cases hkn:k<l.length
  . obtain⟨b1,off,xa,xc,pa,pc,ta,tc,ea,hb1,hGC,c0,c1,c2,c3,c4,-⟩:=HL.out.gl hB k hkn
    subst ea;have zkg:Hid (foGx l s ax k=false->foG l s ax=false):=zmc hkn;have HX:Hid (foGx l s ax k=((dq l 6 (k:Int)).isSome&&(decide (szG l (k:Int)<=2000)&&(foT (l.getD k Gl.none).o (l.getD k Gl.none).ts ax&&fiS s (l.getD k Gl.none).ab (l.getD k Gl.none).ar)))):=rfl;have zc5:l.getD k Gl.none∈l:=(by rw[show l.getD k Gl.none=l[k] by simp[List.getD,hkn]];exact List.getElem_mem _);have hpt:=HPT.out _ zc5;have hpp:=HPP.out _ zc5;obtain⟨x,hx⟩:∃x,l.getD k Gl.none=x:=⟨_,rfl⟩;rw[hx]at hGC c0 c1 c2 c3 c4 HX hpt hpp;have i1:(0:Int)<=(k:Int):=(by omega);have i2:(k:Int)<(l.length:Int):=(by omega);have kcs:=hGC.cs.lenB;have kps:=hGC.ps.lenB;have kts:=hGC.ts.lenB;have y0:=(HD.out.below hB).ivc (i:=k) (by rw[zfz];omega);rw[zn9 (by omega)]at y0;have y1:=(HNs.out.below hB).ivc (i:=k) (by rw[zfz];omega);rw[zn9 (by omega)]at y1;obtain⟨s0,s1,-⟩:=(HX1.out.below hB).two;have zt5:b1<wr.heap.size:=qN hb1 hB.size;have z2i:gd<wr.heap.size:=(HD.out.below hB).lt;have z2g:gn<wr.heap.size:=(HNs.out.below hB).lt;have hw0:w.heap.size<wr.heap.size:=(HX1.out.below hB).lt;have hc1:=fun U (hU:Below wr.heap.size wr U)=>zip S xa xc pa pc x.o S ta tc x.ts ax U (hGC.below hU).cs (hGC.below hU).ps (hGC.below hU).ts hpt hpp hi;have hc2:=fun U (hU:Below wr.heap.size wr U)=>zo5 ga gc ma mc s x.ab x.ar U k2 hGC.2.2.2.1 hGC.2.2.2.2;obtain⟨sz,hsz⟩:∃z,szG l (k:Int)=z:=⟨_,rfl⟩;rw[hsz]at HX y1;obtain⟨dk,hdk⟩:∃z,dq l 6 (k:Int)=z:=⟨_,rfl⟩;rw[hdk]at HX y0;clear hx hsz hdk zc5 hGC hpt hpp;go_upto_region 7 with fail
    cases dk with
    | none =>
     replace y0:wr.cell? ⟨gd,k,none⟩=some (.int .i64 (-1)):=y0;have HF:Hid (foG l s ax=false):=zkg.out (by rw[HX.out];rfl);clear hc1 hc2;refine wp_region_held_drew (S:=fun w9=>w9.cell? ⟨gd,k,none⟩=some (.int .i64 (-1))/\w9.cell? ⟨gn,k,none⟩=some (.int .i64 ((sz:Nat):Int))/\w9.cell? ⟨b1,off+k*6,none⟩=some (.slice xa x.o.cs.length xc)/\w9.cell? ⟨b1,off+k*6+1,none⟩=some (.slice pa x.o.ps.length pc)/\w9.cell? ⟨b1,off+k*6+2,none⟩=some (.slice ta x.ts.length tc)/\w9.cell? ⟨b1,off+k*6+3,none⟩=some (.int .i64 x.ab)/\w9.cell? ⟨b1,off+k*6+4,none⟩=some (.int .i64 x.ar)/\w9.cell? ⟨w.heap.size,0,none⟩=some (.slice ga s.rg.length gc)/\w9.cell? ⟨w.heap.size,1,none⟩=some (.slice ma s.rw.length mc)) (by kernel_rfl) ?_ (fun hH=>?_)
     . (try dsimp only)
       go_keep
     have hdr:Below wr.heap.size wr wr.drew:=Below.drew1;generalize wr.drew=Z at hdr hH ⊢;have HC0:Hid (_):=And.intro y0 (And.intro y1 (And.intro c0 (And.intro c1 (And.intro c2 (And.intro c3 (And.intro c4 (And.intro s0 s1)))))));clear y0 y1 c0 c1 c2 c3 c4 s0 s1;refine hT 0 hH ?_;refine hT 1 hH ?_;refine hT 2 hH ?_;refine hT 3 hH ?_;refine hT 4 hH ?_;refine hT 5 hH ?_;refine hN 6 hH ?_;refine hN 7 hH ?_;refine hN 8 hH ?_;refine hN 9 hH ?_;refine hN 10 hH ?_;refine hT 11 hH ?_;refine hT 12 hH ?_;refine hN 13 hH ?_;refine hN 14 hH ?_;refine hN 15 hH ?_;refine hN 16 hH ?_;refine hN 17 hH ?_;refine hN 18 hH ?_;refine hN 19 hH ?_;refine hN 20 hH ?_;refine hN 21 hH ?_;refine hN 22 hH ?_;refine hN 23 hH ?_;refine hN 24 hH ?_;refine hN 25 hH ?_;refine hT 26 hH ?_;refine hT 27 hH ?_;refine hN 28 hH ?_;refine hN 29 hH ?_;refine hN 30 hH ?_;refine hN 31 hH ?_;refine hN 32 hH ?_;refine hN 33 hH ?_;refine hN 34 hH ?_;refine hN 35 hH ?_;refine hT 36 hH ?_;refine wpAnyH_done (by kernel_rfl) ?_ _;have hB9:=hB.trans (hdr.mono hB.size);have zw6:=HBW.out.trans (hB9.mono HBW.out.size);clear hH HC0 hB hdr HX zkg hBw;go_wp2;go_ret;exact⟨zaa HF.out.symm,zw6⟩
    | some dk =>
    replace y0:wr.cell? ⟨gd,k,none⟩=some (.int .i64 ((dk:Nat):Int)):=y0;replace HX:Hid (foGx l s ax k=(decide (sz<=2000)&&(foT x.o x.ts ax&&fiS s x.ab x.ar))):=HX;have g1:¬((dk:Nat):Int)<0:=(by omega);have g1b:decide (((dk:Nat):Int)<0)=false:=qB g1;by_cases hs2:sz<=2000;rotate_left
    . have g2:(2000:Int)<((sz:Nat):Int):=by omega
      have g2b:decide ((2000:Int)<((sz:Nat):Int))=true:=qC g2;have HF:Hid (foG l s ax=false):=zkg.out (by rw[HX.out,qB hs2];rfl);clear hc1 hc2 hs2;refine wp_region_held_drew (S:=fun w9=>w9.cell? ⟨gd,k,none⟩=some (.int .i64 ((dk:Nat):Int))/\w9.cell? ⟨gn,k,none⟩=some (.int .i64 ((sz:Nat):Int))/\w9.cell? ⟨b1,off+k*6,none⟩=some (.slice xa x.o.cs.length xc)/\w9.cell? ⟨b1,off+k*6+1,none⟩=some (.slice pa x.o.ps.length pc)/\w9.cell? ⟨b1,off+k*6+2,none⟩=some (.slice ta x.ts.length tc)/\w9.cell? ⟨b1,off+k*6+3,none⟩=some (.int .i64 x.ab)/\w9.cell? ⟨b1,off+k*6+4,none⟩=some (.int .i64 x.ar)/\w9.cell? ⟨w.heap.size,0,none⟩=some (.slice ga s.rg.length gc)/\w9.cell? ⟨w.heap.size,1,none⟩=some (.slice ma s.rw.length mc)) (by kernel_rfl) ?_ (fun hH=>?_)
      . (try dsimp only)
        go_keep
      have hdr:Below wr.heap.size wr wr.drew:=Below.drew1;generalize wr.drew=Z at hdr hH ⊢;have HC0:Hid (_):=And.intro y0 (And.intro y1 (And.intro c0 (And.intro c1 (And.intro c2 (And.intro c3 (And.intro c4 (And.intro s0 s1)))))));clear y0 y1 c0 c1 c2 c3 c4 s0 s1;refine hT 0 hH ?_;refine hT 1 hH ?_;refine hT 2 hH ?_;refine hT 3 hH ?_;refine hT 4 hH ?_;refine hT 5 hH ?_;refine hT 6 hH ?_;refine hT 7 hH ?_;refine hT 8 hH ?_;refine hT 9 hH ?_;refine hT 10 hH ?_;refine hT 11 hH ?_;refine hT 12 hH ?_;refine hN 13 hH ?_;refine hN 14 hH ?_;refine hN 15 hH ?_;refine hN 16 hH ?_;refine hN 17 hH ?_;refine hN 18 hH ?_;refine hN 19 hH ?_;refine hN 20 hH ?_;refine hN 21 hH ?_;refine hN 22 hH ?_;refine hN 23 hH ?_;refine hN 24 hH ?_;refine hN 25 hH ?_;refine hT 26 hH ?_;refine hT 27 hH ?_;refine hN 28 hH ?_;refine hN 29 hH ?_;refine hN 30 hH ?_;refine hN 31 hH ?_;refine hN 32 hH ?_;refine hN 33 hH ?_;refine hN 34 hH ?_;refine hN 35 hH ?_;refine hT 36 hH ?_;refine wpAnyH_done (by kernel_rfl) ?_ _;have hB9:=hB.trans (hdr.mono hB.size);have zw6:=HBW.out.trans (hB9.mono HBW.out.size);clear hH HC0 hB hdr HX zkg hBw;go_wp2;go_ret;exact⟨zaa HF.out.symm,zw6⟩
    have g2:¬(2000:Int)<((sz:Nat):Int):=(by omega);have g2b:decide ((2000:Int)<((sz:Nat):Int))=false:=qB g2;replace HX:Hid (foGx l s ax k=(foT x.o x.ts ax&&fiS s x.ab x.ar)):=(by show _=_;rw[HX.out,qC hs2,Bool.true_and]);clear hs2;cases hf1:foT x.o x.ts ax with
    | false =>
     simp only[hf1]at hc1;have HF:Hid (foG l s ax=false):=zkg.out (by rw[HX.out,hf1];rfl);clear hc2 hf1;refine wp_region_held_drew (S:=fun w9=>w9.cell? ⟨gd,k,none⟩=some (.int .i64 ((dk:Nat):Int))/\w9.cell? ⟨gn,k,none⟩=some (.int .i64 ((sz:Nat):Int))/\w9.cell? ⟨b1,off+k*6,none⟩=some (.slice xa x.o.cs.length xc)/\w9.cell? ⟨b1,off+k*6+1,none⟩=some (.slice pa x.o.ps.length pc)/\w9.cell? ⟨b1,off+k*6+2,none⟩=some (.slice ta x.ts.length tc)/\w9.cell? ⟨b1,off+k*6+3,none⟩=some (.int .i64 x.ab)/\w9.cell? ⟨b1,off+k*6+4,none⟩=some (.int .i64 x.ar)/\w9.cell? ⟨w.heap.size,0,none⟩=some (.slice ga s.rg.length gc)/\w9.cell? ⟨w.heap.size,1,none⟩=some (.slice ma s.rw.length mc)) (by kernel_rfl) ?_ (fun hH=>?_)
     . (try dsimp only)
       go_keep
     have hdr:Below wr.heap.size wr wr.drew:=Below.drew1;generalize wr.drew=Z at hdr hH ⊢;have HC0:Hid (_):=And.intro y0 (And.intro y1 (And.intro c0 (And.intro c1 (And.intro c2 (And.intro c3 (And.intro c4 (And.intro s0 s1)))))));clear y0 y1 c0 c1 c2 c3 c4 s0 s1;refine hT 0 hH ?_;refine hT 1 hH ?_;refine hT 2 hH ?_;refine hT 3 hH ?_;refine hT 4 hH ?_;refine hT 5 hH ?_;refine hT 6 hH ?_;refine hT 7 hH ?_;refine hT 8 hH ?_;refine hT 9 hH ?_;refine hT 10 hH ?_;refine hT 11 hH ?_;refine hT 12 hH ?_;refine hT 13 hH ?_;refine hT 14 hH ?_;refine hT 15 hH ?_;refine hT 16 hH ?_;refine hT 17 hH ?_;refine hT 18 hH ?_;refine hT 19 hH ?_;refine hT 20 hH ?_;refine hT 21 hH ?_;refine hT 22 hH ?_;refine hT 23 hH ?_;refine hCall (i:=24) rfl (by kernel_rfl) (by rfl) (fun K hK=>?_);go_simp;refine(hc1 _ hdr).mono ?_;rintro e u4 ⟨rfl,hu4⟩;replace hdr:=hdr.trans (hu4.mono hdr.size);clear hu4 hc1;go_wp2_with fail
     refine hK.out _ _ ?_ (fun hH=>?_)
     . (try dsimp only)
       exact nineB hdr ⟨z2i,z2g,zt5,hw0⟩ HC0.out
     clear hK K;try simp only[Act.put,pZ]
     refine hT 25 hH ?_;refine hT 26 hH ?_;refine hT 27 hH ?_;refine hN 28 hH ?_;refine hN 29 hH ?_;refine hN 30 hH ?_;refine hN 31 hH ?_;refine hN 32 hH ?_;refine hN 33 hH ?_;refine hN 34 hH ?_;refine hN 35 hH ?_;refine hT 36 hH ?_;refine wpAnyH_done (by kernel_rfl) ?_ _;have hB9:=hB.trans (hdr.mono hB.size);have zw6:=HBW.out.trans (hB9.mono HBW.out.size);clear hH HC0 hB hdr HX zkg hBw;go_wp2;go_ret;exact⟨zaa HF.out.symm,zw6⟩
    | true =>
    simp only[hf1]at hc1;replace HX:Hid (foGx l s ax k=fiS s x.ab x.ar):=(by show _=_;rw[HX.out,hf1,Bool.true_and]);clear hf1;cases hf2:fiS s x.ab x.ar with
    | false =>
     simp only[hf2]at hc2;have HF:Hid (foG l s ax=false):=zkg.out (by rw[HX.out,hf2]);clear hf2;refine wp_region_held_drew (S:=fun w9=>w9.cell? ⟨gd,k,none⟩=some (.int .i64 ((dk:Nat):Int))/\w9.cell? ⟨gn,k,none⟩=some (.int .i64 ((sz:Nat):Int))/\w9.cell? ⟨b1,off+k*6,none⟩=some (.slice xa x.o.cs.length xc)/\w9.cell? ⟨b1,off+k*6+1,none⟩=some (.slice pa x.o.ps.length pc)/\w9.cell? ⟨b1,off+k*6+2,none⟩=some (.slice ta x.ts.length tc)/\w9.cell? ⟨b1,off+k*6+3,none⟩=some (.int .i64 x.ab)/\w9.cell? ⟨b1,off+k*6+4,none⟩=some (.int .i64 x.ar)/\w9.cell? ⟨w.heap.size,0,none⟩=some (.slice ga s.rg.length gc)/\w9.cell? ⟨w.heap.size,1,none⟩=some (.slice ma s.rw.length mc)) (by kernel_rfl) ?_ (fun hH=>?_)
     . (try dsimp only)
       go_keep
     have hdr:Below wr.heap.size wr wr.drew:=Below.drew1;generalize wr.drew=Z at hdr hH ⊢;have HC0:Hid (_):=And.intro y0 (And.intro y1 (And.intro c0 (And.intro c1 (And.intro c2 (And.intro c3 (And.intro c4 (And.intro s0 s1)))))));clear y0 y1 c0 c1 c2 c3 c4 s0 s1;refine hT 0 hH ?_;refine hT 1 hH ?_;refine hT 2 hH ?_;refine hT 3 hH ?_;refine hT 4 hH ?_;refine hT 5 hH ?_;refine hT 6 hH ?_;refine hT 7 hH ?_;refine hT 8 hH ?_;refine hT 9 hH ?_;refine hT 10 hH ?_;refine hT 11 hH ?_;refine hT 12 hH ?_;refine hT 13 hH ?_;refine hT 14 hH ?_;refine hT 15 hH ?_;refine hT 16 hH ?_;refine hT 17 hH ?_;refine hT 18 hH ?_;refine hT 19 hH ?_;refine hT 20 hH ?_;refine hT 21 hH ?_;refine hT 22 hH ?_;refine hT 23 hH ?_;refine hCall (i:=24) rfl (by kernel_rfl) (by rfl) (fun K hK=>?_);go_simp;refine(hc1 _ hdr).mono ?_;rintro e u4 ⟨rfl,hu4⟩;replace hdr:=hdr.trans (hu4.mono hdr.size);clear hu4 hc1;go_wp2_with fail
     refine hK.out _ _ ?_ (fun hH=>?_)
     . (try dsimp only)
       exact nineB hdr ⟨z2i,z2g,zt5,hw0⟩ HC0.out
     clear hK K;try simp only[Act.put,pZ]
     refine hT 25 hH ?_;refine hT 26 hH ?_;refine hT 27 hH ?_;refine hT 28 hH ?_;refine hT 29 hH ?_;refine hT 30 hH ?_;refine hT 31 hH ?_;refine hT 32 hH ?_;refine hT 33 hH ?_;refine hCall (i:=34) rfl (by kernel_rfl) (by rfl) (fun K hK=>?_);go_simp;refine(hc2 _ hdr).mono ?_;rintro e u5 ⟨rfl,hu5⟩;replace hdr:=hdr.trans (hu5.mono hdr.size);clear hu5 hc2;go_wp2_with fail
     refine hK.out _ _ ?_ (fun hH=>?_)
     . (try dsimp only)
       exact nineB hdr ⟨z2i,z2g,zt5,hw0⟩ HC0.out
     clear hK K;try simp only[Act.put,pZ]
     refine hT 35 hH ?_;refine hT 36 hH ?_;refine wpAnyH_done (by kernel_rfl) ?_ _;have hB9:=hB.trans (hdr.mono hB.size);have zw6:=HBW.out.trans (hB9.mono HBW.out.size);clear hH HC0 hB hdr HX zkg hBw;go_wp2;go_ret;exact⟨zaa HF.out.symm,zw6⟩
    | true =>
    simp only[hf2]at hc2;have zb5:Hid (∀j,j<k+1->foGx l s ax j=true):=fun j hj=>by
     rcases Nat.lt_or_ge j k with h1|h1
     . exact HOK.out j h1
     . rw[show j=k by omega,HX.out,hf2]
    clear hf2 HOK;refine wp_region_held_drew (S:=fun w9=>w9.cell? ⟨gd,k,none⟩=some (.int .i64 ((dk:Nat):Int))/\w9.cell? ⟨gn,k,none⟩=some (.int .i64 ((sz:Nat):Int))/\w9.cell? ⟨b1,off+k*6,none⟩=some (.slice xa x.o.cs.length xc)/\w9.cell? ⟨b1,off+k*6+1,none⟩=some (.slice pa x.o.ps.length pc)/\w9.cell? ⟨b1,off+k*6+2,none⟩=some (.slice ta x.ts.length tc)/\w9.cell? ⟨b1,off+k*6+3,none⟩=some (.int .i64 x.ab)/\w9.cell? ⟨b1,off+k*6+4,none⟩=some (.int .i64 x.ar)/\w9.cell? ⟨w.heap.size,0,none⟩=some (.slice ga s.rg.length gc)/\w9.cell? ⟨w.heap.size,1,none⟩=some (.slice ma s.rw.length mc)) (by kernel_rfl) ?_ (fun hH=>?_)
    . (try dsimp only)
      go_keep
    have hdr:Below wr.heap.size wr wr.drew:=Below.drew1;generalize wr.drew=Z at hdr hH ⊢;have HC0:Hid (_):=And.intro y0 (And.intro y1 (And.intro c0 (And.intro c1 (And.intro c2 (And.intro c3 (And.intro c4 (And.intro s0 s1)))))));clear y0 y1 c0 c1 c2 c3 c4 s0 s1;refine hT 0 hH ?_;refine hT 1 hH ?_;refine hT 2 hH ?_;refine hT 3 hH ?_;refine hT 4 hH ?_;refine hT 5 hH ?_;refine hT 6 hH ?_;refine hT 7 hH ?_;refine hT 8 hH ?_;refine hT 9 hH ?_;refine hT 10 hH ?_;refine hT 11 hH ?_;refine hT 12 hH ?_;refine hT 13 hH ?_;refine hT 14 hH ?_;refine hT 15 hH ?_;refine hT 16 hH ?_;refine hT 17 hH ?_;refine hT 18 hH ?_;refine hT 19 hH ?_;refine hT 20 hH ?_;refine hT 21 hH ?_;refine hT 22 hH ?_;refine hT 23 hH ?_;refine hCall (i:=24) rfl (by kernel_rfl) (by rfl) (fun K hK=>?_);go_simp;refine(hc1 _ hdr).mono ?_;rintro e u4 ⟨rfl,hu4⟩;replace hdr:=hdr.trans (hu4.mono hdr.size);clear hu4 hc1;go_wp2_with fail
    refine hK.out _ _ ?_ (fun hH=>?_)
    . (try dsimp only)
      exact nineB hdr ⟨z2i,z2g,zt5,hw0⟩ HC0.out
    clear hK K;try simp only[Act.put,pZ]
    refine hT 25 hH ?_;refine hT 26 hH ?_;refine hT 27 hH ?_;refine hT 28 hH ?_;refine hT 29 hH ?_;refine hT 30 hH ?_;refine hT 31 hH ?_;refine hT 32 hH ?_;refine hT 33 hH ?_;refine hCall (i:=34) rfl (by kernel_rfl) (by rfl) (fun K hK=>?_);go_simp;refine(hc2 _ hdr).mono ?_;rintro e u5 ⟨rfl,hu5⟩;replace hdr:=hdr.trans (hu5.mono hdr.size);clear hu5 hc2;go_wp2_with fail
    refine hK.out _ _ ?_ (fun hH=>?_)
    . (try dsimp only)
      exact nineB hdr ⟨z2i,z2g,zt5,hw0⟩ HC0.out
    clear hK K;try simp only[Act.put,pZ]
    refine hT 35 hH ?_;refine hT 36 hH ?_;refine wpAnyH_done (by kernel_rfl) ?_ _;have hB9:=hB.trans (hdr.mono hB.size);have zw6:=HBW.out.trans (hB9.mono HBW.out.size);clear hH HC0 hB hdr HX zkg hBw;go_wp2;go_roundw
    case rel=>exact⟨k+1,by omega,by go_num,zb5,hB9⟩
    case measure=>simp[intOf];omega
  . have HF:Hid (foG l s ax=true):=zbt.2 ⟨⟨by omega,by omega⟩,HST.out,fun j hj=>HOK.out j (by omega)⟩
    have g4:¬(k:Int)<(l.length:Int):=(by omega);clear HOK;go_wp2;go_ret;exact⟨zaa HF.out.symm,hBw⟩
