import Derived.Test.YtkmcodofnckdmaaGreatZK29
set_option maxHeartbeats 8000000
set_option maxRecDepth 100000
set_option linter.unusedSimpArgs false
set_option linter.unusedVariables false
namespace Go.Proofs.YtkmcodofnckdmaaGreat
open Tryz Go.RowKit Go.Maps
def iv(D:LI):LV:=D.map (Value.int .i64)
theorem z1v(D:LI):(iv D).length=D.length:=qK ..
theorem z1w{D:LI}{i:Nat}(hi:i<D.length):(iv D)[i]?=some (.int .i64 (D.getD i 0)):=by
 unfold iv;rw[List.getElem?_map,qG hi];simp[List.getD,hi]
theorem z1u(D:LI)(i:Nat)(z:Int):(iv D).set i (.int .i64 z)=iv (D.set i z):=by unfold iv;rw[List.map_set]
theorem Bk.ivc{t:TypeId}{w:World}{g:Nat}{D:LI}(h:Bk t w g (iv D)){i:Nat}(hi:i<D.length):w.cell? ⟨g,i,none⟩=some (.int .i64 (D.getD i 0)):=by rw[h.cell i (by rw[z1v];exact hi),z1w hi]
theorem Bk.ivs{t:TypeId}{w:World}{g:Nat}{D:LI}(h:Bk t w g (iv D))(i:Nat)(z:Int):Bk t (w.setCell ⟨g,i,none⟩ (.int .i64 z)) g (iv (D.set i z)):=by
 have:=h.set i (.int .i64 z);rw[z1u]at this;exact this
theorem zl8(w:World)(n:Nat):Bk 3 (w.alloc (.cells (madeCells #[.int .i64 0] n) 3)) w.heap.size (iv (List.replicate n 0)):=by
 have hm:(madeCells #[Value.int .i64 0] n)=(iv (List.replicate n 0)).toArray:=by
  refine Array.ext (by simp[madeCells,iv]) (fun i h1 h2=>?_);simp[madeCells,iv,Nat.mod_one]
 rw[hm];exact Bk.new _ _ _
def fz(n:Nat)(f:Nat->Int)(i:Nat):LI:=(List.range n).map (fun j=>if j<i then f j else 0)
theorem zfz(n:Nat)(f:Nat->Int)(i:Nat):(fz n f i).length=n:=by unfold fz;rw[qK,List.length_range]
theorem zsy(n:Nat)(f:Nat->Int):fz n f 0=List.replicate n 0:=by
 unfold fz;refine List.ext_getElem (by simp) (fun i h1 h2=>?_);simp
theorem z25{n:Nat}{f:Nat->Int}{i j:Nat}(hj:j<n):(fz n f i).getD j 0=if j<i then f j else 0:=by
 unfold fz;rw[qH,qG (by simpa using hj)];simp
theorem zn8{n:Nat}{f:Nat->Int}{i:Nat}(z:Int)(hz:z=f i):(fz n f i).set i z=fz n f (i+1):=by
 unfold fz;refine List.ext_getElem (by simp) (fun j h1 h2=>?_);by_cases hj:j=i
 . subst hj
   simp[hz]
 . rw[List.getElem_set_ne (fun e=>hj e.symm)]
   simp only[List.getElem_map,List.getElem_range];by_cases h3:j<i
   . rw[if_pos h3,if_pos (by omega)]
   . rw[if_neg h3,if_neg (by omega)]
theorem zn9{n:Nat}{f:Nat->Int}{j:Nat}(hj:j<n):(fz n f n).getD j 0=f j:=by rw[z25 hj,if_pos hj]
theorem dI_bd{l:List Gl}{n:Nat}(hn:n<=6)(g:Int):-1<=dI (dq l n g)/\dI (dq l n g)<=6:=by
 cases h:dq l n g with
 | none=>exact⟨Int.le_refl _,by show(-1:Int)<=6;omega⟩
 | some d =>
  have:=dq_le h;show -1<=(d:Int)/\(d:Int)<=6;omega
theorem z3d{l:List Gl}{n e:Nat}{ps:List Pa}(hn:n<=6)(h:dqs (dq l n) ps=some e):e<=7:=by
 have:=zte (n:=6) (fun p _ e h=>qF (dq_le h) hn) h;exact this
theorem zj3:dI none=-1:=rfl
theorem dI_no{f:Int->Option Nat}{ps:List Pa}{k:Nat}(hk:k<ps.length)(h:dI (f (ps.getD k Pa.none).g)<0):dqs f (ps.take (k+1))=none:=by
 rw[zj1 hk,z3h.1 h];cases dqs f (ps.take k) with
 | none=>rfl
 | some e=>rfl
theorem z3g{f:Int->Option Nat}{ps:List Pa}{k e:Nat}(hk:k<ps.length)(he:dqs f (ps.take k)=some e)(h:¬dI (f (ps.getD k Pa.none).g)<0):dI (dqs f (ps.take (k+1)))=max (e:Int) (dI (f (ps.getD k Pa.none).g)+1):=by rw[z0j hk he,if_neg h]
theorem set_set{D:LI}{i:Nat}{x y:Int}:(D.set i x).set i y=D.set i y:=by rw[List.set_set]
theorem zhi(S:Nat->Prop)(a:OA)(ca:Nat)(l:List Gl)(w:World)(hl:Gr GlE S w a ca l)(hn:l.length<=1000) :
 Calls Tryz.prog 33 #[.slice a l.length ca] w fun e w'=>∃g,e=.returned (.slice (some ⟨g,0,none⟩) l.length l.length)/\w.heap.size<=g/\Bk 3 w' g (iv (fz l.length (fun j=>dI (dq l 6 (j:Int))) l.length))/\Below w.heap.size w w':=by
 have HL:Hid (Gr GlE S w a ca l):=hl;obtain⟨n,hnn⟩:∃n,l.length=n:=⟨_,rfl⟩;have HNN:Hid (l.length=n):=hnn;rw[hnn]at hn ⊢;clear hl hnn;obtain⟨i0,hi0,hz0,hz1,hz2⟩:=info_parts zcu;have hmk:∀U:World,(Instr.makeSlice 29 (.int .i64 (n:Int)) (.int .i64 (n:Int))).run Tryz.prog U=.ok (.slice (some ⟨U.heap.size,0,none⟩) n n) (U.alloc (.cells (madeCells #[.int .i64 0] n) 3)):=fun U=>by
  have:=run_make (P:=Tryz.prog) U 29 3 i0 (.int .i64 0) underlying29 hi0 hz0 .i64 .i64 (n:Int) (n:Int) (by omega) (by omega) (by rw[hz2];omega) (by omega);rw[hz1]at this;simp only[Int.toNat_natCast,Nat.mul_one]at this;exact this
 clear hi0 hz0 hz1 hz2;have hd0:=zl8 w n;rw[<-zsy n (fun j=>dI (dq l 0 (j:Int)))]at hd0;have hb0:Below w.heap.size w (w.alloc (.cells (madeCells #[.int .i64 0] n) 3)):=bl1 _;generalize hW:w.alloc (.cells (madeCells #[.int .i64 0] n) 3)=W at hd0 hb0;go_enter func33,ntmps33;go_upto_region 2 with fail
 try rw[hW]
 clear hW;have HMK:Hid (∀U:World,(Instr.makeSlice 29 (.int .i64 (n:Int)) (.int .i64 (n:Int))).run Tryz.prog U=.ok (.slice (some ⟨U.heap.size,0,none⟩) n n) (U.alloc (.cells (madeCells #[.int .i64 0] n) 3))):=hmk;clear hmk;obtain⟨g0,hg0⟩:∃g,w.heap.size=g:=⟨_,rfl⟩;have HG0:Hid (w.heap.size=g0):=hg0;rw[hg0]at hd0
 (try rw[hg0])
 clear hg0;go_wp2
 go_loopw [4] (fun s wr=>∃i:Nat,i<=n/\s=.int .i64 i/\Bk 3 wr g0 (iv (fz n (fun j=>dI (dq l 0 (j:Int))) i))/\Below w.heap.size w wr) (fun s _=>n-(intOf s).toNat)
 case atStart=>exact⟨0,qD _,rfl,hd0,hb0⟩
 case round =>
  clear hd0 hb0;obtain⟨i,hi,rfl,hD,hB⟩:=hrel;have hgs:w.heap.size<=g0:=by have:=HG0.out;omega
  by_cases hin:i<n
  . obtain⟨b1,off,xa,xc,pa,pc,ta,tc,ea,hb1,hGC,-,c1,-⟩:=HL.out.gl hB i (by rw[HNN.out];exact hin)
    subst ea;have HZ:Hid (_):=z0d (l:=l) (i:=i) (by rw[HNN.out];exact hin);obtain⟨x,hx⟩:∃x,l.getD i Gl.none=x:=⟨_,rfl⟩;rw[hx]at hGC c1 HZ;have kps:=hGC.ps.lenB;clear hx hGC;have i1:(0:Int)<=(i:Int):=(by omega);have i2:(i:Int)<(n:Int):=(by omega);have y0:=hD.ivc (i:=i) (by rw[zfz];exact hin);have f0:=hD.fz i;have hlt:=hD.lt;have zt5:b1<wr.heap.size:=qN hb1 hB.size;have hbne:b1≠g0:=(by omega);by_cases hp0:x.o.ps.length=0
    . have FD:Hid (Bk 3 ((wr.setCell ⟨g0,i,none⟩ (.int .i64 (-1))).setCell ⟨g0,i,none⟩ (.int .i64 0)) g0 (iv (fz n (fun j=>dI (dq l 0 (j:Int))) (i+1)))):=by
        have h:=(hD.ivs i (-1)).ivs i 0;rw[set_set,zn8 0 (by rw[HZ.out,if_pos hp0])]at h;exact h
      have FB:Hid (Below w.heap.size w ((wr.setCell ⟨g0,i,none⟩ (.int .i64 (-1))).setCell ⟨g0,i,none⟩ (.int .i64 0))):=(hB.setCell (p:=⟨g0,i,none⟩) hgs _).setCell (p:=⟨g0,i,none⟩) hgs _;rw[hp0]at c1;clear hD hB HZ;go_wp2;go_roundw
      case rel=>exact⟨i+1,by omega,by go_num,FD.out,FB.out⟩
      case measure=>simp[intOf];omega
    . have FD:Hid (Bk 3 (wr.setCell ⟨g0,i,none⟩ (.int .i64 (-1))) g0 (iv (fz n (fun j=>dI (dq l 0 (j:Int))) (i+1)))):=by
        have h:=hD.ivs i (-1);rw[zn8 (-1) (by rw[HZ.out,if_neg hp0])]at h;exact h
      have FB:Hid (Below w.heap.size w (wr.setCell ⟨g0,i,none⟩ (.int .i64 (-1)))):=hB.setCell (p:=⟨g0,i,none⟩) hgs _;have g3:((x.o.ps.length:Int)==0)=false:=(by simp;exact fun h=>hp0 (by rw[h];rfl));have g4:¬(x.o.ps.length:Int)=0:=(by omega);clear hD hB HZ;go_wp2;go_roundw
      case rel=>exact⟨i+1,by omega,by go_num,FD.out,FB.out⟩
      case measure=>simp[intOf];omega
  . have ei:i=n:=by omega
    have g1:¬(i:Int)<(n:Int):=(by omega);rw[ei]at hD;clear ei hi hin;go_wp2;clear g1
    go_loopw [3,5] (fun sd sr wr=>∃(R gd:Nat),R<=6/\sr=.int .i64 ((R+1:Nat):Int)/\sd=.slice (some ⟨gd,0,none⟩) n n/\w.heap.size<=gd/\Bk 3 wr gd (iv (fz n (fun j=>dI (dq l R (j:Int))) n))/\Below w.heap.size w wr) (fun _ sr _=>7-(intOf sr).toNat)
    case atStart=>exact⟨0,g0,by omega,rfl,rfl,hgs,hD,hB⟩
    case round =>
     clear hD hB hgs;obtain⟨R,gd,hR,rfl,rfl,hgd,hD,hB⟩:=hrel;by_cases hR6:R<6
     . have hmk:=HMK.out wr
       have hn0:=zl8 wr n;rw[<-zsy n (fun j=>dI (dq l (R+1) (j:Int)))]at hn0;have hbm:Below wr.heap.size wr (wr.alloc (.cells (madeCells #[.int .i64 0] n) 3)):=bl1 _;generalize wr.alloc (.cells (madeCells #[.int .i64 0] n) 3)=V at hmk hn0 hbm;have hgdl:=hD.lt;replace hD:=hD.below hbm;replace hB:=hB.trans (hbm.mono hB.size);obtain⟨gn,hgn⟩:∃g,wr.heap.size=g:=⟨_,rfl⟩;have hgw:w.heap.size<=gn:=(by omega);have hdn:gd<gn:=(by omega);rw[hgn]at hmk hn0;have g5:((R+1:Nat):Int)<=6:=(by omega);obtain⟨fR,hfR⟩:∃f,(fun j:Nat=>dI (dq l (R+1) (j:Int)))=f:=⟨_,rfl⟩;obtain⟨fP,hfP⟩:∃f,(fun j:Nat=>dI (dq l R (j:Int)))=f:=⟨_,rfl⟩;have HFR:Hid (∀j:Nat,fR j=dI (dq l (R+1) (j:Int))):=fun j=>by rw[<-hfR]
       have HFP:Hid (∀j:Nat,fP j=dI (dq l R (j:Int))):=fun j=>by rw[<-hfP]
       have HFE:Hid ((fun j:Nat=>dI (dq l (R+1) (j:Int)))=fR):=hfR;rw[hfR]at hn0;rw[hfP]at hD;clear hbm hgn hfR hfP hgdl;go_wp2;clear hmk g5
       go_loopw [7] (fun s wr=>∃i:Nat,i<=n/\s=.int .i64 i/\Bk 3 wr gn (iv (fz n fR i))/\Bk 3 wr gd (iv (fz n fP n))/\Below w.heap.size w wr) (fun s _=>n-(intOf s).toNat)
       case atStart=>exact⟨0,qD _,rfl,hn0,hD,hB⟩
       case round =>
        clear hn0 hD hB;obtain⟨i,hi,rfl,hN,hD,hB⟩:=hrel;by_cases hin:i<n
        . obtain⟨b1,off,xa,xc,pa,pc,ta,tc,ea,hb1,hGC,-,c1,-⟩:=HL.out.gl (Below.refl _ _) i (by rw[HNN.out];exact hin)
          subst ea;have HNX:Hid (dq l (R+1) (i:Int)=_):=z0g (l:=l) (n:=R) (i:=i) (by rw[HNN.out];exact hin);obtain⟨x,hx⟩:∃x,l.getD i Gl.none=x:=⟨_,rfl⟩;rw[hx]at hGC c1 HNX;have kps:=hGC.ps.lenB;have HPS:Hid (Gr PaE S w pa pc x.o.ps):=hGC.ps;replace c1:=(hB.cell (p:=⟨b1,off+i*6+1,none⟩) hb1).trans c1;clear hx hGC;have i1:(0:Int)<=(i:Int):=(by omega);have i2:(i:Int)<(n:Int):=(by omega);have y0:=hN.ivc (i:=i) (by rw[zfz];exact hin);have f0:=hN.fz i;have z18:=hN.lt;have hbne:b1≠gn:=(by omega);have hJ0:Bk 3 (wr.setCell ⟨gn,i,none⟩ (.int .i64 0)) gn (iv ((fz n fR i).set i (dI (dqs (dq l R) (x.o.ps.take 0))))):=hN.ivs i 0;have hJ1:Bk 3 (wr.setCell ⟨gn,i,none⟩ (.int .i64 0)) gd (iv (fz n fP n)):=hD.other i _ (by omega);have hJ2:Below w.heap.size w (wr.setCell ⟨gn,i,none⟩ (.int .i64 0)):=hB.setCell (p:=⟨gn,i,none⟩) hgw _;clear hN hD hB;go_wp2;clear y0 f0 c1 z18
          go_loopw [9] (fun s wr=>∃k:Nat,k<=x.o.ps.length/\s=.int .i64 k/\Bk 3 wr gn (iv ((fz n fR i).set i (dI (dqs (dq l R) (x.o.ps.take k)))))/\Bk 3 wr gd (iv (fz n fP n))/\Below w.heap.size w wr) (fun s _=>x.o.ps.length-(intOf s).toNat)
          case atStart=>exact⟨0,qD _,rfl,hJ0,hJ1,hJ2⟩
          case round =>
           clear hJ0 hJ1 hJ2;obtain⟨k,hk,rfl,hN,hD,hB⟩:=hrel;have z18:=hN.lt;have hil:i<((fz n fR i).set i (dI (dqs (dq l R) (x.o.ps.take k)))).length:=(by rw[List.length_set,zfz];exact hin);have y0:=hN.ivc hil;have f0:=hN.fz i;have HGT:Hid (((fz n fR i).set i (dI (dqs (dq l R) (x.o.ps.take k)))).getD i 0=dI (dqs (dq l R) (x.o.ps.take k))):=by
            show _=_;rw[qH,List.getElem?_set_self (by rw[zfz];exact hin)];rfl
           rw[HGT.out]at y0;clear hil HGT;by_cases hkn:k<x.o.ps.length
           . have g6:decide ((k:Int)<(x.o.ps.length:Int))=true:=qC (by omega)
             have g6b:decide (k<x.o.ps.length)=true:=qC (by omega);cases hdq:dqs (dq l R) (x.o.ps.take k) with
             | none =>
              rw[hdq,zj3]at hN y0;have FN:Hid (Bk 3 wr gn (iv (fz n fR (i+1)))):=by
               have h:=hN;rw[zn8 (-1) (by rw[HFR.out,HNX.out,zvx hdq];rfl)]at h;exact h
              have g7:decide ((0:Int)<=-1)=false:=(by decide);clear hdq hN;go_wp2;go_roundw
              case rel=>exact⟨i+1,by omega,by go_num,FN.out,hD,hB⟩
              case measure=>simp[intOf];omega
             | some e =>
              rw[hdq]at hN y0;have he7:=z3d (show R<=6 by omega) hdq;obtain⟨bp,op,ep,hbp,hpw,e0,e1,e2⟩:=HPS.out.pa hB k hkn;subst ep;have HNO:Hid (dI (dq l R (x.o.ps.getD k Pa.none).g)<0->dqs (dq l R) (x.o.ps.take (k+1))=none):=fun h=>dI_no hkn h;have HYE:Hid (¬dI (dq l R (x.o.ps.getD k Pa.none).g)<0->dI (dqs (dq l R) (x.o.ps.take (k+1)))=max (e:Int) (dI (dq l R (x.o.ps.getD k Pa.none).g)+1)):=fun h=>z3g hkn hdq h;have y1:wr.cell? ⟨gn,i,none⟩=some (.int .i64 (e:Int)):=y0;replace hN:Bk 3 wr gn (iv ((fz n fR i).set i (e:Int))):=hN;have g7:decide ((0:Int)<=(e:Int))=true:=qC (by omega);obtain⟨q,hq⟩:∃q,x.o.ps.getD k Pa.none=q:=⟨_,rfl⟩;rw[hq]at hpw e0 e1 e2 HNO HYE;obtain⟨gl,dx,dy⟩:=q;obtain⟨hgi,hxi,hyi⟩:=hpw;dsimp only at e0 e1 e2 hgi hxi hyi HNO HYE;have i3:(0:Int)<=(k:Int):=(by omega);have i4:(k:Int)<(x.o.ps.length:Int):=(by omega);have hbpn:bp≠gn:=(by omega);have hdb:=dI_bd (l:=l) (show R<=6 by omega) gl;clear hdq hq y0 e1 e2 hxi hyi;by_cases hg0':gl<0
              . have zqa:dI (dq l R gl)<0:=by rw[zxi (.inl hg0')];decide
                have g8:decide (gl<0)=true:=qC hg0';have g9:gl<0:=hg0';have FN:Hid (Bk 3 (wr.setCell ⟨gn,i,none⟩ (.int .i64 (-1))) gn (iv ((fz n fR i).set i (-1)))):=by
                 have:=hN.ivs i (-1);rw[set_set]at this;exact this
                have FD:Hid (Bk 3 (wr.setCell ⟨gn,i,none⟩ (.int .i64 (-1))) gd (iv (fz n fP n))):=hD.other i _ (by omega);have FB:Hid (Below w.heap.size w (wr.setCell ⟨gn,i,none⟩ (.int .i64 (-1)))):=hB.setCell (p:=⟨gn,i,none⟩) (by show w.heap.size<=gn;omega) _;have HQ9:Hid (dqs (dq l R) (x.o.ps.take (k+1))=none):=HNO.out zqa;clear hD hN hB HNO HYE zqa;go_wp2;go_roundw
                case rel=>exact⟨k+1,by omega,by go_num,by rw[HQ9.out,zj3];exact FN.out,FD.out,FB.out⟩
                case measure=>simp[intOf];omega
              by_cases hg1':(n:Int)<=gl
              . have zqa:dI (dq l R gl)<0:=by rw[zxi (.inr (by rw[HNN.out];exact hg1'))];decide
                have g8:decide (gl<0)=false:=qB hg0';have g9:decide ((n:Int)<=gl)=true:=qC hg1';have FN:Hid (Bk 3 (wr.setCell ⟨gn,i,none⟩ (.int .i64 (-1))) gn (iv ((fz n fR i).set i (-1)))):=by
                 have:=hN.ivs i (-1);rw[set_set]at this;exact this
                have FD:Hid (Bk 3 (wr.setCell ⟨gn,i,none⟩ (.int .i64 (-1))) gd (iv (fz n fP n))):=hD.other i _ (by omega);have FB:Hid (Below w.heap.size w (wr.setCell ⟨gn,i,none⟩ (.int .i64 (-1)))):=hB.setCell (p:=⟨gn,i,none⟩) (by show w.heap.size<=gn;omega) _;have HQ9:Hid (dqs (dq l R) (x.o.ps.take (k+1))=none):=HNO.out zqa;clear hD hN hB HNO HYE zqa;go_wp2;go_roundw
                case rel=>exact⟨k+1,by omega,by go_num,by rw[HQ9.out,zj3];exact FN.out,FD.out,FB.out⟩
                case measure=>simp[intOf];omega
              obtain⟨gk,rfl⟩:∃k:Nat,gl=(k:Int):=⟨gl.toNat,by omega⟩;have g8:decide ((gk:Int)<0)=false:=qB (by omega);have g9:decide ((n:Int)<=(gk:Int))=false:=qB (by omega);have g9b:decide (n<=gk)=false:=qB (by omega);have z0:=hD.ivc (i:=gk) (by rw[zfz];omega);rw[zn9 (by omega),HFP.out]at z0;have i5:(0:Int)<=(gk:Int):=(by omega);have i6:(gk:Int)<(n:Int):=(by omega);by_cases zqa:dI (dq l R (gk:Int))<0
              . have g10:decide (dI (dq l R (gk:Int))<0)=true:=qC zqa
                have FN:Hid (Bk 3 (wr.setCell ⟨gn,i,none⟩ (.int .i64 (-1))) gn (iv ((fz n fR i).set i (-1)))):=by
                 have:=hN.ivs i (-1);rw[set_set]at this;exact this
                have FD:Hid (Bk 3 (wr.setCell ⟨gn,i,none⟩ (.int .i64 (-1))) gd (iv (fz n fP n))):=hD.other i _ (by omega);have FB:Hid (Below w.heap.size w (wr.setCell ⟨gn,i,none⟩ (.int .i64 (-1)))):=hB.setCell (p:=⟨gn,i,none⟩) (by show w.heap.size<=gn;omega) _;have HQ9:Hid (dqs (dq l R) (x.o.ps.take (k+1))=none):=HNO.out zqa;clear hD hN hB HNO HYE zqa;go_wp2;go_roundw
                case rel=>exact⟨k+1,by omega,by go_num,by rw[HQ9.out,zj3];exact FN.out,FD.out,FB.out⟩
                case measure=>simp[intOf];omega
              have g10:decide (dI (dq l R (gk:Int))<0)=false:=qB zqa;have HQ9:Hid (_):=HYE.out zqa;generalize dI (dq l R (gk:Int))=dz at *;obtain⟨mz,hmz⟩:∃z,max (e:Int) (dz+1)=z:=⟨_,rfl⟩;rw[hmz]at HQ9;have HMZ:Hid (max (e:Int) (dz+1)=mz):=hmz;have hwz:IntKind.i64.wrap (dz+1)=dz+1:=zbn (by omega) (by omega);clear HNO HYE zqa hmz;go_upto_region 23 with fail
              refine wp_region_held_drew (S:=fun w9=>w9.cell? ⟨gd,gk,none⟩=some (.int .i64 dz)) (by kernel_rfl) ?_ (fun hH=>?_)
              . (try dsimp only)
                go_keep
              have hdr:Below wr.heap.size wr wr.drew:=Below.drew1;generalize wr.drew=Z at hdr hH ⊢;replace y1:=(hdr.cell (p:=⟨gn,i,none⟩) z18).trans y1;replace z0:=(hdr.cell (p:=⟨gd,gk,none⟩) hD.lt).trans z0;replace hN:=hN.below hdr;replace hD:=hD.below hdr;replace hB:=hB.trans (hdr.mono hB.size);clear hdr z18 f0;refine hT 0 hH ?_;refine hT 1 hH ?_;refine hT 2 hH ?_;refine hT 3 hH ?_;refine hT 4 hH ?_;refine hT 6 hH ?_;refine hT 7 hH ?_;refine hT 8 hH ?_;refine hT 9 hH ?_;refine hT 10 hH ?_;refine hCall (i:=5) rfl (by kernel_rfl) (by rfl) (fun K hK=>?_);go_simp;refine hK.out _ _ ?_ (fun hH=>?_)
              . (try dsimp only)
                exact z0
              clear hK K;try simp only[Act.put,pZ]
              refine hT 11 hH ?_;refine hT 12 hH ?_;refine hCall (i:=13) rfl (by kernel_rfl) (by rfl) (fun K hK=>?_);have f0:=hN.fz i;have z18:=hN.lt;go_simp;try rw[hwz]
              try rw[HMZ.out]
              have FN:Hid (Bk 3 (Z.setCell ⟨gn,i,none⟩ (.int .i64 mz)) gn (iv ((fz n fR i).set i mz))):=by
               have:=hN.ivs i mz;rw[set_set]at this;exact this
              have FD:Hid (Bk 3 (Z.setCell ⟨gn,i,none⟩ (.int .i64 mz)) gd (iv (fz n fP n))):=hD.other i _ (by omega);have FB:Hid (Below w.heap.size w (Z.setCell ⟨gn,i,none⟩ (.int .i64 mz))):=hB.setCell (p:=⟨gn,i,none⟩) (by show w.heap.size<=gn;omega) _;have hzz:(Z.setCell ⟨gn,i,none⟩ (.int .i64 mz)).cell? ⟨gd,gk,none⟩=some (.int .i64 dz):=(World.cell?_of_block (w:=Z) (a:=⟨gd,gk,none⟩) (Below.heap_setCell Z ⟨gn,i,none⟩ (.int .i64 mz) gd (by show gd≠gn;omega))).trans z0;refine hK.out _ _ ?_ (fun hH=>?_)
              . (try dsimp only)
                exact hzz
              clear hK K;try simp only[Act.put,pZ]
              refine wpAnyH_done (by kernel_rfl) ?_ _;clear hH hzz y1 z0 hN hD hB f0;go_wp2;go_roundw
              case rel=>exact⟨k+1,by omega,by go_num,by rw[HQ9.out];exact FN.out,FD.out,FB.out⟩
              case measure=>simp[intOf];omega
           . have g6:decide ((k:Int)<(x.o.ps.length:Int))=false:=qB (by omega)
             have ek:k=x.o.ps.length:=(by omega);have FN:Hid (Bk 3 wr gn (iv (fz n fR (i+1)))):=by
              have h:=hN;rw[ek,List.take_length]at h;rw[zn8 _ (by rw[HFR.out,HNX.out])]at h;exact h
             clear hN y0 ek;go_wp2;go_roundw
             case rel=>exact⟨i+1,by omega,by go_num,FN.out,hD,hB⟩
             case measure=>simp[intOf];omega
        . have ei:i=n:=by omega
          have g1:¬(i:Int)<(n:Int):=(by omega);have FN:Hid (Bk 3 wr gn (iv (fz n (fun j=>dI (dq l (R+1) (j:Int))) n))):=by
           show Bk _ _ _ _;rw[HFE.out];have h:=hN;rw[ei]at h;exact h
          clear hN hD ei;go_wp2;go_roundw
          case rel=>exact⟨R+1,gn,by omega,by go_num,rfl,hgw,FN.out,hB⟩
          case measure=>simp[intOf];omega
     . have eR:R=6:=by omega
       have g1:¬((R+1:Nat):Int)<=6:=(by omega);rw[eR]at hD;clear eR;go_wp2;go_ret;exact⟨gd,rfl,hgd,hD,hB⟩
def totO(cs:List (List Pn)):Nat:=cs.length+cs.flatten.length
def fewB(o:Ol):Bool:=decide (totO o.cs<=1000)&&decide (o.ps.length<=100)
theorem zqq{cs:List (List Pn)}{k:Nat}(hk:k<cs.length):totO (cs.take (k+1))=totO (cs.take k)+(1+(cs.getD k []).length):=by
 unfold totO;rw[zan hk,qL,qL];omega
theorem zx2(cs:List (List Pn))(k:Nat):totO (cs.take k)<=totO cs:=by
 unfold totO;have:=zav cs k;rw[qL];omega
theorem z0a{o:Ol}(h:fewB o=true):o.cs.length<=1000/\o.cs.flatten.length<=1000/\o.ps.length<=100:=by
 unfold fewB totO at h;rw[Bool.and_eq_true,qM,qM]at h;omega
theorem zqz(S:Nat->Prop)(a:OA)(ca:Nat)(b:OA)(cb:Nat)(o:Ol)(w:World)(hc:Gr PnE.row S w a ca o.cs)(hp:Gr PaE S w b cb o.ps) :
 Calls Tryz.prog 63 #[.agg #[.slice a o.cs.length ca,.slice b o.ps.length cb]] w fun e w'=>e=.returned (.bool (fewB o))/\Below w.heap.size w w':=by
 have k1:=hc.lenB;have k2:=hp.lenB;obtain⟨W,hW,X1,hbW⟩:∃W,W=w.alloc (.cells #[.slice a o.cs.length ca,.slice b o.ps.length cb] 57)/\Bk 57 W w.heap.size [.slice a o.cs.length ca,.slice b o.ps.length cb]/\Below w.heap.size w W:=⟨_,rfl,Bk.new _ _ _,bl1 _⟩;obtain⟨x0,x1,_⟩:=X1.two;have HC:Hid (Gr PnE.row S W a ca o.cs):=hc.below hbW;have HF:Hid (fewB o=(decide (totO o.cs<=1000)&&decide (o.ps.length<=100))):=rfl;clear hc hp X1;generalize fewB o=fb at *;go_enter func63,ntmps63;go_wp2;rw[<-hW];clear hW
 go_loopw [3,4] (fun nv i wr=>∃k n:Nat,k<=o.cs.length/\i=.int .i64 k/\nv=.int .i64 (n:Int)/\n=totO (o.cs.take k)/\n<=140737488361232/\W=wr) (fun _ i _=>o.cs.length-(intOf i).toNat)
 case atStart=>exact⟨0,0,qD _,rfl,rfl,rfl,by omega,rfl⟩
 case round =>
  obtain⟨k,n,hk,rfl,rfl,hn,hnb,rfl⟩:=hrel;have HN:Hid (n=totO (o.cs.take k)):=hn;clear hn;by_cases hgo:k<o.cs.length/\n<=1000
  . obtain⟨hkn,hn1⟩:=hgo
    obtain⟨b1,off,a1,c1,ea,hb,d0,hrow,hlb,_⟩:=HC.out.rw (Below.refl _ _) k hkn;subst ea;have hst:=zqq hkn;rw[<-HN.out]at hst;obtain⟨c,hcc⟩:∃c,o.cs.getD k []=c:=⟨_,rfl⟩;rw[hcc]at d0 hst hlb;have HN2:Hid (n+(1+c.length)=totO (o.cs.take (k+1))):=hst.symm;have g1:decide (k<o.cs.length)=true:=qC hkn;have g2:decide ((n:Int)<=1000)=true:=qC (by omega);have i1:(0:Int)<=(k:Int):=(by omega);have i2:(k:Int)<(o.cs.length:Int):=(by omega);clear hst hcc hrow HN;go_wp2;go_roundw
    case rel=>exact⟨k+1,n+(1+c.length),by omega,by go_num,by go_num,HN2.out,by omega,trivial⟩
    case measure=>simp[intOf];omega
  . have hle:=zx2 o.cs k
    have HFF:Hid (fb=(decide ((n:Int)<=1000)&&decide ((o.ps.length:Int)<=100))):=by
     show _=_;rw[HF.out];have h1:decide (totO o.cs<=1000)=decide ((n:Int)<=1000):=by
      rw[decide_eq_decide];by_cases hkk:k<o.cs.length
      . rw[<-HN.out]at hle
        omega
      . have:o.cs.take k=o.cs:=List.take_of_length_le (by omega)
        have h2:=HN.out;rw[this]at h2;omega
     have h2:decide (o.ps.length<=100)=decide ((o.ps.length:Int)<=100):=by
      rw[decide_eq_decide];omega
     rw[h1,h2]
    clear HN hle;by_cases hkn:k<o.cs.length
    . have g1:decide (k<o.cs.length)=true:=qC hkn
      have g2:decide ((n:Int)<=1000)=false:=qB (by omega);rw[g2,Bool.false_and]at HFF;go_wp2;go_ret;exact⟨zaa HFF.out.symm,hbW⟩
    . have g1:decide (k<o.cs.length)=false:=qB hkn
      by_cases hn1:n<=1000
      . have g2:decide ((n:Int)<=1000)=true:=qC (by omega)
        rw[g2,Bool.true_and]at HFF;go_wp2;go_ret;exact⟨zaa HFF.out.symm,hbW⟩
      . have g2:decide ((n:Int)<=1000)=false:=qB (by omega)
        rw[g2,Bool.false_and]at HFF;go_wp2;go_ret;exact⟨zaa HFF.out.symm,hbW⟩
theorem zby(S:Nat->Prop)(a:OA)(ca:Nat)(vb:Value)(cs:List (List Pn))(w:World)(h:Gr PnE.row S w a ca cs)(hl:cs.flatten.length<=100000)(hv:vb.cells=#[vb]) :
 Calls Tryz.prog 65 #[.agg #[.slice a cs.length ca,vb]] w fun e w'=>∃a' c',e=.returned (.slice a' cs.flatten.length c')/\Gr PnE (fun _=>True) w' a' c' cs.flatten/\(∀b o,a'=some ⟨b,o,none⟩->w.heap.size<=b/\b<w'.heap.size)/\Below w.heap.size w w':=by
 have k2:=h.lenB;obtain⟨W,hW,X1,hbW⟩:∃W,W=w.alloc (.cells #[.slice a cs.length ca,vb] 57)/\Bk 57 W w.heap.size [.slice a cs.length ca,vb]/\Below w.heap.size w W:=⟨_,rfl,Bk.new _ _ _,bl1 _⟩;have HH:Hid (Gr PnE.row S w a ca cs):=h;have HX:Hid (Bk 57 W w.heap.size [.slice a cs.length ca,vb]):=X1;have HB0:Hid (Below w.heap.size w W):=hbW;have HGL:Hid (w.heap.size<W.heap.size):=X1.lt;clear h X1 hbW;go_enter func65,ntmps65;go_wp2;rw[<-hW];clear hW
 go_loopw [3,4] (fun v i wr=>∃k:Nat,k<=cs.length/\i=.int .i64 k/\Gw PnE 65 W.heap.size (fun _=>True) wr v ((cs.take k).flatten)/\Below W.heap.size W wr) (fun _ i _=>cs.length-(intOf i).toNat)
 case atStart=>exact⟨0,qD _,rfl,Gw.nil _ _ _ _ _,Below.refl _ _⟩
 case round =>
  obtain⟨k,hk,rfl,hT,hB⟩:=hrel;obtain⟨a2,c2,rfl,hgr,hblk⟩:=hT.slice;have HT:Hid (Gw PnE 65 W.heap.size (fun _=>True) wr (.slice a2 ((cs.take k).flatten).length c2) ((cs.take k).flatten)):=hT;obtain⟨x0,x1,_⟩:=(HX.out.below hB).two;have hBw:Below w.heap.size w wr:=HB0.out.trans (hB.mono HB0.out.size);clear hT;by_cases hkn:k<cs.length
  . obtain⟨b,off,a1,c1,ea,hb,d0,hrow,hlb,_⟩:=HH.out.rw hBw k hkn
    subst ea;have hst:=zan hkn;have hle:=zav cs (k+1);obtain⟨c,hc⟩:∃c,cs.getD k []=c:=⟨_,rfl⟩;have HS:Hid (_):=zee hkn hc;rw[hc]at d0 hst hlb hrow;have hll:((cs.take k).flatten).length+c.length<=1000000:=(by omega);have i1:(0:Int)<=(k:Int):=(by omega);have i2:(k:Int)<(cs.length:Int):=(by omega);have hbs:W.heap.size<=wr.heap.size:=hB.size;clear hc hst hle hlb hgr hblk;generalize (cs.take k).flatten=L at *;go_wp2_with (at_builtin;refine zab 63 65 underlying63 zdo rfl (by decide) (by decide) rfl _ _ rfl W.heap.size (fun _=>True) _ L rfl HT.out a1 c1 _ c rfl rfl hrow.anyP hll hbs ?_)
    intro v9 w9 hT9 hgrow _;have hB9:Below W.heap.size W w9:=hB.grown hgrow hbs (fun k hk=>(HT.out.lo hk).1);rw[<-HS.out]at hT9;clear hgrow hbs hll HS;go_wp2;go_roundw
    case rel=>exact⟨k+1,by omega,by go_num,hT9,hB9⟩
    case measure=>simp[intOf];omega
  . obtain rfl:k=cs.length:=by omega
    rw[List.take_length]at HT hgr ⊢;have HB2:Hid (∀b o,a2=some ⟨b,o,none⟩->w.heap.size<=b/\b<wr.heap.size):=fun b o e=>⟨qF (Nat.le_of_lt HGL.out) (hblk b o e).1,(hblk b o e).2⟩;have g4:¬(cs.length:Int)<(cs.length:Int):=(by omega);clear hblk;go_wp2;go_ret;exact⟨a2,c2,rfl,hgr,HB2.out,hBw⟩
theorem zo6(S:Nat->Prop)(a:OA)(ca:Nat)(vb:Value)(cs:List (List Pn))(w:World)(h:Gr PnE.row S w a ca cs)(hl:cs.flatten.length<=100000)(hn:cs.length<=100000)(hv:vb.cells=#[vb]) :
 Calls Tryz.prog 138 #[.agg #[.slice a cs.length ca,vb]] w fun e w'=>∃a' c',e=.returned (.slice a' (endF 0 cs).length c')/\Ri w' a' c' (endF 0 cs)/\(∀b o,a'=some ⟨b,o,none⟩->w.heap.size<=b/\b<w'.heap.size)/\Below w.heap.size w w':=by
 obtain⟨W,hW,X1,hbW⟩:∃W,W=w.alloc (.cells #[.slice a cs.length ca,vb] 57)/\Bk 57 W w.heap.size [.slice a cs.length ca,vb]/\Below w.heap.size w W:=⟨_,rfl,Bk.new _ _ _,bl1 _⟩;have HH:Hid (Gr PnE.row S w a ca cs):=h;have HX:Hid (Bk 57 W w.heap.size [.slice a cs.length ca,vb]):=X1;have HB0:Hid (Below w.heap.size w W):=hbW;have HGL:Hid (w.heap.size<W.heap.size):=X1.lt;clear h X1 hbW;go_enter func138,ntmps138;go_wp2;rw[<-hW];clear hW
 go_loopw [3,4,5] (fun v la i wr=>∃k m:Nat,k<=cs.length/\i=.int .i64 k/\la=.int .i64 (m:Int)/\m=((cs.take k).flatten).length/\Io W.heap.size wr v (endF 0 (cs.take k))/\Below W.heap.size W wr) (fun _ _ i _=>cs.length-(intOf i).toNat)
 case atStart=>exact⟨0,0,qD _,rfl,rfl,rfl,Io.nil _ _,Below.refl _ _⟩
 case round =>
  obtain⟨k,m,hk,rfl,rfl,hm,hT,hB⟩:=hrel;obtain⟨a2,c2,rfl,hts⟩:=hT.slice;have hlen:(endF 0 (cs.take k)).length=k:=by rw[zck,qL];omega
  have HM:Hid (m=((cs.take k).flatten).length):=hm;have HT:Hid (Io W.heap.size wr (.slice a2 (endF 0 (cs.take k)).length c2) (endF 0 (cs.take k))):=hT;have hll:(endF 0 (cs.take k)).length+1<=1000000:=by omega
  obtain⟨x0,x1,_⟩:=(HX.out.below hB).two;have hBw:Below w.heap.size w wr:=HB0.out.trans (hB.mono HB0.out.size);clear hm hT hlen;by_cases hkn:k<cs.length
  . obtain⟨b,off,a1,c1,ea,hb,d0,hrow,hlb,_⟩:=HH.out.rw hBw k hkn
    subst ea;have hst:=zan hkn;have hle:=zav cs (k+1);rw[<-HM.out]at hst;obtain⟨c,hc⟩:∃c,cs.getD k []=c:=⟨_,rfl⟩;have HS:Hid (_):=zle hkn hc;rw[<-HM.out]at HS;rw[hc]at d0 hst hlb;have HM2:Hid (m+c.length=((cs.take (k+1)).flatten).length):=hst.symm;have hmc:m+c.length<=100000:=(by omega);have i1:(0:Int)<=(k:Int):=(by omega);have i2:(k:Int)<(cs.length:Int):=(by omega);obtain⟨y,hy⟩:∃y,(m:Int)+(c.length:Int)-1=y:=⟨_,rfl⟩;rw[hy]at HS;have hyi:I64 y:=⟨by omega,by omega⟩;have hyb:-9223372036854775808<=y/\y<=9223372036854775807:=hyi;have hT5:=HT.out.below (bl1 (.cells #[.int .i64 y] 3));have hN:=heap_alloc_new wr (.cells #[.int .i64 y] 3);have n0:=cell_of_row _ wr.heap.size 0 _ _ (0,0) hN;have hbs:W.heap.size<=(wr.alloc (.cells #[.int .i64 y] 3)).heap.size:=qF hB.size (bl1 _).size;clear hc hst hle hrow HM hlb hN hts;generalize endF 0 (cs.take k)=L at *;go_wp2_with (at_builtin;refine zad rfl _ _ rfl W.heap.size _ L rfl hT5 wr.heap.size y rfl n0 hyi hll hbs ?_)
    intro v' w9 hT9 hgrow;have hB9:Below W.heap.size W w9:=(hB.alloc hB.size _).grown hgrow hbs (fun k hk=>HT.out.lo hk);rw[<-HS.out]at hT9;clear hgrow hT5 n0 hbs hll HS;go_wp2;go_roundw
    case rel=>exact⟨k+1,m+c.length,by omega,by go_num,by go_num,HM2.out,hT9,hB9⟩
    case measure=>simp[intOf];omega
  . obtain rfl:k=cs.length:=by omega
    rw[List.take_length]at HT hts ⊢;have HB2:Hid (∀b o,a2=some ⟨b,o,none⟩->w.heap.size<=b/\b<wr.heap.size):=fun b o e=>by
     subst e;have:=World.ownsRow.lt HT.out.2 b rfl;exact⟨qF (Nat.le_of_lt HGL.out) this.1,this.2⟩
    have g4:¬(cs.length:Int)<(cs.length:Int):=(by omega);clear HM hll;go_wp2;go_ret;exact⟨a2,c2,rfl,hts,HB2.out,hBw⟩
def fh(n:Nat)(f h:Nat->Int)(i:Nat):LI:=(List.range n).map (fun j=>if j<i then f j else h j)
theorem zxe(n:Nat)(f h:Nat->Int)(i:Nat):(fh n f h i).length=n:=by unfold fh;rw[qK,List.length_range]
theorem z3c{n:Nat}{f h:Nat->Int}{i j:Nat}(hj:j<n):(fh n f h i).getD j 0=if j<i then f j else h j:=by
 unfold fh;rw[qH,qG (by simpa using hj)];simp
theorem z3a{n:Nat}{f h:Nat->Int}{i:Nat}(z:Int)(hz:z=f i):(fh n f h i).set i z=fh n f h (i+1):=by
 unfold fh;refine List.ext_getElem (by simp) (fun j h1 h2=>?_);by_cases hj:j=i
 . subst hj
   simp[hz]
 . rw[List.getElem_set_ne (fun e=>hj e.symm)]
   simp only[List.getElem_map,List.getElem_range];by_cases h3:j<i
   . rw[if_pos h3,if_pos (by omega)]
   . rw[if_neg h3,if_neg (by omega)]
theorem zz8{n:Nat}{f h:Nat->Int}{i:Nat}(hz:f i=h i):fh n f h i=fh n f h (i+1):=by
 unfold fh;refine List.ext_getElem (by simp) (fun j h1 h2=>?_);simp only[List.getElem_map,List.getElem_range];by_cases h3:j<i
 . rw[if_pos h3,if_pos (by omega)]
 . by_cases h4:j=i
   . subst h4
     rw[if_neg h3,if_pos (by omega),hz]
   . rw[if_neg h3,if_neg (by omega)]
theorem zz7(n:Nat)(f h f':Nat->Int):fh n f h 0=fh n h f' n:=by
 unfold fh;refine List.ext_getElem (by simp) (fun j h1 h2=>?_);have hj:j<n:=by simpa using h1
 simp[hj]
theorem z3b(n:Nat)(f h:Nat->Int)(hz:∀j,f j=0):fh n f h n=List.replicate n 0:=by
 unfold fh;refine List.ext_getElem (by simp) (fun j h1 h2=>?_);have hj:j<n:=by simpa using h1
 simp[hj,hz]
theorem fh_fz(n:Nat)(f h:Nat->Int):fh n f h n=fz n f n:=by
 unfold fh fz;refine List.ext_getElem (by simp) (fun j h1 h2=>?_);have hj:j<n:=by simpa using h1
 simp[hj]
theorem zm8{l:List Gl}{k i:Nat}(h:dI (dq l 6 (i:Int))≠(k:Int)):szD l (k+1) i=szD l k i:=by
 unfold szD;cases hd:dq l 6 (i:Int) with
 | none=>rfl
 | some d =>
  rw[hd]at h;have h2:(d:Int)≠(k:Int):=h;show(if d<k+1 then _ else 0)=if d<k then _ else 0
  by_cases h3:d<k
  . rw[if_pos h3,if_pos (by omega)]
  . rw[if_neg h3,if_neg (by omega)]
theorem zuf{l:List Gl}{k i:Nat}(h:dq l 6 (i:Int)=some k):szD l (k+1) i=cap (sq l 6 (i:Int)):=by
 unfold szD;rw[h];exact if_pos (by omega)
theorem zx7{l:List Gl}{i d:Nat}{x:Gl}(hx:gAt l (i:Int)=some x)(h:dq l 6 (i:Int)=some d){p:Pa}(hp:p∈x.o.ps):∃j:Nat,p.g=(j:Int)/\j<l.length/\(fh l.length (fun j=>((szD l (d+1) j:Nat):Int)) (fun j=>((szD l d j:Nat):Int)) i).getD j 0=((cap (sq l 6 p.g):Nat):Int):=by
 obtain⟨j,h1,h2,h3⟩:=zug hx h hp;refine⟨j,h1,h2,?_⟩;obtain⟨e,h4,h5⟩:=zh3 h hx p hp;have h6:=dq_le h;have h7:dq l 6 (j:Int)=some e:=by rw[<-h1];exact zeo h4 (by omega)
 have h8:szD l (d+1) j=szD l d j:=zm8 (by rw[h7];show(e:Int)≠(d:Int);omega);rw[z3c h2];split
 . rw[h8,h3]
 . rw[h3]
theorem zoy(S:Nat->Prop)(a:OA)(ca:Nat)(l:List Gl)(w:World)(hl:Gr GlE S w a ca l)(hn:l.length<=1000)(hpt:∀x∈l,x.o.cs.flatten.length<=100000) :
 Calls Tryz.prog 34 #[.slice a l.length ca] w fun e w'=>∃g,e=.returned (.slice (some ⟨g,0,none⟩) l.length l.length)/\w.heap.size<=g/\Bk 3 w' g (iv (fz l.length (fun j=>((szG l (j:Int):Nat):Int)) l.length))/\Below w.heap.size w w':=by
 have hds:=zhi S a ca l w hl hn;have HL:Hid (Gr GlE S w a ca l):=hl;have HPT:Hid (∀x∈l,x.o.cs.flatten.length<=100000):=hpt;obtain⟨n,hnn⟩:∃n,l.length=n:=⟨_,rfl⟩;have HNN:Hid (l.length=n):=hnn;rw[hnn]at hn hds ⊢;clear hl hnn hpt;obtain⟨i0,hi0,hz0,hz1,hz2⟩:=info_parts zcu;have hmk:∀U:World,(Instr.makeSlice 29 (.int .i64 (n:Int)) (.int .i64 (n:Int))).run Tryz.prog U=.ok (.slice (some ⟨U.heap.size,0,none⟩) n n) (U.alloc (.cells (madeCells #[.int .i64 0] n) 3)):=fun U=>by
  have:=run_make (P:=Tryz.prog) U 29 3 i0 (.int .i64 0) underlying29 hi0 hz0 .i64 .i64 (n:Int) (n:Int) (by omega) (by omega) (by rw[hz2];omega) (by omega);rw[hz1]at this;simp only[Int.toNat_natCast,Nat.mul_one]at this;exact this
 clear hi0 hz0 hz1 hz2;go_enter func34,ntmps34;go_wp2_with fail
 refine hds.mono ?_;rintro e u ⟨gd,rfl,hgd,hD,hb⟩;clear hds;replace hmk:=hmk u;have ho:=zl8 u n;rw[<-z3b n (fun j=>((szD l 0 j:Nat):Int)) (fun _=>0) (fun j=>by rw[zue];rfl)]at ho;have hbm:Below u.heap.size u (u.alloc (.cells (madeCells #[.int .i64 0] n) 3)):=bl1 _;generalize u.alloc (.cells (madeCells #[.int .i64 0] n) 3)=V at hmk ho hbm;have hgdl:=hD.lt;replace hD:=hD.below hbm;replace hb:=hb.trans (hbm.mono hb.size);obtain⟨go,hgo⟩:∃g,u.heap.size=g:=⟨_,rfl⟩;have hgw:w.heap.size<=go:=by omega
 have hdn:gd<go:=by omega
 rw[hgo]at hmk ho;have HD0:Hid (∀j,j<n->(fz n (fun j=>dI (dq l 6 (j:Int))) n).getD j 0=dI (dq l 6 (j:Int))):=fun j hj=>zn9 hj;have HDL:Hid ((fz n (fun j=>dI (dq l 6 (j:Int))) n).length=n):=zfz _ _ _;generalize fz n (fun j=>dI (dq l 6 (j:Int))) n=DD at *;clear hbm hgo hgdl;go_wp2;clear hmk
 go_loopw [5] (fun s wr=>∃dp:Nat,dp<=7/\s=.int .i64 dp/\Bk 3 wr go (iv (fh n (fun j=>((szD l dp j:Nat):Int)) (fun _=>0) n))/\Bk 3 wr gd (iv DD)/\Below w.heap.size w wr) (fun s _=>7-(intOf s).toNat)
 case atStart=>exact⟨0,by omega,rfl,ho,hD,hb⟩
 case round =>
  clear ho hD hb;obtain⟨dp,hdp,rfl,hO,hD,hB⟩:=hrel;by_cases hd6:dp<7
  . have g1:(dp:Int)<=6:=by omega
    rw[<-zz7 n (fun j=>((szD l (dp+1) j:Nat):Int))]at hO;go_wp2;clear g1
    go_loopw [6] (fun s wr=>∃i:Nat,i<=n/\s=.int .i64 i/\Bk 3 wr go (iv (fh n (fun j=>((szD l (dp+1) j:Nat):Int)) (fun j=>((szD l dp j:Nat):Int)) i))/\Bk 3 wr gd (iv DD)/\Below w.heap.size w wr) (fun s _=>n-(intOf s).toNat)
    case atStart=>exact⟨0,qD _,rfl,hO,hD,hB⟩
    case round =>
     clear hO hD hB;obtain⟨i,hi,rfl,hO,hD,hB⟩:=hrel;by_cases hin:i<n
     . have y0:=hD.ivc (i:=i) (by rw[HDL.out];exact hin)
       rw[HD0.out i hin]at y0;have i1:(0:Int)<=(i:Int):=(by omega);have i2:(i:Int)<(n:Int):=(by omega);by_cases hde:dI (dq l 6 (i:Int))=(dp:Int);rotate_left
       . have FO:Hid (Bk 3 wr go (iv (fh n (fun j=>((szD l (dp+1) j:Nat):Int)) (fun j=>((szD l dp j:Nat):Int)) (i+1)))):=by
           have h:=hO;rw[zz8 (by rw[zm8 hde])]at h;exact h
         have g2:(dI (dq l 6 (i:Int)) != (dp:Int))=true:=bne_iff_ne.2 hde;clear hO hde;generalize dI (dq l 6 (i:Int))=dz at *;go_wp2;go_roundw
         case rel=>exact⟨i+1,by omega,by go_num,FO.out,hD,hB⟩
         case measure=>simp[intOf];omega
       have hdq:dq l 6 (i:Int)=some dp:=z3i (b:=some dp) hde;have HDQ:Hid (dq l 6 (i:Int)=some dp):=hdq;rw[hde]at y0;obtain⟨b1,off,xa,xc,pa,pc,ta,tc,ea,hb1,hGC,c0,c1,-⟩:=HL.out.gl (Below.refl _ _) i (by rw[HNN.out];exact hin);subst ea;have HGA:Hid (gAt l (i:Int)=some (l.getD i Gl.none)):=zjx (by rw[HNN.out];exact hin);have hxf:=HPT.out _ (zbm (m:=l) (d:=Gl.none) (k:=i) (by rw[HNN.out];exact hin));obtain⟨x,hx⟩:∃x,l.getD i Gl.none=x:=⟨_,rfl⟩;rw[hx]at hGC c0 c1 HGA hxf;have kps:=hGC.ps.lenB;have kcs:=hGC.cs.lenB;have HGC:Hid (GlC S w xa xc pa pc ta tc x):=hGC;have HC1:Hid (w.cell? ⟨b1,off+i*6+1,none⟩=some (.slice pa x.o.ps.length pc)):=c1;replace c0:=(hB.cell (p:=⟨b1,off+i*6,none⟩) hb1).trans c0;replace c1:=(hB.cell (p:=⟨b1,off+i*6+1,none⟩) hb1).trans c1;have hpo:=zby S xa xc (.slice pa x.o.ps.length pc) x.o.cs wr (hGC.below hB).cs hxf rfl;clear hx hGC hdq hde;go_wp2_with fail
       refine hpo.mono ?_;rintro e u1 ⟨a8,c8,rfl,-,-,hb1u⟩;replace hO:=hO.below hb1u;replace hD:=hD.below hb1u;replace hB:=hB.trans (hb1u.mono hB.size);clear hpo hb1u y0 c0 c1;have HSZ0:Hid (cap x.o.cs.flatten.length=cap (szK l x 0)):=(by show _=_;rw[zm6];rfl);generalize x.o.cs.flatten.length=pn at *;go_wp2
       go_loopw [7,8] (fun sn s wr=>∃(k nv:Nat),k<=x.o.ps.length/\s=.int .i64 k/\sn=.int .i64 (nv:Int)/\nv<=100000/\Hid (cap nv=cap (szK l x k))/\Bk 3 wr go (iv (fh n (fun j=>((szD l (dp+1) j:Nat):Int)) (fun j=>((szD l dp j:Nat):Int)) i))/\Bk 3 wr gd (iv DD)/\Below w.heap.size w wr) (fun _ s _=>x.o.ps.length-(intOf s).toNat)
       case atStart=>exact⟨0,pn,qD _,rfl,rfl,hxf,HSZ0,hO,hD,hB⟩
       case round =>
        clear hO hD hB;obtain⟨k,nv,hk,rfl,rfl,hnv,HCP,hO,hD,hB⟩:=hrel;have c1:=(hB.cell (p:=⟨b1,off+i*6+1,none⟩) hb1).trans HC1.out;by_cases hkn:k<x.o.ps.length
        . obtain⟨bp,op,ep,hbp,hpw,e0,-,-⟩:=(HGC.out.below hB).ps.pa (Below.refl _ _) k hkn
          subst ep;obtain⟨j,hj1,hj2,hj3⟩:=zx7 HGA.out HDQ.out (zbm (d:=Pa.none) hkn);rw[HNN.out]at hj2 hj3;have HCS:Hid (_):=zwc (l:=l) hkn HCP.out;rw[hj1]at e0;have z0:=hO.ivc (i:=j) (by rw[zxe];exact hj2);rw[hj3]at z0;obtain⟨sp,hsp⟩:∃z,cap (sq l 6 (x.o.ps.getD k Pa.none).g)=z:=⟨_,rfl⟩;have hspb:sp<=2001:=(by rw[<-hsp];exact ztr _);rw[hsp]at z0 HCS;have i3:(0:Int)<=(k:Int):=(by omega);have i4:(k:Int)<(x.o.ps.length:Int):=(by omega);have i5:(0:Int)<=(j:Int):=(by omega);have i6:(j:Int)<(n:Int):=(by omega);obtain⟨nw,hnw⟩:∃z,cap (nv+sp)=z:=⟨_,rfl⟩;have hmin:min ((nv:Int)+(sp:Int)) 2001=(nw:Int):=by
           unfold cap at hnw;omega
          have hnwb:nw<=100000:=by
           unfold cap at hnw;omega
          have HC9:Hid (cap nw=cap (szK l x (k+1))):=by
           have h:=HCS.out;rw[hnw]at h;show _=_;rw[<-h,<-hnw];unfold cap;omega
          clear hj1 hj3 hsp hnw HCS HCP hpw;go_wp2;go_roundw
          case rel=>exact⟨k+1,nw,by omega,by go_num,rfl,hnwb,HC9,hO,hD,hB⟩
          case measure=>simp[intOf];omega
        . have ek:k=x.o.ps.length:=by omega
          have g3:¬(k:Int)<(x.o.ps.length:Int):=(by omega);have HF:Hid (cap nv=szD l (dp+1) i):=by
           have h:=HCP.out;rw[ek,zqs HGA.out HDQ.out,<-zuf HDQ.out]at h;exact h
          obtain⟨nw,hnw⟩:∃z,cap nv=z:=⟨_,rfl⟩;have hmin:min (nv:Int) 2001=(nw:Int):=by
           unfold cap at hnw;omega
          rw[hnw]at HF;have f0:=hO.fz i;have y9:=hO.ivc (i:=i) (by rw[zxe];exact hin);have hlt:=hO.lt;have FO:Hid (Bk 3 (wr.setCell ⟨go,i,none⟩ (.int .i64 (nw:Int))) go (iv (fh n (fun j=>((szD l (dp+1) j:Nat):Int)) (fun j=>((szD l dp j:Nat):Int)) (i+1)))):=by
           have h:=hO.ivs i (nw:Int);rw[z3a _ (by rw[HF.out])]at h;exact h
          have FD:Hid (Bk 3 (wr.setCell ⟨go,i,none⟩ (.int .i64 (nw:Int))) gd (iv DD)):=hD.other i _ (by omega);have FB:Hid (Below w.heap.size w (wr.setCell ⟨go,i,none⟩ (.int .i64 (nw:Int)))):=hB.setCell (p:=⟨go,i,none⟩) hgw _;clear hO hD hB ek hnw HCP HF;go_wp2;go_roundw
          case rel=>exact⟨i+1,by omega,by go_num,FO.out,FD.out,FB.out⟩
          case measure=>simp[intOf];omega
     . have ei:i=n:=by omega
       have g1:¬(i:Int)<(n:Int):=(by omega);have FO:Hid (Bk 3 wr go (iv (fh n (fun j=>((szD l (dp+1) j:Nat):Int)) (fun _=>0) n))):=by
        have h:=hO;rw[ei,fh_fz]at h;show Bk _ _ _ _;rw[fh_fz];exact h
       clear hO ei;go_wp2;go_roundw
       case rel=>exact⟨dp+1,by omega,by go_num,FO.out,hD,hB⟩
       case measure=>simp[intOf];omega
  . have g1:¬(dp:Int)<=6:=by omega
    have ed:dp=7:=(by omega);have FO:Hid (Bk 3 wr go (iv (fz n (fun j=>((szG l (j:Int):Nat):Int)) n))):=by
     have h:=hO;rw[ed,fh_fz]at h;have e2:(fun j:Nat=>((szD l 7 j:Nat):Int))=(fun j:Nat=>((szG l (j:Int):Nat):Int)):=funext (fun j=>by rw[zx8]);rw[e2]at h;exact h
    clear hO hD ed;go_wp2;go_ret;exact⟨go,rfl,hgw,FO.out,hB⟩
theorem wrapU{z:Int}(h1:-9223372036854775808<=z)(h2:z<=9223372036854775807):IntKind.i64.wrap z=z:=by
 unfold IntKind.wrap;simp[IntKind.bits,IntKind.signed];omega
def szT(t:Tu):Nat:=1+t.rg.length+t.pts.length+t.dx.length+t.dy.length
def totT(l:List Tu):Nat:=(l.map szT).sum
def fewT(l:List Tu):Bool:=decide (totT l<=3000)&&decide (l.length<=30)
theorem zqp{l:List Tu}{k:Nat}(hk:k<l.length):totT (l.take (k+1))=totT (l.take k)+szT (l.getD k Tu.none):=by
 unfold totT;rw[zak (d:=Tu.none) hk,List.map_append,List.sum_append];simp
theorem zx1(l:List Tu)(k:Nat):totT (l.take k)<=totT l:=by
 have h:totT l=totT (l.take k)+totT (l.drop k):=by
  unfold totT;rw[<-List.sum_append,<-List.map_append,List.take_append_drop]
 omega
theorem zz9{l:List Tu}(h:fewT l=true):l.length<=30/\totT l<=3000:=by
 unfold fewT at h;rw[Bool.and_eq_true,qM,qM]at h;exact⟨h.2,h.1⟩
theorem zqy(S:Nat->Prop)(a:OA)(ca:Nat)(l:List Tu)(w:World)(hl:Gr TuE S w a ca l) :
 Calls Tryz.prog 64 #[.slice a l.length ca] w fun e w'=>e=.returned (.bool (fewT l))/\Below w.heap.size w w':=by
 have k1:=hl.lenB;have HC:Hid (Gr TuE S w a ca l):=hl;have HF:Hid (fewT l=(decide (totT l<=3000)&&decide (l.length<=30))):=rfl;clear hl;generalize fewT l=fb at *;go_enter func64,ntmps64;go_wp2
 go_loopw [3,4] (fun nv i wr=>∃k n:Nat,k<=l.length/\i=.int .i64 k/\nv=.int .i64 (n:Int)/\n=totT (l.take k)/\n<=562949953425001/\Below w.heap.size w wr) (fun _ i _=>l.length-(intOf i).toNat)
 case atStart=>exact⟨0,0,qD _,rfl,rfl,rfl,by omega,Below.refl _ _⟩
 case round =>
  obtain⟨k,n,hk,rfl,rfl,hn,hnb,hB⟩:=hrel;have HN:Hid (n=totT (l.take k)):=hn;have HB:Hid (Below w.heap.size w wr):=hB;clear hn;by_cases hgo:k<l.length/\n<=3000
  . obtain⟨hkn,hn1⟩:=hgo
    obtain⟨b0,off,ra,rc,pa,pc,xa,xc,ya,yc,ea,hb,ht,d0,d1,d2,d3,d4⟩:=HC.out.tu hB k hkn;subst ea;have hst:=zqp hkn;rw[<-HN.out]at hst;obtain⟨l1,l2,l3,l4⟩:=ht.len;obtain⟨t,htt⟩:∃t,l.getD k Tu.none=t:=⟨_,rfl⟩;rw[htt]at d0 d1 d2 d3 d4 hst l1 l2 l3 l4;unfold szT at hst;generalize t.rg.length=r at *;generalize t.pts.length=p at *;generalize t.dx.length=x at *;generalize t.dy.length=y at *;have HN2:Hid (n+(1+r+p+x+y)=totT (l.take (k+1))):=hst.symm;have g1:decide (k<l.length)=true:=qC hkn;have g2:decide ((n:Int)<=3000)=true:=qC (by omega);have i1:(0:Int)<=(k:Int):=(by omega);have i2:(k:Int)<(l.length:Int):=(by omega);have w1:IntKind.i64.wrap (1+(r:Int))=1+(r:Int):=wrapU (by omega) (by omega);have w2:IntKind.i64.wrap (1+(r:Int)+(p:Int))=1+(r:Int)+(p:Int):=wrapU (by omega) (by omega);have w3:IntKind.i64.wrap (1+(r:Int)+(p:Int)+(x:Int))=1+(r:Int)+(p:Int)+(x:Int):=wrapU (by omega) (by omega);have w4:IntKind.i64.wrap (1+(r:Int)+(p:Int)+(x:Int)+(y:Int))=1+(r:Int)+(p:Int)+(x:Int)+(y:Int):=wrapU (by omega) (by omega);have w5:IntKind.i64.wrap ((n:Int)+(1+(r:Int)+(p:Int)+(x:Int)+(y:Int)))=(n:Int)+(1+(r:Int)+(p:Int)+(x:Int)+(y:Int)):=wrapU (by omega) (by omega);clear hst htt ht HN hB;go_upto_region 5 with fail
    refine wp_region_held_drew (S:=fun w9=>w9.cell? ⟨b0,off+k*5,none⟩=some (.slice ra r rc)/\w9.cell? ⟨b0,off+k*5+2,none⟩=some (.slice pa p pc)/\w9.cell? ⟨b0,off+k*5+3,none⟩=some (.slice xa x xc)/\w9.cell? ⟨b0,off+k*5+4,none⟩=some (.slice ya y yc)) (by kernel_rfl) ?_ (fun hH=>?_)
    . (try dsimp only)
      go_keep
    have hdr:Below wr.heap.size wr wr.drew:=Below.drew1;generalize wr.drew=Z at hdr hH ⊢;clear d0 d1 d2 d3 d4;refine hT 0 hH ?_;refine hT 1 hH ?_;refine hT 2 hH ?_;refine hT 3 hH ?_;refine hT 4 hH ?_;refine hT 5 hH ?_;refine hT 6 hH ?_;refine hT 7 hH ?_;refine hT 8 hH ?_;refine hT 9 hH ?_;refine hT 10 hH ?_;refine hT 11 hH ?_;refine hT 12 hH ?_;refine hT 13 hH ?_;refine hT 14 hH ?_;refine hT 15 hH ?_;refine hT 16 hH ?_;refine hT 17 hH ?_;refine hT 18 hH ?_;refine hT 19 hH ?_;refine hT 20 hH ?_;refine hT 21 hH ?_;refine hT 22 hH ?_;refine hT 23 hH ?_;refine hT 24 hH ?_;refine hT 25 hH ?_;refine hT 26 hH ?_;refine hT 27 hH ?_;refine hT 28 hH ?_;refine hT 29 hH ?_;refine hT 30 hH ?_;refine wpAnyH_done (by kernel_rfl) ?_ _;have HB2:Hid (Below w.heap.size w Z):=HB.out.trans (hdr.mono HB.out.size);clear hH hdr;go_wp2;go_roundw
    case rel=>exact⟨k+1,n+(1+r+p+x+y),by omega,by go_num,by exact congrArg (Value.int .i64) (by omega),HN2.out,by omega,HB2.out⟩
    case measure=>simp[intOf];omega
  . have hle:=zx1 l k
    have HFF:Hid (fb=(decide ((n:Int)<=3000)&&decide ((l.length:Int)<=30))):=by
     show _=_;rw[HF.out];have h1:decide (totT l<=3000)=decide ((n:Int)<=3000):=by
      rw[decide_eq_decide];by_cases hkk:k<l.length
      . rw[<-HN.out]at hle
        omega
      . have:l.take k=l:=List.take_of_length_le (by omega)
        have h2:=HN.out;rw[this]at h2;omega
     have h2:decide (l.length<=30)=decide ((l.length:Int)<=30):=by
      rw[decide_eq_decide];omega
     rw[h1,h2]
    clear HN hle;by_cases hkn:k<l.length
    . have g1:decide (k<l.length)=true:=qC hkn
      have g2:decide ((n:Int)<=3000)=false:=qB (by omega);rw[g2,Bool.false_and]at HFF;go_wp2;go_ret;exact⟨zaa HFF.out.symm,hB⟩
    . have g1:decide (k<l.length)=false:=qB hkn
      by_cases hn1:n<=3000
      . have g2:decide ((n:Int)<=3000)=true:=qC (by omega)
        rw[g2,Bool.true_and]at HFF;go_wp2;go_ret;exact⟨zaa HFF.out.symm,hB⟩
      . have g2:decide ((n:Int)<=3000)=false:=qB (by omega)
        rw[g2,Bool.false_and]at HFF;go_wp2;go_ret;exact⟨zaa HFF.out.symm,hB⟩
