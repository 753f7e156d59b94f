import Derived.Test.YtkmcodofnckdmaaGreatZK45
set_option maxHeartbeats 8000000
set_option maxRecDepth 100000
set_option linter.unusedSimpArgs false
set_option linter.unusedVariables false
namespace Go.Proofs.YtkmcodofnckdmaaGreat
open Tryz Go.RowKit Go.Maps
theorem z1t{g b:Nat}{w v u:World}(h:Kp g w v)(k:Kp b v u)(hb:w.heap.size<=b):Kp g w u :=
 Keep.trans h (Keep.mono k (fun i hi=>⟨qN hi.1 h.size,by have:=hi.1;omega⟩))
theorem z1r{X Y:LI}{fs:LN}{L:List Pn}(hx:X.length=fs.length)(hy:Y.length=fs.length)(hl:L.length=fs.length)(h:∀i,i<fs.length->L.getD i Pn.none=pYk X Y fs fs.length i):L=mkP X Y fs:=by
 refine List.ext_getElem (by rw[hl,zl5 _ _ _ hx hy]) (fun i h1 h2=>?_);have hi:i<fs.length:=by omega
 have e1:=h i hi;have e2:=zr8 X Y fs i hx hy hi;rw[qH,qG h1,Option.getD_some]at e1;rw[qH,qG h2,Option.getD_some]at e2;rw[e1,e2];unfold pYk onK;rw[if_pos hi]
theorem zne{α:Type}(f:Nat->α)(k:Nat):(List.range (k+1)).map f=(List.range k).map f++[f k]:=by rw[List.range_succ,List.map_append];rfl
theorem zrn{N p k:Nat}{xs:LN}(hk:k<N):(rdE N (xs.drop p)).1.getD k 0=hd2 (xs.drop (p+2*k)):=by rw[zrm _ _ _ hk,List.drop_drop]
theorem zu9(l:LN)(k:Nat)(hk:k<l.length):nI (l.take (k+1))=nI (l.take k)++[((l.getD k 0:Nat):Int)]:=by
 rw[List.take_add_one,qG hk,zk4];simp[nI,List.getD,hk]
theorem zo7(n:Int)(g:Nat)(pa:OA)(pc:Nat)(xs:LN)(p:Nat)(w:World)(h:Sc 152 w g pa pc xs p)(hp:p<=10)(hn:n<=10)(hn2:-40000<=n)(hpb:∀b o,pa=some ⟨b,o,none⟩->xs≠[]->b<w.heap.size) :
 Calls Tryz.prog 95 #[pg g,.int .i64 n] w fun e w'=>∃a c,e=.returned (.agg #[.slice a (candC n.toNat (xs.drop p)).cs.length c,.slice none 0 0])/\Gr PnE.row (fun k=>w.heap.size<=k) w' a c (candC n.toNat (xs.drop p)).cs/\(∀b o,a=some ⟨b,o,none⟩->w.heap.size<=b/\b<w'.heap.size)/\Kp g w w':=by
 have hgl:g<w.heap.size:=h.bk.lt;have hby:=h.rb.lim.drop p;obtain⟨N,hN⟩:∃N,n.toNat=N:=⟨_,rfl⟩;have hN1:n<=(N:Int):=by omega
 have HN2:Hid (0<N->n=(N:Int)):=by show _->_;omega
 have hN3:N<=10:=by omega
 rw[hN];have HES:Hid (∀k,k<N->(rdE N (xs.drop p)).1.getD k 0=hd2 (xs.drop (p+2*k))):=fun k hk=>zrn hk;have HEL:Hid ((rdE N (xs.drop p)).1.length=N):=zl1 _ _;have HFG:Hid (flW N (xs.drop p)=if ptsW N (rdE N (xs.drop p)).1<=80 then rdG (ptsW N (rdE N (xs.drop p)).1) (ptsW N (rdE N (xs.drop p)).1) (xs.drop (p+2*N)) []else ([],xs.drop (p+2*N))):=by
  show _=_;rw[flW,zns,List.drop_drop]
 have HFS:Hid (fsW N (xs.drop p)=(flW N (xs.drop p)).1.take (ptsW N (rdE N (xs.drop p)).1)):=rfl;have HXE:Hid (xsW N (xs.drop p)=rdD 2 16 (fsW N (xs.drop p)) (flW N (xs.drop p)).2 0):=rfl;have HYE:Hid (ysW N (xs.drop p)=rdD 4 32 (fsW N (xs.drop p)) (xsW N (xs.drop p)).2 0):=rfl;have HLS:Hid (lsW N (xs.drop p)=mkP (xsW N (xs.drop p)).1 (ysW N (xs.drop p)).1 (fsW N (xs.drop p))):=rfl;have HCC:Hid (candC N (xs.drop p)=match cutC (rdE N (xs.drop p)).1 0 (lsW N (xs.drop p))with | some cs=>⟨cs,[]⟩ | none=>Ol.none):=rfl;have HPT:Hid (ptsW N (rdE N (xs.drop p)).1=if N=0 then 0 else (rdE N (xs.drop p)).1.getD (N-1) 0+1):=rfl;have HLL:Hid ((lsW N (xs.drop p)).length=(fsW N (xs.drop p)).length/\(fsW N (xs.drop p)).length<=80):=⟨zl6 _ _,by have:=zww N (xs.drop p);rw[zl6]at this;exact this⟩;have HEB:Hid (∀k,k<N->(rdE N (xs.drop p)).1.getD k 0<65536):=fun k hk=>by rw[zrn hk];exact zdf (h.rb.lim.drop _)
 have HBY:Hid (Byt xs):=h.rb.lim;have HPB:Hid (∀b o,pa=some ⟨b,o,none⟩->xs≠[]->b<w.heap.size):=hpb;generalize candC N (xs.drop p)=CC at *;generalize lsW N (xs.drop p)=LS at *;generalize ysW N (xs.drop p)=YY at *;generalize xsW N (xs.drop p)=XX at *;generalize fsW N (xs.drop p)=fs at *;generalize flW N (xs.drop p)=FG at *;generalize ptsW N (rdE N (xs.drop p)).1=P at *;generalize (rdE N (xs.drop p)).1=es at *;obtain⟨W,hW,X1,hbW⟩:∃W,W=w.alloc (.cells #[.slice none 0 0,.slice none 0 0] 57)/\Bk 57 W w.heap.size [.slice none 0 0,.slice none 0 0]/\Below w.heap.size w W:=⟨_,rfl,Bk.new _ _ _,bl1 _⟩;have HWB:Hid (w.heap.size<W.heap.size):=X1.lt;have hS0:=h.below hbW;have HX:Hid (Bk 57 W w.heap.size [.slice none 0 0,.slice none 0 0]):=X1;have HKW:Hid (Kp g w W):=Kp.of hbW;clear h hby hpb hbW X1 hN;go_enter func95,ntmps95;go_upto_region 1 with fail
 rw[<-hW];clear hW;go_wp2
 go_loopw [5,7] (fun v i wr=>∃k:Nat,k<=N/\i=.int .i64 k/\v.ownBlock≠some g/\Gi W.heap.size wr v (nI (es.take k))/\Sc 152 wr g pa pc xs (p+2*k)/\Kp g W wr) (fun _ i _=>N-(intOf i).toNat)
 case atStart=>exact⟨0,qD _,rfl,(fun e=>by cases e),by rw[List.take_zero];exact Gi.nil _ _,hS0,Kp.refl _ _⟩
 case round =>
  clear hS0;obtain⟨k,hk,rfl,hvg,hG,hS,hK⟩:=hrel;by_cases hkn:k<N
  . have gk:(k:Int)<n:=by have:=HN2.out;omega
    have hu:=zha g pa pc xs (p+2*k) wr hS (by omega);have hzb:=HEB.out k hkn;have HZ:Hid (_):=zu9 es k (by rw[HEL.out];exact hkn);rw[HES.out k hkn]at hzb HZ;obtain⟨z,hz⟩:∃z,hd2 (xs.drop (p+2*k))=z:=⟨_,rfl⟩;rw[hz]at hu hzb HZ;clear hz;go_wp2_with fail
    refine hu.mono ?_;rintro e s1 ⟨rfl,hS1,hK1⟩;replace hG:=hG.kp hS.bk (by decide) hK1;replace hK:=hK.trans hK1;clear hS hK1 hu;have hS:=hS1;clear hS1;have hfi:I64 (z:Int):=⟨by omega,by omega⟩;have hll:(nI (es.take k)).length+1<=1000000:=(by rw[zdd,qL];omega);generalize nI (es.take k)=L at *;have bp:=bl1 (w:=s1) (.cells #[.int .i64 (z:Int)] 3);have hGb:=hG.below bp;have hSb:=hS.below bp;have hN9:=Bk.new 3 s1 [.int .i64 (z:Int)];have n0:=hN9.cell 0 (by simp);have zk6:s1.heap.size<(s1.alloc (.cells #[.int .i64 (z:Int)] 3)).heap.size:=hN9.lt;have hKb:Kp g W (s1.alloc (.cells #[.int .i64 (z:Int)] 3)):=hK.alloc _;have hbs:=hKb.size;have z2h:=hS.bk.lt;clear hN9 bp;go_wp2_with (at_builtin;refine zah rfl _ _ rfl W.heap.size _ L rfl hGb s1.heap.size (z:Int) rfl zk6 n0 hfi hll hbs ?_)
    intro v9 w9 hG9 hgrow hown
    have hS9:=hSb.grown hgrow hvg (fun b o e hne e2=>by
     have:=(hGb.lo e2).1;have:=HPB.out b o e hne;have:=HWB.out
     omega)
    have hK9:Kp g W w9:=hKb.grown hgrow (fun k hk=>(hGb.lo hk).1);have HV9:Hid (v9.ownBlock≠some g):=by
     rcases hown with ho|ho
     . show _≠_
       rw[ho];exact hvg
     . show _≠_
       rw[ho];intro e;have h1:=Option.some.inj e
       (try simp at h1)
       omega
    clear hgrow hown hGb hSb n0 zk6 hKb hbs hvg hll z2h;rw[<-HZ.out]at hG9;clear HZ;go_wp2;go_roundw
    case rel=>exact⟨k+1,by omega,by go_num,HV9.out,hG9,by rw[show p+2*(k+1)=p+2*k+2 by omega];exact hS9,hK9⟩
    case measure=>simp[intOf];omega
  . obtain rfl:N=k:=by omega
    have gk:¬(N:Int)<n:=(by omega);rw[show es.take N=es by rw[<-HEL.out,List.take_length]]at hG;obtain⟨ea,ec,rfl,hre,hbe⟩:=hG.slice;have HRE:Hid (Ri wr ea ec (nI es)):=hre;have HBE:Hid (∀b o,ea=some ⟨b,o,none⟩->b<wr.heap.size/\b≠g):=fun b o e=>⟨(hbe b o e).2,by have:=(hbe b o e).1;have:=HWB.out;omega⟩;have hnl:=zdd es;rw[HEL.out]at hnl;have HNL:Hid ((nI es).length=N):=hnl;rw[hnl];have HS1:Hid (Sc 152 wr g pa pc xs (p+2*N)):=hS;have HK1:Hid (Kp g W wr):=hK;have HWR:Hid (w.heap.size<wr.heap.size):=(by have:=HWB.out;have:=hK.size;show _<_;omega);clear hvg hG hre hbe hS hK hnl
    rename World=>m1
    go_upto_if 32 with fail
    go_cut [8]from 9 (fun s8 wx=>s8=.int .i64 (P:Int)/\m1=wx)
    case first =>
     by_cases h0:0<N
     . have g0:n > 0:=by have:=HN2.out;omega
       obtain⟨b0,o0,e0,hb0,d0⟩:=HRE.out.at (Below.refl _ _) (N-1) (by rw[HNL.out];omega);rw[ze3]at d0;have hPE:=HPT.out;rw[if_neg (by omega)]at hPE;have hzb:=HEB.out (N-1) (by omega);obtain⟨z,hz⟩:∃z,es.getD (N-1) 0=z:=⟨_,rfl⟩;rw[hz]at d0 hPE hzb;obtain⟨N1,hN1'⟩:∃x,N-1=x:=⟨_,rfl⟩;rw[hN1']at d0;have hi:n-1=(N1:Int):=(by have:=HN2.out;omega);have i1:(0:Int)<=(N1:Int):=(by omega);have i2:(N1:Int)<(N:Int):=(by omega);have hzz:(z:Int)+1=(P:Int):=(by omega);subst e0;clear hz hPE hN1';go_wp2_with fail
       go_meet;exact⟨rfl,rfl⟩
     . have g0:¬n > 0:=by omega
       have HPE:Hid (P=0):=(by have:=HPT.out;rw[if_pos (by omega)]at this;exact this);go_wp2_with fail
       go_meet;exact⟨by rw[HPE.out];rfl,rfl⟩
    case rest =>
     obtain⟨rfl,rfl⟩:=hcut
     go_upto_block 2 with fail
     go_cut [6]from 9 (fun s6 wx=>∃(acc:LN) (q:Nat) (a5:OA) (c5:Nat),s6=.slice a5 acc.length c5/\Ri wx a5 c5 (nI acc)/\(∀b o,a5=some ⟨b,o,none⟩->m1.heap.size<=b/\b<wx.heap.size)/\acc.length<=335/\Byt acc/\Sc 152 wx g pa pc xs q/\q<=30+2*acc.length/\FG=(acc,xs.drop q)/\Kp g m1 wx)
     case first =>
      go_wp2_with fail
      go_loopw [6] (fun v wr=>∃(acc:LN) (q:Nat),v.ownBlock≠some g/\Gi m1.heap.size wr v (nI acc)/\acc.length<=335/\Byt acc/\Sc 152 wr g pa pc xs q/\q<=30+2*acc.length/\(P<=80->FG=rdG (P-acc.length) P (xs.drop q) acc)/\(80<P->FG=(acc,xs.drop q))/\Kp g m1 wr) (fun v _=>P-slLen v)
      case atStart=>exact⟨[],p+2*N,(fun e=>by cases e),Gi.nil _ _,by simp,Byt.nil,HS1.out,by simp;omega,(fun hP=>by rw[HFG.out,if_pos hP];rfl),(fun hP=>by rw[HFG.out,if_neg (by omega)]),Kp.refl _ _⟩
      case round =>
       clear HS1;obtain⟨acc,q,hvg,hG,hal,accB,hS,hq,hfg,hfh,hK⟩:=hrel;obtain⟨a5,c5,rfl,hri,hbk⟩:=hG.slice;have hcp:=hri.2.1;have hcm:=hri.2.2.1;unfold maxLen at hcm;have hnl:=zdd acc;rw[hnl]at hcp ⊢;by_cases hlt:acc.length<P/\P<=80;rotate_left
       . have HFE:Hid (FG=(acc,xs.drop q)):=by
           show _=_;by_cases h8:P<=80
           . rw[hfg h8,zc4 (by omega)]
           . exact hfh (by omega)
         by_cases hl9:acc.length<P
         . have gF:¬(P:Int)<=80:=by omega
           have gG:(acc.length:Int)<(P:Int):=(by omega);clear hfg hfh hlt hl9 hG;go_wp2_with fail
           go_meet;exact⟨acc,q,a5,c5,rfl,hri,hbk,hal,accB,hS,hq,HFE.out,hK⟩
         . have gG:¬(acc.length:Int)<(P:Int):=by omega
           clear hfg hfh hlt hl9 hG;go_wp2_with fail
           go_meet;exact⟨acc,q,a5,c5,rfl,hri,hbk,hal,accB,hS,hq,HFE.out,hK⟩
       obtain⟨hlt,hP80⟩:=hlt;have HF:Hid (FG=rdG (P-acc.length) P (xs.drop q) acc):=hfg hP80;have gP:decide ((P:Int)<=80)=true:=qC (by omega);have gQ:decide ((acc.length:Int)<(P:Int))=true:=qC (by omega);have HPN:Hid (80<P->False):=fun h=>by omega
       clear hfg hfh;have g1:(acc.length:Int)<(P:Int):=(by omega);have hu:=zdz g pa pc xs q wr hS (by omega);have hfl:=zfy (hS.rb.lim.drop q);have hml:=zfy (hS.rb.lim.drop (q+1));obtain⟨f,hf⟩:∃f,hd1 (xs.drop q)=f:=⟨_,rfl⟩;have HST:Hid (f/8%2=1->∀m,hd1 (xs.drop (q+1))=m->rdG (P-acc.length) P (xs.drop q) acc=rdG (P-(acc++List.replicate (m+1) f).length) P (xs.drop (q+1+1)) (acc++List.replicate (m+1) f)):=fun h8 m hm=>by
        have:=zs6 (s:=xs.drop q) hlt (by rw[hf];exact h8) (acc':=acc++List.replicate (m+1) f) (by rw[List.drop_drop,hm,hf]);rw[this,List.drop_drop]
       have HSO:Hid (¬f/8%2=1->rdG (P-acc.length) P (xs.drop q) acc=rdG (P-(acc++List.replicate (0+1) f).length) P (xs.drop (q+1)) (acc++List.replicate (0+1) f)):=fun h8=>by
        have:=zxf (s:=xs.drop q) hlt (by rw[hf];exact h8) (acc':=acc++List.replicate (0+1) f) (by rw[hf]);rw[this,List.drop_drop]
       rw[hf]at hu hfl;have HVG:Hid ((Value.slice a5 acc.length c5).ownBlock≠some g):=(by rw[hnl]at hvg;exact hvg);clear hf hri hbk hvg;go_wp2_with fail
       refine hu.mono ?_;rintro e s1 ⟨rfl,hS1,hK1⟩;have hG1:=hG.kp hS.bk (by decide) hK1;have HKK:Hid (Kp g m1 s1):=hK.trans hK1;have q8:(f:Int).tdiv 8=((f/8:Nat):Int):=(by rw[Int.tdiv_eq_ediv_of_nonneg (by omega)];rfl);clear hu hS hK hK1 hG;have HAC:Hid (∀m,Byt (acc++List.replicate (m+1) f)):=fun m y hy=>by
        rcases List.mem_append.1 hy with h|h
        . exact accB y h
        . rw[List.eq_of_mem_replicate h];exact hfl
       have HCK:Hid (Gi m1.heap.size s1 (.slice a5 acc.length c5) (nI acc)):=by rw[hnl]at hG1;exact hG1
       go_upto_if 52 with fail
       go_cut [10]from 39 to 63 (fun s10 wx=>∃m q2:Nat,s10=.int .i64 (m:Int)/\m<256/\q2<=q+2/\Gi m1.heap.size wx (.slice a5 acc.length c5) (nI acc)/\Sc 152 wx g pa pc xs q2/\Kp g m1 wx/\rdG (P-acc.length) P (xs.drop q) acc=rdG (P-(acc++List.replicate (m+1) f).length) P (xs.drop q2) (acc++List.replicate (m+1) f))
       case first =>
        by_cases h8:f/8%2=1
        . have g8:((f/8:Nat):Int)%2=1:=by omega
          have hu2:=zdz g pa pc xs (q+1) s1 hS1 (by omega);obtain⟨m,hm⟩:∃m,hd1 (xs.drop (q+1))=m:=⟨_,rfl⟩;rw[hm]at hu2 hml;have z3z:Hid (_):=HST.out h8 m hm;clear hm h8;go_wp2_with fail
          refine hu2.mono ?_;rintro e s2 ⟨rfl,hS2,hK2⟩;have hG2:=HCK.out.kp hS1.bk (by decide) hK2;have HKK2:=HKK.out.trans hK2;clear hu2;go_wp2_with fail
          go_meet;exact⟨m,q+1+1,rfl,hml,by omega,hG2,hS2,HKK2,z3z.out⟩
        . have g8:((f/8:Nat):Int)%2=0:=by omega
          have HSO2:Hid (_):=HSO.out h8;clear h8;go_wp2_with fail
          go_meet;exact⟨0,q+1,rfl,by omega,by omega,HCK.out,hS1,HKK.out,HSO2.out⟩
       case rest =>
        obtain⟨m,q2,rfl,hml2,hq2,hGc,hSc,hKc,hst⟩:=hcut;have z3z:Hid (_):=hst;have HAB:Hid (Byt (acc++List.replicate (m+1) f)):=HAC.out m;have HG1:Hid (Gi m1.heap.size wc (.slice a5 acc.length c5) (nI acc)):=hGc;have HSS:Hid (Sc 152 wc g pa pc xs q2):=hSc;have HK1:Hid (Kp g m1 wc):=hKc;clear hst hGc hSc hKc hG1 hS1 HKK HCK HST HSO hml;go_wp2
        go_loopw [6,11] (fun v i wr=>∃j:Nat,j<=m+1/\i=.int .i64 j/\v.ownBlock≠some g/\Gi m1.heap.size wr v (nI (acc++List.replicate j f))/\Sc 152 wr g pa pc xs q2/\Kp g m1 wr) (fun _ i _=>m+1-(intOf i).toNat)
        case atStart=>exact⟨0,qD _,rfl,HVG.out,by rw[List.replicate_zero,List.append_nil];exact HG1.out,HSS.out,HK1.out⟩
        case round =>
         clear HG1 HSS HK1 HVG;obtain⟨j,hj,rfl,hvg,hG,hS,hK⟩:=hrel;obtain⟨a6,c6,rfl,hri,hbk⟩:=hG.slice;have hln:(nI (acc++List.replicate j f)).length=acc.length+j:=(by rw[zdd,qA,List.length_replicate]);by_cases hjm:j<=m
         . have g2:(j:Int)<=(m:Int):=by omega
           have hll:(nI (acc++List.replicate j f)).length+1<=1000000:=(by omega);have HAP:Hid (nI (acc++List.replicate (j+1) f)=nI (acc++List.replicate j f)++[(f:Int)]):=(by show _=_;rw[zja,zk4];rfl);have bp:=bl1 (w:=wr) (.cells #[.int .i64 (f:Int)] 3);have hGb:=hG.below bp;have hSb:=hS.below bp;have hN:=Bk.new 3 wr [.int .i64 (f:Int)];have n0:=hN.cell 0 (by simp);have zk6:wr.heap.size<(wr.alloc (.cells #[.int .i64 (f:Int)] 3)).heap.size:=hN.lt;have hKb:Kp g m1 (wr.alloc (.cells #[.int .i64 (f:Int)] 3)):=hK.alloc _;have hbs:=hKb.size;have hfi:I64 (f:Int):=⟨by omega,by omega⟩;clear hN bp hri hbk hln;generalize nI (acc++List.replicate j f)=L at *;go_wp2_with (at_builtin;refine zah rfl _ _ rfl m1.heap.size _ L rfl hGb wr.heap.size (f:Int) rfl zk6 n0 hfi hll hbs ?_)
           intro v9 w9 hG9 hgrow hown
           have hS9:=hSb.grown hgrow hvg (fun b o e hne e2=>by
            have:=(hGb.lo e2).1;have:=HPB.out b o e hne;have:=HWR.out
            omega)
           have hK9:Kp g m1 w9:=hKb.grown hgrow (fun k hk=>(hGb.lo hk).1);have HV9:Hid (v9.ownBlock≠some g):=by
            rcases hown with ho|ho
            . show _≠_
              rw[ho];exact hvg
            . show _≠_
              rw[ho];intro e;have h1:=Option.some.inj e;have h2:=hS.bk.lt
              (try simp at h1)
              omega
           rw[<-HAP.out]at hG9;clear hgrow hown hGb hSb n0 zk6 hKb hbs hvg hll HAP;go_wp2;go_roundw
           case rel=>exact⟨j+1,by omega,by go_num,HV9.out,hG9,hS9,hK9⟩
           case measure=>simp[intOf];omega
         . obtain rfl:j=m+1:=by omega
           have g2:¬(((m+1:Nat):Nat):Int)<=(m:Int):=(by omega);have HFF:Hid (FG=rdG (P-(acc++List.replicate (m+1) f).length) P (xs.drop q2) (acc++List.replicate (m+1) f)):=by
            show _=_;rw[HF.out,z3z.out]
           have HLN:Hid ((acc++List.replicate (m+1) f).length=acc.length+(m+1)):=(by show _=_;rw[qA,List.length_replicate]);have zwz:=hln;rw[hln];clear hri hbk hln;go_wp2;go_roundw
           case rel=>exact⟨acc++List.replicate (m+1) f,q2,by rw[zwz]at hvg;exact hvg,by rw[zwz]at hG;exact hG,by rw[HLN.out];omega,HAB.out,hS,by rw[HLN.out];omega,(fun _=>HFF.out),(fun h=>(HPN.out h).elim),hK⟩
           case measure=>show P-(acc.length+(m+1))<P-acc.length;omega
     case rest =>
      obtain⟨acc,q,a5,c5,rfl,hri,hbk,hal,accB,hS,hq,hfe,hK⟩:=hcut;have HFE:Hid (FG=(acc,xs.drop q)):=hfe;clear hfe HS1;have hMP:fs=acc.take P:=(by rw[HFS.out,HFE.out]);have hML:fs.length=min P acc.length:=(by rw[hMP,qL]);have HFF:Hid (∀k,k<fs.length->fs.getD k 0=acc.getD k 0):=fun k hk=>by rw[hMP];simp[List.getD,List.getElem?_take,show k<P by omega]
      have HF2:Hid (FG.2=xs.drop q):=(by show _=_;rw[HFE.out]);have HRE2:Hid (Ri wc ea ec (nI es)):=Ri.kept HRE.out hK HBE.out;have HBE2:Hid (∀b o,ea=some ⟨b,o,none⟩->b<wc.heap.size/\b≠g):=fun b o e=>⟨by have:=(HBE.out b o e).1;have:=hK.size;omega,(HBE.out b o e).2⟩;have HRF:Hid (Ri wc a5 c5 (nI acc)):=hri;have HBF2:Hid (∀b o,a5=some ⟨b,o,none⟩->b<wc.heap.size/\b≠g):=fun b o e=>⟨(hbk b o e).2,by have:=(hbk b o e).1;have:=HWR.out;omega⟩;have HS2:Hid (Sc 152 wc g pa pc xs q):=hS;have HK2:Hid (Kp g m1 wc):=hK;have z31:Hid (m1.heap.size<=wc.heap.size):=hK.size;have HNA:Hid ((nI acc).length=acc.length):=zdd acc;have HBF:Hid (Byt fs):=(by show Byt fs;rw[hMP];exact accB.take P);have HB1:Hid (Byt FG.2):=(by show Byt FG.2;rw[HF2.out];exact HBY.out.drop q);have hM80:=HLL.out.2;obtain⟨M,hM⟩:∃M,fs.length=M:=⟨_,rfl⟩;have HM:Hid (fs.length=M):=hM;rw[hM]at hML hM80;have hMP1:M<=P/\M<=acc.length/\(M<P->M=acc.length):=(by omega);have HMP1:Hid (M<=P/\M<=acc.length/\(M<P->M=acc.length)):=hMP1;clear hri hbk hS hK hMP hM hML
      rename World=>m2
      go_upto_block 6 with fail
      go_cut [12]from 13 (fun s12 wx=>∃(aL:OA) (cL qx:Nat),s12=.slice aL M cL/\s12.ownBlock≠some g/\Gw PnE 65 m2.heap.size (fun _=>False) wx (.slice aL M cL) ((List.range M).map (fun j=>(⟨XX.1.getD j 0,0,onK fs j⟩:Pn)))/\Sc 152 wx g pa pc xs qx/\qx<=q+2*M/\xs.drop qx=XX.2/\Kp g m2 wx)
      case first =>
       go_wp2_with fail
       go_loopw [12,13,14] (fun v xv i wr=>∃(k q1:Nat) (x:Int),k<=M/\i=.int .i64 k/\xv=.int .i64 x/\x=(if k=0 then 0 else XX.1.getD (k-1) 0)/\v.ownBlock≠some g/\Gw PnE 65 m2.heap.size (fun _=>False) wr v ((List.range k).map (fun j=>(⟨XX.1.getD j 0,0,onK fs j⟩:Pn)))/\Sc 152 wr g pa pc xs q1/\q1<=q+2*k/\xs.drop q1=rdR 2 16 fs FG.2 0 k/\Kp g m2 wr) (fun _ _ i _=>M-(intOf i).toNat)
       case atStart=>exact⟨0,q,0,qD _,rfl,rfl,rfl,(fun e=>by cases e),Gw.nil _ _ _ _ _,HS2.out,by omega,by rw[zgg];exact HF2.out.symm,Kp.refl _ _⟩
       case round =>
        clear HS2;obtain⟨k,q1,x,hk,rfl,rfl,hx,hvg,hG,hS,hq1,hr,hK⟩:=hrel;by_cases hkM:k<M
        . obtain⟨b5,o5,ea5,hb5,d0⟩:=(Ri.kept HRF.out hK HBF2.out).get k (by rw[HNA.out];omega)
          rw[ze3,<-HFF.out k (by rw[HM.out];exact hkM)]at d0;subst ea5;have hfb:fs.getD k 0<256:=HBF.out.getD k;obtain⟨zcn,zf9⟩:=zhp 2 16 fs FG.2 0 k (by rw[HM.out];exact hkM);have hxl:=znt (sh:=2) (sm:=16) (fs:=fs) HB1.out k (by rw[HM.out];exact hkM);rw[<-HXE.out]at zcn hxl;rw[<-hr]at zcn zf9;have hst:=zq2 (fs.getD k 0) g pa pc xs q1 wr hS (by omega) hfb;have hon:onK fs k=decide (fs.getD k 0%2=1):=rfl;have hdl:=zi1 (fs.getD k 0) 2 16 (hS.rb.lim.drop q1);obtain⟨f,hf⟩:∃f,fs.getD k 0=f:=⟨_,rfl⟩;rw[hf]at d0 zcn zf9 hst hon hfb hdl;rw[<-hx]at zcn;have zqd:Hid (_):=zf9;obtain⟨dd,hdd⟩:∃d,(dfR f 2 16 (xs.drop q1)).1=d:=⟨_,rfl⟩;rw[hdd]at zcn hst hdl;obtain⟨x2,hx2⟩:∃z,x+dd=z:=⟨_,rfl⟩;rw[hx2]at zcn;have HX2:Hid (XX.1.getD k 0=x2):=zcn;rw[zcn]at hxl;have hx2b:-9223372036854775808<=x2/\x2<=9223372036854775807:=(by omega);have z10:I64 x2:=hx2b;have HON:Hid (onK fs k=decide (f%2=1)):=hon;have HFK:Hid (fs.getD k 0=f):=hf;have i1:(0:Int)<=(k:Int):=(by omega);have i2:(k:Int)<(acc.length:Int):=(by omega);have gA:decide ((k:Int)<(P:Int))=true:=qC (by omega);have gB:decide ((k:Int)<(acc.length:Int))=true:=qC (by omega);have qm:(f:Int).tmod 2=((f%2:Nat):Int):=(by rw[Int.tmod_eq_emod_of_nonneg (by omega)];rfl);have hll:((List.range k).map (fun j=>(⟨XX.1.getD j 0,0,onK fs j⟩:Pn))).length+[(⟨x2,0,true⟩:Pn)].length<=1000000:=(by simp;omega);obtain⟨L,hL⟩:∃L,(List.range k).map (fun j=>(⟨XX.1.getD j 0,0,onK fs j⟩:Pn))=L:=⟨_,rfl⟩;have HLK:Hid ((List.range k).map (fun j=>(⟨XX.1.getD j 0,0,onK fs j⟩:Pn))=L):=hL;rw[hL]at hG hll;clear hr zcn zf9 hx hf hdd hxl hon hL;go_wp2_with fail
          refine hst.mono ?_;rintro e s1 ⟨jj,hjj,rfl,hqe,hS1,hK1⟩;replace hG:=hG.kp hS.bk (by decide) hK1;replace hK:=hK.trans hK1;have HQ2:Hid (xs.drop (q1+jj)=rdR 2 16 fs FG.2 0 (k+1)):=(by show _=_;rw[zqd.out,<-hqe]);clear hst hS hK1 hqe d0;obtain⟨b6,o6,e6,hb6,d1⟩:=(Ri.kept HRF.out hK HBF2.out).get k (by rw[HNA.out];omega);cases e6;rw[ze3,<-HFF.out k (by rw[HM.out];exact hkM),HFK.out]at d1;by_cases ho:f%2=1
          . have HO:Hid (onK fs k=true):=by show _=_;rw[HON.out];exact qC ho
            have go:((f:Int)%2==1)=true:=(by simp;omega);have bp:=bl1 (w:=s1) (.cells #[.int .i64 x2,.int .i64 0,.bool true] 65);have hVb:=hG.below bp;have hSb:=hS1.below bp;have zar:Gr PnE (fun k=>False/\u12.ownBlock≠some k) (s1.alloc (.cells #[.int .i64 x2,.int .i64 0,.bool true] 65)) (some ⟨s1.heap.size,0,none⟩) 1 [⟨x2,0,true⟩]:=Gr.one_new (E:=PnE) (pnC ⟨x2,0,true⟩) 65 (za0.2 ⟨rfl,z10,(by show I64 (0:Int);exact⟨by decide,by decide⟩)⟩);have hKb:Kp g m2 (s1.alloc (.cells #[.int .i64 x2,.int .i64 0,.bool true] 65)):=hK.alloc _;have hbs:=hKb.size;have z2h:=hS1.bk.lt;clear bp ho hG hS1 hK;go_wp2_with (at_builtin;refine zab 63 65 underlying63 zdo rfl (by decide) (by decide) rfl _ _ rfl m2.heap.size (fun _=>False) u12 L rfl hVb (some ⟨s1.heap.size,0,none⟩) 1 1 [⟨x2,0,true⟩] rfl rfl zar hll hbs ?_)
            intro v9 w9 hG9 hgrow hown
            have hS9:=hSb.grown hgrow hvg (fun b o e hne e2=>by
             have:=(hVb.lo e2).1;have:=HPB.out b o e hne;have:=HWR.out;have:=z31.out
             omega)
            have hK9:Kp g m2 w9:=hKb.grown hgrow (fun k hk=>(hVb.lo hk).1);have HV9:Hid (v9.ownBlock≠some g):=by
             rcases hown with hh|hh
             . show _≠_
               rw[hh];exact hvg
             . show _≠_
               rw[hh];intro e;have h1:=Option.some.inj e
               (try simp at h1)
               omega
            have HLN:Hid (L++[⟨x2,0,true⟩]=(List.range (k+1)).map (fun j=>(⟨XX.1.getD j 0,0,onK fs j⟩:Pn))):=(by show _=_;rw[zne,HLK.out,HX2.out,HO.out]);rw[HLN.out]at hG9;clear hgrow hown hVb hSb hKb hbs hvg hll z2h zar;go_wp2;go_roundw
            case rel=>exact⟨k+1,q1+jj,x2,by omega,by go_num,rfl,by rw[if_neg (by omega),Nat.add_sub_cancel,HX2.out],HV9.out,hG9,hS9,by omega,HQ2.out,hK9⟩
            case measure=>simp[intOf];omega
          . have HO:Hid (onK fs k=false):=by show _=_;rw[HON.out];exact qB ho
            have go:((f:Int)%2==1)=false:=(by simp;omega);have bp:=bl1 (w:=s1) (.cells #[.int .i64 x2,.int .i64 0,.bool false] 65);have hVb:=hG.below bp;have hSb:=hS1.below bp;have zar:Gr PnE (fun k=>False/\u12.ownBlock≠some k) (s1.alloc (.cells #[.int .i64 x2,.int .i64 0,.bool false] 65)) (some ⟨s1.heap.size,0,none⟩) 1 [⟨x2,0,false⟩]:=Gr.one_new (E:=PnE) (pnC ⟨x2,0,false⟩) 65 (za0.2 ⟨rfl,z10,(by show I64 (0:Int);exact⟨by decide,by decide⟩)⟩);have hKb:Kp g m2 (s1.alloc (.cells #[.int .i64 x2,.int .i64 0,.bool false] 65)):=hK.alloc _;have hbs:=hKb.size;have z2h:=hS1.bk.lt;clear bp ho hG hS1 hK;go_wp2_with (at_builtin;refine zab 63 65 underlying63 zdo rfl (by decide) (by decide) rfl _ _ rfl m2.heap.size (fun _=>False) u12 L rfl hVb (some ⟨s1.heap.size,0,none⟩) 1 1 [⟨x2,0,false⟩] rfl rfl zar hll hbs ?_)
            intro v9 w9 hG9 hgrow hown
            have hS9:=hSb.grown hgrow hvg (fun b o e hne e2=>by
             have:=(hVb.lo e2).1;have:=HPB.out b o e hne;have:=HWR.out;have:=z31.out
             omega)
            have hK9:Kp g m2 w9:=hKb.grown hgrow (fun k hk=>(hVb.lo hk).1);have HV9:Hid (v9.ownBlock≠some g):=by
             rcases hown with hh|hh
             . show _≠_
               rw[hh];exact hvg
             . show _≠_
               rw[hh];intro e;have h1:=Option.some.inj e
               (try simp at h1)
               omega
            have HLN:Hid (L++[⟨x2,0,false⟩]=(List.range (k+1)).map (fun j=>(⟨XX.1.getD j 0,0,onK fs j⟩:Pn))):=(by show _=_;rw[zne,HLK.out,HX2.out,HO.out]);rw[HLN.out]at hG9;clear hgrow hown hVb hSb hKb hbs hvg hll z2h zar;go_wp2;go_roundw
            case rel=>exact⟨k+1,q1+jj,x2,by omega,by go_num,rfl,by rw[if_neg (by omega),Nat.add_sub_cancel,HX2.out],HV9.out,hG9,hS9,by omega,HQ2.out,hK9⟩
            case measure=>simp[intOf];omega
        . obtain rfl:M=k:=by omega
          have HLM:Hid (((List.range M).map (fun j=>(⟨XX.1.getD j 0,0,onK fs j⟩:Pn))).length=M):=(by show _=_;simp);obtain⟨aL,cL,rfl,-,-⟩:=hG.slice;rw[HLM.out]at hG hvg ⊢;have hr2:xs.drop q1=XX.2:=by
           have:=zlz 2 16 fs FG.2 0;rw[HM.out,<-HXE.out]at this;rw[hr,this]
          have hmp:=HMP1.out;clear hx hr;by_cases hMP2:M<P
          . have gA:(M:Int)<(P:Int):=by omega
            have gB:¬(M:Int)<(acc.length:Int):=(by omega);clear hMP2 hmp;go_wp2_with fail
            go_meet;exact⟨aL,cL,q1,rfl,hvg,hG,hS,hq1,hr2,hK⟩
          . have gA:¬(M:Int)<(P:Int):=by omega
            clear hMP2 hmp;go_wp2_with fail
            go_meet;exact⟨aL,cL,q1,rfl,hvg,hG,hS,hq1,hr2,hK⟩
      case rest =>
       obtain⟨aL,cL,qx,rfl,hvg,hG,hS,hqx,hr2,hK⟩:=hcut;have HG0:Hid (Gw PnE 65 m2.heap.size (fun _=>False) wc (.slice aL M cL) ((List.range M).map (fun j=>(⟨XX.1.getD j 0,0,onK fs j⟩:Pn)))):=hG;have HS2:Hid (Sc 152 wc g pa pc xs qx):=hS;have HK3:Hid (Kp g m2 wc):=hK;have HR2:Hid (xs.drop qx=XX.2):=hr2;have HB2:Hid (Byt XX.2):=(by show Byt XX.2;rw[<-hr2];exact HBY.out.drop qx);have HXL:Hid (XX.1.length=fs.length):=(by show _=_;rw[HXE.out];exact zdm _ _ _ _ _);have HYL:Hid (YY.1.length=fs.length):=(by show _=_;rw[HYE.out];exact zdm _ _ _ _ _);have hgm2:g<m2.heap.size:=(by have:=HWR.out;have:=z31.out;omega);clear hvg hG hS hr2 hK;go_wp2
       go_loopw [15,16] (fun yv i wr=>∃(j q2:Nat) (y:Int) (Mj:List Pn),j<=M/\i=.int .i64 j/\yv=.int .i64 y/\y=(if j=0 then 0 else YY.1.getD (j-1) 0)/\Mj.length=M/\(∀i,i<M->Mj.getD i Pn.none=pYk XX.1 YY.1 fs j i)/\Gw PnE 65 m2.heap.size (fun _=>False) wr (.slice aL M cL) Mj/\Sc 152 wr g pa pc xs q2/\q2<=qx+2*j/\xs.drop q2=rdR 4 32 fs XX.2 0 j/\Kp g m2 wr) (fun _ i _=>M-(intOf i).toNat)
       case atStart=>exact⟨0,qx,0,_,qD _,rfl,rfl,rfl,by simp,(fun i hi=>by simp[List.getD,hi,pYk]),HG0.out,HS2.out,by omega,by rw[zgg];exact HR2.out,HK3.out⟩
       case round =>
        clear HG0 HS2 HK3;obtain⟨j,q2,y,Mj,hj,rfl,rfl,hy,hMl,hMj,hG,hS,hq2,hr,hK⟩:=hrel;by_cases hjM:j<M
        . have hne:Mj≠[]:=fun e=>by rw[e]at hMl;simp at hMl;omega
          obtain⟨gP,cap,e5,hmP,-⟩:=hG.own hne;injection e5 with e5 e6 e7;subst e5;obtain⟨b5,o5,ea5,hb5,d0⟩:=(Ri.kept HRF.out hK HBF2.out).get j (by rw[HNA.out];have:=HMP1.out;omega);rw[ze3,<-HFF.out j (by rw[HM.out];exact hjM)]at d0;subst ea5;have hfb:fs.getD j 0<256:=HBF.out.getD j;obtain⟨zcn,zf9⟩:=zhp 4 32 fs XX.2 0 j (by rw[HM.out];exact hjM);have hyl:=znt (sh:=4) (sm:=32) (fs:=fs) HB2.out j (by rw[HM.out];exact hjM);rw[<-HYE.out]at zcn hyl;rw[<-hr]at zcn zf9;have hst:=zq1 (fs.getD j 0) g pa pc xs q2 wr hS (by omega) hfb;have hdl:=zi1 (fs.getD j 0) 4 32 (hS.rb.lim.drop q2);obtain⟨f,hf⟩:∃f,fs.getD j 0=f:=⟨_,rfl⟩;rw[hf]at d0 zcn zf9 hst hfb hdl;rw[<-hy]at zcn;have zqd:Hid (_):=zf9;obtain⟨dd,hdd⟩:∃d,(dfR f 4 32 (xs.drop q2)).1=d:=⟨_,rfl⟩;rw[hdd]at zcn hst hdl;obtain⟨y2,hy2⟩:∃z,y+dd=z:=⟨_,rfl⟩;rw[hy2]at zcn;have HY2:Hid (YY.1.getD j 0=y2):=zcn;rw[zcn]at hyl;have hy2b:-9223372036854775808<=y2/\y2<=9223372036854775807:=(by omega);have z1z:I64 y2:=hy2b;have i1:(0:Int)<=(j:Int):=(by omega);have i2:(j:Int)<(M:Int):=(by omega);have i3:(j:Int)<(acc.length:Int):=(by have:=HMP1.out;omega);have HMJ:Hid (∀i,i<M->Mj.getD i Pn.none=pYk XX.1 YY.1 fs j i):=hMj;clear hr zcn zf9 hy hf hdd hMj hyl e6 e7 hne;go_wp2_with fail
          refine hst.mono ?_;rintro e s1 ⟨jj,hjj,rfl,hqe,hS1,hK1⟩;have hG1:=hG.kp hS.bk (by decide) hK1;have hK2:=hK.trans hK1;have HQ3:Hid (xs.drop (q2+jj)=rdR 4 32 fs XX.2 0 (j+1)):=(by show _=_;rw[zqd.out,<-hqe]);clear hst hS hK hK1 hG hqe d0;have hjL:j<Mj.length:=(by rw[hMl];exact hjM);obtain⟨_,sy,_,fz,c0,c1,c2⟩:=hG1.pnSet (k:=j) hjL;have hGa:=sy y2 z1z;have zor:Hid (∀i,i<M->(Mj.set j ⟨(Mj.getD j Pn.none).x,y2,(Mj.getD j Pn.none).on⟩).getD i Pn.none=pYk XX.1 YY.1 fs (j+1) i):=fun i hi=>by
           rw[zdr hjL];by_cases hij:i=j
           . rw[if_pos hij,hij,HMJ.out j hjM]
             simp only[pYk,if_pos (show j<j+1 by omega),HY2.out]
           . rw[if_neg hij,HMJ.out i hi]
             unfold pYk;by_cases h1:i<j
             . rw[if_pos h1,if_pos (by omega)]
             . rw[if_neg h1,if_neg (by omega)]
          have hS3:=hS1.other (j*3+1) (.int .i64 y2) (b:=gP) (by omega) (fun b o e hne=>by have:=HPB.out b o e hne;have:=HWR.out;have:=z31.out;omega);have hK3:=hK2.other (b:=gP) (j*3+1) (.int .i64 y2) hmP;have HLL2:Hid ((Mj.set j ⟨(Mj.getD j Pn.none).x,y2,(Mj.getD j Pn.none).on⟩).length=M):=(by show _=_;rw[List.length_set,hMl]);have hfz1:=fz (j*3+1);have HYK:Hid (y2=(if j+1=0 then 0 else YY.1.getD (j+1-1) 0)):=(by show _=_;rw[if_neg (by omega),Nat.add_sub_cancel,HY2.out]);have HGA:Hid (_):=hGa;have HS3:Hid (_):=hS3;have HK3:Hid (_):=hK3;clear sy fz hGa hG1 hS1 hK2 HMJ hMl hjL zqd hdl z1z hS3 hK3;go_wp2;go_roundw
          case rel=>exact⟨j+1,q2+jj,y2,_,by omega,by go_num,rfl,HYK.out,HLL2.out,zor.out,HGA.out,HS3.out,by omega,HQ3.out,HK3.out⟩
          case measure=>simp[intOf];omega
        . obtain rfl:M=j:=by omega
          have g2:¬(M:Int)<(M:Int):=(by omega);have hME:Mj=LS:=(by rw[HLS.out];exact z1r HXL.out HYL.out (by rw[hMl,HM.out]) (fun i hi=>by rw[HM.out]at hi ⊢;exact hMj i hi));subst hME;obtain⟨a9,c9,ev,hgr,hb9⟩:=hG.slice;rw[hMl]at ev;injection ev with e1 e2 e3;subst e1 e3
          have HRE4:Hid (Ri wr ea ec (nI es)):=Ri.kept HRE2.out hK HBE2.out;have HBE4:Hid (∀b o,ea=some ⟨b,o,none⟩->b<wr.heap.size):=fun b o e=>by have:=(HBE2.out b o e).1;have:=hK.size;omega
          have HLS4:Hid (Gr PnE (fun _=>False) wr aL cL Mj):=hgr;have HBL4:Hid (∀b o,aL=some ⟨b,o,none⟩->b<wr.heap.size):=fun b o e=>(hb9 b o e).2;have HX4:Hid (Bk 57 wr w.heap.size [.slice none 0 0,.slice none 0 0]):=((HX.out.kp HK1.out (by omega)).kp HK2.out (by omega)).kp hK (by omega);have HK4:Hid (Kp g w wr):=((HKW.out.trans HK1.out).trans HK2.out).trans hK;have HML:Hid (Mj.length=M):=hMl;have hw4:w.heap.size<wr.heap.size:=(by have:=HWR.out;have:=z31.out;have:=hK.size;omega);clear hG hgr hb9 hS hr hy hMj hK hMl HRE HRE2 HRF HK2 HK1 HX
          rename World=>m4
          obtain⟨V,hV,X5,hbV⟩:∃V,V=m4.alloc (.cells #[.slice none 0 0,.slice none 0 0] 57)/\Bk 57 V m4.heap.size [.slice none 0 0,.slice none 0 0]/\Below m4.heap.size m4 V:=⟨_,rfl,Bk.new _ _ _,bl1 _⟩;have HX5:Hid (Bk 57 V m4.heap.size [.slice none 0 0,.slice none 0 0]):=X5;have HX0:Hid (Bk 57 V w.heap.size [.slice none 0 0,.slice none 0 0]):=HX4.out.below hbV;have HRE5:Hid (Ri V ea ec (nI es)):=HRE4.out.below hbV;have HLS5:Hid (Gr PnE (fun _=>False) V aL cL Mj):=HLS4.out.below hbV;have HK5:Hid (Kp g w V):=HK4.out.trans (Kp.of hbV);have HBE5:Hid (∀b o,ea=some ⟨b,o,none⟩->b<V.heap.size/\b≠m4.heap.size):=fun b o e=>by have:=HBE4.out b o e;have:=hbV.size;exact⟨by omega,by omega⟩
          have HVL:Hid (m4.heap.size<V.heap.size):=X5.lt;have HBL5:Hid (∀b o,aL=some ⟨b,o,none⟩->b<V.heap.size/\b≠m4.heap.size):=fun b o e=>by have:=HBL4.out b o e;have:=hbV.size;exact⟨by omega,by omega⟩
          clear X5 hbV HX4 HRE4 HLS4 HK4 HBE4 HBL4;go_upto_region 32 with fail
          rw[<-hV];clear hV;go_wp2
          go_loopw [18,19] (fun fv i wr=>∃(k f:Nat) (D:List (List Pn)) (v:Value),k<=N/\i=.int .i64 k/\fv=.int .i64 f/\CutI es Mj k f D/\f<=M/\D.length=k/\Gw PnE.row 63 V.heap.size (fun b=>V.heap.size<=b/\b<wr.heap.size) wr v D/\Bk 57 wr m4.heap.size [v,.slice none 0 0]/\Kp m4.heap.size V wr) (fun _ i _=>N-(intOf i).toNat)
          case atStart=>exact⟨0,0,[],_,qD _,rfl,rfl,CutI.zero _ _,qD _,rfl,Gw.nil _ _ _ _ _,HX5.out,Kp.refl _ _⟩
          case round =>
           obtain⟨k,f,D,v,hk,rfl,rfl,hCI,hfM,hDl0,hG,hX,hK⟩:=hrel;have HDL:Hid (D.length=k):=hDl0;clear hDl0;obtain⟨p0,p1,z0,z1⟩:=hX.two;have hX0:=HX0.out.kp hK (by omega);obtain⟨r0,r1,y0,y1⟩:=hX0.two;have HKF:Hid (Kp g w wr):=z1t HK5.out hK (by omega);by_cases hkn:k<N
           . have gk:(k:Int)<n:=by have:=HN2.out;omega
             obtain⟨b0,o0,e0,hb0,d0⟩:=(Ri.kept HRE5.out hK HBE5.out).get k (by rw[HNL.out];exact hkn);rw[ze3]at d0;subst e0;have heb:=HEB.out k hkn;have HCB:Hid (es.getD k 0<f\/Mj.length<=es.getD k 0->cutC es 0 Mj=none):=fun h=>CutI.bad hCI (by rw[HEL.out];exact hkn) h;have HCS:Hid (¬(es.getD k 0<f\/Mj.length<=es.getD k 0)->CutI es Mj (k+1) (es.getD k 0+1) (D++[(Mj.drop f).take (es.getD k 0+1-f)])):=fun h=>CutI.step hCI (by rw[HEL.out];exact hkn) h;rw[HML.out]at HCB HCS;obtain⟨ed,hed⟩:∃z,es.getD k 0=z:=⟨_,rfl⟩;rw[hed]at d0 heb HCB HCS;have HED:Hid (es.getD k 0=ed):=hed;have i1:(0:Int)<=(k:Int):=(by omega);have i2:(k:Int)<(N:Int):=(by omega);clear hed hCI;by_cases zn0:ed<f\/M<=ed
             . have HNO:Hid (CC=Ol.none):=by show _=_;rw[HCC.out,HCB.out zn0]
               have HU:Hid (Kp g w ((wr.setCell ⟨w.heap.size,0,none⟩ (.slice none 0 0)).setCell ⟨w.heap.size,1,none⟩ (.slice none 0 0))):=(HKF.out.other (b:=w.heap.size) 0 _ (qE _)).other (b:=w.heap.size) 1 _ (qE _);have hXU:Bk 57 ((wr.setCell ⟨w.heap.size,0,none⟩ (.slice none 0 0)).setCell ⟨w.heap.size,1,none⟩ (.slice none 0 0)) w.heap.size [.slice none 0 0,.slice none 0 0]:=(hX0.set 0 (.slice none 0 0)).set 1 (.slice none 0 0);have HXU:Hid (Bk 57 ((wr.setCell ⟨w.heap.size,0,none⟩ (.slice none 0 0)).setCell ⟨w.heap.size,1,none⟩ (.slice none 0 0)) w.heap.size [.slice none 0 0,.slice none 0 0]):=hXU;by_cases hb1:ed<f
               . have gb:(ed:Int)<(f:Int):=by omega
                 clear zn0 hb1 hG hK hX hX0 hXU;go_wp2;exact bodyPost_ret (v:=.agg #[.slice none 0 0,.slice none 0 0]) (by obtain⟨x0,x1,_⟩:=HXU.out.two;simp[results,results95,go_sem,x0,x1]) rfl ⟨none,0,by rw[HNO.out];rfl,by rw[HNO.out];exact Gr.nil _ _ _ _ _ (qD _) (fun _=>rfl),(fun b o e=>by cases e),HU.out⟩
               . have gb:¬(ed:Int)<(f:Int):=by omega
                 have gc:(ed:Int) ≥ (M:Int):=(by omega);clear zn0 hb1 hG hK hX hX0 hXU;go_wp2;exact bodyPost_ret (v:=.agg #[.slice none 0 0,.slice none 0 0]) (by obtain⟨x0,x1,_⟩:=HXU.out.two;simp[results,results95,go_sem,x0,x1]) rfl ⟨none,0,by rw[HNO.out];rfl,by rw[HNO.out];exact Gr.nil _ _ _ _ _ (qD _) (fun _=>rfl),(fun b o e=>by cases e),HU.out⟩
             . have gb:¬(ed:Int)<(f:Int):=by omega
               have gc:¬(ed:Int) ≥ (M:Int):=(by omega);have HCN:Hid (CutI es Mj (k+1) (ed+1) (D++[(Mj.drop f).take (ed+1-f)])):=HCS.out zn0;have hfe:f<=ed/\ed<M:=(by omega);clear zn0 HCB HCS;obtain⟨bL,oL,eL,hbL⟩:=HLS5.out.blk (fun e=>by have:=HML.out;rw[e]at this;simp at this;omega);subst eL;have hcap:M<=cL:=(by have:=HLS5.out.1;rw[HML.out]at this;exact this);have hcm:=HLS5.out.2.1;unfold maxLen at hcm;obtain⟨e1,he1⟩:∃x,ed+1=x:=⟨_,rfl⟩;rw[he1]at HCN;have hee:(ed:Int)+1=(e1:Int):=(by omega);have HE1:Hid (ed+1=e1):=he1;have hbl:=HBL5.out bL oL rfl;have hgr0:Gr PnE (fun _=>False) wr (some ⟨bL,oL,none⟩) cL Mj:=HLS5.out.stay hK.size (fun k hk=>hk.elim) (fun b o e _ _=>by cases e;exact hK.block hbl.1 hbl.2);have hgr1:=(hgr0.from f (by rw[HML.out];omega)).take (e1-f);have hgr2:Gr PnE (fun k=>False/\(Value.slice none 0 0).ownBlock≠some k) wr (some ⟨bL,oL+f*3,none⟩) (cL-f) ((Mj.drop f).take (e1-f)):=hgr1.anyP;have hKl:e1-f=((Mj.drop f).take (e1-f)).length:=(by rw[qL,qJ,HML.out];omega);have HKL:Hid (((Mj.drop f).take (e1-f)).length<=100):=(by show _<=_;rw[<-hKl];omega);have j1:(0:Int)<=(f:Int):=(by omega);have j2:(f:Int)<=(e1:Int):=(by omega);have j3:(e1:Int)<=(cL:Int):=(by omega);have j4:¬cL=f:=(by omega);have hDD:D.length+1<=1000000:=(by rw[HDL.out];omega);have HEF:Hid (f<=ed/\ed<M):=hfe;clear hgr0 hgr1 hfe he1 r0 r1 y0 y1 hX0;generalize (Mj.drop f).take (e1-f)=K1 at *;have z2b:([]:List Pn).length+K1.length<=1000000:=(by have:=HKL.out;simp;omega);go_wp2_with (at_builtin;refine zab 63 65 underlying63 zdo rfl (by decide) (by decide) rfl _ _ rfl wr.heap.size (fun _=>False) (.slice none 0 0) [] rfl (Gw.nil _ _ _ _ _) (some ⟨bL,oL+f*3,none⟩) (cL-f) K1.length K1 rfl rfl hgr2 z2b (qE _) ?_)
               intro v1 w1 hC hg1 _;try rw[List.nil_append]at hC
               have hb1:Below wr.heap.size wr w1:=(Below.refl _ _).grown hg1 (qE _) (fun k hk=>by cases hk);obtain⟨a13,c13,rfl,zph,z0x⟩:=hC.slice;have hX1:=hX.below hb1;clear hg1 hgr2 z2b p0 p1 z0 z1;obtain⟨p0,p1,z0,z1⟩:=hX1.two;have bp:=bl1 (w:=w1) (.cells #[.slice a13 K1.length c13] 63);have hG1:=(hG.below hb1).below bp;have hG2:Gw PnE.row 63 V.heap.size (fun b=>V.heap.size<=b/\b<(w1.alloc (.cells #[.slice a13 K1.length c13] 63)).heap.size) (w1.alloc (.cells #[.slice a13 K1.length c13] 63)) v D:=hG1.widen (fun k h1 h2=>⟨h1.1,h2⟩);have hVb:=hC.below bp;have z2e:=zph.below bp;have hsz:=hK.size;have hsz1:=hb1.size;have zhy:PnE.row.rep (fun k=>(V.heap.size<=k/\k<(w1.alloc (.cells #[.slice a13 K1.length c13] 63)).heap.size)/\v.ownBlock≠some k) (w1.alloc (.cells #[.slice a13 K1.length c13] 63)) [.slice a13 K1.length c13] K1:=by
                refine⟨a13,c13,rfl,fun b o e hne=>?_,z2e.anyP,by have:=HKL.out;omega⟩;have hbb:=z0x b o e;have hsz2:=bp.size;refine⟨⟨by omega,by omega⟩,fun e2=>?_⟩;exact hG2.ne hVb (by decide) e2 (by rw[e];rfl)
               have hN9:=Bk.new 63 w1 [.slice a13 K1.length c13]
               have zar:=Gr.one (E:=PnE.row) zhy hN9.lt (fun jj hjj=>by
                obtain rfl:jj=0:=by have h1:jj<1:=hjj;omega
                exact hN9.cell 0 (by simp))
               have hXb:=hX1.below bp;have hKb:Kp m4.heap.size V (w1.alloc (.cells #[.slice a13 K1.length c13] 63)):=(hK.trans (Kp.of hb1)).trans (Kp.of bp);have hbs:=hKb.size;clear hN9 zhy z2e hVb hG1 zph z0x hC hX hG bp hb1;go_wp2_with (at_builtin;refine zab 37 63 underlying37 zju rfl Nat.one_pos (by decide) rfl _ _ rfl V.heap.size _ v D rfl hG2 (some ⟨w1.heap.size,0,none⟩) 1 1 [K1] rfl rfl zar hDD hbs ?_)
               intro v9 w9 hT9 hgrow hown;obtain⟨a14,c14,e14,-,-⟩:=hT9.slice;generalize (D++[K1]).length=n14 at e14;subst e14;have hT8:=hT9.widen (S':=fun b=>V.heap.size<=b/\b<w9.heap.size) (fun k h1 h2=>⟨h1.1,h2⟩);have hX9:=hXb.grown hgrow (fun e=>by have:=(hG2.lo e).1;have:=HVL.out;omega);have hK9:Kp m4.heap.size V w9:=hKb.grown hgrow (fun k hk=>(hG2.lo hk).1);have hv9:(Value.slice a14 n14 c14).ownBlock≠some m4.heap.size:=fun e=>by have:=(hT9.lo e).1;have:=HVL.out;omega
               have hT7:Gw PnE.row 63 V.heap.size (fun b=>V.heap.size<=b/\b<(w9.setCell ⟨m4.heap.size,0,none⟩ (.slice a14 n14 c14)).heap.size) (w9.setCell ⟨m4.heap.size,0,none⟩ (.slice a14 n14 c14)) (.slice a14 n14 c14) (D++[K1]):=hT8.stay (by simp[World.setCell]) (fun k h1 _ h2=>⟨⟨h1.1,by simpa [World.setCell] using h1.2⟩,Below.heap_setCell _ _ _ _ (fun e=>by have h3:k=m4.heap.size:=e;have:=h1.1;have:=HVL.out;omega)⟩) (fun k hk=>Below.heap_setCell _ _ _ _ (fun e=>hv9 (by rw[hk];exact congrArg some e)));have hX7:=hX9.set 0 (.slice a14 n14 c14);have hK7:=hK9.setCell 0 (.slice a14 n14 c14);obtain⟨p2,p3,z2,z3⟩:=hX9.two;clear hgrow hown hG2 zar hbs hXb hKb hT9 hT8 hX9 hK9 hK hX1 hDD;go_upto_region 41 with fail
               generalize w9.setCell ⟨m4.heap.size,0,none⟩ (.slice a14 n14 c14)=U at hT7 hX7 hK7 ⊢;obtain⟨b6,o6,e6,hb6,d1⟩:=(Ri.kept HRE5.out hK7 HBE5.out).get k (by rw[HNL.out];exact hkn);cases e6;rw[ze3,HED.out]at d1;have HT7:Hid (Gw PnE.row 63 V.heap.size (fun b=>V.heap.size<=b/\b<U.heap.size) U (.slice a14 n14 c14) (D++[K1])):=hT7;have HX7:Hid (Bk 57 U m4.heap.size [(.slice a14 n14 c14),.slice none 0 0]):=hX7;have HK7:Hid (Kp m4.heap.size V U):=hK7;have HD7:Hid ((D++[K1]).length=k+1):=(by show _=_;rw[qA,HDL.out];rfl);clear hT7 hX7 hK7 p0 p1 p2 p3 z0 z1 z2 z3;go_wp2;go_roundw
               case rel=>exact⟨k+1,e1,D++[K1],(.slice a14 n14 c14),by omega,by go_num,rfl,HCN.out,by have:=HE1.out;have:=HEF.out;omega,HD7.out,HT7.out,HX7.out,HK7.out⟩
               case measure=>simp[intOf];omega
           . obtain rfl:N=k:=by omega
             have gk:¬(N:Int)<n:=(by omega);have hcu:cutC es 0 Mj=some D:=CutI.all (p:=f) (by rw[HEL.out];exact hCI);have HCD:Hid (CC.cs=D):=(by show _=_;rw[HCC.out,hcu]);obtain⟨a9,c9,rfl,zw0,hb9⟩:=hG.slice;have HU:Hid (Kp g w ((wr.setCell ⟨w.heap.size,0,none⟩ (.slice a9 D.length c9)).setCell ⟨w.heap.size,1,none⟩ (.slice none 0 0))):=(HKF.out.other (b:=w.heap.size) 0 _ (qE _)).other (b:=w.heap.size) 1 _ (qE _);have HXU:Hid (Bk 57 ((wr.setCell ⟨w.heap.size,0,none⟩ (.slice a9 D.length c9)).setCell ⟨w.heap.size,1,none⟩ (.slice none 0 0)) w.heap.size [.slice a9 D.length c9,.slice none 0 0]):=(hX0.set 0 (.slice a9 D.length c9)).set 1 (.slice none 0 0);have hsz:=hK.size;have HGU:Hid (Gr PnE.row (fun k=>w.heap.size<=k) ((wr.setCell ⟨w.heap.size,0,none⟩ (.slice a9 D.length c9)).setCell ⟨w.heap.size,1,none⟩ (.slice none 0 0)) a9 c9 D):=zw0.stay (by simp[World.setCell]) (fun k h1 h2=>⟨by have:=h1.1;have:=HVL.out;omega,(Below.heap_setCell _ _ _ _ (fun e=>by have h3:k=w.heap.size:=e;have:=h1.1;have:=HVL.out;omega)).trans (Below.heap_setCell _ _ _ _ (fun e=>by have h3:k=w.heap.size:=e;have:=h1.1;have:=HVL.out;omega))⟩) (fun b o e _ _=>(Below.heap_setCell _ _ _ _ (fun e4=>by have h3:b=w.heap.size:=e4;have:=(hb9 b o e).1;have:=HVL.out;omega)).trans (Below.heap_setCell _ _ _ _ (fun e4=>by have h3:b=w.heap.size:=e4;have:=(hb9 b o e).1;have:=HVL.out;omega)));have HBU:Hid (∀b o,a9=some ⟨b,o,none⟩->w.heap.size<=b/\b<((wr.setCell ⟨w.heap.size,0,none⟩ (.slice a9 D.length c9)).setCell ⟨w.heap.size,1,none⟩ (.slice none 0 0)).heap.size):=fun b o e=>⟨by have:=(hb9 b o e).1;have:=HVL.out;omega,by have:=(hb9 b o e).2;simpa [World.setCell] using this⟩;clear hG zw0 hb9 hX hK hX0 hCI hcu;go_wp2;exact bodyPost_ret (v:=.agg #[.slice a9 D.length c9,.slice none 0 0]) (by obtain⟨x0,x1,_⟩:=HXU.out.two;simp[results,results95,go_sem,x0,x1]) rfl ⟨a9,c9,by rw[HCD.out],by rw[HCD.out];exact HGU.out,HBU.out,HU.out⟩
