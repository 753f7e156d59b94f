import Derived.Test.YtkmcodofnckdmaaGreatZK39
import Derived.Test.YtkmcodofnckdmaaGreatZK37
set_option maxHeartbeats 16000000
set_option maxRecDepth 100000
set_option linter.unusedSimpArgs false
set_option linter.unusedVariables false
namespace Go.Proofs.YtkmcodofnckdmaaGreat
open Tryz Go.RowKit Go.Maps
theorem z0b(kd:Nat)(x:Int):(enP kd x).length<=2:=by unfold enP be1 be2;split <;> simp
theorem zkq(a:OA)(cap:Nat)(l:LI)(w:World)(h:Ri w a cap l) :
 Calls Tryz.prog 84 #[.slice a l.length cap] w fun e w'=>∃v,e=.returned (.tuple #[v,.int .i64 (ppE l)])/\Bo w.heap.size w' v (ppB l)/\Below w.heap.size w w':=by
 have k2:=h.lenB;have hfo:=zhg a cap l w h;have HH:Hid (Ri w a cap l):=h;clear h;cases hc:ptB l with
 | false =>
  have HE:Hid (ppE l=1/\ppB l=[]):=⟨by simp[ppE,hc],by simp[ppB,hc]⟩;rw[hc]at hfo;clear hc;go_enter func84,ntmps84;go_wp2_with fail
  refine hfo.mono ?_;rintro e u1 ⟨rfl,hb1⟩;clear hfo;go_wp2;go_ret2;exact⟨.slice none 0 0,by rw[HE.out.1];rfl,by rw[HE.out.2];exact Bo.nil _ _,hb1⟩
 | true =>
  have HE:Hid (ppE l=0/\ppB l=cnE l.length++pk PP (stps 0 l)):=⟨by simp[ppE,hc],by simp[ppB,hc]⟩;have hl2:=(zb1 hc).2;have HPT:Hid (∀j,j<l.length->0<=l.getD j 0/\l.getD j 0<=65535/\(0<j->l.getD (j-1) 0<l.getD j 0)):=fun j hj=>znu hc hj;have HD:Hid (∀j,j<(stps 0 l).length->0<=(stps 0 l).getD j 0/\(stps 0 l).getD j 0<=65535):=fun j hj=>(zb1 hc).1 _ (by rw[qH,qG hj];exact List.getElem_mem hj);have HTL:Hid ((cnE l.length++pk PP (stps 0 l)).length<=7000):=by
   show _<=_;have:=zgk fitP (m:=3) (fun x _=>by show szP (kdP x)+1<=3;unfold szP;split <;> omega) _ (stps 0 l) rfl (zb1 hc).1;have h2:(cnE l.length).length<=2:=(by unfold cnE;split <;> simp);rw[zbj]at this;rw[qA];omega
  rw[hc]at hfo;clear hc;go_enter func84,ntmps84;go_wp2_with fail
  refine hfo.mono ?_;rintro e u1 ⟨rfl,hb1⟩;clear hfo;have HB1:Hid (Below w.heap.size w u1):=hb1;clear hb1
  go_upto_if 16 with fail
  go_cut [4]from 14 to 37 (fun v wx=>Bo u1.heap.size wx v (cnE l.length)/\Below u1.heap.size u1 wx)
  case first =>
   by_cases z0y:128<=l.length
   . have g1:(128:Int)<=(l.length:Int):=by omega
     obtain⟨z1,hz1⟩:∃z:Nat,z=128+l.length/256:=⟨_,rfl⟩;obtain⟨z2,hz2⟩:∃z:Nat,z=l.length%256:=⟨_,rfl⟩;have HC:Hid (cnE l.length=[z1,z2]):=(by show _=_;rw[cnE,if_neg (by omega),hz1,hz2]);have e1:128+(l.length:Int)/256=(z1:Int):=(by omega);have e2:(l.length:Int).tmod 256=(z2:Int):=(by rw[zeg (by omega)];omega);have b1:z1<256:=(by omega);have b2:z2<256:=(by omega);have hl1:[z1].length+1<=1000000:=(by simp);have hT:Bo u1.heap.size u1 (.slice none 0 0) []:=Bo.nil _ _;have hBu:Below u1.heap.size u1 u1:=Below.refl _ _;clear z0y hz1 hz2;have hT5:=hT.below (bl1 (.cells #[.int .u8 (z1:Int)] 5));have hN:=heap_alloc_new u1 (.cells #[.int .u8 (z1:Int)] 5);have n0:=cell_of_row _ u1.heap.size 0 _ _ (0,0) hN;have hbs:u1.heap.size<=(u1.alloc (.cells #[.int .u8 (z1:Int)] 5)).heap.size:=qF hBu.size (bl1 _).size;clear hN;go_wp2_with (at_builtin;refine zaj rfl _ _ rfl u1.heap.size _ [] rfl hT5 u1.heap.size z1 rfl n0 b1 (by decide) hbs ?_)
     intro v' w9 hT9 hgrow;have hB9:Below u1.heap.size u1 w9:=(hBu.alloc hBu.size _).grown hgrow hbs (fun k hk=>(hT.lo hk).1);clear hgrow hT5 n0 hbs hT hBu;obtain⟨a3,c3,rfl,_⟩:=hT9.slice;have hBu:=hB9;have hT95:=hT9.below (bl1 (.cells #[.int .u8 (z2:Int)] 5));have hN:=heap_alloc_new w9 (.cells #[.int .u8 (z2:Int)] 5);have n0:=cell_of_row _ w9.heap.size 0 _ _ (0,0) hN;have hbs:u1.heap.size<=(w9.alloc (.cells #[.int .u8 (z2:Int)] 5)).heap.size:=qF hBu.size (bl1 _).size;clear hN;go_wp2_with (at_builtin;refine zaj rfl _ _ rfl u1.heap.size _ [z1] rfl hT95 w9.heap.size z2 rfl n0 b2 hl1 hbs ?_)
     intro v' w10 zzt hgrow;have zh0:Below u1.heap.size u1 w10:=(hB9.alloc hB9.size _).grown hgrow hbs (fun k hk=>(hT9.lo hk).1);clear hgrow hT95 n0 hbs;go_wp2;go_meet;exact⟨by rw[HC.out];exact zzt,zh0⟩
   . have g1:¬(128:Int)<=(l.length:Int):=by omega
     obtain⟨z1,hz1⟩:∃z:Nat,z=l.length:=⟨_,rfl⟩;have HC:Hid (cnE l.length=[z1]):=(by show _=_;rw[cnE,if_pos (by omega),hz1]);have b1:z1<256:=(by omega);have e1:(l.length:Int)=(z1:Int):=(by omega);have hT:Bo u1.heap.size u1 (.slice none 0 0) []:=Bo.nil _ _;have hBu:Below u1.heap.size u1 u1:=Below.refl _ _;subst hz1;have hT5:=hT.below (bl1 (.cells #[.int .u8 (l.length:Int)] 5));have hN:=heap_alloc_new u1 (.cells #[.int .u8 (l.length:Int)] 5);have n0:=cell_of_row _ u1.heap.size 0 _ _ (0,0) hN;have hbs:u1.heap.size<=(u1.alloc (.cells #[.int .u8 (l.length:Int)] 5)).heap.size:=qF hBu.size (bl1 _).size;clear hN;go_wp2_with (at_builtin;refine zaj rfl _ _ rfl u1.heap.size _ [] rfl hT5 u1.heap.size l.length rfl n0 b1 (by decide) hbs ?_)
     intro v' w9 hT9 hgrow;have hB9:Below u1.heap.size u1 w9:=(hBu.alloc hBu.size _).grown hgrow hbs (fun k hk=>(hT.lo hk).1);clear hgrow hT5 n0 hbs hT hBu;go_wp2;go_meet;exact⟨by rw[HC.out];exact hT9,hB9⟩
  case rest =>
  obtain⟨hBo,hBu⟩:=hcut;go_wp2
  go_loopw [5,6] (fun v ii wr=>∃k:Nat,k<=l.length/\ii=.int .i64 (k:Int)/\Io u1.heap.size wr v (stpK l k)/\Bo u1.heap.size wr u4 (cnE l.length)/\Below u1.heap.size u1 wr) (fun _ ii _=>l.length-(intOf ii).toNat)
  case atStart=>exact⟨0,qD _,rfl,Io.nil _ _,hBo,hBu⟩
  case round =>
   clear hBo hBu;obtain⟨k,hk,rfl,hIo,hBo,hBu⟩:=hrel;by_cases hkn:k<l.length
   . have hbW:=HB1.out.trans (hBu.mono HB1.out.size)
     obtain⟨b,off,ea,hb,d0⟩:=HH.out.at hbW k hkn;subst ea;obtain⟨av,cv,rfl,_⟩:=hIo.slice;have hll:(stpK l k).length+1<=1000000:=(by rw[zew];omega);have hpk:=HPT.out k hkn;by_cases hk0:k=0
     . have HS:Hid (stpK l (k+1)=stpK l k++[l.getD k 0]):=by show _=_;rw[zhc,if_pos hk0,hk0]
       have HLK:Hid ((stpK l k).length=k):=zew l k;have g1:¬(0:Int)<(k:Int):=(by omega);obtain⟨x,hx⟩:∃x,l.getD k 0=x:=⟨_,rfl⟩;rw[hx]at HS d0 hpk;have hxi:I64 x:=⟨by omega,by omega⟩;clear hx hk0 hpk;have zbv:=hIo.below (bl1 (.cells #[.int .i64 x] 3));have zvn:=hBo.below (bl1 (.cells #[.int .i64 x] 3));have hN:=heap_alloc_new wr (.cells #[.int .i64 x] 3);have n0:=cell_of_row _ wr.heap.size 0 _ _ (0,0) hN;have hbs:u1.heap.size<=(wr.alloc (.cells #[.int .i64 x] 3)).heap.size:=qF hBu.size (bl1 _).size;clear hN;go_wp2_with (at_builtin;refine zad rfl _ _ rfl u1.heap.size _ (stpK l k) rfl zbv wr.heap.size x rfl n0 hxi hll hbs ?_)
       intro v' w9 hI9 hgrow;have hB9:Below u1.heap.size u1 w9:=(hBu.alloc hBu.size _).grown hgrow hbs (fun k hk=>hIo.lo hk);have hBo9:=zvn.grownI zbv hgrow;rw[<-HS.out]at hI9;clear hgrow zbv zvn n0 hbs hll hIo hBo;go_wp2;go_roundw
       case rel=>exact⟨k+1,by omega,by go_num,hI9,hBo9,hB9⟩
       case measure=>simp[intOf];omega
     . obtain⟨m,rfl⟩:∃m,k=m+1:=⟨k-1,by omega⟩
       have HS:Hid (stpK l (m+1+1)=stpK l (m+1)++[l.getD (m+1) 0-l.getD m 0]):=(by show _=_;rw[zhc l (m+1),if_neg hk0,Nat.add_sub_cancel]);have HLK:Hid ((stpK l (m+1)).length=m+1):=zew l (m+1);have hpm:=HPT.out m (by omega);rw[Nat.add_sub_cancel]at hpk;obtain⟨b',off',ea,_,d1⟩:=HH.out.at hbW m (by omega);cases ea;obtain⟨k,hkm⟩:∃k,m+1=k:=⟨_,rfl⟩;rw[hkm]at HS HLK hpk d0 hIo hll hkn hk ⊢;obtain⟨x,hx⟩:∃x,l.getD k 0=x:=⟨_,rfl⟩;obtain⟨y,hy⟩:∃x,l.getD m 0=x:=⟨_,rfl⟩;rw[hx]at HS d0 hpk;rw[hy]at HS d1 hpk hpm;obtain⟨z,hz⟩:∃z,x-y=z:=⟨_,rfl⟩;rw[hz]at HS;have hzi:I64 z:=⟨by omega,by omega⟩;have hwz:IntKind.i64.wrap z=z:=zcy hzi.1 (by have:=hzi.2;omega);have A0:Cl wr b (off+k) (.int .i64 x):=⟨World.block_lt_of_cell? wr _ d0,d0⟩;have A1:Cl wr b (off+m) (.int .i64 y):=⟨World.block_lt_of_cell? wr _ d1,d1⟩;have hmk:(k:Int)-1=(m:Int):=(by omega);have hwm:IntKind.i64.wrap (m:Int)=(m:Int):=zcy (by omega) (by omega);have i3:(0:Int)<=(m:Int):=(by omega);have i4:(m:Int)<(l.length:Int):=(by omega);have i5:(k:Int)<(l.length:Int):=(by omega);have i6:(0:Int)<=(k:Int):=(by omega);have g1:(0:Int)<(k:Int):=(by omega);have hbR:=hBu;clear hx hy hpk hpm hk0 hBu;go_upto_region 14 with fail
       refine wp_region_held_drew (S:=(fun u=>u.cell? ⟨b,off+k,none⟩=some (.int .i64 x)/\u.cell? ⟨b,off+m,none⟩=some (.int .i64 y))) (by kernel_rfl) ?_ (fun hH=>?_)
       . (try dsimp only)
         go_keep
       have hdr:Below wr.heap.size wr wr.drew:=Below.drew1;generalize wr.drew=ud1 at hdr hH ⊢;replace A0:=A0.below hdr;replace A1:=A1.below hdr;replace hIo:=hIo.below hdr;replace hBo:=hBo.below hdr;replace hbW:Below w.heap.size w ud1:=hbW.trans (hdr.mono hbW.size);replace hbR:Below u1.heap.size u1 ud1:=hbR.trans (hdr.mono hbR.size);clear hdr;refine hT 0 hH ?_;refine hT 1 hH ?_;refine hT 2 hH ?_;refine hT 3 hH ?_;refine hT 4 hH ?_;refine hT 5 hH ?_;refine hT 6 hH ?_;refine hT 7 hH ?_;refine hT 8 hH ?_;refine hT 9 hH ?_;refine hT 10 hH ?_;refine wpAnyH_done (by kernel_rfl) ?_ _;clear hH d0 d1;have hBu:=hbR;have zbv:=hIo.below (bl1 (.cells #[.int .i64 z] 3));have zvn:=hBo.below (bl1 (.cells #[.int .i64 z] 3));have hN:=heap_alloc_new ud1 (.cells #[.int .i64 z] 3);have n0:=cell_of_row _ ud1.heap.size 0 _ _ (0,0) hN;have hbs:u1.heap.size<=(ud1.alloc (.cells #[.int .i64 z] 3)).heap.size:=qF hBu.size (bl1 _).size;clear hN;go_wp2_with (at_builtin;refine zad rfl _ _ rfl u1.heap.size _ (stpK l k) rfl zbv ud1.heap.size z rfl n0 hzi hll hbs ?_)
       intro v' w9 hI9 hgrow;have hB9:Below u1.heap.size u1 w9:=(hBu.alloc hBu.size _).grown hgrow hbs (fun k hk=>hIo.lo hk);have hBo9:=zvn.grownI zbv hgrow;rw[<-HS.out]at hI9;clear hgrow zbv zvn n0 hbs hll hIo hBo A0 A1 hbR hBu;go_wp2;go_roundw
       case rel=>exact⟨k+1,by omega,by go_num,hI9,hBo9,hB9⟩
       case measure=>simp[intOf];omega
   . obtain rfl:k=l.length:=by omega
     rw[zqu]at hIo;obtain⟨ds,hds⟩:∃ds,stps 0 l=ds:=⟨_,rfl⟩;have hdl:ds.length=l.length:=(by rw[<-hds,zbj]);rw[hds]at hIo HTL HE HD;obtain⟨TOT,hTOT⟩:∃t,cnE l.length++pk PP ds=t:=⟨_,rfl⟩;have HTO:Hid (cnE l.length++pk PP (ds.drop 0)=TOT):=(by show _=_;rw[List.drop_zero];exact hTOT);rw[hTOT]at HTL HE;obtain⟨ad,cd,rfl,_⟩:=hIo.slice;have zw1:ds.length<=2000:=(by omega);have g1:¬(l.length:Int)<(l.length:Int):=(by omega);clear hds hTOT HPT hdl;go_wp2
     go_loopw [4,8] (fun v ii wr=>∃(i:Nat) (ys:LN),i<=ds.length/\ii=.int .i64 (i:Int)/\ys++pk PP (ds.drop i)=TOT/\Bo u1.heap.size wr v ys/\Io u1.heap.size wr (.slice ad ds.length cd) ds/\Below u1.heap.size u1 wr) (fun _ ii _=>ds.length-(intOf ii).toNat)
     case atStart=>exact⟨0,_,qD _,rfl,HTO.out,hBo,hIo,hBu⟩
     case round =>
      clear hBo hIo hBu HTO;obtain⟨i,ys,hi,rfl,zhx,hBo,hIo,hBu⟩:=hrel;have HT:Hid (ys++pk PP (ds.drop i)=TOT):=zhx;have hyl:ys.length+(pk PP (ds.drop i)).length<=7000:=(by have:=HTL.out;rw[<-zhx,qA]at this;exact this);clear zhx;by_cases hin:i<ds.length;rotate_left
      . obtain rfl:i=ds.length:=by omega
        have HY:Hid (ys=TOT):=(by show _=_;rw[<-HT.out,List.drop_length];simp[zkz]);obtain⟨a2,c2,rfl,hrb⟩:=hBo.slice;have hbW:=HB1.out.trans (hBu.mono HB1.out.size);have g2:¬(ds.length:Int)<(ds.length:Int):=(by omega);go_wp2;go_ret2;exact⟨.slice a2 ys.length c2,by rw[HE.out.1];rfl,by rw[HE.out.2,<-HY.out];exact ztv hBo HB1.out.size,hbW⟩
      have g2:(i:Int)<(ds.length:Int):=(by omega);obtain⟨wo,rfl⟩:∃wo,wo=wr:=⟨_,rfl⟩;have HBo:Hid (Below w.heap.size w wo):=HB1.out.trans (hBu.mono HB1.out.size);obtain⟨av,cv,rfl,_⟩:=hBo.slice;obtain⟨_,_,e9,hri⟩:=hIo.slice;cases e9;have HBo0:Hid (Bo u1.heap.size wo (.slice av ys.length cv) ys):=hBo;have HIo:Hid (Io u1.heap.size wo (.slice ad ds.length cd) ds):=hIo;have HRI:Hid (Ri wo ad cd ds):=hri;have HBu:Hid (Below u1.heap.size u1 wo):=hBu;clear hBo hBu hIo hri
      go_upto_block 4 with fail
      go_cut [9]from 64 to 128 (fun s9 wx=>∃e:Nat,s9=.int .i64 (e:Int)/\rn PP.c PP.M (ds.drop i)=e-i/\i<e/\e<=ds.length/\Below wo.heap.size wo wx)
      case first =>
       go_wp2_with fail
       go_loopw [9] (fun s9 wr=>∃e:Nat,i<=e/\e<=i+128/\e<=ds.length/\s9=.int .i64 (e:Int)/\(∀j,i<=j->j<e->kdP (ds.getD j 0)=kdP (ds.getD i 0))/\Below wo.heap.size wo wr) (fun s9 _=>ds.length-(intOf s9).toNat)
       case atStart=>exact⟨i,qE _,by omega,hi,rfl,(fun j h1 h2=>by omega),Below.refl _ _⟩
       case round =>
        obtain⟨e,he1,he2,hle,rfl,hsm,hbR⟩:=hrel;have HSM:Hid (∀j,i<=j->j<e->kdP (ds.getD j 0)=kdP (ds.getD i 0)):=hsm;have hbW:=HBo.out.trans (hbR.mono HBo.out.size);clear hsm;have j1:(i:Int)<(ds.length:Int):=(by omega);by_cases h1:e<ds.length
        . by_cases h2:e<i+128
          . obtain⟨b,off,ea,hb,d0⟩:=HRI.out.at hbR e h1
            obtain⟨b',off',ea',_,d1⟩:=HRI.out.at hbR i hin;rw[ea]at ea';cases ea';subst ea;have HD:Hid (kdP (ds.getD e 0)≠kdP (ds.getD i 0)->rn PP.c PP.M (ds.drop i)=e-i/\i<e):=fun h=>by
             have hie:i<e:=by
              rcases Nat.lt_or_ge i e with h1|h1
              . exact h1
              . exact absurd (by rw[show e=i by omega]) h
             exact⟨zct (P:=PP) hie (by show e<=i+128;omega) (by omega) HSM.out (.inr (.inr h)),hie⟩
            obtain⟨x,hx⟩:∃x,ds.getD e 0=x:=⟨_,rfl⟩;obtain⟨y,hy⟩:∃x,ds.getD i 0=x:=⟨_,rfl⟩;have HK:Hid (kdP x=kdP y->∀j,i<=j->j<e+1->kdP (ds.getD j 0)=kdP (ds.getD i 0)):=fun h j hj1 hj2=>by
             rcases Nat.lt_or_ge j e with h1|h1
             . exact HSM.out j hj1 h1
             . rw[show j=e by omega,hx,hy];exact h
            rw[hx]at d0 HD;rw[hy]at d1 HD;have A0:Cl wr b (off+e) (.int .i64 x):=⟨World.block_lt_of_cell? wr _ d0,d0⟩;have A1:Cl wr b (off+i) (.int .i64 y):=⟨World.block_lt_of_cell? wr _ d1,d1⟩;clear d0 d1 hx hy;have q0:=A0.2;have q1:=A1.2;have hw64:IntKind.i64.wrap ((i:Int)+128)=(i:Int)+128:=zcy (by omega) (by omega);have g1:decide (e<ds.length)=true:=qC h1;have g2:decide ((e:Int)<(i:Int)+128)=true:=qC (by omega);have j2:(e:Int)<(ds.length:Int):=(by omega);have j3:(0:Int)<=(e:Int):=(by omega);have j4:(0:Int)<=(i:Int):=(by omega);have hka:=fun U=>(zev x U).mono fun e w' (h:_/\_)=>(⟨h.1,h.2 ▸ Below.refl _ _⟩:_/\Below U.heap.size U w');have hkb:=fun U=>(zev y U).mono fun e w' (h:_/\_)=>(⟨h.1,h.2 ▸ Below.refl _ _⟩:_/\Below U.heap.size U w');by_cases h3:kdP x=kdP y
            . have zqc:Hid (∀j,i<=j->j<e+1->kdP (ds.getD j 0)=kdP (ds.getD i 0)):=HK.out h3
              have g3:(((kdP x:Nat):Int)==((kdP y:Nat):Int))=true:=(by simp[h3]);simp only[h3]at hka g3;generalize ((kdP y:Nat):Int)=cy at *;have g4:(cy==cy)=true:=(by simp);clear h3 HK HD HSM;go_upto_region 19 with fail
              refine wp_region_held_drew (S:=(fun u=>u.cell? ⟨b,off+e,none⟩=some (.int .i64 x)/\u.cell? ⟨b,off+i,none⟩=some (.int .i64 y))) (by kernel_rfl) ?_ (fun hH=>?_)
              . (try dsimp only)
                go_keep
              have hdr:Below wr.heap.size wr wr.drew:=Below.drew1;generalize wr.drew=ud2 at hdr hH ⊢;replace A0:=A0.below hdr;replace A1:=A1.below hdr;replace hbW:Below w.heap.size w ud2:=hbW.trans (hdr.mono hbW.size);replace hbR:Below wo.heap.size wo ud2:=hbR.trans (hdr.mono hbR.size);clear hdr;refine hT 0 hH ?_;refine hT 1 hH ?_;refine hT 2 hH ?_;refine hT 3 hH ?_;refine hT 4 hH ?_;refine hT 5 hH ?_;refine hT 6 hH ?_;refine hT 7 hH ?_;refine hT 8 hH ?_;refine hT 9 hH ?_;refine hT 10 hH ?_;refine hT 11 hH ?_;refine hT 12 hH ?_;refine hT 13 hH ?_;refine hT 14 hH ?_;refine hT 16 hH ?_;refine hT 17 hH ?_;refine hT 18 hH ?_;refine hT 19 hH ?_;refine hCall (i:=15) rfl (by kernel_rfl) (by rfl) (fun K hK=>?_);go_simp;refine(hka _).mono ?_;rintro e u1 ⟨rfl,hb1⟩;replace A0:=A0.below hb1;replace A1:=A1.below hb1;replace hbW:Below w.heap.size w u1:=hbW.trans (hb1.mono hbW.size);replace hbR:Below wo.heap.size wo u1:=hbR.trans (hb1.mono hbR.size);clear hb1;go_wp2_with fail
              refine hK.out _ _ ?_ (fun hH=>?_)
              . (try dsimp only)
                exact⟨A0.2,A1.2⟩
              clear hK K;try simp only[Act.put,pZ]
              refine hCall (i:=20) rfl (by kernel_rfl) (by rfl) (fun K hK=>?_);go_simp;refine(hkb _).mono ?_;rintro e u2 ⟨rfl,hb2⟩;replace A0:=A0.below hb2;replace A1:=A1.below hb2;replace hbW:Below w.heap.size w u2:=hbW.trans (hb2.mono hbW.size);replace hbR:Below wo.heap.size wo u2:=hbR.trans (hb2.mono hbR.size);clear hb2;go_wp2_with fail
              refine hK.out _ _ ?_ (fun hH=>?_)
              . (try dsimp only)
                exact⟨A0.2,A1.2⟩
              clear hK K;try simp only[Act.put,pZ]
              refine hT 21 hH ?_;refine hT 22 hH ?_;refine wpAnyH_done (by kernel_rfl) ?_ _;clear hH;go_wp2_with fail
              go_roundw
              case rel=>exact⟨e+1,by omega,by omega,by omega,by go_num,zqc.out,hbR⟩
              case measure=>simp[intOf];omega
            . obtain⟨h5,h6⟩:=HD.out h3
              have HRN:Hid (rn PP.c PP.M (ds.drop i)=e-i):=h5;have HIE:Hid (i<e):=h6;have g3:(((kdP x:Nat):Int)==((kdP y:Nat):Int))=false:=beq_eq_false_iff_ne.2 (by omega);generalize ((kdP x:Nat):Int)=cx at *;generalize ((kdP y:Nat):Int)=cy at *;clear h3 HK HD HSM h5 h6;go_upto_region 19 with fail
              refine wp_region_held_drew (S:=(fun u=>u.cell? ⟨b,off+e,none⟩=some (.int .i64 x)/\u.cell? ⟨b,off+i,none⟩=some (.int .i64 y))) (by kernel_rfl) ?_ (fun hH=>?_)
              . (try dsimp only)
                go_keep
              have hdr:Below wr.heap.size wr wr.drew:=Below.drew1;generalize wr.drew=ud3 at hdr hH ⊢;replace A0:=A0.below hdr;replace A1:=A1.below hdr;replace hbW:Below w.heap.size w ud3:=hbW.trans (hdr.mono hbW.size);replace hbR:Below wo.heap.size wo ud3:=hbR.trans (hdr.mono hbR.size);clear hdr;refine hT 0 hH ?_;refine hT 1 hH ?_;refine hT 2 hH ?_;refine hT 3 hH ?_;refine hT 4 hH ?_;refine hT 5 hH ?_;refine hT 6 hH ?_;refine hT 7 hH ?_;refine hT 8 hH ?_;refine hT 9 hH ?_;refine hT 10 hH ?_;refine hT 11 hH ?_;refine hT 12 hH ?_;refine hT 13 hH ?_;refine hT 14 hH ?_;refine hT 16 hH ?_;refine hT 17 hH ?_;refine hT 18 hH ?_;refine hT 19 hH ?_;refine hCall (i:=15) rfl (by kernel_rfl) (by rfl) (fun K hK=>?_);go_simp;refine(hka _).mono ?_;rintro e u1 ⟨rfl,hb1⟩;replace A0:=A0.below hb1;replace A1:=A1.below hb1;replace hbW:Below w.heap.size w u1:=hbW.trans (hb1.mono hbW.size);replace hbR:Below wo.heap.size wo u1:=hbR.trans (hb1.mono hbR.size);clear hb1;go_wp2_with fail
              refine hK.out _ _ ?_ (fun hH=>?_)
              . (try dsimp only)
                exact⟨A0.2,A1.2⟩
              clear hK K;try simp only[Act.put,pZ]
              refine hCall (i:=20) rfl (by kernel_rfl) (by rfl) (fun K hK=>?_);go_simp;refine(hkb _).mono ?_;rintro e u2 ⟨rfl,hb2⟩;replace A0:=A0.below hb2;replace A1:=A1.below hb2;replace hbW:Below w.heap.size w u2:=hbW.trans (hb2.mono hbW.size);replace hbR:Below wo.heap.size wo u2:=hbR.trans (hb2.mono hbR.size);clear hb2;go_wp2_with fail
              refine hK.out _ _ ?_ (fun hH=>?_)
              . (try dsimp only)
                exact⟨A0.2,A1.2⟩
              clear hK K;try simp only[Act.put,pZ]
              refine hT 21 hH ?_;refine hT 22 hH ?_;refine wpAnyH_done (by kernel_rfl) ?_ _;clear hH;go_wp2_with fail
              go_meet;exact⟨e,rfl,HRN.out,HIE.out,hle,hbR⟩
          . have hie:i<e:=by omega
            have HRN:Hid (rn PP.c PP.M (ds.drop i)=e-i):=zct (P:=PP) hie (by show e<=i+128;omega) (by omega) HSM.out (.inl (by show e=i+128;omega));have HIE:Hid (i<e):=hie;have hw64:IntKind.i64.wrap ((i:Int)+128)=(i:Int)+128:=zcy (by omega) (by omega);have g1:decide (e<ds.length)=true:=qC h1;have g2:decide ((e:Int)<(i:Int)+128)=false:=qB (by omega);clear h1 h2 HSM hie;go_upto_region 19 with fail
            refine wp_region_held_drew (S:=(fun _=>True)) (by kernel_rfl) ?_ (fun hH=>?_)
            . (try dsimp only)
              all_goals go_keep
            have hdr:Below wr.heap.size wr wr.drew:=Below.drew1;generalize wr.drew=ud4 at hdr hH ⊢;replace hbW:Below w.heap.size w ud4:=hbW.trans (hdr.mono hbW.size);replace hbR:Below wo.heap.size wo ud4:=hbR.trans (hdr.mono hbR.size);clear hdr;refine hT 0 hH ?_;refine hT 1 hH ?_;refine hT 2 hH ?_;refine hT 3 hH ?_;refine hT 4 hH ?_;refine hT 5 hH ?_;refine hT 6 hH ?_;refine hT 7 hH ?_;refine hT 8 hH ?_;refine hT 9 hH ?_;refine hT 10 hH ?_;refine hN 11 hH ?_;refine hN 12 hH ?_;refine hN 13 hH ?_;refine hN 14 hH ?_;refine hN 15 hH ?_;refine hN 16 hH ?_;refine hN 17 hH ?_;refine hN 18 hH ?_;refine hN 19 hH ?_;refine hN 20 hH ?_;refine hN 21 hH ?_;refine hT 22 hH ?_;refine wpAnyH_done (by kernel_rfl) ?_ _;clear hH;go_wp2_with fail
            go_meet;exact⟨e,rfl,HRN.out,HIE.out,hle,hbR⟩
        . have hie:i<e:=by omega
          have HRN:Hid (rn PP.c PP.M (ds.drop i)=e-i):=zct (P:=PP) hie (by show e<=i+128;omega) (by omega) HSM.out (.inr (.inl (by omega)));have HIE:Hid (i<e):=hie;have g1:decide (e<ds.length)=false:=qB h1;clear h1 HSM hie;go_upto_region 19 with fail
          refine wp_region_held_drew (S:=(fun _=>True)) (by kernel_rfl) ?_ (fun hH=>?_)
          . (try dsimp only)
            all_goals go_keep
          have hdr:Below wr.heap.size wr wr.drew:=Below.drew1;generalize wr.drew=ud5 at hdr hH ⊢;replace hbW:Below w.heap.size w ud5:=hbW.trans (hdr.mono hbW.size);replace hbR:Below wo.heap.size wo ud5:=hbR.trans (hdr.mono hbR.size);clear hdr;refine hT 0 hH ?_;refine hT 1 hH ?_;refine hT 2 hH ?_;refine hT 3 hH ?_;refine hT 4 hH ?_;refine hN 5 hH ?_;refine hN 6 hH ?_;refine hN 7 hH ?_;refine hN 8 hH ?_;refine hT 9 hH ?_;refine hT 10 hH ?_;refine hN 11 hH ?_;refine hN 12 hH ?_;refine hN 13 hH ?_;refine hN 14 hH ?_;refine hN 15 hH ?_;refine hN 16 hH ?_;refine hN 17 hH ?_;refine hN 18 hH ?_;refine hN 19 hH ?_;refine hN 20 hH ?_;refine hN 21 hH ?_;refine hT 22 hH ?_;refine wpAnyH_done (by kernel_rfl) ?_ _;clear hH;go_wp2_with fail
          go_meet;exact⟨e,rfl,HRN.out,HIE.out,hle,hbR⟩
      case rest =>
       obtain⟨e,rfl,hrn,hie,hle,hbR⟩:=hcut;have HRN:Hid (rn PP.c PP.M (ds.drop i)=e-i):=hrn;have hek:e-i<=128:=(by have:=(rn_le (c:=PP.c) (M:=PP.M) (ds.drop i)).2;rw[hrn]at this;exact this);have hT:=HBo0.out.below hbR;have hIo:=HIo.out.below hbR;have hBu:=HBu.out.trans (hbR.mono HBu.out.size);obtain⟨b,off,ea,hb,d0⟩:=HRI.out.at hbR i hin;subst ea;clear hrn hbR;obtain⟨y,hy⟩:∃x,ds.getD i 0=x:=⟨_,rfl⟩;rw[hy]at d0;have hkc:kdP y<=1:=by rcases za9 y with h | h <;> omega
       have hks:=zev y wc;obtain⟨c0,hc0⟩:∃c,kdP y=c:=⟨_,rfl⟩;have HC:Hid (PP.c (ds.getD i 0)=c0):=(by show kdP (ds.getD i 0)=c0;rw[hy,hc0]);have HYC:Hid (kdP y=c0):=hc0;have HYV:Hid (ds.getD i 0=y):=hy;rw[hc0]at hks hkc;obtain⟨hd,hhd⟩:∃h:Nat,h=128*c0+(e-i)-1:=⟨_,rfl⟩;have HHD:Hid (hd=PP.M*c0+(e-i)-1):=hhd;have hd2:hd<256:=(by omega);have hE:128*(c0:Int)+(e:Int)-(i:Int)-1=(hd:Int):=(by omega);clear hy hc0 hhd;go_wp2_with fail
       refine hks.mono ?_;rintro e' w1 ⟨rfl,rfl⟩;have hT5:=hT.below (bl1 (.cells #[.int .u8 (hd:Int)] 5));have zbv:=hIo.below (bl1 (.cells #[.int .u8 (hd:Int)] 5));have hN:=heap_alloc_new wc (.cells #[.int .u8 (hd:Int)] 5);have n0:=cell_of_row _ wc.heap.size 0 _ _ (0,0) hN;have hbs:u1.heap.size<=(wc.alloc (.cells #[.int .u8 (hd:Int)] 5)).heap.size:=qF hBu.size (bl1 _).size;clear hN;have hll:ys.length+1<=1000000:=(by omega);clear hks d0;go_wp2_with (at_builtin;refine zaj rfl _ _ rfl u1.heap.size _ ys rfl hT5 wc.heap.size hd rfl n0 hd2 hll hbs ?_)
       intro v' w9 hT9 hgrow;have hB9:Below u1.heap.size u1 w9:=(hBu.alloc hBu.size _).grown hgrow hbs (fun k hk=>(hT.lo hk).1);have hI9:=zbv.grownB hT5 hgrow;clear hgrow hT5 zbv hIo n0 hbs hll hT hBu hE;have HYL:Hid (ys.length<=7000):=(by show _<=_;omega);clear hyl;go_wp2
       go_loopw [4,10] (fun v kk wr=>∃j:Nat,i<=j/\j<=e/\kk=.int .i64 (j:Int)/\Bo u1.heap.size wr v (ys++[hd]++((ds.drop i).take (j-i)).flatMap (PP.en c0))/\Io u1.heap.size wr (.slice (some ⟨b,off,none⟩) ds.length cd) ds/\Below u1.heap.size u1 wr) (fun _ kk _=>e-(intOf kk).toNat)
       case atStart=>exact⟨i,qE _,Nat.le_of_lt hie,rfl,by rw[Nat.sub_self,List.take_zero,List.flatMap_nil,List.append_nil];exact hT9,hI9,hB9⟩
       case round =>
        obtain⟨j,hj1,hj2,rfl,hTb,hIo,hBu⟩:=hrel;by_cases hje:j<e;rotate_left
        . obtain rfl:j=e:=by omega
          have HS:Hid (_):=zjl (P:=PP) (by decide) hin HRN.out hie HC.out HHD.out HT.out;clear hT9 hB9 hI9;go_wp2;go_roundw
          case rel=>exact⟨j,_,hle,rfl,HS.out,hTb,hIo,hBu⟩
          case measure=>simp[intOf];omega
        clear hT9 hB9 hI9;have hbW:=HB1.out.trans (hBu.mono HB1.out.size);have hbR:=hBu;clear hBu;obtain⟨_,_,e9,hri⟩:=hIo.slice;cases e9;obtain⟨b',off',ea,_,d0⟩:=hri.at (Below.refl _ _) j (by omega);cases ea;obtain⟨b',off',ea,_,d1⟩:=hri.at (Below.refl _ _) i hin;cases ea;rw[HYV.out]at d1;have hdm:=HD.out j (by omega);have hkx:kdP (ds.getD j 0)=c0:=znb (P:=PP) HRN.out HC.out hj1 hje;obtain⟨x,hx⟩:∃x,ds.getD j 0=x:=⟨_,rfl⟩;have HS:Hid (_):=zli (P:=PP) (c0:=c0) hj1 (show j<ds.length by omega) hx;have hln:(ys++[hd]++((ds.drop i).take (j-i)).flatMap (PP.en c0)).length<=8000:=by
         have h1:=HYL.out;have h2:(((ds.drop i).take (j-i)).flatMap (PP.en c0)).length<=2*_:=zfa (z0b c0) _;rw[qL]at h2;rw[qA,qA,List.length_singleton];omega
        obtain⟨zs,hzs⟩:∃zs,ys++[hd]++((ds.drop i).take (j-i)).flatMap (PP.en c0)=zs:=⟨_,rfl⟩;have HN:Hid (ys++[hd]++((ds.drop i).take (j+1-i)).flatMap (PP.en c0)=zs++enP c0 x):=by
         show _=_;rw[HS.out,<-hzs];simp only[qI];rfl
        rw[hx]at hdm hkx d0;rw[hzs]at hTb hln;have hks:=fun U=>(zev y U).mono fun e w' (h:_/\_)=>(⟨h.1,h.2 ▸ Below.refl _ _⟩:_/\Below U.heap.size U w');rw[HYC.out]at hks;clear HS hzs hx hri;obtain⟨a4,c4,rfl,_⟩:=hTb.slice;have A0:Cl wr b (off+j) (.int .i64 x):=⟨World.block_lt_of_cell? wr _ d0,d0⟩;have A1:Cl wr b (off+i) (.int .i64 y):=⟨World.block_lt_of_cell? wr _ d1,d1⟩;have g3:(j:Int)<(e:Int):=(by omega);have j1:(j:Int)<(ds.length:Int):=(by omega);have j2:(0:Int)<=(j:Int):=(by omega);have j3:(0:Int)<=(i:Int):=(by omega);rcases za9 x with ⟨h1,h2⟩|⟨h1,h2⟩
        . have hc0:c0=1:=hkx.symm.trans h2
          have HN2:Hid (enP c0 x=be2 x):=(by show _=_;rw[hc0];rfl);rw[HN2.out]at HN;rw[hc0]at hks;have hbg:=fun U=>zbf x U (by omega) (by omega);have hll:zs.length+(be2 x).length<=1000000:=(by rw[show(be2 x).length=2 from rfl];omega);have hw1:(1:Int)+((1:Nat):Int)=2:=rfl;clear hc0 HN2 hkx h1 h2;go_upto_region 25 with fail
          refine wp_region_held_drew (S:=(fun u=>u.cell? ⟨b,off+j,none⟩=some (.int .i64 x)/\u.cell? ⟨b,off+i,none⟩=some (.int .i64 y))) (by kernel_rfl) ?_ (fun hH=>?_)
          . (try dsimp only)
            go_keep
          have hdr:Below wr.heap.size wr wr.drew:=Below.drew1;generalize wr.drew=ud6 at hdr hH ⊢;replace A0:=A0.below hdr;replace A1:=A1.below hdr;replace hTb:=hTb.below hdr;replace hIo:=hIo.below hdr;replace hbW:Below w.heap.size w ud6:=hbW.trans (hdr.mono hbW.size);replace hbR:Below u1.heap.size u1 ud6:=hbR.trans (hdr.mono hbR.size);clear hdr;refine hT 0 hH ?_;refine hT 1 hH ?_;refine hT 2 hH ?_;refine hT 3 hH ?_;refine hT 4 hH ?_;refine hT 5 hH ?_;refine hT 6 hH ?_;refine hT 7 hH ?_;refine hT 8 hH ?_;refine hCall (i:=9) rfl (by kernel_rfl) (by rfl) (fun K hK=>?_);go_simp;refine(hks _).mono ?_;rintro e u201 ⟨rfl,zek⟩;replace A0:=A0.below zek;replace A1:=A1.below zek;replace hTb:=hTb.below zek;replace hIo:=hIo.below zek;replace hbW:Below w.heap.size w u201:=hbW.trans (zek.mono hbW.size);replace hbR:Below u1.heap.size u1 u201:=hbR.trans (zek.mono hbR.size);clear zek;go_wp2_with fail
          refine hK.out _ _ ?_ (fun hH=>?_)
          . (try dsimp only)
            first | exact⟨A0.2,A1.2⟩ | exact⟨q0,q1⟩
          clear hK K;try simp only[Act.put,pZ]
          refine hT 10 hH ?_;refine hCall (i:=11) rfl (by kernel_rfl) (by rfl) (fun K hK=>?_);go_simp;refine(hbg _).mono ?_;rintro e u202 ⟨ab,cb,rfl,hrb,zej⟩;replace A0:=A0.below zej;replace A1:=A1.below zej;replace hTb:=hTb.below zej;replace hIo:=hIo.below zej;replace hbW:Below w.heap.size w u202:=hbW.trans (zej.mono hbW.size);replace hbR:Below u1.heap.size u1 u202:=hbR.trans (zej.mono hbR.size);clear zej;go_wp2_with fail
          refine hK.out _ _ ?_ (fun hH=>?_)
          . (try dsimp only)
            first | exact⟨A0.2,A1.2⟩ | exact⟨q0,q1⟩
          clear hK K;try simp only[Act.put,pZ]
          refine hCall (i:=12) rfl (by kernel_rfl) (by rfl) (fun K hK=>?_);have hbs:u1.heap.size<=u202.heap.size:=hbR.size;refine zfp _ _ rfl u1.heap.size _ zs rfl hTb _ _ _ (be2 x) rfl (fun e=>by cases e) rfl hrb hll hbs ?_;intro v' w9 hT9 hgrow;have hB9:Below u1.heap.size u1 w9:=hbR.grown hgrow hbs (fun k hk=>(hTb.lo hk).1);have hI9:=hIo.grownB hTb hgrow;have hne:=hIo.ne_bo hTb (g:=b) rfl;have q0:=hgrow.cell A0.2 hne;have q1:=hgrow.cell A1.2 hne;refine hK.out _ _ ?_ (fun hH=>?_)
          . (try dsimp only)
            first | exact⟨A0.2,A1.2⟩ | exact⟨q0,q1⟩
          clear hK K;try simp only[Act.put,pZ]
          refine hT 13 hH ?_;refine wpAnyH_done (by kernel_rfl) ?_ _;clear hH d0 d1 A0 A1 hTb hIo hrb hgrow hbR hbW hne hks hbg;go_wp2;go_roundw
          case rel=>exact⟨j+1,by omega,by omega,by go_num,by rw[HN.out];exact hT9,hI9,hB9⟩
          case measure=>simp[intOf];omega
        . have hc0:c0=0:=hkx.symm.trans h2
          have HN2:Hid (enP c0 x=be1 x):=(by show _=_;rw[hc0];rfl);rw[HN2.out]at HN;rw[hc0]at hks;have hbg:=fun U=>zwi x U (by omega) (by omega);have hll:zs.length+(be1 x).length<=1000000:=(by rw[show(be1 x).length=1 from rfl];omega);have hw1:(1:Int)+((0:Nat):Int)=1:=rfl;clear hc0 HN2 hkx h1 h2;go_upto_region 25 with fail
          refine wp_region_held_drew (S:=(fun u=>u.cell? ⟨b,off+j,none⟩=some (.int .i64 x)/\u.cell? ⟨b,off+i,none⟩=some (.int .i64 y))) (by kernel_rfl) ?_ (fun hH=>?_)
          . (try dsimp only)
            go_keep
          have hdr:Below wr.heap.size wr wr.drew:=Below.drew1;generalize wr.drew=ud7 at hdr hH ⊢;replace A0:=A0.below hdr;replace A1:=A1.below hdr;replace hTb:=hTb.below hdr;replace hIo:=hIo.below hdr;replace hbW:Below w.heap.size w ud7:=hbW.trans (hdr.mono hbW.size);replace hbR:Below u1.heap.size u1 ud7:=hbR.trans (hdr.mono hbR.size);clear hdr;refine hT 0 hH ?_;refine hT 1 hH ?_;refine hT 2 hH ?_;refine hT 3 hH ?_;refine hT 4 hH ?_;refine hT 5 hH ?_;refine hT 6 hH ?_;refine hT 7 hH ?_;refine hT 8 hH ?_;refine hCall (i:=9) rfl (by kernel_rfl) (by rfl) (fun K hK=>?_);go_simp;refine(hks _).mono ?_;rintro e u201 ⟨rfl,zek⟩;replace A0:=A0.below zek;replace A1:=A1.below zek;replace hTb:=hTb.below zek;replace hIo:=hIo.below zek;replace hbW:Below w.heap.size w u201:=hbW.trans (zek.mono hbW.size);replace hbR:Below u1.heap.size u1 u201:=hbR.trans (zek.mono hbR.size);clear zek;go_wp2_with fail
          refine hK.out _ _ ?_ (fun hH=>?_)
          . (try dsimp only)
            first | exact⟨A0.2,A1.2⟩ | exact⟨q0,q1⟩
          clear hK K;try simp only[Act.put,pZ]
          refine hT 10 hH ?_;refine hCall (i:=11) rfl (by kernel_rfl) (by rfl) (fun K hK=>?_);go_simp;refine(hbg _).mono ?_;rintro e u202 ⟨ab,cb,rfl,hrb,zej⟩;replace A0:=A0.below zej;replace A1:=A1.below zej;replace hTb:=hTb.below zej;replace hIo:=hIo.below zej;replace hbW:Below w.heap.size w u202:=hbW.trans (zej.mono hbW.size);replace hbR:Below u1.heap.size u1 u202:=hbR.trans (zej.mono hbR.size);clear zej;go_wp2_with fail
          refine hK.out _ _ ?_ (fun hH=>?_)
          . (try dsimp only)
            first | exact⟨A0.2,A1.2⟩ | exact⟨q0,q1⟩
          clear hK K;try simp only[Act.put,pZ]
          refine hCall (i:=12) rfl (by kernel_rfl) (by rfl) (fun K hK=>?_);have hbs:u1.heap.size<=u202.heap.size:=hbR.size;refine zfp _ _ rfl u1.heap.size _ zs rfl hTb _ _ _ (be1 x) rfl (fun e=>by cases e) rfl hrb hll hbs ?_;intro v' w9 hT9 hgrow;have hB9:Below u1.heap.size u1 w9:=hbR.grown hgrow hbs (fun k hk=>(hTb.lo hk).1);have hI9:=hIo.grownB hTb hgrow;have hne:=hIo.ne_bo hTb (g:=b) rfl;have q0:=hgrow.cell A0.2 hne;have q1:=hgrow.cell A1.2 hne;refine hK.out _ _ ?_ (fun hH=>?_)
          . (try dsimp only)
            first | exact⟨A0.2,A1.2⟩ | exact⟨q0,q1⟩
          clear hK K;try simp only[Act.put,pZ]
          refine hT 13 hH ?_;refine wpAnyH_done (by kernel_rfl) ?_ _;clear hH d0 d1 A0 A1 hTb hIo hrb hgrow hbR hbW hne hks hbg;go_wp2;go_roundw
          case rel=>exact⟨j+1,by omega,by omega,by go_num,by rw[HN.out];exact hT9,hI9,hB9⟩
          case measure=>simp[intOf];omega
theorem zkb{base:Nat}{w:World}{v:Value}{ys:LN}{t:TypeId}{g:Nat}{cs:LV}(h:Bo base w v ys)(hb:Bk t w g cs)(ht:t≠5):v.ownBlock≠some g:=by
 intro e;rcases h.2.2 with ⟨e0,_⟩|⟨g',cap,cur,k1,k2,k3,k4⟩
 . rw[e0]at e;cases e
 . rw[k1]at e
   cases e;rw[hb]at k3;simp at k3;exact ht k3.2
theorem zic{base b2 n:Nat}{w w':World}{v u:Value}{ys zs:LN}(h:Bo base w v ys)(hu:Bo n w' u zs)(hn:w.heap.size<=n):Apt v u:=fun k h1 h2=>by
 have:=(h.lo h1).2;have:=(hu.lo h2).1;omega
theorem z65{z:Int}(h:-16384<=z/\z<=16384):∃y,(z+65536).tmod 65536=y/\0<=y/\y<=9223372036854775807/\be2 y=be2 z:=by
 refine⟨(z+65536)%65536,zeg (by omega),by omega,by omega,zib⟩
theorem zfs(S:Nat->Prop)(a:OA)(ca:Nat)(b:OA)(cb:Nat)(o:Ol)(S2:Nat->Prop)(la:OA)(lc:Nat)(l:List Tu)(ax:Int)(w:World)(hc:Gr PnE.row S w a ca o.cs)(hp:Gr PaE S w b cb o.ps)(hl:Gr TuE S2 w la lc l)(hfl:o.cs.flatten.length<=100000)(hpl:o.ps.length<=100000)(hi:I64 ax) :
 Calls Tryz.prog 46 #[.agg #[.slice a o.cs.length ca,.slice b o.ps.length cb],.slice la l.length lc,.int .i64 ax] w fun e w'=>∃a' c',e=.returned (.tuple #[.slice a' (wrTB o l ax).length c',.int .i64 (wrTE o l ax)])/\Bo w.heap.size w' (.slice a' (wrTB o l ax).length c') (wrTB o l ax)/\Below w.heap.size w w':=by
 have kl:=hl.lenB;have kc:=hc.lenB;obtain⟨W,hW,X1,hbW⟩:∃W,W=w.alloc (.cells #[.slice a o.cs.length ca,.slice b o.ps.length cb] 57)/\Bk 57 W w.heap.size [.slice a o.cs.length ca,.slice b o.ps.length cb]/\Below w.heap.size w W:=⟨_,rfl,Bk.new _ _ _,bl1 _⟩;replace hc:=hc.below hbW;replace hp:=hp.below hbW;replace hl:=hl.below hbW;obtain⟨p0,p1,_⟩:=X1.two;have hfo:=zip S a ca b cb o S2 la lc l ax W hc hp hl hfl hpl hi;go_enter func46,ntmps46;go_upto_region 1 with fail
 rw[<-hW];clear hW;cases hf:foT o l ax with
 | false =>
  rw[hf]at hfo;have HE:Hid (_):=zer hf;clear hf;go_wp2_with fail
  refine hfo.mono ?_;rintro e m1 ⟨rfl,hb1⟩;replace hbW:=hbW.trans (hb1.mono hbW.size);clear hb1 hfo;go_wp2;go_ret2;exact⟨none,0,by rw[HE.out.1,HE.out.2];rfl,by rw[HE.out.1];exact Bo.nil _ _,hbW⟩
 | true =>
 rw[hf]at hfo;have HE:Hid (_):=zbo hf;obtain⟨hF1,hF2,hF3,hF4⟩:=zbb.1 hf;have HTB:Hid (∀k,k<l.length->tuB (l.getD k Tu.none) (cntO o) ax=true):=hF4;have HCN:Hid (cntO o<=86):=zf3 hF1;have HTK:Hid (∀k,(tusE (l.take k)).length<=33000):=fun k=>by
  have h1:=zfc hf;have h2:tusE l=tusE (l.take k)++tusE (l.drop k):=by rw[<-zb7,List.take_append_drop]
  unfold tuBt at h1;rw[qA,h2,qA]at h1;omega
 have HTE:Hid (tuBt l=be2 ((l.length:Nat):Int)++tusE l):=rfl;obtain⟨A,rfl⟩:∃A:Nat,ax=(A:Int):=⟨ax.toNat,by omega⟩;clear hF1 hF4 hf;go_wp2_with fail
 refine hfo.mono ?_;rintro e u ⟨rfl,hb1⟩;have HL:Hid (Gr TuE S2 u la lc l):=hl.below hb1;have HBW:Hid (Below w.heap.size w u):=hbW.trans (hb1.mono hbW.size);clear hc hp hl hfo hb1 X1 hbW p0 p1;go_wp2_with fail
 refine(zgu (l.length:Int) u (by omega) (by omega)).mono ?_;rintro e u1 ⟨v0,rfl,zzx,hB0⟩;obtain⟨Q,hQ⟩:∃Q,be2 ((l.length:Nat):Int)=Q:=⟨_,rfl⟩;have HQL:Hid (Q.length=2):=by show _=_;rw[<-hQ];rfl
 rw[hQ]at zzx HTE;have hI:Bo u.heap.size u1 v0 (Q++tusE (l.take 0)):=by
  rw[List.take_zero,tusE,List.append_nil];exact zzx
 obtain⟨B,hBB⟩:∃g,u.heap.size=g:=⟨_,rfl⟩;have HBB:Hid (u.heap.size=B):=hBB;have HBS:Hid (∀U,Below B u U->B<=U.heap.size):=fun U h=>by rw[<-HBB.out];exact h.size
 rw[hBB]at hI hB0;clear zzx hQ hBB;go_wp2
 go_loopw [8,9] (fun v i wr=>∃k:Nat,k<=l.length/\i=.int .i64 k/\Bo B wr v (Q++tusE (l.take k))/\Below B u wr) (fun _ i _=>l.length-(intOf i).toNat)
 case atStart=>exact⟨0,qD _,rfl,hI,hB0⟩
 case round =>
  clear hI hB0;obtain⟨k,hk,rfl,hBo,hB⟩:=hrel;by_cases hkn:k<l.length
  . obtain⟨b0,off,ra,rc,pa,pc,xa,xc,ya,yc,ea,hb,ht,c0,c1,c2,c3,c4⟩:=HL.out.tu (Below.refl _ _) k hkn
    have hBu:Below u.heap.size u wr:=(by rw[HBB.out];exact hB);replace c0:=(hBu.cell (p:=⟨b0,off+k*5,none⟩) hb).trans c0;replace c1:=(hBu.cell (p:=⟨b0,off+k*5+1,none⟩) hb).trans c1;replace c2:=(hBu.cell (p:=⟨b0,off+k*5+2,none⟩) hb).trans c2;replace c3:=(hBu.cell (p:=⟨b0,off+k*5+3,none⟩) hb).trans c3;replace c4:=(hBu.cell (p:=⟨b0,off+k*5+4,none⟩) hb).trans c4;obtain⟨n1,n2,n3,n4⟩:=ht.len;obtain⟨a6,c6,e6,-⟩:=hBo.slice;subst e6;have hfk:=HTB.out k hkn;have HSJ:Hid (_):=zm1 hkn Q;have HLK:Hid ((Q++tusE (l.take k)).length<=33002):=(by show _<=_;rw[qA,HQL.out];have:=HTK.out k;omega);obtain⟨t,htt⟩:∃t,l.getD k Tu.none=t:=⟨_,rfl⟩;rw[htt]at ht c0 c1 c2 c3 c4 hfk HSJ n1 n2 n3 n4;obtain⟨b2,hb2⟩:∃b2,Q++tusE (l.take k)=b2:=⟨_,rfl⟩;rw[hb2]at hBo HSJ HLK ⊢;obtain⟨p1,p2,-⟩:=zm3 hfk (by have:=HCN.out;omega);obtain⟨q1,q2,-,-,c5,c7⟩:=zm4 hfk (by have:=HCN.out;omega);obtain⟨g1,g2⟩:=znf (zcz.1 hfk).1;have HLP:Hid ((ppB t.pts).length<=260/\(pcB t.dx).length<=258/\(pcB t.dy).length<=258):=by
     have h0:=HCN.out;exact⟨by have:=zhr p1;omega,by have:=zci q1;omega,by have:=zci q2;omega⟩
    have HTF:Hid (∀k,k<t.rg.length->tfB (t.rg.getD k Te.none)=true):=fun k hk=>List.all_eq_true.1 g2 _ (zjv hk);have hgA:t.rg.length=A:=(by omega);have HGA:Hid (t.rg.length=A):=hgA;have HEE:Hid (tuE t=tesE t.rg++(ppB t.pts++(pcB t.dx++pcB t.dy))):=rfl;have HTC:Hid (∀U,Below B u U->TuC S2 U ra rc pa pc xa xc ya yc t):=fun U hU=>ht.below (by rw[HBB.out];exact hU);subst ea;have i1:(0:Int)<=(k:Int):=(by omega);have i2:(k:Int)<(l.length:Int):=(by omega);have hA4:A<=4:=(by omega);obtain⟨V,hV,XT,hbV⟩:∃V,V=wr.alloc (.cells #[.slice ra t.rg.length rc,.bool t.al,.slice pa t.pts.length pc,.slice xa t.dx.length xc,.slice ya t.dy.length yc] 144)/\Bk 144 V wr.heap.size [.slice ra t.rg.length rc,.bool t.al,.slice pa t.pts.length pc,.slice xa t.dx.length xc,.slice ya t.dy.length yc]/\Below wr.heap.size wr V:=⟨_,rfl,Bk.new _ _ _,bl1 _⟩;clear htt hb2 hfk p1 p2 q1 q2 g1 g2 c5 c7 ht hgA hBu;go_upto_region 8 with fail
    rw[<-hV];clear hV c0 c1 c2 c3 c4;have hI2:Bo B V (.slice a6 b2.length c6) (b2++tesE (t.rg.take 0)):=by
     rw[List.take_zero,tesE,List.append_nil];exact hBo.below hbV
    have hB2:Below B u V:=hB.trans (hbV.mono (HBS.out _ hB));obtain⟨gt,hgt⟩:∃g,wr.heap.size=g:=⟨_,rfl⟩;rw[hgt]at XT;rw[hgt];clear hbV hBo hB hgt;go_wp2
    go_loopw [8,11] (fun v i wr2=>∃j:Nat,j<=A/\i=.int .i64 j/\Bo B wr2 v (b2++tesE (t.rg.take j))/\Bk 144 wr2 gt [.slice ra t.rg.length rc,.bool t.al,.slice pa t.pts.length pc,.slice xa t.dx.length xc,.slice ya t.dy.length yc]/\Below B u wr2) (fun _ i _=>A-(intOf i).toNat)
    case atStart=>exact⟨0,qD _,rfl,hI2,XT,hB2⟩
    case round =>
     clear hI2 XT hB2;obtain⟨j,hj,rfl,hBo,hXT,hB⟩:=hrel;by_cases hjn:j<A
     . have hjr:j<t.rg.length:=by rw[HGA.out];exact hjn
       obtain⟨b9,o9,ea,hb9,d0,d1,d2⟩:=(HTC.out u (Below.refl _ _)).tz.at (Below.refl _ _) j hjr;have htf:=tf_fd (HTF.out j hjr);have HSI:Hid (_):=zm5 hjr b2;have HLJ:Hid ((b2++tesE (t.rg.take j)).length<=33100):=(by show _<=_;rw[qA];have:=zfq t.rg j;have:=HLK.out;have:=HGA.out;omega);obtain⟨te,hte⟩:∃x,t.rg.getD j Te.none=x:=⟨_,rfl⟩;rw[hte]at d0 d1 d2 htf HSI;obtain⟨tst,tpk,ten⟩:=te;dsimp only at d0 d1 d2 htf HSI;obtain⟨e1,gz1,ge10,ge11,he1⟩:=z65 htf.1;obtain⟨e2,gz2,ge20,ge21,he2⟩:=z65 htf.2.1;obtain⟨e3,gz3,ge30,ge31,he3⟩:=z65 htf.2.2;have ge1:=And.intro ge10 ge11;have ge2:=And.intro ge20 ge21;have ge3:=And.intro ge30 ge31;rw[<-he1,<-he2,<-he3]at HSI;obtain⟨b3,hb3⟩:∃b,b2++tesE (t.rg.take j)=b:=⟨_,rfl⟩;rw[hb3]at hBo HSI HLJ;have HAT:Hid (∀U,Below B u U->U.cell? ⟨b9,o9+j*3,none⟩=some (.int .i64 tst)/\U.cell? ⟨b9,o9+j*3+1,none⟩=some (.int .i64 tpk)/\U.cell? ⟨b9,o9+j*3+2,none⟩=some (.int .i64 ten)):=fun U hU=>by
        rw[<-HBB.out]at hU;exact⟨(hU.cell (p:=⟨b9,o9+j*3,none⟩) hb9).trans d0,(hU.cell (p:=⟨b9,o9+j*3+1,none⟩) hb9).trans d1,(hU.cell (p:=⟨b9,o9+j*3+2,none⟩) hb9).trans d2⟩
       subst ea;have j1:(0:Int)<=(j:Int):=(by omega);have j2:(j:Int)<(A:Int):=(by omega);have j3:(j:Int)<(t.rg.length:Int):=(by omega);clear d0 d1 d2 hte hb3 he1 he2 he3 hjr;obtain⟨d0,d1,d2⟩:=HAT.out wr hB;obtain⟨y0,-⟩:=hXT.five;obtain⟨av,cv,ev,-⟩:=hBo.slice;subst ev;go_wp2_with fail
       refine(zbf e1 _ ge1.1 ge1.2).mono ?_;rintro e u5 ⟨ab,cb,rfl,hrb,hb⟩;replace hBo:=hBo.below hb;replace hXT:=hXT.below hb;replace hB:=hB.trans (hb.mono (HBS.out _ hB));clear hb d0 d1 d2 y0;have hbs:B<=u5.heap.size:=HBS.out _ hB;have hll:b3.length+(be2 e1).length<=1000000:=(by rw[show(be2 e1).length=2 from rfl];have:=HLJ.out;omega);go_wp2_with (at_builtin;refine zae rfl _ _ rfl B _ b3 rfl hBo _ _ _ (be2 e1) rfl rfl hrb hll hbs ?_)
       intro v1 w5 zsq hgrow _;have hB1:=hB.grown hgrow hbs (fun q hq=>(hBo.lo hq).1);have hXT1:=hXT.grown hgrow (zkb hBo hXT (by decide));clear hBo hB hXT hrb hll hbs hgrow;obtain⟨s1,hs1⟩:∃s,b3++be2 e1=s:=⟨_,rfl⟩;have HS1:Hid (b3++be2 e1=s1):=hs1;have HLS1:Hid (s1.length<=33100+2):=(by show _<=_;rw[<-hs1,qA,show(be2 e1).length=2 from rfl];have:=HLJ.out;omega);rw[hs1]at zsq;clear hs1;have hBo:=zsq;have hB:=hB1;have hXT:=hXT1;clear zsq hB1 hXT1;obtain⟨d0,d1,d2⟩:=HAT.out w5 hB;obtain⟨y0,-⟩:=hXT.five;obtain⟨av,cv,ev,-⟩:=hBo.slice;subst ev;go_wp2_with fail
       refine(zbf e2 _ ge2.1 ge2.2).mono ?_;rintro e u6 ⟨ab,cb,rfl,hrb,hb⟩;replace hBo:=hBo.below hb;replace hXT:=hXT.below hb;replace hB:=hB.trans (hb.mono (HBS.out _ hB));clear hb d0 d1 d2 y0;have hbs:B<=u6.heap.size:=HBS.out _ hB;have hll:s1.length+(be2 e2).length<=1000000:=(by rw[show(be2 e2).length=2 from rfl];have:=HLS1.out;omega);go_wp2_with (at_builtin;refine zae rfl _ _ rfl B _ s1 rfl hBo _ _ _ (be2 e2) rfl rfl hrb hll hbs ?_)
       intro v2 w6 zsp hgrow _;have hB2:=hB.grown hgrow hbs (fun q hq=>(hBo.lo hq).1);have hXT2:=hXT.grown hgrow (zkb hBo hXT (by decide));clear hBo hB hXT hrb hll hbs hgrow;obtain⟨s2,hs2⟩:∃s,s1++be2 e2=s:=⟨_,rfl⟩;have HS2:Hid (s1++be2 e2=s2):=hs2;have HLS2:Hid (s2.length<=33100+4):=(by show _<=_;rw[<-hs2,qA,show(be2 e2).length=2 from rfl];have:=HLS1.out;omega);rw[hs2]at zsp;clear hs2;have hBo:=zsp;have hB:=hB2;have hXT:=hXT2;clear zsp hB2 hXT2;obtain⟨d0,d1,d2⟩:=HAT.out w6 hB;obtain⟨y0,-⟩:=hXT.five;obtain⟨av,cv,ev,-⟩:=hBo.slice;subst ev;go_wp2_with fail
       refine(zbf e3 _ ge3.1 ge3.2).mono ?_;rintro e u7 ⟨ab,cb,rfl,hrb,hb⟩;replace hBo:=hBo.below hb;replace hXT:=hXT.below hb;replace hB:=hB.trans (hb.mono (HBS.out _ hB));clear hb d0 d1 d2 y0;have hbs:B<=u7.heap.size:=HBS.out _ hB;have hll:s2.length+(be2 e3).length<=1000000:=(by rw[show(be2 e3).length=2 from rfl];have:=HLS2.out;omega);go_wp2_with (at_builtin;refine zae rfl _ _ rfl B _ s2 rfl hBo _ _ _ (be2 e3) rfl rfl hrb hll hbs ?_)
       intro v3 w7 zso hgrow _;have hB3:=hB.grown hgrow hbs (fun q hq=>(hBo.lo hq).1);have hXT3:=hXT.grown hgrow (zkb hBo hXT (by decide));clear hBo hB hXT hrb hll hbs hgrow;obtain⟨s3,hs3⟩:∃s,s2++be2 e3=s:=⟨_,rfl⟩;have HS3:Hid (s2++be2 e3=s3):=hs3;have HLS3:Hid (s3.length<=33100+6):=(by show _<=_;rw[<-hs3,qA,show(be2 e3).length=2 from rfl];have:=HLS2.out;omega);rw[hs3]at zso;clear hs3;have hBo:=zso;have hB:=hB3;have hXT:=hXT3;clear zso hB3 hXT3;rw[HS1.out,HS2.out,HS3.out]at HSI;rw[<-HSI.out]at hBo;go_wp2;go_roundw
       case rel=>exact⟨j+1,by omega,by go_num,hBo,hXT,hB⟩
       case measure=>simp[intOf];omega
     . have ej:j=A:=by omega
       rw[ej]at hBo ⊢;have j4:¬(A:Int)<(A:Int):=(by omega);rw[show t.rg.take A=t.rg from(by rw[<-HGA.out];exact List.take_length)]at hBo;have HLJ:Hid ((b2++tesE t.rg).length<=33100):=(by show _<=_;rw[qA,zcg];have:=HLK.out;have:=HGA.out;omega);obtain⟨b3,hb3⟩:∃b,b2++tesE t.rg=b:=⟨_,rfl⟩;have HB3:Hid (b2++tesE t.rg=b3):=hb3;rw[hb3]at hBo HLJ;obtain⟨av,cv,ev,-⟩:=hBo.slice;subst ev;obtain⟨vv,hvv⟩:∃v,v=Value.slice av b3.length cv:=⟨_,rfl⟩;clear ej hj hjn hb3;rw[<-hvv]at hBo;have HVV:Hid (vv=Value.slice av b3.length cv):=hvv;clear hvv;obtain⟨y0,y1,y2,y3,y4,-⟩:=hXT.five;go_wp2_with fail
       refine(zkq _ _ _ wr (HTC.out wr hB).pts).mono ?_;rintro e u8 ⟨vp,rfl,zzw,hb⟩;have hAvp:Apt vv vp:=zic (b2:=0) hBo zzw (qE _);replace hBo:=hBo.below hb;replace hXT:=hXT.below hb;replace hB:=hB.trans (hb.mono (HBS.out _ hB));clear hb y0 y1 y2 y3 y4;obtain⟨y0,y1,y2,y3,y4,-⟩:=hXT.five;go_wp2_with fail
       refine(zez _ _ _ u8 (HTC.out u8 hB).dx).mono ?_;rintro e u9 ⟨vx,rfl,zw4,hb⟩;have z21:Apt vv vx:=zic (b2:=0) hBo zw4 (qE _);replace hBo:=hBo.below hb;replace hXT:=hXT.below hb;replace zzw:=zzw.below hb;replace hB:=hB.trans (hb.mono (HBS.out _ hB));clear hb y0 y1 y2 y3 y4;obtain⟨y0,y1,y2,y3,y4,-⟩:=hXT.five;go_wp2_with fail
       refine(zez _ _ _ u9 (HTC.out u9 hB).dy).mono ?_;rintro e u10 ⟨vy,rfl,zvm,hb⟩;have zw7:Apt vv vy:=zic (b2:=0) hBo zvm (qE _);replace hBo:=hBo.below hb;replace hXT:=hXT.below hb;replace zzw:=zzw.below hb;replace zw4:=zw4.below hb;replace hB:=hB.trans (hb.mono (HBS.out _ hB));clear hb y0 y1 y2 y3 y4;rw[HVV.out]at hBo hAvp z21 zw7;clear hXT;obtain⟨avp,cvp,evp,hRvp⟩:=zzw.slice;subst evp;have hbs:B<=u10.heap.size:=HBS.out _ hB;have hll:b3.length+(ppB t.pts).length<=1000000:=(by have:=HLJ.out;have:=HLP.out;omega);go_wp2_with (at_builtin;refine zae rfl _ _ rfl B _ b3 rfl hBo _ _ _ (ppB t.pts) rfl rfl hRvp hll hbs ?_)
       intro q1 w1 zsq hgrow hfr;have hB1:=hB.grown hgrow hbs (fun q hq=>(hBo.lo hq).1);have z20:=z21.of zw4 hfr;replace zw4:=zw4.grownA hgrow z21;replace z21:=z20;clear z20;have zsr:=zw7.of zvm hfr;replace zvm:=zvm.grownA hgrow zw7;replace zw7:=zsr;clear zsr;clear hBo hB hRvp hll hbs hgrow hfr zzw hAvp;obtain⟨r1,hr1⟩:∃s,b3++ppB t.pts=s:=⟨_,rfl⟩;have HR1:Hid (b3++ppB t.pts=r1):=hr1;have HLR1:Hid (r1.length<=33100+260):=(by show _<=_;rw[<-hr1,qA];have:=HLP.out;have:=HLJ.out;omega);rw[hr1]at zsq;clear hr1;have hBo:=zsq;have hB:=hB1;clear zsq hB1;obtain⟨aq2,cq2,eq2,-⟩:=hBo.slice;subst eq2;obtain⟨avx,cvx,evx,hRvx⟩:=zw4.slice;subst evx;have hbs:B<=w1.heap.size:=HBS.out _ hB;have hll:r1.length+(pcB t.dx).length<=1000000:=(by have:=HLR1.out;have:=HLP.out;omega);go_wp2_with (at_builtin;refine zae rfl _ _ rfl B _ r1 rfl hBo _ _ _ (pcB t.dx) rfl rfl hRvx hll hbs ?_)
       intro q2 w2 zsp hgrow hfr;have hB2:=hB.grown hgrow hbs (fun q hq=>(hBo.lo hq).1);have zsr:=zw7.of zvm hfr;replace zvm:=zvm.grownA hgrow zw7;replace zw7:=zsr;clear zsr;clear hBo hB hRvx hll hbs hgrow hfr zw4 z21;obtain⟨r2,hr2⟩:∃s,r1++pcB t.dx=s:=⟨_,rfl⟩;have HR2:Hid (r1++pcB t.dx=r2):=hr2;have HLR2:Hid (r2.length<=33100+520):=(by show _<=_;rw[<-hr2,qA];have:=HLP.out;have:=HLR1.out;omega);rw[hr2]at zsp;clear hr2;have hBo:=zsp;have hB:=hB2;clear zsp hB2;obtain⟨aq3,cq3,eq3,-⟩:=hBo.slice;subst eq3;obtain⟨avy,cvy,evy,hRvy⟩:=zvm.slice;subst evy;have hbs:B<=w2.heap.size:=HBS.out _ hB;have hll:r2.length+(pcB t.dy).length<=1000000:=(by have:=HLR2.out;have:=HLP.out;omega);go_wp2_with (at_builtin;refine zae rfl _ _ rfl B _ r2 rfl hBo _ _ _ (pcB t.dy) rfl rfl hRvy hll hbs ?_)
       intro q3 w3 zso hgrow hfr;have hB3:=hB.grown hgrow hbs (fun q hq=>(hBo.lo hq).1);clear hBo hB hRvy hll hbs hgrow hfr zvm zw7;obtain⟨r3,hr3⟩:∃s,r2++pcB t.dy=s:=⟨_,rfl⟩;have HR3:Hid (r2++pcB t.dy=r3):=hr3;have HLR3:Hid (r3.length<=33100+780):=(by show _<=_;rw[<-hr3,qA];have:=HLP.out;have:=HLR2.out;omega);rw[hr3]at zso;clear hr3;have hBo:=zso;have hB:=hB3;clear zso hB3;have hBF:Bo B w3 q3 (Q++tusE (l.take (k+1))):=by
        rw[HSJ.out,HEE.out,<-qI,HB3.out,<-qI,<-qI,HR1.out,HR2.out,HR3.out];exact hBo
       clear hBo;go_wp2;go_roundw
       case rel=>exact⟨k+1,by omega,by go_num,hBF,hB⟩
       case measure=>simp[intOf];omega
  . have ek:k=l.length:=by omega
    rw[ek]at hBo ⊢;have g1:¬(l.length:Int)<(l.length:Int):=(by omega);rw[List.take_length,<-HTE.out]at hBo;obtain⟨a9,c9,e9,hr9⟩:=hBo.slice;subst e9;have HBO:Hid (_):=hBo.mono (b2:=w.heap.size) (by have:=HBW.out.size;rw[HBB.out]at this;exact this);have hbw:=HBW.out.size;have hBw:Below w.heap.size w wr:=HBW.out.trans (hB.mono (by rw[<-HBB.out];exact hbw));clear hBo ek hk hkn;go_wp2;go_ret2;exact⟨a9,c9,by rw[HE.out.1,HE.out.2];rfl,by rw[HE.out.1];exact HBO.out,hBw⟩
theorem zg7(S:Nat->Prop)(a:OA)(ca:Nat)(b:OA)(cb:Nat)(o:Ol)(S2:Nat->Prop)(la:OA)(lc:Nat)(l:List Tu)(ax:Int)(w:World)(hc:Gr PnE.row S w a ca o.cs)(hp:Gr PaE S w b cb o.ps)(hl:Gr TuE S2 w la lc l)(hfl:o.cs.flatten.length<=100000)(hpl:o.ps.length<=100000)(hi:I64 ax) :
 Calls Tryz.prog 46 #[.agg #[.slice a o.cs.length ca,.slice b o.ps.length cb],.slice la l.length lc,.int .i64 ax] w fun e w'=>∃a' c',e=.returned (.tuple #[.slice a' (wrTB o l ax).length c',.int .i64 (wrTE o l ax)])/\Rb w' a' c' (wrTB o l ax)/\Below w.heap.size w w' :=
 (zfs S a ca b cb o S2 la lc l ax w hc hp hl hfl hpl hi).mono (fun e w' ⟨a',c',h1,h2,h3⟩=>⟨a',c',h1,h2.rb,h3⟩)
