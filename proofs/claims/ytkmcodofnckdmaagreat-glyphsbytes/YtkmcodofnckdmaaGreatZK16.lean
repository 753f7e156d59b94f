import Derived.Test.YtkmcodofnckdmaaGreatZK15
import Derived.Lib.MinMax
import Derived.Laws.EntriesVeiled
set_option maxHeartbeats 8000000
set_option maxRecDepth 100000
set_option linter.unusedSimpArgs false
set_option linter.unusedVariables false
namespace Go.Proofs.YtkmcodofnckdmaaGreat
open Tryz Go.RowKit Go.Maps
theorem zvc{m:LI}{k c0:Nat}(hx:∀x∈m,DP x)(hr:rn PP.c PP.M m=k)(hc:kdP (m.getD 0 0)=c0):(c0=0/\∀x∈m.take k,-128<=x/\x<=255)\/(c0=1/\∀x∈m.take k,-32768<=x/\x<=65535):=by
 have hk:=zdk (P:=PP) (l:=m);rw[hr]at hk;have hk':∀x∈m.take k,kdP x=c0:=fun x h=>(hk x h).trans hc;rcases za9 (m.getD 0 0)with ⟨_,h⟩|⟨_,h⟩
 . refine .inr ⟨by omega,fun x h1=>?_⟩
   have:=hx x (List.mem_of_mem_take h1);unfold DP at this;omega
 . refine .inl ⟨by omega,fun x h1=>?_⟩
   have h2:=hx x (List.mem_of_mem_take h1);have h3:=hk' x h1;unfold DP at h2;rcases za9 x with h4|h4 <;> omega
theorem zve{m:LI}{k c0:Nat}(hx:∀x∈m,DC x)(hr:rn PC.c PC.M m=k)(hc:kdC (m.getD 0 0)=c0):(c0=0/\∀x∈m.take k,-128<=x/\x<=255)\/(c0=1/\∀x∈m.take k,-32768<=x/\x<=65535)\/c0=2:=by
 have hk:=zdk (P:=PC) (l:=m);rw[hr]at hk;have hk':∀x∈m.take k,kdC x=c0:=fun x h=>(hk x h).trans hc;rcases zba (m.getD 0 0)with ⟨_,h⟩|⟨_,_,h⟩|⟨_,_,h⟩
 . exact .inr (.inr (by omega))
 . refine .inr (.inl ⟨by omega,fun x h1=>?_⟩)
   have:=hx x (List.mem_of_mem_take h1);unfold DC at this;omega
 . refine .inl ⟨by omega,fun x h1=>?_⟩
   have h3:=hk' x h1;rcases zba x with h4|h4|h4 <;> omega
theorem ztb(B c:Nat)(G:Nat->Prop)(ys:LN)(a:OA)(cap:Nat)(l:LI)(w:World)(h:Pc w B G ⟨ys,[],false⟩)(hr:Ri w a cap l)(hG:∀b o,a=some ⟨b,o,none⟩->G b)(hc:w.cell? ⟨c,0,none⟩=some (pg B))(hGc:G c)
    (hx:∀x∈l,DP x) (hl2:l.length<=2000) (hl:(ys++pk PP l).length<=20000) :
    Calls Tryz.prog 238 #[.slice a l.length cap,.int .i64 128,.func (.func 240) #[] #[],.func (.func 241) #[] #[pg c]] w fun e w'=>e=.returned (.tuple #[])/\Pc w' B G ⟨ys++pk PP l,[],false⟩/\Keep G w w':=by
 obtain⟨tot,zhx⟩:∃t,ys++pk PP l=t:=⟨_,rfl⟩;rw[zhx]at hl ⊢;have HC:Hid (w.cell? ⟨c,0,none⟩=some (pg B)):=hc;have HGc:Hid (G c):=hGc;have zxr:Hid (ys++pk PP l=tot):=zhx;clear hc hGc zhx;go_enter func238,ntmps238;go_wp2
 go_loopw [0] (fun v wr=>∃(m:LI) (a':OA) (cap':Nat) (zs:LN),v=.slice a' m.length cap'/\Ri wr a' cap' m/\(∀b o,a'=some ⟨b,o,none⟩->G b)/\zs++pk PP m=tot/\(∀x∈m,DP x)/\m.length<=2000/\Pc wr B G ⟨zs,[],false⟩/\Keep G w wr) (fun v _=>slLen v)
 case atStart=>exact⟨l,a,cap,ys,rfl,hr,hG,zxr.out,hx,hl2,h,Keep.refl _ _⟩
 case round =>
  clear h hr hG hx hl2 zxr;obtain⟨m,a',cap',zs,rfl,hr,hG,ht,hx,hl2,hP,hK⟩:=hrel;have HT:Hid (zs++pk PP m=tot):=ht;have hzl:zs.length<=20000:=by rw[<-ht,qA]at hl;omega
  have HX:Hid (∀x∈m,DP x):=hx;have HG:Hid (∀b o,a'=some ⟨b,o,none⟩->G b):=hG;have HR:Hid (Ri wr a' cap' m):=hr;have hcp:=hr.2.1;have hcm:=hr.2.2.1;unfold maxLen at hcm;clear ht hx hG hr;by_cases hm0:0<m.length;rotate_left
  . obtain rfl:m=[]:=List.length_eq_zero_iff.1 (by omega)
    have HZ:Hid (zs=tot):=(by show _=_;rw[<-HT.out,zkz,List.append_nil]);rw[HZ.out]at hP;clear HT HX HG HR HZ hzl hm0 hl2 hcp;go_wp2
    go_end0
    exact⟨rfl,hP,hK⟩
  obtain⟨b,off,ea,hb,d0⟩:=HR.out.get 0 hm0;obtain⟨x0,hx0⟩:∃x,m.getD 0 0=x:=⟨_,rfl⟩;rw[hx0,Nat.add_zero]at d0;have hk0:=zof x0 wr;obtain⟨c0,hc0⟩:∃k,kdP x0=k:=⟨_,rfl⟩;obtain⟨cz,hcz⟩:∃z:Int,128*(c0:Int)=z:=⟨_,rfl⟩;rw[hc0,hcz]at hk0;have HCZ:Hid (128*(c0:Int)=cz):=hcz;have HK0:Hid (kdP (m.getD 0 0)=c0):=by show _=_;rw[hx0];exact hc0
  have hc3:c0<=2:=by rw[<-hc0];rcases za9 x0 with h | h <;> omega
  subst ea;clear hx0 hc0 hcz;have g0:(0:Int)<(m.length:Int):=by omega
  go_wp2_with fail
  refine hk0.mono ?_;rintro e u ⟨rfl,rfl⟩;clear hk0 d0;obtain⟨wo,rfl⟩:∃wo,wo=wr:=⟨_,rfl⟩
  go_upto_block 2 with fail
  go_cut [9]from 18 to 35 (fun s9 wx=>∃k:Nat,s9=.int .i64 (k:Int)/\rn PP.c PP.M m=k/\1<=k/\k<=m.length/\k<=128/\wo=wx)
  case first =>
   go_wp2_with fail
   go_loopw [9] (fun s9 wr=>∃k:Nat,1<=k/\k<=m.length/\k<=128/\s9=.int .i64 (k:Int)/\(∀j,j<k->kdP (m.getD j 0)=c0)/\wo=wr) (fun s9 _=>m.length-(intOf s9).toNat)
   case atStart=>exact⟨1,qE _,by omega,by omega,rfl,(fun j hj=>by rw[show j=0 by omega];exact HK0.out),rfl⟩
   case round =>
    obtain⟨k,hk1,hk2,hkM,rfl,hsm,rfl⟩:=hrel;have HSM:Hid (∀j,j<k->kdP (m.getD j 0)=c0):=hsm;clear hsm;obtain⟨mn,hmn⟩:∃n:Nat,min (m.length:Int) 128=(n:Int):=⟨min m.length 128,by omega⟩;have z17:(mn=m.length/\m.length<=128)\/(mn=128/\128<=m.length):=(by omega);by_cases h1:k<mn;rotate_left
    . have HRN:Hid (rn PP.c PP.M m=k):=rn_eq (c:=kdP) (M:=128) hk1 hkM hk2 (fun j hj=>(HSM.out j hj).trans HK0.out.symm) (by omega)
      have g1:decide (k<mn)=false:=qB h1;clear HSM h1 z17;go_wp2;go_meet;exact⟨k,rfl,HRN.out,hk1,hk2,hkM,rfl⟩
    obtain⟨b',off',ea',hb',d1⟩:=HR.out.get k (by omega);obtain⟨x,hxk⟩:∃x,m.getD k 0=x:=⟨_,rfl⟩;rw[hxk]at d1;have zpg:=zof x wo;have g1:decide (k<mn)=true:=qC h1;have i1:(0:Int)<=(k:Int):=(by omega);have i2:(k:Int)<(m.length:Int):=(by omega);cases ea';by_cases h2:kdP x=c0
    . have zqc:Hid (∀j,j<k+1->kdP (m.getD j 0)=c0):=fun j hj=>by
        rcases Nat.lt_or_ge j k with h3|h3
        . exact HSM.out j h3
        . rw[show j=k by omega,hxk];exact h2
      rw[h2,HCZ.out]at zpg;have g2:(cz==cz)=true:=(by simp);clear HSM hxk h2;go_wp2_with fail
      refine zpg.mono ?_;rintro e u ⟨rfl,rfl⟩;clear zpg;go_wp2;go_roundw
      case rel=>exact⟨k+1,by omega,by omega,by omega,by go_num,zqc.out,trivial⟩
      case measure=>simp[intOf];omega
    . have HRN:Hid (rn PP.c PP.M m=k):=rn_eq (c:=kdP) (M:=128) hk1 hkM hk2 (fun j hj=>(HSM.out j hj).trans HK0.out.symm) (.inr (.inr (by rw[hxk,HK0.out];exact h2)))
      obtain⟨cx,hcx⟩:∃z:Int,128*((kdP x:Nat):Int)=z:=⟨_,rfl⟩;have g2:(cx==cz)=false:=beq_eq_false_iff_ne.2 (by have:=HCZ.out;omega);rw[hcx]at zpg;clear HSM hxk h2 hcx;go_wp2_with fail
      refine zpg.mono ?_;rintro e u ⟨rfl,rfl⟩;clear zpg;go_wp2;go_meet;exact⟨k,rfl,HRN.out,hk1,hk2,hkM,rfl⟩
  case rest =>
   obtain⟨k,rfl,hrn,hk1,hk2,hkM,rfl⟩:=hcut;have hkl:(m.take k).length=k:=(by rw[qL];omega);have zzl:=zvd B c G zs (some ⟨b,off,none⟩) cap' (m.take k) c0 wo hP (HR.out.take k) HG.out ((hK.cell (p:=⟨c,0,none⟩) HGc.out).trans HC.out) HGc.out (zvc HX.out hrn HK0.out) (by omega) (by omega) (by omega);rw[hkl,HCZ.out]at zzl;have HT2:Hid (zs++[128*c0+k-1]++(m.take k).flatMap (enP c0)++pk PP (m.drop k)=tot):=by
    show _=_;have:=zjl (P:=PP) (by decide) (l:=m) (i:=0) (e:=k) (c0:=c0) (h:=128*c0+k-1) (ys:=zs) (tot:=tot) hm0 (by rw[List.drop_zero];exact hrn) (by omega) HK0.out (by show _=128*c0+(k-0)-1;omega) (by rw[List.drop_zero];exact HT.out);rw[List.drop_zero]at this;exact this
   have HX2:Hid (∀x∈m.drop k,DP x):=fun x hx=>HX.out x (List.mem_of_mem_drop hx);have zdp:(some ⟨b,off,none⟩:OA).map (fun x=>x.add k)=some ⟨b,off+k,none⟩:=(by show some (Addr.add _ k)=_;rw[show(⟨b,off,none⟩:Addr).add k=⟨b,off+k,none⟩ by unfold Addr.add;split <;> simp_all]);have hrd:=HR.out.from k hk2;rw[zdp]at hrd;have HRD:Hid (Ri wo (if cap'=k then some ⟨b,off,none⟩else some ⟨b,off+k,none⟩) (cap'-k) (m.drop k)):=hrd;have hdl:(m.drop k).length=m.length-k:=qJ;have HGF:Hid (∀b1 o,(if cap'=k then some ⟨b,off,none⟩else some ⟨b,off+k,none⟩:OA)=some ⟨b1,o,none⟩->G b1):=fun b1 o e=>by
    split at e <;> (cases e;exact HG.out b off rfl)
   clear zdp hrd;clear hrn hkl HT HX HK0 HR;go_wp2_with fail
   refine zzl.mono ?_;rintro e u1 ⟨rfl,hP2,hK2⟩;have HRD2:Hid (Ri u1 (if cap'=k then some ⟨b,off,none⟩else some ⟨b,off+k,none⟩) (cap'-k) (m.drop k)):=HRD.out.kept hK2 HGF.out;replace hK:=hK.trans hK2;clear zzl hP hK2 HRD;go_wp2;go_roundw
   case rel=>exact⟨m.drop k,_,_,_,by rw[hdl],HRD2.out,HGF.out,HT2.out,HX2.out,by omega,hP2,hK⟩
   case measure=>show m.length-k<m.length;omega
theorem ztc(B c:Nat)(G:Nat->Prop)(ys:LN)(a:OA)(cap:Nat)(l:LI)(w:World)(h:Pc w B G ⟨ys,[],false⟩)(hr:Ri w a cap l)(hG:∀b o,a=some ⟨b,o,none⟩->G b)(hc:w.cell? ⟨c,0,none⟩=some (pg B))(hGc:G c)
    (hx:∀x∈l,DC x) (hl2:l.length<=2000) (hl:(ys++pk PC l).length<=20000) :
    Calls Tryz.prog 238 #[.slice a l.length cap,.int .i64 64,.func (.func 244) #[] #[],.func (.func 245) #[] #[pg c]] w fun e w'=>e=.returned (.tuple #[])/\Pc w' B G ⟨ys++pk PC l,[],false⟩/\Keep G w w':=by
 obtain⟨tot,zhx⟩:∃t,ys++pk PC l=t:=⟨_,rfl⟩;rw[zhx]at hl ⊢;have HC:Hid (w.cell? ⟨c,0,none⟩=some (pg B)):=hc;have HGc:Hid (G c):=hGc;have zxr:Hid (ys++pk PC l=tot):=zhx;clear hc hGc zhx;go_enter func238,ntmps238;go_wp2
 go_loopw [0] (fun v wr=>∃(m:LI) (a':OA) (cap':Nat) (zs:LN),v=.slice a' m.length cap'/\Ri wr a' cap' m/\(∀b o,a'=some ⟨b,o,none⟩->G b)/\zs++pk PC m=tot/\(∀x∈m,DC x)/\m.length<=2000/\Pc wr B G ⟨zs,[],false⟩/\Keep G w wr) (fun v _=>slLen v)
 case atStart=>exact⟨l,a,cap,ys,rfl,hr,hG,zxr.out,hx,hl2,h,Keep.refl _ _⟩
 case round =>
  clear h hr hG hx hl2 zxr;obtain⟨m,a',cap',zs,rfl,hr,hG,ht,hx,hl2,hP,hK⟩:=hrel;have HT:Hid (zs++pk PC m=tot):=ht;have hzl:zs.length<=20000:=by rw[<-ht,qA]at hl;omega
  have HX:Hid (∀x∈m,DC x):=hx;have HG:Hid (∀b o,a'=some ⟨b,o,none⟩->G b):=hG;have HR:Hid (Ri wr a' cap' m):=hr;have hcp:=hr.2.1;have hcm:=hr.2.2.1;unfold maxLen at hcm;clear ht hx hG hr;by_cases hm0:0<m.length;rotate_left
  . obtain rfl:m=[]:=List.length_eq_zero_iff.1 (by omega)
    have HZ:Hid (zs=tot):=(by show _=_;rw[<-HT.out,zkz,List.append_nil]);rw[HZ.out]at hP;clear HT HX HG HR HZ hzl hm0 hl2 hcp;go_wp2
    go_end0
    exact⟨rfl,hP,hK⟩
  obtain⟨b,off,ea,hb,d0⟩:=HR.out.get 0 hm0;obtain⟨x0,hx0⟩:∃x,m.getD 0 0=x:=⟨_,rfl⟩;rw[hx0,Nat.add_zero]at d0;have hk0:=zog x0 wr;obtain⟨c0,hc0⟩:∃k,kdC x0=k:=⟨_,rfl⟩;obtain⟨cz,hcz⟩:∃z:Int,64*(c0:Int)=z:=⟨_,rfl⟩;rw[hc0,hcz]at hk0;have HCZ:Hid (64*(c0:Int)=cz):=hcz;have HK0:Hid (kdC (m.getD 0 0)=c0):=by show _=_;rw[hx0];exact hc0
  have hc3:c0<=2:=by rw[<-hc0];rcases zba x0 with h | h | h <;> omega
  subst ea;clear hx0 hc0 hcz;have g0:(0:Int)<(m.length:Int):=by omega
  go_wp2_with fail
  refine hk0.mono ?_;rintro e u ⟨rfl,rfl⟩;clear hk0 d0;obtain⟨wo,rfl⟩:∃wo,wo=wr:=⟨_,rfl⟩
  go_upto_block 2 with fail
  go_cut [9]from 18 to 35 (fun s9 wx=>∃k:Nat,s9=.int .i64 (k:Int)/\rn PC.c PC.M m=k/\1<=k/\k<=m.length/\k<=64/\wo=wx)
  case first =>
   go_wp2_with fail
   go_loopw [9] (fun s9 wr=>∃k:Nat,1<=k/\k<=m.length/\k<=64/\s9=.int .i64 (k:Int)/\(∀j,j<k->kdC (m.getD j 0)=c0)/\wo=wr) (fun s9 _=>m.length-(intOf s9).toNat)
   case atStart=>exact⟨1,qE _,by omega,by omega,rfl,(fun j hj=>by rw[show j=0 by omega];exact HK0.out),rfl⟩
   case round =>
    obtain⟨k,hk1,hk2,hkM,rfl,hsm,rfl⟩:=hrel;have HSM:Hid (∀j,j<k->kdC (m.getD j 0)=c0):=hsm;clear hsm;obtain⟨mn,hmn⟩:∃n:Nat,min (m.length:Int) 64=(n:Int):=⟨min m.length 64,by omega⟩;have z17:(mn=m.length/\m.length<=64)\/(mn=64/\64<=m.length):=(by omega);by_cases h1:k<mn;rotate_left
    . have HRN:Hid (rn PC.c PC.M m=k):=rn_eq (c:=kdC) (M:=64) hk1 hkM hk2 (fun j hj=>(HSM.out j hj).trans HK0.out.symm) (by omega)
      have g1:decide (k<mn)=false:=qB h1;clear HSM h1 z17;go_wp2;go_meet;exact⟨k,rfl,HRN.out,hk1,hk2,hkM,rfl⟩
    obtain⟨b',off',ea',hb',d1⟩:=HR.out.get k (by omega);obtain⟨x,hxk⟩:∃x,m.getD k 0=x:=⟨_,rfl⟩;rw[hxk]at d1;have zpg:=zog x wo;have g1:decide (k<mn)=true:=qC h1;have i1:(0:Int)<=(k:Int):=(by omega);have i2:(k:Int)<(m.length:Int):=(by omega);cases ea';by_cases h2:kdC x=c0
    . have zqc:Hid (∀j,j<k+1->kdC (m.getD j 0)=c0):=fun j hj=>by
        rcases Nat.lt_or_ge j k with h3|h3
        . exact HSM.out j h3
        . rw[show j=k by omega,hxk];exact h2
      rw[h2,HCZ.out]at zpg;have g2:(cz==cz)=true:=(by simp);clear HSM hxk h2;go_wp2_with fail
      refine zpg.mono ?_;rintro e u ⟨rfl,rfl⟩;clear zpg;go_wp2;go_roundw
      case rel=>exact⟨k+1,by omega,by omega,by omega,by go_num,zqc.out,trivial⟩
      case measure=>simp[intOf];omega
    . have HRN:Hid (rn PC.c PC.M m=k):=rn_eq (c:=kdC) (M:=64) hk1 hkM hk2 (fun j hj=>(HSM.out j hj).trans HK0.out.symm) (.inr (.inr (by rw[hxk,HK0.out];exact h2)))
      obtain⟨cx,hcx⟩:∃z:Int,64*((kdC x:Nat):Int)=z:=⟨_,rfl⟩;have g2:(cx==cz)=false:=beq_eq_false_iff_ne.2 (by have:=HCZ.out;omega);rw[hcx]at zpg;clear HSM hxk h2 hcx;go_wp2_with fail
      refine zpg.mono ?_;rintro e u ⟨rfl,rfl⟩;clear zpg;go_wp2;go_meet;exact⟨k,rfl,HRN.out,hk1,hk2,hkM,rfl⟩
  case rest =>
   obtain⟨k,rfl,hrn,hk1,hk2,hkM,rfl⟩:=hcut;have hkl:(m.take k).length=k:=(by rw[qL];omega);have zzl:=zvf B c G zs (some ⟨b,off,none⟩) cap' (m.take k) c0 wo hP (HR.out.take k) HG.out ((hK.cell (p:=⟨c,0,none⟩) HGc.out).trans HC.out) HGc.out (zve HX.out hrn HK0.out) (by omega) (by omega) (by omega);rw[hkl,HCZ.out]at zzl;have HT2:Hid (zs++[64*c0+k-1]++(m.take k).flatMap (enC c0)++pk PC (m.drop k)=tot):=by
    show _=_;have:=zjl (P:=PC) (by decide) (l:=m) (i:=0) (e:=k) (c0:=c0) (h:=64*c0+k-1) (ys:=zs) (tot:=tot) hm0 (by rw[List.drop_zero];exact hrn) (by omega) HK0.out (by show _=64*c0+(k-0)-1;omega) (by rw[List.drop_zero];exact HT.out);rw[List.drop_zero]at this;exact this
   have HX2:Hid (∀x∈m.drop k,DC x):=fun x hx=>HX.out x (List.mem_of_mem_drop hx);have zdp:(some ⟨b,off,none⟩:OA).map (fun x=>x.add k)=some ⟨b,off+k,none⟩:=(by show some (Addr.add _ k)=_;rw[show(⟨b,off,none⟩:Addr).add k=⟨b,off+k,none⟩ by unfold Addr.add;split <;> simp_all]);have hrd:=HR.out.from k hk2;rw[zdp]at hrd;have HRD:Hid (Ri wo (if cap'=k then some ⟨b,off,none⟩else some ⟨b,off+k,none⟩) (cap'-k) (m.drop k)):=hrd;have hdl:(m.drop k).length=m.length-k:=qJ;have HGF:Hid (∀b1 o,(if cap'=k then some ⟨b,off,none⟩else some ⟨b,off+k,none⟩:OA)=some ⟨b1,o,none⟩->G b1):=fun b1 o e=>by
    split at e <;> (cases e;exact HG.out b off rfl)
   clear zdp hrd;clear hrn hkl HT HX HK0 HR;go_wp2_with fail
   refine zzl.mono ?_;rintro e u1 ⟨rfl,hP2,hK2⟩;have HRD2:Hid (Ri u1 (if cap'=k then some ⟨b,off,none⟩else some ⟨b,off+k,none⟩) (cap'-k) (m.drop k)):=HRD.out.kept hK2 HGF.out;replace hK:=hK.trans hK2;clear zzl hP hK2 HRD;go_wp2;go_roundw
   case rel=>exact⟨m.drop k,_,_,_,by rw[hdl],HRD2.out,HGF.out,HT2.out,HX2.out,by omega,hP2,hK⟩
   case measure=>show m.length-k<m.length;omega
structure CodP:Prop where
 pts:∀(a:OA) (cap:Nat) (l:LI) (w:World),Ri w a cap l->l.length<=3000->Calls Tryz.prog 188 #[.slice a l.length cap] w fun e w'=>∃a' c',e=.returned (.tuple #[.slice a' (ppB l).length c',.int .i64 (ppE l)])/\Rb w' a' c' (ppB l)/\Below w.heap.size w w'
 rpts:∀(a:OA) (cap:Nat) (b:LN) (w:World),Rb w a cap b->b.length<=10000->Calls Tryz.prog 195 #[.slice a b.length cap] w fun e w'=>∃a' c',e=.returned (.tuple #[.slice a' (rpL b).length c',.int .i64 (rpN b),.int .i64 (rpE b)])/\Ri w' a' c' (rpL b)/\Below w.heap.size w w'
 chs:∀(a:OA) (cap:Nat) (l:LI) (w:World),Ri w a cap l->l.length<=3000->Calls Tryz.prog 189 #[.slice a l.length cap] w fun e w'=>∃a' c',e=.returned (.tuple #[.slice a' (pcB l).length c',.int .i64 (pcE l)])/\Rb w' a' c' (pcB l)/\Below w.heap.size w w'
 rchs:∀(a:OA) (cap:Nat) (b:LN) (n:Int) (w:World),Rb w a cap b->b.length<=10000->I64 n->Calls Tryz.prog 253 #[.slice a b.length cap,.int .i64 n] w fun e w'=>∃a' c',e=.returned (.tuple #[.slice a' (rcL b n).length c',.int .i64 (rcN b n),.int .i64 (rcE b n)])/\Ri w' a' c' (rcL b n)/\Below w.heap.size w w'
theorem zuy{l:LI}(h:ptB l=true):(ppB l).length<=3*l.length+2:=by
 obtain⟨h1,h2⟩:=zb1 h;have:=zgk fitP (m:=3) (fun x _=>by show szP (kdP x)+1<=3;unfold szP;split <;> omega) _ (stps 0 l) rfl h1;have h3:(cnE l.length).length<=2:=by unfold cnE;split <;> simp
 rw[zbj]at this;rw[ppB,if_pos h,qA];omega
theorem ztq(a:OA)(cap:Nat)(l:LI)(w:World)(h:Ri w a cap l)(hl:l.length<=2000)(hx:∀k,k<l.length->0<=l.getD k 0/\l.getD k 0<=65535) :
 Calls Tryz.prog 239 #[.slice a l.length cap] w fun e w'=>∃a' cap',e=.returned (.slice a' (stps 0 l).length cap')/\Ri w' a' cap' (stps 0 l)/\(∀b o,a'=some ⟨b,o,none⟩->w.heap.size<=b/\b<w'.heap.size)/\Below w.heap.size w w':=by
 obtain⟨i0,hi0,hz0,hz1,hz2⟩:=info_parts zcu;obtain⟨w1,hmk,hown,hgrow⟩:=run_makeSlice_owned w w.heap.size 29 3 i0 _ 1 underlying29 hi0 hz0 hz1 .i64 .i64 l.length (by omega) (by rw[hz2];omega) (by unfold maxLen;omega) (qE _);have hI0:Io w.heap.size w1 (.slice (some ⟨w.heap.size,0,none⟩) 0 l.length) (stpK l 0):=⟨fun t ht=>(by cases ht),hown⟩;have hB1:Below w.heap.size w w1:=(Below.refl _ _).grown hgrow (qE _) (fun k hk=>by cases hk);clear hown hgrow hi0 hz0 hz1 hz2;have HH:Hid (Ri w a cap l):=h;have HXX:Hid (∀k,k<l.length->0<=l.getD k 0/\l.getD k 0<=65535):=hx;clear h hx;go_enter func239,ntmps239;go_wp2
 go_loopw [3,4,12] (fun v ah i wr=>∃(k:Nat) (z:Int),k<=l.length/\i=.int .i64 k/\ah=.int .i64 z/\z=(if k=0 then 0 else l.getD (k-1) 0)/\Io w.heap.size wr v (stpK l k)/\Below w.heap.size w wr) (fun _ _ i _=>l.length-(intOf i).toNat)
 case atStart=>exact⟨0,0,qD _,rfl,rfl,rfl,hI0,hB1⟩
 case round =>
  obtain⟨k,z,hk,rfl,rfl,hz,hT,hB⟩:=hrel;obtain⟨a2,c2,rfl,hts⟩:=hT.slice;have hlen:=zew l k;rw[hlen]at hT ⊢;have hll:(stpK l k).length+1<=1000000:=by omega
  have HT:Hid (Io w.heap.size wr (.slice a2 k c2) (stpK l k)):=hT;clear hT hlen hmk hI0 hB1;by_cases hkn:k<l.length;rotate_left
  . obtain rfl:k=l.length:=by omega
    have HB2:Hid (∀b o,a2=some ⟨b,o,none⟩->w.heap.size<=b/\b<wr.heap.size):=fun b o e=>by
     subst e;exact World.ownsRow.lt HT.out.2 b rfl
    have g1:¬(l.length:Int)<(l.length:Int):=(by omega);clear hz;go_wp2;go_ret;exact⟨a2,c2,by rw[zbj];rfl,by rw[<-zqu];exact hts,HB2.out,hB⟩
  clear hts;obtain⟨b,off,ea,hb,d0⟩:=HH.out.at hB k hkn;subst ea;have hzb:0<=z/\z<=65535:=by
   rw[hz];split
   . omega
   . exact HXX.out _ (by omega)
  have hxb:=HXX.out k hkn;have HS:Hid (stpK l (k+1)=stpK l k++[l.getD k 0-z]):=by
   show _=_;rw[zhc,hz];by_cases h0:k=0
   . rw[if_pos h0,if_pos h0,h0,Int.sub_zero]
   . rw[if_neg h0,if_neg h0]
  obtain⟨x,hx⟩:∃x,l.getD k 0=x:=⟨_,rfl⟩;have HZ2:Hid (x=(if k+1=0 then 0 else l.getD (k+1-1) 0)):=by show _=_;rw[if_neg (by omega),Nat.add_sub_cancel,hx]
  rw[hx]at d0 HS hxb;clear hz hx;obtain⟨y,hy⟩:∃y,x-z=y:=⟨_,rfl⟩;rw[hy]at HS;have hyi:I64 y:=⟨by omega,by omega⟩;have hT5:=HT.out.below (bl1 (.cells #[.int .i64 y] 3));have hN:=heap_alloc_new wr (.cells #[.int .i64 y] 3);have n0:=cell_of_row _ wr.heap.size 0 _ _ (0,0) hN;have hbs:w.heap.size<=(wr.alloc (.cells #[.int .i64 y] 3)).heap.size:=qF hB.size (bl1 _).size;have i1:(0:Int)<=(k:Int):=by omega
  have i2:(k:Int)<(l.length:Int):=by omega
  clear hN;go_wp2_with (at_builtin;refine zad rfl _ _ rfl w.heap.size _ (stpK l k) rfl hT5 wr.heap.size y rfl n0 hyi hll hbs ?_)
  intro v' w9 hT9 hgrow;have hB9:Below w.heap.size w w9:=(hB.alloc hB.size _).grown hgrow hbs (fun k hk=>HT.out.lo hk);rw[<-HS.out]at hT9;clear hgrow hT5 n0 hbs;go_wp2;go_roundw
  case rel=>exact⟨k+1,x,by omega,by go_num,rfl,HZ2.out,hT9,hB9⟩
  case measure=>simp[intOf];omega
theorem zjw(A l:LI)(k:Nat)(hA:A.length=k):(A++l.drop k).getD k 0=l.getD k 0:=by
 simp[List.getD,List.getElem?_append,hA,List.getElem?_drop]
theorem zuh{l:LI}{k:Nat}{y:Int}(hk:k<l.length)(hy:l.getD k 0=y):(sums 0 (l.take k)++l.drop k).set k (lastS 0 (l.take k)+y)=sums 0 (l.take (k+1))++l.drop (k+1)/\lastS 0 (l.take (k+1))=lastS 0 (l.take k)+y:=by
 have e:l.take (k+1)=l.take k++[y]:=by
  rw[List.take_add_one,qG hk,<-hy];simp[List.getD,hk]
 have d:l.drop k=y::l.drop (k+1):=by
  rw[List.drop_eq_getElem_cons hk,<-hy];simp[List.getD,hk]
 have hlen:(sums 0 (l.take k)).length=k:=by rw[zgb,qL];omega
 rw[e,zg9,zfx,d];refine⟨?_,rfl⟩;rw[List.set_append_right _ _ (by omega),hlen,Nat.sub_self];simp[sums]
theorem zvg:∀(l:LI) (a:Int),(∀z∈l,0<=z/\z<=65535)->a<=lastS a l/\lastS a l<=a+65535*l.length:=by
 intro l
 induction l with
 | nil=>intro a _;simp[lastS]
 | cons d t ih =>
  intro a h;have h1:=h d (by simp);have h2:=ih (a+d) (fun z hz=>h z (by simp[hz]));rw[lastS,List.length_cons];omega
theorem zp4(base:Nat)(v:Value)(l:LI)(w:World)(h:Io base w v l)(hx:∀z∈l,0<=z/\z<=65535)(hl:l.length<=40000) :
 Calls Tryz.prog 252 #[v] w fun e w'=>e=.returned (.tuple #[])/\Io base w' v (sums 0 l)/\Below base w w':=by
 obtain⟨a,cap,rfl,hri⟩:=h.slice;have HXX:Hid (∀z∈l,0<=z/\z<=65535):=hx;clear hx hri;go_enter func252,ntmps252;go_wp2
 go_loopw [2,7] (fun sm i wr=>∃(k:Nat) (s:Int),k<=l.length/\i=.int .i64 k/\sm=.int .i64 s/\s=lastS 0 (l.take k)/\Io base wr (.slice a l.length cap) (sums 0 (l.take k)++l.drop k)/\Below base w wr) (fun _ i _=>l.length-(intOf i).toNat)
 case atStart=>exact⟨0,0,qD _,rfl,rfl,rfl,h,Below.refl _ _⟩
 case round =>
  clear h;obtain⟨k,s,hk,rfl,rfl,hs,hT,hB⟩:=hrel;by_cases hkn:k<l.length;rotate_left
  . obtain rfl:k=l.length:=by omega
    rw[List.take_length,List.drop_length,List.append_nil]at hT;have g1:¬(l.length:Int)<(l.length:Int):=(by omega);clear hs;go_wp2
    go_end0
    exact⟨rfl,hT,hB⟩
  have hsl:=zgb 0 (l.take k);rw[qL,show min k l.length=k by omega]at hsl;have hne:sums 0 (l.take k)++l.drop k≠[]:=by
   intro e;have:=congrArg List.length e;rw[qA,qJ,hsl]at this;simp at this;omega
  have hLl:(sums 0 (l.take k)++l.drop k).length=l.length:=by rw[qA,qJ,hsl];omega
  obtain⟨g,cp,ev,hgb,hgl,hgc,hgx,hgf,hgs⟩:=hT.own hne;have d0:=hgx k (by omega);rw[zjw _ l k hsl]at d0;have hyb:=HXX.out _ (zc8 hkn);obtain⟨y,hy⟩:∃y,l.getD k 0=y:=⟨_,rfl⟩;obtain⟨hs1,hs2⟩:=zuh hkn hy;have hsb:=zvg (l.take k) 0 (fun z hz=>HXX.out z (List.mem_of_mem_take hz));rw[qL]at hsb;rw[<-hs]at hs1 hs2 hsb;rw[hy]at d0 hyb;obtain⟨t,ht⟩:∃t,s+y=t:=⟨_,rfl⟩;rw[ht]at hs1 hs2;have hti:I64 t:=⟨by omega,by omega⟩;have hst:=hgs k t (by omega) hti;rw[hs1]at hst;have hfz:=hgf k;have hBs:Below base w (wr.setCell ⟨g,k,none⟩ (.int .i64 t)):=hB.setCell (p:=⟨g,k,none⟩) hgb _;have HS2:Hid (t=lastS 0 (l.take (k+1))):=hs2.symm;have HST:Hid (Io base (wr.setCell ⟨g,k,none⟩ (.int .i64 t)) (.slice a l.length cap) (sums 0 (l.take (k+1))++l.drop (k+1))):=hst;have hev:a=some ⟨g,0,none⟩:=by injection ev
  subst hev;have i1:(0:Int)<=(k:Int):=by omega
  have i2:(k:Int)<(l.length:Int):=by omega
  have ht1:-9223372036854775808<=t/\t<=9223372036854775807:=hti;clear hs hT hsl hne hLl hgx hgs hs1 hs2 hst hy ev hsb hyb hgf hti;go_wp2;go_roundw
  case rel=>exact⟨k+1,t,by omega,by go_num,rfl,HS2.out,HST.out,hBs⟩
  case measure=>simp[intOf];omega
theorem zql{w W:World}(hW:W=(w.alloc (.cells #[.slice none 0 0,.int .i64 0,.map none,.bool false] 90)).alloc (.cells #[pg w.heap.size] 87)) :
 Pc W w.heap.size (fun k=>k<w.heap.size\/k=w.heap.size+1) ⟨[],[],false⟩/\W.cell? ⟨w.heap.size+1,0,none⟩=some (pg w.heap.size)/\Below w.heap.size w W:=by
 have h1:=zjn w (· < w.heap.size) (fun _ h=>h);have hs:(w.alloc (.cells #[.slice none 0 0,.int .i64 0,.map none,.bool false] 90)).heap.size=w.heap.size+1:=by simp
 have h2:=h1.moreA (.cells #[pg w.heap.size] 87);have hN:=heap_alloc_new (w.alloc (.cells #[.slice none 0 0,.int .i64 0,.map none,.bool false] 90)) (.cells #[pg w.heap.size] 87);rw[hs,<-hW]at hN;rw[hs,<-hW]at h2;refine⟨h2,cell_of_row _ (w.heap.size+1) 0 _ _ (0,0) hN,?_⟩;rw[hW];exact bl2 _ _
theorem zmr(a:OA)(cap:Nat)(l:LI)(w:World)(h:Ri w a cap l) :
 Calls Tryz.prog 188 #[.slice a l.length cap] w fun e w'=>∃a' c',e=.returned (.tuple #[.slice a' (ppB l).length c',.int .i64 (ppE l)])/\Rb w' a' c' (ppB l)/\Below w.heap.size w w':=by
 have k2:=h.lenB;have hfo:=zh8 a cap l w h;cases hc:ptB l with
 | false =>
  have HE:Hid (ppE l=1/\ppB l=[]):=⟨by simp[ppE,hc],by simp[ppB,hc]⟩;rw[hc]at hfo;clear hc h;go_enter func188,ntmps188;go_wp2_with fail
  refine hfo.mono ?_;rintro e u1 ⟨rfl,rfl⟩;clear hfo;go_wp2;go_ret2;exact⟨none,0,by rw[HE.out.1,HE.out.2];rfl,by rw[HE.out.2];exact Rb.nil _ _ _ (qD _) (fun _=>rfl),Below.refl _ _⟩
 | true =>
  have HE:Hid (ppE l=0/\ppB l=cnE l.length++pk PP (stps 0 l)):=⟨by simp[ppE,hc],by simp[ppB,hc]⟩;have hst:=zb1 hc;have hl2:=hst.2;have HST:Hid (∀z∈stps 0 l,DP z):=hst.1;have HXX:Hid (∀k,k<l.length->0<=l.getD k 0/\l.getD k 0<=65535):=fun k hk=>⟨(znu hc hk).1,(znu hc hk).2.1⟩;have hsh:=zuy hc;rw[HE.out.2]at hsh;have HSH:Hid ((cnE l.length++pk PP (stps 0 l)).length<=20000):=by show _<=_;omega
  rw[hc]at hfo;clear hc hst hsh;go_enter func188,ntmps188;go_wp2_with fail
  refine hfo.mono ?_;rintro e u1 ⟨rfl,rfl⟩;clear hfo;obtain⟨W,hW⟩:∃W,W=(w.alloc (.cells #[.slice none 0 0,.int .i64 0,.map none,.bool false] 90)).alloc (.cells #[pg w.heap.size] 87):=⟨_,rfl⟩;obtain⟨hP,hcl,hB⟩:=zql hW;have hpc:=zky w.heap.size _ l.length W hP hl2;go_wp2_with fail
  rw[<-hW];refine hpc.mono ?_;rintro e u1 ⟨rfl,hP1,hK1⟩;clear hpc hP hW;replace hcl:=(hK1.cell (p:=⟨w.heap.size+1,0,none⟩) (.inr rfl)).trans hcl;replace hB:Below w.heap.size w u1:=hB.trans (hK1.below (fun k hk=>.inl hk));have hdf:=ztq a cap l u1 (h.below hB) hl2 HXX.out;clear hK1;go_wp2_with fail
  refine hdf.mono ?_;rintro e u2 ⟨a2,c2,rfl,hri,hbk,hb2⟩;clear hdf;have hP2:=hP1.wider hb2;have hcb:=World.block_lt_of_cell? u1 _ hcl;have hcl2:u2.cell? ⟨w.heap.size+1,0,none⟩=some (pg w.heap.size):=(hb2.cell (p:=⟨w.heap.size+1,0,none⟩) hcb).trans hcl;have hea:=ztb w.heap.size (w.heap.size+1) _ _ a2 c2 (stps 0 l) u2 hP2 hri (fun b o e=>.inr (hbk b o e)) hcl2 (.inl (.inr rfl)) HST.out (by rw[zbj];exact hl2) HSH.out;replace hB:Below w.heap.size w u2:=hB.trans (hb2.mono hB.size);clear hP1 hP2 hcb hcl hbk hb2 hri;go_wp2_with fail
  refine hea.mono ?_;rintro e u3 ⟨rfl,hP3,hK3⟩;clear hea;have hcl3:u3.cell? ⟨w.heap.size+1,0,none⟩=some (pg w.heap.size):=(hK3.cell (p:=⟨w.heap.size+1,0,none⟩) (.inl (.inr rfl))).trans hcl2;replace hB:Below w.heap.size w u3:=hB.trans (hK3.below (fun k hk=>.inl (.inl hk)));have hal:=zfn w.heap.size _ _ u3 hP3 (by have:=HSH.out;show(cnE l.length++pk PP (stps 0 l)).length<=_;omega);rw[all_B,all_E,<-HE.out.2]at hal;clear hP3 hK3 hcl2;go_wp2_with fail
  refine hal.mono ?_;rintro e u4 ⟨a4,c4,rfl,hrw,hb4⟩;clear hal;replace hB:Below w.heap.size w u4:=hB.trans (hb4.mono hB.size);go_wp2;go_ret2;exact⟨a4,c4,by rw[HE.out.1];rfl,Rw.rd hrw,hB⟩
theorem zpq(B c:Nat)(G:Nat->Prop)(a:OA)(cap:Nat)(l:LI)(w:World)(h:Pc w B G ⟨[],[],false⟩)(h0:l=[]) :
 Calls Tryz.prog 238 #[.slice a l.length cap,.int .i64 64,.func (.func 244) #[] #[],.func (.func 245) #[] #[pg c]] w fun e w'=>e=.returned (.tuple #[])/\Pc w' B G ⟨[]++pk PC l,[],false⟩/\Keep G w w':=by
 subst h0;rw[zkz,List.append_nil,List.length_nil];go_enter func238,ntmps238;go_wp2
 go_loopw [0] (fun v wr=>v=.slice a 0 cap/\w=wr) (fun _ _=>0)
 case atStart=>exact⟨rfl,rfl⟩
 case round =>
  obtain⟨rfl,rfl⟩:=hrel;go_wp2
  go_end0
  exact⟨rfl,h,Keep.refl _ _⟩
theorem zlh(a:OA)(cap:Nat)(l:LI)(w:World)(h:Ri w a cap l) :
 Calls Tryz.prog 189 #[.slice a l.length cap] w fun e w'=>∃a' c',e=.returned (.tuple #[.slice a' (pcB l).length c',.int .i64 (pcE l)])/\Rb w' a' c' (pcB l)/\Below w.heap.size w w':=by
 have k2:=h.lenB;have hfo:=zmq a cap l w h;cases hc:chB l with
 | false =>
  have HE:Hid (pcE l=1/\pcB l=[]):=⟨by simp[pcE,hc],by simp[pcB,hc]⟩;rw[hc]at hfo;clear hc h;go_enter func189,ntmps189;go_wp2_with fail
  refine hfo.mono ?_;rintro e u1 ⟨rfl,rfl⟩;clear hfo;go_wp2;go_ret2;exact⟨none,0,by rw[HE.out.1,HE.out.2];rfl,by rw[HE.out.2];exact Rb.nil _ _ _ (qD _) (fun _=>rfl),Below.refl _ _⟩
 | true =>
  have HE:Hid (pcE l=0/\pcB l=pk PC l):=⟨by simp[pcE,hc],by simp[pcB,hc]⟩;have hl2:=(zcp.1 hc).2;have HST:Hid (∀z∈l,DC z):=(zcp.1 hc).1;have hsh:=zci hc;rw[HE.out.2]at hsh;have HSH:Hid (([]++pk PC l).length<=20000):=by show _<=_;rw[List.nil_append];omega
  rw[hc]at hfo;clear hc hsh;go_enter func189,ntmps189;go_wp2_with fail
  refine hfo.mono ?_;rintro e u1 ⟨rfl,rfl⟩;clear hfo;obtain⟨W,hW⟩:∃W,W=(w.alloc (.cells #[.slice none 0 0,.int .i64 0,.map none,.bool false] 90)).alloc (.cells #[pg w.heap.size] 87):=⟨_,rfl⟩;obtain⟨hP,hcl,hB⟩:=zql hW;have hrn:l=[]\/∀b o,a=some ⟨b,o,none⟩->b<w.heap.size:=by
   rcases h.2.2.2 with h0|⟨b,off,e,hb,_⟩
   . exact .inl h0
   . exact .inr (fun b' o e'=>by rw[e]at e';cases e';exact hb)
  obtain⟨n,hn⟩:∃n,l.length=n:=⟨_,rfl⟩;have hea:Calls Tryz.prog 238 #[.slice a l.length cap,.int .i64 64,.func (.func 244) #[] #[],.func (.func 245) #[] #[pg (w.heap.size+1)]] W fun e w'=>e=.returned (.tuple #[])/\Pc w' w.heap.size (fun k=>k<w.heap.size\/k=w.heap.size+1) ⟨[]++pk PC l,[],false⟩/\Keep (fun k=>k<w.heap.size\/k=w.heap.size+1) W w':=by
   rcases hrn with h0|h0
   . exact zpq _ _ _ a cap l W hP h0
   . exact ztc w.heap.size (w.heap.size+1) _ [] a cap l W hP (h.below hB) (fun b o e=>.inl (h0 b o e)) hcl (.inr rfl) HST.out hl2 HSH.out
  clear hP h hrn hn;go_wp2_with fail
  rw[<-hW];clear hW;refine hea.mono ?_;rintro e u3 ⟨rfl,hP3,hK3⟩;clear hea;have hcl3:u3.cell? ⟨w.heap.size+1,0,none⟩=some (pg w.heap.size):=(hK3.cell (p:=⟨w.heap.size+1,0,none⟩) (.inr rfl)).trans hcl;replace hB:Below w.heap.size w u3:=hB.trans (hK3.below (fun k hk=>.inl hk));rw[List.nil_append]at hP3;have hal:=zfn w.heap.size _ _ u3 hP3 (by have:=HSH.out;rw[List.nil_append]at this;show(pk PC l).length<=_;omega);rw[all_B,all_E,<-HE.out.2]at hal;clear hP3 hK3 hcl;go_wp2_with fail
  refine hal.mono ?_;rintro e u4 ⟨a4,c4,rfl,hrw,hb4⟩;clear hal;replace hB:Below w.heap.size w u4:=hB.trans (hb4.mono hB.size);go_wp2;go_ret2;exact⟨a4,c4,by rw[HE.out.1];rfl,Rw.rd hrw,hB⟩
theorem Io.sliceL{base:Nat}{w:World}{v:Value}{l:LI}(h:Io base w v l):∃a cap,v=.slice a l.length cap/\Ri w a cap l/\(∀b o,a=some ⟨b,o,none⟩->base<=b)/\(a=none->cap=0):=by
 obtain⟨a,cap,rfl,ht⟩:=h.slice;refine⟨a,cap,rfl,ht,fun b o e=>?_,fun e=>?_⟩
 . subst e
   exact h.lo (g:=b) (by rcases h.2.2 with ⟨e,_⟩ | ⟨g,_,_,e,_⟩ <;> cases e;rfl)
 . subst e
   rcases h.2.2 with ⟨e,_⟩|⟨g,_,_,e,_⟩ <;> injection e with e1 e2 e3
   . cases e1
def onto(zs:LI)(o:Option (LI×Nat)):Option (LI×Nat):=o.map (fun q=>(zs++q.1,q.2))
theorem zgm(o:Option (LI×Nat)):onto [] o=o:=by cases o <;> simp[onto]
theorem ze1(zs ys:LI)(o:Option (LI×Nat)):onto zs (onto ys o)=onto (zs++ys) o:=by cases o <;> simp[onto]
theorem zfg{R:Rp}{b:LN}{f p n:Nat}(hn:0<n)(h:hdB R b p n=false):rdF R b f p n=none:=by
 obtain⟨n,rfl⟩:∃m,n=m+1:=⟨n-1,by omega⟩;cases f with
 | zero=>rfl
 | succ f=>rw[rdF,h];rfl
theorem zgi{R:Rp}{b:LN}{p n c kd:Nat}(h:hdB R b p n=true)(hc:c=nmV b (p:Int) 1%R.M+1)(hk:kd=nmV b (p:Int) 1/R.M):rdF R b n p n=onto (runV R b kd (p+1) c) (rdF R b (n-c) (p+1+c*R.sz kd) (n-c)):=by
 subst hc hk;have hh:=of_decide_eq_true h;obtain⟨n,rfl⟩:∃m,n=m+1:=⟨n-1,by omega⟩;rw[rdF,if_pos h,zuv R b n (n+1-(nmV b (p:Int) 1%R.M+1)) _ _ (by omega) (by omega)];unfold onto;cases rdF R b (n+1-(nmV b (p:Int) 1%R.M+1)) (p+1+(nmV b (p:Int) 1%R.M+1)*R.sz (nmV b (p:Int) 1/R.M)) (n+1-(nmV b (p:Int) 1%R.M+1)) with
 | none=>rfl
 | some q=>rfl
theorem zay{l p n:Nat}:inB l (p:Int) (n:Int)=decide (p+n<=l):=by unfold inB;exact decide_eq_decide.2 ⟨fun h=>by omega,fun h=>by omega⟩
theorem zx9{v:Nat}(h:v<256):I64 (sx8 v):=by unfold sx8 I64;split <;> omega
theorem zdy{v:Nat}(h:v<65536):I64 (sx16 v):=by unfold sx16 I64;split <;> omega
theorem zed{b:LN}{n:Int}(h:rcO b n=none):rcL b n=[]/\rcN b n=0:=by unfold rcL rcN;rw[h];exact⟨rfl,rfl⟩
theorem zcs(a:OA)(cap:Nat)(b:LN)(n:Int)(w:World)(h:Rb w a cap b)(hn:I64 n)(hbl:b.length<=1000000000) :
 Calls Tryz.prog 153 #[.slice a b.length cap,.int .i64 n] w fun e w'=>∃a' c',e=.returned (.tuple #[.slice a' (rcL b n).length c',.int .i64 (rcN b n),.int .i64 (rcE b n)])/\Ri w' a' c' (rcL b n)/\(∀b o,a'=some ⟨b,o,none⟩->w.heap.size<=b)/\(a'=none->c'=0)/\Below w.heap.size w w':=by
 have HRB:Hid (Rb w a cap b):=h;clear h;by_cases hr:n<0
 . have HNO:Hid (rcL b n=[]/\rcN b n=0/\rcE b n=4):=by
     have h0:rcO b n=none:=(by rw[rcO,if_neg (by omega)]);refine⟨(zed h0).1,(zed h0).2,?_⟩;rw[rcE,h0];exact if_neg (by omega)
   have hbW:Below w.heap.size w w:=Below.refl _ _;go_enter func153,ntmps153;go_wp2
   go_ret3
   exact⟨none,0,by rw[HNO.out.1,HNO.out.2.1,HNO.out.2.2];rfl,by rw[HNO.out.1];exact Ri.nil _ _ _ (qD _),(fun _ _ e=>by cases e),(fun _=>rfl),hbW⟩
 by_cases hr2:2000<n
 . have HNO:Hid (rcL b n=[]/\rcN b n=0/\rcE b n=4):=by
     have h0:rcO b n=none:=(by rw[rcO,if_neg (by omega)]);refine⟨(zed h0).1,(zed h0).2,?_⟩;rw[rcE,h0];exact if_neg (by omega)
   have hbW:Below w.heap.size w w:=Below.refl _ _;go_enter func153,ntmps153;go_wp2
   go_ret3
   exact⟨none,0,by rw[HNO.out.1,HNO.out.2.1,HNO.out.2.2];rfl,by rw[HNO.out.1];exact Ri.nil _ _ _ (qD _),(fun _ _ e=>by cases e),(fun _=>rfl),hbW⟩
 obtain⟨N,rfl⟩:∃N:Nat,n=(N:Int):=⟨n.toNat,by omega⟩;have HO:Hid (rcO b (N:Int)=rdF RC b N 0 N):=by show _=_;rw[rcO,if_pos (by omega),Int.toNat_natCast]
 have HNN:Hid (rcO b (N:Int)=none->rcL b (N:Int)=[]/\rcN b (N:Int)=0/\rcE b (N:Int)=2):=fun h0=>by
  refine⟨(zed h0).1,(zed h0).2,?_⟩;rw[rcE,h0];exact if_pos (by omega)
 go_enter func153,ntmps153;go_wp2
 go_loopw [7,8] (fun v pp wr=>∃(p:Nat) (zs:LI),zs.length<=N/\p<=b.length/\pp=.int .i64 (p:Int)/\rcO b (N:Int)=onto zs (rdF RC b (N-zs.length) p (N-zs.length))/\Io w.heap.size wr v zs/\Below w.heap.size w wr) (fun _ pp _=>b.length-(intOf pp).toNat)
 case atStart=>exact⟨0,[],qD _,qD _,rfl,by rw[zgm];exact HO.out,Io.nil _ _,Below.refl _ _⟩
 case round =>
  obtain⟨p,zs,hz,hp,rfl,ho,hIo,hbW⟩:=hrel;have HOO:Hid (rcO b (N:Int)=onto zs (rdF RC b (N-zs.length) p (N-zs.length))):=ho;clear ho;obtain⟨av,cv,rfl,hri,hlo⟩:=hIo.sliceL;have HLO:Hid (_):=hlo;clear hlo;by_cases hzn:zs.length<N;rotate_left
  . have HZ:Hid (rcO b (N:Int)=some (zs,p)):=by
      show _=_;rw[HOO.out,show N-zs.length=0 by omega,zbe];simp[onto]
    have HY:Hid (rcL b (N:Int)=zs/\rcN b (N:Int)=(p:Int)/\rcE b (N:Int)=0):=by
     unfold rcL rcN rcE;rw[HZ.out];exact⟨rfl,rfl,rfl⟩
    have g1:¬(zs.length:Int)<(N:Int):=(by omega);go_wp2
    go_ret3
    exact⟨av,cv,by rw[HY.out.1,HY.out.2.1,HY.out.2.2];rfl,by rw[HY.out.1];exact hri,HLO.out.1,HLO.out.2,hbW⟩
  have hrb:=HRB.out.below hbW;have hu:=zc1 a cap b (p:Int) wr hrb ⟨by omega,by omega⟩;have hlt:=zam hrb.lim (p:Int) 1;rw[show inB b.length (p:Int) 1=decide (p+1<=b.length)from zay (n:=1)]at hu;obtain⟨h,hh⟩:∃h,nmV b (p:Int) 1=h:=⟨_,rfl⟩;have HH:Hid (nmV b (p:Int) 1=h):=hh;rw[hh]at hu hlt;simp only[Nat.pow_one]at hlt;have HBD:Hid (¬(p+1<=b.length/\h<192/\h%64+1<=N-zs.length/\p+1+(h%64+1)*szC (h/64)<=b.length)->rcO b (N:Int)=none):=fun hx=>by
   rw[HOO.out,zfg (by omega) (by rw[hdB,HH.out];exact qB hx)];rfl
  have HST:Hid ((p+1<=b.length/\h<192/\h%64+1<=N-zs.length/\p+1+(h%64+1)*szC (h/64)<=b.length)->rcO b (N:Int)=onto (zs++runV RC b (h/64) (p+1) (h%64+1)) (rdF RC b (N-zs.length-(h%64+1)) (p+1+(h%64+1)*szC (h/64)) (N-zs.length-(h%64+1)))):=fun hx=>by
   rw[HOO.out,zgi (c:=h%64+1) (kd:=h/64) (by rw[hdB,HH.out];exact qC hx) (by rw[HH.out];rfl) (by rw[HH.out];rfl),ze1];rfl
  obtain⟨m,hm⟩:∃m,h%64=m:=⟨_,rfl⟩;have hmi:(h:Int)%64=(m:Int):=by omega
  rw[hm]at HBD HST;have hm64:m<64:=by omega
  have g1:(zs.length:Int)<(N:Int):=by omega
  clear hh HOO hri;by_cases h1:p+1<=b.length;rotate_left
  . have HNO:=HNN.out (HBD.out (fun hx=>h1 hx.1))
    have HNO:Hid (_):=HNO;rw[qB h1]at hu;go_wp2_with fail
    refine hu.mono ?_;rintro e w1 ⟨rfl,rfl⟩;clear hu;go_wp2
    go_ret3
    exact⟨none,0,by rw[HNO.out.1,HNO.out.2.1,HNO.out.2.2];rfl,by rw[HNO.out.1];exact Ri.nil _ _ _ (qD _),(fun _ _ e=>by cases e),(fun _=>rfl),hbW⟩
  rw[qC h1]at hu;by_cases h2:h<192;rotate_left
  . have HNO:=HNN.out (HBD.out (fun hx=>h2 hx.2.1))
    have HNO:Hid (_):=HNO;have g2:(192:Int)<=(h:Int):=(by omega);go_wp2_with fail
    refine hu.mono ?_;rintro e w1 ⟨rfl,rfl⟩;clear hu;go_wp2
    go_ret3
    exact⟨none,0,by rw[HNO.out.1,HNO.out.2.1,HNO.out.2.2];rfl,by rw[HNO.out.1];exact Ri.nil _ _ _ (qD _),(fun _ _ e=>by cases e),(fun _=>rfl),hbW⟩
  have g2:¬(192:Int)<=(h:Int):=by omega
  by_cases h3:m+1<=N-zs.length;rotate_left
  . have HNO:=HNN.out (HBD.out (fun hx=>h3 hx.2.2.1))
    have HNO:Hid (_):=HNO;have g3:(N:Int)-(zs.length:Int)<(m:Int)+1:=(by omega);go_wp2_with fail
    refine hu.mono ?_;rintro e w1 ⟨rfl,rfl⟩;clear hu;go_wp2
    go_ret3
    exact⟨none,0,by rw[HNO.out.1,HNO.out.2.1,HNO.out.2.2];rfl,by rw[HNO.out.1];exact Ri.nil _ _ _ (qD _),(fun _ _ e=>by cases e),(fun _=>rfl),hbW⟩
  have g3:¬(N:Int)-(zs.length:Int)<(m:Int)+1:=by omega
  go_wp2_with fail
  refine hu.mono ?_;rintro e w1 ⟨rfl,rfl⟩;clear hu;go_wp2
  go_loopw [7,8,11] (fun v pp kk wr=>∃(j q:Nat),j<=m+1/\q=p+1+j*szC (h/64)/\q<=b.length/\pp=.int .i64 (q:Int)/\kk=.int .i64 (j:Int)/\Io w.heap.size wr v (zs++runV RC b (h/64) (p+1) j)/\Below w.heap.size w wr) (fun _ _ kk _=>m+1-(intOf kk).toNat)
  case atStart=>exact⟨0,p+1,qD _,by rw[Nat.zero_mul],h1,by go_num,rfl,by rw[show runV RC b (h/64) (p+1) 0=[]from rfl,List.append_nil];exact hIo,hbW⟩
  case round =>
   clear hIo hbW;obtain⟨j,q,hj,hq,hql,rfl,rfl,hIo,hbW⟩:=hrel;have HQ:Hid (q=p+1+j*szC (h/64)):=hq;clear hq;obtain⟨a4,c4,rfl,_⟩:=hIo.slice;by_cases hjm:j<=m;rotate_left
   . obtain rfl:j=m+1:=by omega
     have HS:Hid (_):=HST.out ⟨h1,h2,h3,by rw[<-HQ.out];exact hql⟩;have hlen:(zs++runV RC b (h/64) (p+1) (m+1)).length=zs.length+(m+1):=(by rw[qA,zaw]);have hpq:p<q:=(by rw[HQ.out];omega);have g4:¬(((m+1:Nat):Nat):Int)<=(m:Int):=(by omega);have HRL:Hid (rcO b (N:Int)=onto (zs++runV RC b (h/64) (p+1) (m+1)) (rdF RC b (N-(zs++runV RC b (h/64) (p+1) (m+1)).length) q (N-(zs++runV RC b (h/64) (p+1) (m+1)).length))):=by
      show _=_;rw[HS.out,hlen,HQ.out,show N-(zs.length+(m+1))=N-zs.length-(m+1) by omega]
     go_wp2;go_roundw
     case rel=>exact⟨q,_,by rw[hlen];omega,hql,rfl,HRL.out,hIo,hbW⟩
     case measure=>simp[intOf];omega
   have g4:(j:Int)<=(m:Int):=(by omega);have hrb:=HRB.out.below hbW;have HSC:Hid (zs++runV RC b (h/64) (p+1) (j+1)=(zs++runV RC b (h/64) (p+1) j)++[vlC b (h/64) q]):=by
    show _=_;rw[zb9,<-qI,HQ.out];rfl
   have HQ2:Hid (p+1+(j+1)*szC (h/64)=q+szC (h/64)):=(by show _=_;rw[HQ.out,Nat.add_mul,Nat.one_mul];omega)
   have zeq:Hid (b.length<q+szC (h/64)->rcO b (N:Int)=none):=fun hx=>HBD.out (fun hy=>by
    have h5:=hy.2.2.2;have h6:(j+1)*szC (h/64)<=(m+1)*szC (h/64):=Nat.mul_le_mul_right _ (by omega);have h7:=HQ2.out
    omega)
   have hll:(zs++runV RC b (h/64) (p+1) j).length+1<=1000000:=(by rw[qA,zaw];omega);clear HBD HST;obtain⟨ys,hys⟩:∃ys,zs++runV RC b (h/64) (p+1) j=ys:=⟨_,rfl⟩;rw[hys]at HSC hIo hll ⊢;clear hys;obtain⟨kd,hkd⟩:∃k,h/64=k:=⟨_,rfl⟩;have HKD:Hid (h/64=kd):=hkd;rw[hkd]at HQ2 zeq;rw[show vlC b (h/64) q=vlC b kd q by rw[hkd]]at HSC;rcases (by omega:kd=0\/kd=1\/kd=2)with h0|h0|h0
   . have gk:(h:Int)<64:=by omega
     rw[h0,show szC 0=1 from rfl]at HQ2 zeq;rw[h0]at HKD;rw[h0,show vlC b 0 q=sx8 (nmV b (q:Int) 1)from rfl]at HSC;clear hkd h0;have hu:=zc1 a cap b (q:Int) wr hrb ⟨by omega,by omega⟩;have zde:=zam hrb.lim (q:Int) 1;rw[show inB b.length (q:Int) 1=decide (q+1<=b.length)from zay (n:=1)]at hu;by_cases h5:q+1<=b.length;rotate_left
     . have HNO:=HNN.out (zeq.out (by omega))
       have HNO:Hid (_):=HNO;have hv0:nmV b (q:Int) 1=0:=(by unfold nmV;rw[show inB b.length (q:Int) ((1:Nat):Int)=false from(zay (n:=1)).trans (qB h5)];rfl);rw[qB h5,hv0]at hu;clear hv0;go_wp2_with fail
       refine hu.mono ?_;rintro e w1 ⟨rfl,rfl⟩;clear hu;go_wp2
       go_ret3
       exact⟨none,0,by rw[HNO.out.1,HNO.out.2.1,HNO.out.2.2];rfl,by rw[HNO.out.1];exact Ri.nil _ _ _ (qD _),(fun _ _ e=>by cases e),(fun _=>rfl),hbW⟩
     rw[qC h5]at hu;obtain⟨v,hv⟩:∃v,nmV b (q:Int) 1=v:=⟨_,rfl⟩;rw[hv]at hu zde HSC;simp only[Nat.pow_one]at zde;clear hv;by_cases h6:128<=v
     . rw[show sx8 v=(v:Int)-256 from if_pos h6]at HSC
       have g5:(128:Int)<=(v:Int):=(by omega);have hzi:I64 ((v:Int)-256):=⟨by omega,by omega⟩;have zbv:=hIo.below (bl1 (.cells #[.int .i64 ((v:Int)-256)] 3));have hN:=heap_alloc_new wr (.cells #[.int .i64 ((v:Int)-256)] 3);have n0:=cell_of_row _ wr.heap.size 0 _ _ (0,0) hN;have hbs:w.heap.size<=(wr.alloc (.cells #[.int .i64 ((v:Int)-256)] 3)).heap.size:=qF hbW.size (bl1 _).size;clear hN;go_wp2_with fail
       refine hu.mono ?_;rintro e w1 ⟨rfl,rfl⟩;clear hu;go_wp2_with (at_builtin;refine zad rfl _ _ rfl w.heap.size _ ys rfl zbv wr.heap.size ((v:Int)-256) rfl n0 hzi hll hbs ?_)
       intro v' w9 hI9 hgrow;have hB9:Below w.heap.size w w9:=(hbW.alloc hbW.size _).grown hgrow hbs (fun k hk=>hIo.lo hk);rw[<-HSC.out]at hI9;clear hgrow zbv n0 hbs hll hIo hbW;go_wp2;go_roundw
       case rel=>exact⟨j+1,q+1,by omega,by rw[HKD.out];exact HQ2.out.symm,by omega,by go_num,by go_num,hI9,hB9⟩
       case measure=>simp[intOf];omega
     . rw[show sx8 v=(v:Int)from if_neg h6]at HSC
       have g5:¬(128:Int)<=(v:Int):=(by omega);have hzi:I64 (v:Int):=⟨by omega,by omega⟩;have zbv:=hIo.below (bl1 (.cells #[.int .i64 (v:Int)] 3));have hN:=heap_alloc_new wr (.cells #[.int .i64 (v:Int)] 3);have n0:=cell_of_row _ wr.heap.size 0 _ _ (0,0) hN;have hbs:w.heap.size<=(wr.alloc (.cells #[.int .i64 (v:Int)] 3)).heap.size:=qF hbW.size (bl1 _).size;clear hN;go_wp2_with fail
       refine hu.mono ?_;rintro e w1 ⟨rfl,rfl⟩;clear hu;go_wp2_with (at_builtin;refine zad rfl _ _ rfl w.heap.size _ ys rfl zbv wr.heap.size (v:Int) rfl n0 hzi hll hbs ?_)
       intro v' w9 hI9 hgrow;have hB9:Below w.heap.size w w9:=(hbW.alloc hbW.size _).grown hgrow hbs (fun k hk=>hIo.lo hk);rw[<-HSC.out]at hI9;clear hgrow zbv n0 hbs hll hIo hbW;go_wp2;go_roundw
       case rel=>exact⟨j+1,q+1,by omega,by rw[HKD.out];exact HQ2.out.symm,by omega,by go_num,by go_num,hI9,hB9⟩
       case measure=>simp[intOf];omega
   . have gk:¬(h:Int)<64:=by omega
     have gk2:(h:Int)<128:=(by omega);rw[h0,show szC 1=2 from rfl]at HQ2 zeq;rw[h0]at HKD;rw[h0,show vlC b 1 q=sx16 (nmV b (q:Int) 2)from rfl]at HSC;clear hkd h0;have hu:=zc3 a cap b (q:Int) wr hrb ⟨by omega,by omega⟩;have zde:=zam hrb.lim (q:Int) 2;have hzi:=zdy (v:=nmV b (q:Int) 2) (by simpa using zde);rw[show inB b.length (q:Int) 2=decide (q+2<=b.length)from zay (n:=2)]at hu;obtain⟨v,hv⟩:∃v,sx16 (nmV b (q:Int) 2)=v:=⟨_,rfl⟩;rw[hv]at hu HSC hzi;clear hv zde;by_cases h5:q+2<=b.length;rotate_left
     . have HNO:=HNN.out (zeq.out (by omega))
       have HNO:Hid (_):=HNO;rw[qB h5]at hu;go_wp2_with fail
       refine hu.mono ?_;rintro e w1 ⟨rfl,rfl⟩;clear hu;go_wp2
       go_ret3
       exact⟨none,0,by rw[HNO.out.1,HNO.out.2.1,HNO.out.2.2];rfl,by rw[HNO.out.1];exact Ri.nil _ _ _ (qD _),(fun _ _ e=>by cases e),(fun _=>rfl),hbW⟩
     rw[qC h5]at hu;have zbv:=hIo.below (bl1 (.cells #[.int .i64 v] 3));have hN:=heap_alloc_new wr (.cells #[.int .i64 v] 3);have n0:=cell_of_row _ wr.heap.size 0 _ _ (0,0) hN;have hbs:w.heap.size<=(wr.alloc (.cells #[.int .i64 v] 3)).heap.size:=qF hbW.size (bl1 _).size;clear hN;go_wp2_with fail
     refine hu.mono ?_;rintro e w1 ⟨rfl,rfl⟩;clear hu;go_wp2_with (at_builtin;refine zad rfl _ _ rfl w.heap.size _ ys rfl zbv wr.heap.size v rfl n0 hzi hll hbs ?_)
     intro v' w9 hI9 hgrow;have hB9:Below w.heap.size w w9:=(hbW.alloc hbW.size _).grown hgrow hbs (fun k hk=>hIo.lo hk);rw[<-HSC.out]at hI9;clear hgrow zbv n0 hbs hll hIo hbW;go_wp2;go_roundw
     case rel=>exact⟨j+1,q+2,by omega,by rw[HKD.out];exact HQ2.out.symm,by omega,by go_num,by go_num,hI9,hB9⟩
     case measure=>simp[intOf];omega
   . have gk:¬(h:Int)<64:=by omega
     have gk2:¬(h:Int)<128:=(by omega);rw[h0,show szC 2=0 from rfl]at HQ2;rw[h0]at HKD;rw[h0,show vlC b 2 q=0 from rfl]at HSC;have hzi:I64 0:=⟨by decide,by decide⟩;clear hkd h0 zeq;have zbv:=hIo.below (bl1 (.cells #[.int .i64 0] 3));have hN:=heap_alloc_new wr (.cells #[.int .i64 0] 3);have n0:=cell_of_row _ wr.heap.size 0 _ _ (0,0) hN;have hbs:w.heap.size<=(wr.alloc (.cells #[.int .i64 0] 3)).heap.size:=qF hbW.size (bl1 _).size;clear hN;go_wp2_with (at_builtin;refine zad rfl _ _ rfl w.heap.size _ ys rfl zbv wr.heap.size 0 rfl n0 hzi hll hbs ?_)
     intro v' w9 hI9 hgrow;have hB9:Below w.heap.size w w9:=(hbW.alloc hbW.size _).grown hgrow hbs (fun k hk=>hIo.lo hk);rw[<-HSC.out]at hI9;clear hgrow zbv n0 hbs hll hIo hbW;go_wp2;go_roundw
     case rel=>exact⟨j+1,q+0,by omega,by rw[HKD.out];exact HQ2.out.symm,by omega,by go_num,by go_num,hI9,hB9⟩
     case measure=>simp[intOf];omega
def FB(w:World)(c:Nat)(F:Value)(wd:Int):Prop:=w.heap[c]?=some (.cells #[F,.int .i64 wd] 305 (0,0))
theorem FB.lt{w:World}{c:Nat}{F:Value}{wd:Int}(h:FB w c F wd):c<w.heap.size:=(Array.getElem?_eq_some_iff.1 h).1
theorem FB.cells{w:World}{c:Nat}{F:Value}{wd:Int}(h:FB w c F wd):w.cell? ⟨c,0,none⟩=some F/\w.cell? ⟨c,1,none⟩=some (.int .i64 wd):=⟨cell_of_row w c 0 _ _ (0,0) h,cell_of_row w c 1 _ _ (0,0) h⟩
theorem FB.below{w w':World}{c:Nat}{F:Value}{wd:Int}(h:FB w c F wd)(hb:Below w.heap.size w w'):FB w' c F wd:=(hb.block c h.lt).trans h
theorem FB.grown{base:Nat}{w w':World}{c:Nat}{F:Value}{wd:Int}{v:Value}{zs:LI}(h:FB w c F wd)(hi:Io base w v zs)(hg:w.grownBy w' v.ownBlock):FB w' c F wd:=by
 refine(hg.block c h.lt (fun e=>?_)).trans h;rcases hi.2.2 with ⟨e0,_⟩|⟨g1,cap,cur,k1,k2,k3,k4⟩
 . rw[e0]at e;cases e
 . rw[k1]at e
   have e':some c=some g1:=e;injection e' with e';rw[<-e']at k3;have h':w.heap[c]?=some (.cells #[F,.int .i64 wd] 305 (0,0)):=h;rw[k3]at h';cases h'
theorem zoh(w:World) :
 Calls Tryz.prog 251 #[.int .i64 0] w fun e w'=>e=.returned (.tuple #[.agg #[.func (.func 91) #[] #[],.int .i64 1],.bool true])/\Below w.heap.size w w':=by
 go_enter func251,ntmps251;go_wp2
 (try simp only[Exit.inBlock,Exit.then])
 refine bodyPost_ret (v:=.tuple #[.agg #[.func (.func 91) #[] #[],.int .i64 1],.bool true]) ?_ rfl ⟨rfl,bl1 _⟩;simp[results,results251,go_sem]
theorem zv8(w:World) :
 Calls Tryz.prog 251 #[.int .i64 128] w fun e w'=>e=.returned (.tuple #[.agg #[.func (.func 47) #[] #[],.int .i64 2],.bool true])/\Below w.heap.size w w':=by
 go_enter func251,ntmps251;go_wp2
 (try simp only[Exit.inBlock,Exit.then])
 refine bodyPost_ret (v:=.tuple #[.agg #[.func (.func 47) #[] #[],.int .i64 2],.bool true]) ?_ rfl ⟨rfl,bl1 _⟩;simp[results,results251,go_sem]
theorem zoi(w:World) :
 Calls Tryz.prog 271 #[.int .i64 0] w fun e w'=>e=.returned (.tuple #[.agg #[.func (.func 281) #[] #[],.int .i64 1],.bool true])/\Below w.heap.size w w':=by
 go_enter func271,ntmps271;go_wp2
 (try simp only[Exit.inBlock,Exit.then])
 refine bodyPost_ret (v:=.tuple #[.agg #[.func (.func 281) #[] #[],.int .i64 1],.bool true]) ?_ rfl ⟨rfl,bl1 _⟩;simp[results,results271,go_sem]
theorem zwb(w:World) :
 Calls Tryz.prog 271 #[.int .i64 64] w fun e w'=>e=.returned (.tuple #[.agg #[.func (.func 90) #[] #[],.int .i64 2],.bool true])/\Below w.heap.size w w':=by
 go_enter func271,ntmps271;go_wp2
 (try simp only[Exit.inBlock,Exit.then])
 refine bodyPost_ret (v:=.tuple #[.agg #[.func (.func 90) #[] #[],.int .i64 2],.bool true]) ?_ rfl ⟨rfl,bl1 _⟩;simp[results,results271,go_sem]
theorem zwa(w:World) :
 Calls Tryz.prog 271 #[.int .i64 128] w fun e w'=>e=.returned (.tuple #[.agg #[.func (.func 282) #[] #[],.int .i64 0],.bool true])/\Below w.heap.size w w':=by
 go_enter func271,ntmps271;go_wp2
 (try simp only[Exit.inBlock,Exit.then])
 refine bodyPost_ret (v:=.tuple #[.agg #[.func (.func 282) #[] #[],.int .i64 0],.bool true]) ?_ rfl ⟨rfl,bl1 _⟩;simp[results,results271,go_sem]
theorem zv9(w:World) :
 Calls Tryz.prog 271 #[.int .i64 192] w fun e w'=>e=.returned (.tuple #[.agg #[.nilFunc,.int .i64 0],.bool false])/\Below w.heap.size w w':=by
 go_enter func271,ntmps271;go_wp2
 (try simp only[Exit.inBlock,Exit.then])
 refine bodyPost_ret (v:=.tuple #[.agg #[.nilFunc,.int .i64 0],.bool false]) ?_ rfl ⟨rfl,bl1 _⟩;simp[results,results271,go_sem]
theorem zy7{b:LN}(hB:Byt b)(h:2<=b.length):nmV b 0 2=nmV b 0 1*256+nmV b 1 1:=by
 match b,h with
 | x::y::t,_ =>
  have e1:nmV (x::y::t) 0 2=V8 [x,y]:=by
   unfold nmV;rw[if_pos (by simp only[inB,qM,List.length_cons];omega)];rfl
  have e2:nmV (x::y::t) 0 1=V8 [x]:=by
   unfold nmV;rw[if_pos (by simp only[inB,qM,List.length_cons];omega)];rfl
  have e3:nmV (x::y::t) 1 1=V8 [y]:=by
   unfold nmV;rw[if_pos (by simp only[inB,qM,List.length_cons];omega)];rfl
  rw[e1,e2,e3];simp[V8];omega
theorem zjb(a:OA)(cap:Nat)(b:LN)(w:World)(h:Rb w a cap b) :
 Calls Tryz.prog 249 #[.slice a b.length cap] w fun e w'=>∃z:Int,e=.returned (.tuple #[.int .i64 z,.int .i64 (ptA b:Int),.bool (ptO b)])/\(ptO b=true->z=(ptN b:Int))/\w=w':=by
 have hlt:=zam h.lim 0 1;have zde:=zam h.lim 0 2;have hu:=zg2 a cap b 0 w h ⟨by decide,by decide⟩;have hv:=zg3 a cap b 0 w h ⟨by decide,by decide⟩;have HT:Hid (2<=b.length->nmV b 0 2=nmV b 0 1*256+nmV b 1 1):=fun h2=>zy7 h.lim h2;rw[show inB b.length 0 1=decide (1<=b.length) from(zay (p:=0) (n:=1)).trans (by rw[Nat.zero_add])]at hu;rw[show inB b.length 0 2=decide (2<=b.length) from(zay (p:=0) (n:=2)).trans (by rw[Nat.zero_add])]at hv;obtain⟨x,hx⟩:∃x,nmV b 0 1=x:=⟨_,rfl⟩;obtain⟨y,hy⟩:∃x,nmV b 0 2=x:=⟨_,rfl⟩;rw[hx]at hu hlt HT;rw[hy]at hv zde HT;simp only[Nat.pow_one]at hlt;have zde:y<65536:=by simpa using zde
 clear h;by_cases h1:128<=x
 . have HA:Hid (ptA b=2):=by show _=_;unfold ptA;rw[hx,if_pos h1]
   have HO:Hid (ptO b=decide (2<=b.length)):=(by show _=_;unfold ptO;rw[HA.out]);have HN:Hid (2<=b.length->(y:Int)-32768=(ptN b:Int)):=fun h2=>by
    have:=HT.out h2;unfold ptN;rw[hx,if_pos h1];omega
   obtain⟨q,hq⟩:∃q,decide (2<=b.length)=q:=⟨_,rfl⟩;rw[hq]at hv HO;have HQ:Hid (q=true->2<=b.length):=fun h=>of_decide_eq_true (hq.trans h);have g1:¬(x:Int)<128:=(by omega);clear hx hy hq h1 HT;go_enter func249,ntmps249;go_wp2_with fail
   refine hu.mono ?_;rintro e u ⟨rfl,rfl⟩;clear hu;go_wp2_with fail
   refine hv.mono ?_;rintro e u ⟨rfl,rfl⟩;clear hv;go_wp2
   go_ret3
   exact⟨(y:Int)-32768,by rw[HA.out,HO.out];rfl,fun h=>HN.out (HQ.out (by rw[<-HO.out];exact h)),rfl⟩
 . have HA:Hid (ptA b=1):=by show _=_;unfold ptA;rw[hx,if_neg h1]
   have HO:Hid (ptO b=decide (1<=b.length)):=(by show _=_;unfold ptO;rw[HA.out]);have HN:Hid ((x:Int)=(ptN b:Int)):=(by show _=_;unfold ptN;rw[hx,if_neg h1]);obtain⟨q,hq⟩:∃q,decide (1<=b.length)=q:=⟨_,rfl⟩;rw[hq]at hu HO;have g1:(x:Int)<128:=(by omega);clear hx hy hq h1 HT hv;go_enter func249,ntmps249;go_wp2_with fail
   refine hu.mono ?_;rintro e u ⟨rfl,rfl⟩;clear hu;go_wp2
   go_ret3
   exact⟨(x:Int),by rw[HA.out,HO.out];rfl,fun _=>HN.out,rfl⟩
