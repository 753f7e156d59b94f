import Derived.Test.YtkmcodofnckdmaaGreatZK1
import Derived.Deep.LoopGhost
import Derived.Deep.RegionHeld3
set_option maxHeartbeats 4000000
set_option maxRecDepth 100000
set_option linter.unusedSimpArgs false
set_option linter.unusedVariables false
namespace Go.Proofs.YtkmcodofnckdmaaGreat
theorem z3n(f:Nat->Nat)(j n:Nat):Sv (fun i=>f (j+i)) (n+1)=f j+4294967296*Sv (fun i=>f (j+1+i)) n:=by
 rw[Nat.add_comm n 1,zh2]
 simp only[Sv,Nat.pow_zero,Nat.one_mul,Nat.add_zero,Nat.zero_add,Nat.pow_one]
 rw[zb6 (f:=fun i=>f (j+(1+i))) (g:=fun i=>f (j+1+i)) (fun i _=>by rw[Nat.add_assoc])]
theorem zpp{f:Nat->Nat}{j n VB:Nat}(hf:f j<4294967296)(h:Sv (fun i=>f (j+1+i)) n<VB):Sv (fun i=>f (j+i)) (n+1)<4294967296*VB:=by
 rw[z3n];omega
theorem zw1{d:Nat->Nat}{j n r VB:Nat}(h:Sv (fun i=>d (j+i)) (n+1)=r)(hr:r<VB)(hp:VB<4294967296 ^ n):d (j+n)=0/\Sv (fun i=>d (j+i)) n=r:=by
 rw[Sv]at h
 rcases Nat.eq_zero_or_pos (d (j+n))with h0|h0
 . rw[h0,Nat.mul_zero,Nat.add_zero]at h;exact⟨h0,h⟩
 . have:4294967296 ^ n*1<=4294967296 ^ n*d (j+n):=Nat.mul_le_mul_left _ h0
   omega
theorem zs2{c d:Nat->Nat}{j n r q Qv Qw VA VB:Nat}(hinv:Sv c (j+1+n)+4294967296 ^ (j+1)*Qv*VB=VA)(zb4:∀i,i<j->d i=c i)(hd:Sv (fun i=>d (j+i)) n=r)
    (hdm:VB*q+r=Sv (fun i=>c (j+i)) (n+1)) (hQ:Qw=q+4294967296*Qv):Sv d (j+n)+4294967296 ^ j*Qw*VB=VA:=by
 rw[show j+1+n=j+(n+1) by omega,zh2,<-hdm,Nat.pow_succ]at hinv
 rw[zh2,zb6 zb4,hd,hQ]
 generalize 4294967296 ^ j=p at hinv ⊢
 generalize Sv c j=A at hinv ⊢
 rw[<-hinv]
 grind
theorem zpo{f:Nat->Nat}{K n la VA VB s:Nat}(hK:K+n=la+1)(hn:1<=n)(hv:Sv f (K+n)=VA)(hA:VA<4294967296 ^ la*2 ^ s)(hB:2 ^ s*4294967296 ^ (n-1)<=VB):Sv (fun i=>f (K+i)) n<VB:=by
 rcases Nat.lt_or_ge (Sv (fun i=>f (K+i)) n) VB with h|h
 . exact h
 . exfalso
   rw[zh2]at hv
   have h1:4294967296 ^ K*(2 ^ s*4294967296 ^ (n-1))<=4294967296 ^ K*Sv (fun i=>f (K+i)) n:=Nat.mul_le_mul_left _ (Nat.le_trans hB h)
   have h2:4294967296 ^ la=4294967296 ^ K*4294967296 ^ (n-1):=by rw[<-Nat.pow_add,show K+(n-1)=la by omega]
   have h3:4294967296 ^ K*(2 ^ s*4294967296 ^ (n-1))=4294967296 ^ la*2 ^ s:=by
    rw[h2]
    generalize 4294967296 ^ K=a
    generalize 4294967296 ^ (n-1)=b
    generalize 2 ^ s=c
    grind
   omega
theorem zw2{R Q A B S:Nat}(hS:0<S)(h:R+Q*(B*S)=A*S)(hr:R<B*S):Q=A/B/\R/S=A%B:=by
 have hB:0<B*S:=by omega
 have e1:A*S/(B*S)=Q:=by
  rw[<-h,Nat.add_mul_div_right _ _ hB,Nat.div_eq_of_lt hr,Nat.zero_add]
 have e2:A*S%(B*S)=R:=by
  rw[<-h,Nat.add_mul_mod_self_right,Nat.mod_eq_of_lt hr]
 rw[Nat.mul_div_mul_right _ _ hS]at e1;rw[Nat.mul_mod_mul_right]at e2
 exact⟨e1.symm,by rw[<-e2,Nat.mul_div_cancel _ hS]⟩
theorem z1s{ys bs:LN}{n s x:Nat}(ly:Lim ys)(lb:Lim bs)(tb:Tr bs)(hn:ys.length=n)(hn1:1<=n)(hx:ys.getD (n-1) 0=x)(hs:s<32)(h1:2147483648<=x*2 ^ s)(h2:x*2 ^ s<4294967296)(hv:V bs=V ys*2 ^ s) :
 bs.length=n/\2147483648<=bs.getD (n-1) 0/\2147483648*4294967296 ^ (n-1)<=V bs:=by
 have eY:=zam ys (n-1)
 rw[show n-1+1=ys.length by omega,List.take_length,hx]at eY
 have bY:V (ys.take (n-1))<4294967296 ^ (n-1):=by rw[zev];exact Sv_lt (fun i _=>ly.getD _)
 have hmul:(x+1)*2 ^ s<=4294967296:=by
  have e32:(4294967296:Nat)=2 ^ (32-s)*2 ^ s:=by rw[<-Nat.pow_add,show 32-s+s=32 by omega]
  have h3:x*2 ^ s<2 ^ (32-s)*2 ^ s:=by rw[<-e32];exact h2
  have h4:=zdg h3
  calc (x+1)*2 ^ s<=2 ^ (32-s)*2 ^ s:=Nat.mul_le_mul_right _ h4
   _=4294967296:=e32.symm
 have hpw:4294967296 ^ n=4294967296 ^ (n-1)*4294967296:=by rw[<-Nat.pow_succ];congr 1;omega
 have hP:0<4294967296 ^ (n-1):=Nat.pow_pos (by decide)
 have hS:0<2 ^ s:=Nat.pow_pos (by decide)
 have up:V bs<4294967296 ^ n:=by
  rw[hv,hpw]
  have h5:V ys<4294967296 ^ (n-1)*(x+1):=by rw[eY,Nat.mul_add,Nat.mul_one];omega
  calc V ys*2 ^ s<4294967296 ^ (n-1)*(x+1)*2 ^ s:=Nat.mul_lt_mul_of_pos_right h5 hS
   _=4294967296 ^ (n-1)*((x+1)*2 ^ s):=Nat.mul_assoc _ _ _
   _<=4294967296 ^ (n-1)*4294967296:=Nat.mul_le_mul_left _ hmul
 have low:2147483648*4294967296 ^ (n-1)<=V bs:=by
  rw[hv]
  have h6:4294967296 ^ (n-1)*x<=V ys:=by omega
  calc 2147483648*4294967296 ^ (n-1)<=x*2 ^ s*4294967296 ^ (n-1):=Nat.mul_le_mul_right _ h1
   _=4294967296 ^ (n-1)*x*2 ^ s:=by
    generalize 4294967296 ^ (n-1)=a
    generalize 2 ^ s=c
    grind
   _<=V ys*2 ^ s:=Nat.mul_le_mul_right _ h6
 have hl1:=zas tb up
 have hl2:n<=bs.length:=by
  rcases Nat.lt_or_ge bs.length n with h|h
  . exfalso
    have h7:=V_lt lb
    have h8:4294967296 ^ bs.length<=4294967296 ^ (n-1):=Nat.pow_le_pow_right (by decide) (by omega)
    omega
  . exact h
 have hl:bs.length=n:=by omega
 refine⟨hl,?_,low⟩
 have eB:=zam bs (n-1)
 rw[show n-1+1=bs.length by omega,List.take_length]at eB
 have bB:V (bs.take (n-1))<4294967296 ^ (n-1):=by rw[zev];exact Sv_lt (fun i _=>lb.getD _)
 rcases Nat.lt_or_ge (bs.getD (n-1) 0) 2147483648 with h|h
 . exfalso
   have h9:4294967296 ^ (n-1)*bs.getD (n-1) 0<=4294967296 ^ (n-1)*2147483647:=Nat.mul_le_mul_left _ (by omega)
   omega
 . exact h
open Go.RowKit
theorem Blk.set_other{e:TypeId}{w:World}{g k:Nat}{zs:LN}(h:Blk e w g zs)(hne:g≠k)(i:Nat)(v:Value):Blk e (w.setCell ⟨k,i,none⟩ v) g zs:=by
 obtain⟨cur,h1,h2⟩:=h
 exact⟨cur,(Below.heap_setCell w ⟨k,i,none⟩ v g hne).trans h1,h2⟩
theorem Rd.set_other{w:World}{g o k cap:Nat}{zs:LN}(h:Rd w (some ⟨g,o,none⟩) cap zs)(hne:g≠k)(i:Nat)(v:Value):Rd (w.setCell ⟨k,i,none⟩ v) (some ⟨g,o,none⟩) cap zs :=
 h.keep (by simp[World.setCell]) fun b _ hb=>by
  obtain⟨o',e⟩:=hb
  simp at e
  exact Below.heap_setCell w ⟨k,i,none⟩ v b (by rw[<-e.1];exact hne)
theorem z35(a:OA)(cap n:Nat)(xs:LN)(s:Nat)(w:World)(hn:n=xs.length)(h:Rd w a cap xs)(hl:xs.length<=500000000)(hs:s<32) :
 Calls Tryz.prog 275 #[.slice a n cap,.int .i64 (s:Int)] w fun e w' =>
     ∃g zs,e=.returned (.slice (some ⟨g,0,none⟩) n n)/\zs.length=n/\V zs=V xs/2 ^ s/\Rd w' (some ⟨g,0,none⟩) n zs/\Below w.heap.size w w':=by
 subst hn;exact zvs a cap xs s w h hl hs
theorem zh1{cs:LN}{n:Nat}(h:n<=cs.length)(hz:∀i,n<=i->cs.getD i 0=0):V cs=Sv (fun i=>cs.getD i 0) n:=by
 rw[V_Sv,show cs.length=n+(cs.length-n) by omega,zh2,zuy (f:=fun i=>cs.getD (n+i) 0) (fun i _=>hz (n+i) (by omega)),Nat.mul_zero,Nat.add_zero]
theorem zmf(a:OA)(cap:Nat)(xs:LN)(b:OA)(cb:Nat)(ys:LN)(w:World)(ha:Rd w a cap xs)(hb:Rd w b cb ys)(ta:Tr xs)(tb:Tr ys)(h2:2<=ys.length)(hle:V ys<=V xs)(hla:xs.length<=400000000)(hlb:ys.length<=400000000) :
 Calls Tryz.prog 256 #[.slice a xs.length cap,.slice b ys.length cb] w fun e w' =>
     ∃a1 c1 z1 a2 c2 z2,e=.returned (.tuple #[.slice a1 z1.length c1,.slice a2 z2.length c2])/\V z1=V xs/V ys/\V z2=V xs%V ys/\Tr z1/\Tr z2/\Res 250 w.heap.size w' a1 c1 z1/\Res 250 w.heap.size w' a2 c2 z2/\Below w.heap.size w w':=by
 obtain⟨i0,hi,hz0,hz1,hz2⟩:=info_parts zcb
 have hll:ys.length<=xs.length:=by
  rcases Nat.lt_or_ge xs.length ys.length with h|h
  . have:=zat ha.lim tb h;omega
  . exact h
 have ly:=hb.lim
 have hyl:=hb.le
 have hyc:=hb.cap
 unfold maxLen at hyc
 obtain⟨b1,o1,rfl,hb1,hcb⟩:=hb.fm.at (Below.refl _ _) (ys.length-1) (by omega)
 obtain⟨x,hx⟩:∃x,ys.getD (ys.length-1) 0=x:=⟨_,rfl⟩
 have hx0:x≠0:=by rw[<-hx];exact tb.last (by intro e;rw[e]at h2;simp at h2)
 have hxb:x<4294967296:=by rw[<-hx];exact ly.getD _
 rw[hx]at hcb
 obtain⟨s,hs,hs1,hs2,hs3⟩:=z1r hx0 hxb
 have HX:Hid (ys.getD (ys.length-1) 0=x):=hx
 have HS1:Hid ((32-(Lib.bitLen x:Int))=(s:Int)):=hs1
 have HS2:Hid (2147483648<=x*2 ^ s/\x*2 ^ s<4294967296):=⟨hs2,hs3⟩
 have HLE:Hid (V ys<=V xs):=hle
 have HA:Hid (V xs<4294967296 ^ xs.length):=V_lt ha.lim
 clear hx hs1 hs2 hs3 hle
 go_enter Tryz.func256,Tryz.ntmps256
 go_wp2_with fail
 refine(zw0 x _ hxb).mono ?_
 rintro e w' ⟨rfl,rfl⟩
 rw[HS1.out];clear HS1
 go_wp2_with fail
 refine(znd a cap xs s _ ha (by omega) hs).mono ?_
 rintro e w1 ⟨aL,capL,L,rfl,hLl,hLv,hLr,zc6⟩
 have hbw1:=hb.below zc6
 have HLV:Hid (V L=V xs*2 ^ s):=hLv
 have HLL:Hid (L.length=xs.length+1):=hLl
 clear hLv hb
 go_wp2_with fail
 refine(znd _ cb ys s _ hbw1 (by omega) hs).mono ?_
 rintro e w2 ⟨aB,capB,Bs,rfl,hBl,hBv,hBr,z44⟩
 have hL2:=hLr.below z44
 have hbb2:Below w.heap.size w w2:=zc6.trans (z44.mono zc6.size)
 have HBV:Hid (V Bs=V ys*2 ^ s):=hBv
 have hBl2:Bs.length<=1000000000:=by omega
 clear hBv hbw1 hBl
 go_wp2_with fail
 refine(zb2 _ _ Bs _ hBr.rd hBl2).mono ?_
 rintro e w3 ⟨aT,capT,rfl,hTr,z43⟩
 have hL3:=hL2.below z43
 have hbb3:Below w.heap.size w w3:=hbb2.trans (z43.mono hbb2.size)
 have HTV:Hid (V (strip Bs)=V ys*2 ^ s):=by show _=_;rw[zap];exact HBV.out
 have tT:=zav Bs
 generalize strip Bs=T at hTr HTV tT ⊢
 obtain⟨hT1,hT2,hT3⟩:=z1s ly hTr.lim tT rfl (by omega) HX.out hs HS2.out.1 HS2.out.2 HTV.out
 have HT1:Hid (T.length=ys.length):=hT1
 have HT2:Hid (2147483648<=T.getD (ys.length-1) 0):=hT2
 have HT3:Hid (2147483648*4294967296 ^ (ys.length-1)<=V T):=hT3
 -- the blocks
 obtain⟨gL,rfl,hgL1,hBL⟩:∃g,aL=some ⟨g,0,none⟩/\w.heap.size<=g/\Blk 250 w1 g L:=by
  rcases hLr.blk with h|h
  . rw[h]at hLl;simp at hLl
  . exact h
 have hgLlt:=hBL.lt
 obtain⟨gT,rfl,hgT1,hBT⟩:∃g,aT=some ⟨g,0,none⟩/\w2.heap.size<=g/\Blk 250 w3 g T:=by
  rcases hTr.blk with h|h
  . rw[h]at hT1;simp at hT1;omega
  . exact h
 have hgTlt:=hBT.lt
 have s12:=z44.size
 have s23:=z43.size
 have s01:=zc6.size
 have hBL3:Blk 250 w3 gL L:=(hBL.below z44).below z43
 have hTrd:=hTr.rd
 have hTc:=hTrd.cap
 have hTle:=hTrd.le
 have lL:=hLr.lim
 have hLcap:=hLr.rd.cap
 have hLle:=hLr.rd.le
 unfold maxLen at hTc hLcap
 clear hT1 hT2 hT3 hLr hTr hBr hL2 hL3 hBL hBT zc6 z44 z43 hLl
 go_wp2_with (at_make;refine wpList_make_full _ rfl _ _ 123 rfl w3.heap.size 250 i0 (.int .u32 0) 1 Tryz.underlying123 hi hz0 hz1 _ _ _ _ (xs.length-ys.length+1) rfl rfl (by omega) (by omega) (by rw[hz2];omega) (by unfold maxLen;omega) (Nat.le_refl _) ?_)
 intro w4 z4s zy9
 have hbb4:Below w3.heap.size w3 w4:=(Below.refl _ _).grown zy9 (Nat.le_refl _) (fun k h=>by cases h)
 have hBQ4:=zjp z4s
 have hBL4:=hBL3.below hbb4
 have hT4:=hTrd.below hbb4
 have hw4:Below w.heap.size w w4:=hbb3.trans (hbb4.mono hbb3.size)
 have hgTL:gT≠gL:=by omega
 have hgQL:w3.heap.size≠gL:=by omega
 have hgQT:gT≠w3.heap.size:=by omega
 have hT2l:2<=T.length:=by rw[HT1.out];exact h2
 have hTx:T.length<=xs.length:=by rw[HT1.out];exact hll
 have zy6:Sv (fun j=>L.getD (xs.length-ys.length+1+j) 0) T.length<V T:=by
  refine zpo (f:=fun j=>L.getD j 0) (K:=xs.length-ys.length+1) (n:=T.length) (la:=xs.length) (VA:=V xs*2 ^ s) (s:=s) (by rw[HT1.out];omega) (by omega) ?_ (Nat.mul_lt_mul_of_pos_right HA.out (Nat.pow_pos (by decide))) ?_
  . rw[show xs.length-ys.length+1+T.length=L.length by rw[HT1.out,HLL.out];omega,<-V_Sv];exact HLV.out
  . rw[HT1.out]
    have h31:2 ^ s<=2147483648:=Nat.pow_le_pow_right (n:=2) (by decide) (show s<=31 by omega)
    exact Nat.le_trans (Nat.mul_le_mul_right _ h31) HT3.out
 have HST:Hid (Sv (fun j=>L.getD (xs.length-ys.length+1+j) 0) T.length<V T):=zy6
 clear zy6 z4s zy9 hBL3 hTrd hbb4;go_wp2
 go_loopw [10] (fun i wr=>∃(k:Nat) (q:Int) (cs Q:LN),k<=xs.length-ys.length+1/\q=(k:Int)-1/\i=.int .i64 q/\cs.length=xs.length+1/\Lim cs/\Q.length=xs.length-ys.length+1/\Lim Q /\
     Sv (fun j=>cs.getD j 0) (k+T.length)+4294967296 ^ k*V (Q.drop k)*V T=V xs*2 ^ s/\Sv (fun j=>cs.getD (k+j) 0) T.length<V T/\(∀j,k+T.length<=j->cs.getD j 0=0)/\Blk 250 wr gL cs/\Blk 250 wr w3.heap.size Q/\Rd wr (some ⟨gT,0,none⟩) capT T/\Below w.heap.size w wr) (fun i _=>(intOf i+1).toNat)
 case atStart =>
  refine⟨xs.length-ys.length+1,_,L,_,Nat.le_refl _,?_,rfl,HLL.out,lL,List.length_replicate,fun x hx=>by rw[List.eq_of_mem_replicate hx];decide,?_,HST.out,fun j hj=>zeo _ _ ?_,hBL4,hBQ4,hT4,hw4⟩
  . omega
  . rw[List.drop_eq_nil_of_le (by simp),V_nil,Nat.mul_zero,Nat.zero_mul,Nat.add_zero,show xs.length-ys.length+1+T.length=L.length by rw[HT1.out,HLL.out];omega,<-V_Sv];exact HLV.out
  . rw[HLL.out];rw[HT1.out]at hj;omega
 case round =>
  obtain⟨k,q,cs,Q,hk,hq,rfl,hcl,lc,hQl,lQ,hinv,hseg,hzer,hBL,hBQ,hT,hnx⟩:=hrel
  have HC:Hid (cs.length=xs.length+1):=hcl
  have HQ:Hid (Q.length=xs.length-ys.length+1):=hQl
  have HI:Hid (Sv (fun j=>cs.getD j 0) (k+T.length)+4294967296 ^ k*V (Q.drop k)*V T=V xs*2 ^ s):=hinv
  have HSG:Hid (Sv (fun j=>cs.getD (k+j) 0) T.length<V T):=hseg
  have HZ:Hid (∀j,k+T.length<=j->cs.getD j 0=0):=hzer
  have hsz:=hnx.size
  clear hcl hQl hinv hseg hzer
  by_cases hk0:k=0
  . subst hk0
    obtain rfl:q=-1:=by omega
    clear hq
    have hr:=hBQ.rd lQ 0 (xs.length-ys.length+1) (xs.length-ys.length+1) (by rw[HQ.out];omega) (Nat.le_refl _) (by unfold maxLen;omega)
    rw[List.drop_zero,List.take_of_length_le (by rw[HQ.out];exact Nat.le_refl _)]at hr
    have hr2:=hBL.rd lc 0 (xs.length+1) capL (by rw[HC.out];omega) (by have:=HLL.out;omega) (by unfold maxLen;omega)
    rw[List.drop_zero,List.take_of_length_le (by rw[HC.out];exact Nat.le_refl _)]at hr2
    have zau:=zw2 (R:=V cs) (Q:=V Q) (A:=V xs) (B:=V ys) (S:=2 ^ s) (Nat.pow_pos (by decide))
     (by
      have h1:=HI.out
      rw[List.drop_zero,Nat.pow_zero,Nat.one_mul,Nat.zero_add,<-zh1 (by rw[HC.out];omega) (fun i hi=>HZ.out i (by omega)),HTV.out]at h1
      exact h1)
     (by
      have h1:=HSG.out
      rw[zb6 (g:=fun i=>cs.getD i 0) (fun i _=>by rw[Nat.zero_add]),<-zh1 (by rw[HC.out];omega) (fun i hi=>HZ.out i (by omega)),HTV.out]at h1
      exact h1)
    have HF:Hid (V Q=V xs/V ys/\V cs/2 ^ s=V xs%V ys):=zau
    clear zau
    go_wp2_with fail
    refine(zm7 _ _ (xs.length-ys.length+1) Q _ HQ.out.symm hr (by rw[HQ.out];omega)).mono ?_
    rintro e v1 ⟨a1,c1,rfl,hr1,hv1⟩
    have hbv1:Below w.heap.size w v1:=hnx.trans (hv1.mono hsz)
    obtain⟨z1,hz1'⟩:∃z1,strip Q=z1:=⟨_,rfl⟩
    have tz1:Tr z1:=by rw[<-hz1'];exact zav Q
    have HV1:Hid (V z1=V xs/V ys):=by show _=_;rw[<-hz1',zap];exact HF.out.1
    rw[hz1']at hr1 ⊢
    have hr2':=hr2.below hv1
    clear hr hz1'
    go_wp2_with fail
    refine(z35 _ _ (xs.length+1) cs s _ HC.out.symm hr2' (by rw[HC.out];omega) hs).mono ?_
    rintro e v2 ⟨g2,ds,rfl,hdl,hdv,hdr,hv2⟩
    have hbv2:Below w.heap.size w v2:=hbv1.trans (hv2.mono hbv1.size)
    have hr1':=hr1.below hv2
    have HDV:Hid (V ds=V xs%V ys):=by show _=_;rw[hdv];exact HF.out.2
    have HDL:Hid (ds.length=xs.length+1):=hdl
    clear hdl hdv hr1 hr2 hr2' hv1 hv2
    go_wp2_with fail
    refine(zm7 _ _ (xs.length+1) ds _ HDL.out.symm hdr (by rw[HDL.out];omega)).mono ?_
    rintro e v3 ⟨a2,c2,rfl,hr3,hv3⟩
    have hr1'':=hr1'.below hv3
    have hs1:=hbv2.size
    have hbv3:Below w.heap.size w v3:=hbv2.trans (hv3.mono hbv2.size)
    go_wp2
    go_ret2
    exact⟨a1,c1,z1,a2,c2,strip ds,rfl,HV1.out,by rw[zap];exact HDV.out,tz1,zav _,hr1''.mono hsz,hr3.mono hs1,hbv3⟩
  . obtain⟨j,rfl⟩:∃j,k=j+1:=⟨k-1,by omega⟩
    obtain rfl:q=(j:Int):=by omega
    clear hq
    have hsl:j+T.length+1<=capL:=by have:=HLL.out;rw[HT1.out];omega
    have hjc:j+T.length+1<=cs.length:=by rw[HC.out,HT1.out];omega
    have zy7:Sv (fun i=>cs.getD (j+i) 0) (T.length+1)<4294967296*V T:=zpp (f:=fun i=>cs.getD i 0) (lc.getD j) HSG.out
    have hTlt:V T<4294967296 ^ T.length:=V_lt hT.lim
    go_wp2_with fail
    rw[show j+T.length+1-j=T.length+1 by omega]
    refine(zme gL j (capL-j) cs gT 0 capT T wr hBL lc hT hgTL hT2l hjc (by rw[HC.out];omega) (by omega) (by omega) (by rw[HT1.out];exact HT2.out) zy7).mono ?_
    rintro e v1 ⟨ds,qd,rfl,hqd,z4q,hdl,ld,zb4,hrem,hB1,hg1⟩
    have hb1'':Below w.heap.size w v1:=hnx.grown hg1 hsz (fun k hk=>by cases hk;exact hgL1)
    have hBQ1:=hBQ.other hg1 hgQL
    have hT1':Rd v1 (some ⟨gT,0,none⟩) capT T:=hT.other hg1 (fun k o e _=>by simp at e;rw[<-e.1];exact hgTL)
    have c2:=hBQ1.cell j (by rw[HQ.out];omega)
    have c3:=hBQ1.frozen j
    obtain⟨o,ho⟩:∃o,Q.getD j 0=o:=⟨_,rfl⟩
    rw[ho]at c2
    have hmod:Sv (fun i=>cs.getD (j+i) 0) (T.length+1)%V T<V T:=Nat.mod_lt _ (by omega)
    obtain⟨htop,zu0⟩:=zw1 (d:=fun i=>ds.getD i 0) hrem hmod hTlt
    have hdm:=Nat.div_add_mod (Sv (fun i=>cs.getD (j+i) 0) (T.length+1)) (V T)
    rw[<-hqd]at hdm
    have HSTEP:Hid (Sv (fun i=>ds.getD i 0) (j+T.length)+4294967296 ^ j*V ((Q.set j qd).drop j)*V T=V xs*2 ^ s):=by
     refine zs2 (c:=fun i=>cs.getD i 0) (q:=qd) HI.out (fun i hi=>zb4 i (by omega)) zu0 hdm ?_
     rw[zlc,za7 _ _ _ (by rw[HQ.out];omega),List.drop_set_of_lt (by omega)]
    have HSEG:Hid (Sv (fun i=>ds.getD (j+i) 0) T.length<V T):=by show _<_;rw[zu0];exact hmod
    have HZZ:Hid (∀i,j+T.length<=i->ds.getD i 0=0):=fun i hi=>by
     rcases Nat.lt_or_eq_of_le hi with h|h
     . rw[zb4 i (by omega)];exact HZ.out i (by omega)
     . rw[<-h];exact htop
    have HDL:Hid (ds.length=cs.length):=hdl
    clear hmod htop zu0 hdm zb4 hrem hqd zy7 hTlt hdl ho hBQ hT hjc;go_wp2
    go_roundw
    case rel =>
     exact⟨j,_,ds,Q.set j qd,by omega,rfl,by go_num,by rw[HDL.out];exact HC.out,ld,by rw[List.length_set];exact HQ.out,lQ.set _ z4q,HSTEP.out,HSEG.out,HZZ.out,hB1.set_other hgQL.symm _ _,hBQ1.set _ _ _ (by rw[HQ.out];omega) rfl,hT1'.set_other hgQT _ _,hb1''.setCell (Nat.le_trans hbb3.size (Nat.le_refl _)) _⟩
    case measure=>simp[intOf]
theorem zyr{a b:Int}(h:a=b):Value.int .u64 a=Value.int .u64 b:=by rw[h]
theorem zcg(n:Int):IntKind.u64.wrap n=n%18446744073709551616:=by simp[IntKind.wrap,IntKind.bits,IntKind.signed]
theorem zna{zs L S:LN}{k cy x y t:Nat}(hz:zs.length=k)(he:V zs+V (S.take k)=V (L.take k)+4294967296 ^ k*cy)(hx:L.getD k 0=x)(hy:S.getD k 0=y)(ht:t=x+4294967296-cy-y)(hc:cy<=1)(hb:y<4294967296)(hxb:x<4294967296) :
 V (zs++[t%4294967296])+V (S.take (k+1))=V (L.take (k+1))+4294967296 ^ (k+1)*(1-t/4294967296):=by
 rw[zh0,hz,zam,zam,hx,hy,Nat.pow_succ]
 have e:t%4294967296+y+cy=x+4294967296*(1-t/4294967296):=by omega
 . generalize t%4294967296=r at e ⊢
   generalize 1-t/4294967296=d at e ⊢
   generalize 4294967296 ^ k=p at he ⊢
   generalize V zs=o at he ⊢
   generalize V (L.take k)=A at he ⊢
   generalize V (S.take k)=C at he ⊢
   grind
theorem zqk{S:LN}{n:Nat}(h:V S<4294967296 ^ n):V (S.take n)=V S:=by
 have e:=zm0 S n
 rcases Nat.eq_zero_or_pos (V (S.drop n))with h0|h0
 . rw[h0]at e;omega
 . have:4294967296 ^ n*1<=4294967296 ^ n*V (S.drop n):=Nat.mul_le_mul_left _ h0
   omega
theorem z0g{zs L S:LN}{cy:Nat}(lz:Lim zs)(hz:zs.length=L.length)(he:V zs+V (S.take L.length)=V (L.take L.length)+4294967296 ^ L.length*cy)(lL:Lim L)(hv:V S<V L):V zs=V L-V S:=by
 have hL:=V_lt lL
 rw[List.take_length,zqk (by omega)]at he
 have hzs:=V_lt lz
 rw[hz]at hzs
 rcases Nat.eq_zero_or_pos cy with h0|h0
 . rw[h0]at he;omega
 . have:4294967296 ^ L.length*1<=4294967296 ^ L.length*cy:=Nat.mul_le_mul_left _ h0
   omega
theorem z3e{x y:Nat}(h:x<=y):cmpN x y<=0:=by unfold cmpN;split <;> (try split) <;> omega
theorem z3f{x y:Nat}(h:y<x):cmpN x y=1:=by unfold cmpN;rw[if_neg (by omega),if_pos h]
theorem zrc(a:OA)(cap:Nat)(xs:LN)(b:OA)(cbp:Nat)(ys:LN)(w:World)(ha:Rd w a cap xs)(hb:Rd w b cbp ys)(hla:xs.length<=500000000)(hlb:ys.length<=500000000) :
 Calls Tryz.prog 207 #[.slice a xs.length cap,.slice b ys.length cbp] w fun e w' =>
     ∃a' cap' zs,e=.returned (.slice a' zs.length cap')/\V zs=V xs-V ys/\Tr zs/\Res 250 w.heap.size w' a' cap' zs/\Below w.heap.size w w':=by
 obtain⟨i0,hi,hz0,hz1,hz2⟩:=info_parts zcb
 by_cases hle:V xs<=V ys
 . have hc:=z3e hle
   go_enter Tryz.func207,Tryz.ntmps207
   go_wp2_with fail
   refine(zjl _ _ _ _ _ _ _ ha hb).mono ?_
   rintro e w1 ⟨rfl,hb1⟩
   generalize cmpN (V xs) (V ys)=q at hc ⊢
   go_wp2
   go_ret
   refine⟨some ⟨w1.heap.size,0,none⟩,0,[],rfl,?_,zj1,?_,hb1.alloc hb1.size _⟩
   . show 0=_;omega
   . exact⟨Lim.nil,zfh (World.ownsRow_made w1 #[] 0 (Nat.le_refl _) (Nat.zero_le _) rfl) hb1.size⟩
 . have hc:=z3f (Nat.lt_of_not_le hle)
   have HC:Hid (cmpN (V xs) (V ys)=1):=hc
   clear hc
   go_enter Tryz.func207,Tryz.ntmps207
   go_wp2_with fail
   refine(zjl _ _ _ _ _ _ _ ha hb).mono ?_
   rintro e w0 ⟨rfl,hb0⟩;rw[HC.out]
   have ha0:=ha.below hb0
   have hb00:=hb.below hb0
   clear ha hb
   have Xr:=ha0.strip
   have Yr:=hb00.strip
   have lx:=zah xs
   have ly:=zah ys
   go_wp2_with fail
   refine(zb0 a cap xs _ ha0).mono ?_
   rintro e w' ⟨rfl,rfl⟩
   go_wp2_with fail
   refine(zb0 b cbp ys _ hb00).mono ?_
   rintro e w' ⟨rfl,rfl⟩
   clear ha0 hb00
   have HV:Hid (V (strip ys)<V (strip xs)/\V (strip xs)=V xs/\V (strip ys)=V ys):=by show _/\_;rw[zap,zap];exact⟨by omega,rfl,rfl⟩
   generalize strip xs=X at Xr lx HV ⊢
   generalize strip ys=Y at Yr ly HV ⊢
   have hL2:=Xr.le
   have hL3:=Xr.cap
   unfold maxLen at hL3
   have lL:=Xr.lim
   have lS:=Yr.lim
   have fL:=Xr.fm
   have fS:=Yr.fm
   clear Xr Yr
   have hs0:=hb0.size
   go_wp2_with (at_make;refine wpList_make_own _ rfl _ _ 123 rfl w0.heap.size 250 i0 (.int .u32 0) 1 Tryz.underlying123 hi hz0 hz1 _ _ _ X.length rfl rfl (by omega) (by rw[hz2];omega) (by unfold maxLen;omega) (Nat.le_refl _) ?_)
   intro u0 ze4 zcn
   have hbu:Below w0.heap.size w0 u0:=(Below.refl _ _).grown zcn (Nat.le_refl _) (fun k h=>by cases h)
   go_wp2
   go_loopw [5,6,24] (fun out c i wr=>∃(k:Nat) (zs:LN) (cy:Nat),k<=X.length/\i=.int .i64 k/\c=.int .u64 cy/\cy<=1/\zs.length=k/\Lim zs/\V zs+V (Y.take k)=V (X.take k)+4294967296 ^ k*cy/\wr.ownsRow w0.heap.size 250 1 out k (zs.map U)/\Below w0.heap.size w0 wr) (fun _ _ i _=>X.length-(intOf i).toNat)
   case atStart=>exact⟨0,[],0,Nat.zero_le _,rfl,rfl,Nat.zero_le _,rfl,Lim.nil,by simp[V],ze4,hbu⟩
   case round =>
    obtain⟨k,zs,cy,hk,rfl,rfl,hcy,hzl,lz,heq,hown,hnx⟩:=hrel
    have HE:Hid (V zs+V (Y.take k)=V (X.take k)+4294967296 ^ k*cy):=heq
    have HZ:Hid (zs.length=k):=hzl
    have hsz:=hnx.size
    clear heq hzl
    by_cases hkn:k<X.length
    . obtain⟨bl,ol,rfl,_,hcl⟩:=fL.at hnx k hkn
      obtain⟨x,hx⟩:∃x,X.getD k 0=x:=⟨_,rfl⟩
      obtain⟨y,hy⟩:∃y,Y.getD k 0=y:=⟨_,rfl⟩
      have bx:x<4294967296:=by rw[<-hx];exact lL.getD k
      have byy:y<4294967296:=by rw[<-hy];exact lS.getD k
      rw[hx]at hcl
      have HX:Hid (X.getD k 0=x):=hx
      have HY:Hid (Y.getD k 0=y):=hy
      clear hx hy
      by_cases hkm:k<Y.length
      . obtain⟨bs,os,rfl,_,hcs⟩:=fS.at hnx k hkm
        rw[HY.out]at hcs
        go_wp2_with (at_builtin;refine zag rfl _ _ 123 rfl w0.heap.size 250 i0 Tryz.underlying123 hi hz0 hz1 hz2 _ k zs rfl (hown.alloc _) wr.heap.size ((x+4294967296-cy-y)%4294967296) rfl (zbe _ _ _ _ (by simp only[zcg];omega)) (by omega) (by simp;omega) ?_)
        intro v' w1 hown1 zbn
        have hb1:Below w0.heap.size w0 w1:=(hnx.alloc hsz _).grown zbn (by simp;omega) (fun k hk=>(hown.lt k hk).1)
        clear hown;go_wp2
        go_roundw
        case rel =>
         exact⟨k+1,zs++[(x+4294967296-cy-y)%4294967296],1-(x+4294967296-cy-y)/4294967296,by omega,by go_num,zyr (by simp only[zcg];omega),by omega,by simp[HZ.out],lz.snoc (by omega),zna HZ.out HE.out HX.out HY.out (by omega) hcy byy bx,zbw hown1,hb1⟩
        case measure=>simp[intOf];omega
      . have y0:y=0:=by rw[<-HY.out];exact zeo _ _ (by omega)
        subst y0
        go_wp2_with (at_builtin;refine zag rfl _ _ 123 rfl w0.heap.size 250 i0 Tryz.underlying123 hi hz0 hz1 hz2 _ k zs rfl (hown.alloc _) wr.heap.size ((x+4294967296-cy)%4294967296) rfl (zbe _ _ _ _ (by simp only[zcg];omega)) (by omega) (by simp;omega) ?_)
        intro v' w1 hown1 zbn
        have hb1:Below w0.heap.size w0 w1:=(hnx.alloc hsz _).grown zbn (by simp;omega) (fun k hk=>(hown.lt k hk).1)
        clear hown;go_wp2
        go_roundw
        case rel =>
         exact⟨k+1,zs++[(x+4294967296-cy)%4294967296],1-(x+4294967296-cy)/4294967296,by omega,by go_num,zyr (by simp only[zcg];omega),by omega,by simp[HZ.out],lz.snoc (by omega),zna HZ.out HE.out HX.out HY.out (by omega) hcy byy bx,zbw hown1,hb1⟩
        case measure=>simp[intOf];omega
    . obtain rfl:k=X.length:=by omega
      obtain⟨a',cap',rfl,hres⟩:=Res.of lz hown
      clear hown
      go_wp2_with fail
      refine(zb2 _ _ _ _ hres.rd (by rw[HZ.out];omega)).mono ?_
      rintro e w2 ⟨a2,c2,rfl,hr2,hb2⟩;go_wp2
      go_ret
      refine⟨a2,c2,_,rfl,?_,zav _,hr2.mono (Nat.le_trans hs0 hsz),hb0.trans ((hnx.trans (hb2.mono hsz)).mono hs0)⟩
      rw[zap,<-HV.out.2.1,<-HV.out.2.2]
      exact z0g lz HZ.out HE.out lL HV.out.1
def remN(x y:Nat):Nat:=if y=0 then 0 else x%y
theorem zrw(x:Nat){y:Nat}(h:y=0):remN x y=0:=by unfold remN;rw[if_pos h]
theorem zcw(x:Nat){y:Nat}(h:0<y):remN x y=x%y:=by unfold remN;rw[if_neg (by omega)]
theorem V_one{ys:LN}(h:ys.length=1):V ys=ys.getD 0 0:=by
 match ys,h with
 | [y],_=>simp[V]
theorem zg6(a:OA)(cap:Nat)(xs:LN)(b:OA)(cbp:Nat)(ys:LN)(w:World)(ha:Rd w a cap xs)(hb:Rd w b cbp ys)(hla:xs.length<=400000000)(hlb:ys.length<=400000000) :
 Calls Tryz.prog 202 #[.slice a xs.length cap,.slice b ys.length cbp] w fun e w' =>
     ∃a1 c1 z1 a2 c2 z2,e=.returned (.tuple #[.slice a1 z1.length c1,.slice a2 z2.length c2])/\V z1=V xs/V ys/\V z2=remN (V xs) (V ys)/\Tr z1/\Tr z2/\Res 250 w.heap.size w' a1 c1 z1/\Res 250 w.heap.size w' a2 c2 z2/\Below w.heap.size w w':=by
 have Xr:=ha.strip
 have Yr:=hb.strip
 have lx:=zah xs
 have ly:=zah ys
 have tX:=zav xs
 have tY:=zav ys
 go_enter Tryz.func202,Tryz.ntmps202
 go_wp2_with fail
 refine(zb0 a cap xs _ ha).mono ?_
 rintro e w' ⟨rfl,rfl⟩
 go_wp2_with fail
 refine(zb0 b cbp ys _ hb).mono ?_
 rintro e w' ⟨rfl,rfl⟩
 clear ha hb
 have HV:Hid (V (strip xs)=V xs/\V (strip ys)=V ys):=⟨zap xs,zap ys⟩
 generalize strip xs=X at Xr lx HV tX ⊢
 generalize strip ys=Y at Yr ly HV tY ⊢
 have hx2:=Xr.cap
 have hx1:=Xr.le
 have hy2:=Yr.cap
 have hy1:=Yr.le
 unfold maxLen at hx2 hy2
 by_cases h0:Y.length=0
 . have hY0:V ys=0:=by rw[<-HV.out.2,List.length_eq_zero_iff.1 h0];rfl
   have HY0:Hid (V ys=0):=hY0
   have hq:((Y.length:Int)==0)=true:=beq_iff_eq.2 (by omega)
   have H0:Hid (Y.length=0):=h0
   clear hY0 h0;go_wp2
   go_ret2
   refine⟨some ⟨w.heap.size,0,none⟩,0,[],some ⟨w.heap.size+1,0,none⟩,0,[],rfl,by rw[HY0.out,Nat.div_zero];rfl,by rw[zrw _ HY0.out];rfl,zj1,zj1,?_,?_,?_⟩
   . exact⟨Lim.nil,(World.ownsRow_made w #[] 0 (Nat.le_refl _) (Nat.zero_le _) rfl).alloc _⟩
   . have:=World.ownsRow_made (e:=250) (size:=1) (base:=w.heap.size) (w.alloc (.cells #[] 250)) #[] 0 (by simp) (Nat.zero_le _) rfl
     simp at this
     exact⟨Lim.nil,by simpa using this⟩
   . exact((Below.refl _ _).alloc (Nat.le_refl _) _).alloc (by simp) _
 . have hq:((Y.length:Int)==0)=false:=beq_eq_false_iff_ne.2 (by omega)
   have z47:0<V ys:=by
    rw[<-HV.out.2]
    rcases Nat.eq_zero_or_pos (V Y)with h|h
    . exact absurd (by rw[zc0 tY h];rfl) h0
    . exact h
   have HYP:Hid (0<V ys):=z47
   clear z47
   go_wp2_with fail
   refine(zjl _ _ _ _ _ _ _ Xr Yr).mono ?_
   rintro e w1 ⟨rfl,hb1⟩;rw[HV.out.1,HV.out.2]
   have Xr1:=Xr.below hb1
   have Yr1:=Yr.below hb1
   have hs1:=hb1.size
   clear Xr Yr
   by_cases hlt:V xs<V ys
   . have hc:cmpN (V xs) (V ys)=-1:=by simp[cmpN,hlt]
     rw[hc]
     have HL:Hid (V xs<V ys):=hlt
     clear hc hlt
     go_wp2_with fail
     refine(zb2 _ _ X _ (Xr1.below ((Below.refl _ _).alloc (Nat.le_refl _) _)) (by omega)).mono ?_
     rintro e w2 ⟨a2,c2,rfl,hr2,hb2⟩
     have hba:Below w.heap.size w (w1.alloc (.cells #[] 250)):=hb1.alloc hs1 _
     have hbw:Below w.heap.size w w2:=hba.trans (hb2.mono hba.size)
     have hown:(w1.alloc (.cells #[] 250)).ownsRow w1.heap.size 250 1 (.slice (some ⟨w1.heap.size,0,none⟩) 0 0) 0 []:=World.ownsRow_made w1 #[] 0 (Nat.le_refl _) (Nat.zero_le _) rfl
     have hR1:Res 250 w1.heap.size (w1.alloc (.cells #[] 250)) (some ⟨w1.heap.size,0,none⟩) 0 []:=⟨Lim.nil,hown⟩
     have hR1':=hR1.below hb2
     go_wp2
     go_ret2
     refine⟨some ⟨w1.heap.size,0,none⟩,0,[],a2,c2,strip X,rfl,?_,?_,zj1,zav _,hR1'.mono hs1,hr2.mono hba.size,hbw⟩
     . rw[Nat.div_eq_of_lt HL.out];rfl
     . rw[zcw _ HYP.out,Nat.mod_eq_of_lt HL.out,zap,HV.out.1]
   . have hc:0<=cmpN (V xs) (V ys):=by unfold cmpN;rw[if_neg hlt];split <;> omega
     have HL:Hid (V ys<=V xs):=Nat.le_of_not_lt hlt
     generalize cmpN (V xs) (V ys)=cc at hc ⊢
     clear hlt
     by_cases zba:Y.length=1
     . have hone':((Y.length:Int)==1)=true:=beq_iff_eq.2 (by omega)
       obtain⟨y,hy⟩:∃y,Y.getD 0 0=y:=⟨_,rfl⟩
       have hVy:V Y=y:=by rw[V_one zba,hy]
       have hyb:y<4294967296:=by rw[<-hy];exact Yr1.lim.getD 0
       have hyp:1<=y:=by have:=HYP.out;rw[<-HV.out.2,hVy]at this;exact this
       obtain⟨b1,o1,rfl,hb1lt,hcy⟩:=Yr1.fm.at (Below.refl _ _) 0 (by omega)
       rw[hy]at hcy
       have HVY:Hid (V ys=y):=by show _=_;rw[<-HV.out.2,hVy]
       have H1:Hid (Y.length=1):=zba
       have hYl1:(0:Int)<(Y.length:Int):=by omega
       clear zba hy hVy h0
       go_wp2_with fail
       refine(zb2 _ _ X _ Xr1 (by omega)).mono ?_
       rintro e w2 ⟨a2,c2,rfl,hr2,hb2⟩
       have hbw2:Below w.heap.size w w2:=hb1.trans (hb2.mono hs1)
       have hcy2:w2.cell? ⟨b1,o1+0,none⟩=some (.int .u32 (y:Int)):=(hb2.cell (p:=⟨b1,o1+0,none⟩) hb1lt).trans hcy
       have hXs:strip X=X:=tX
       rw[hXs]at hr2 ⊢
       have hs2:=hbw2.size
       rcases hr2.blk with h|⟨g,rfl,hg1,hB2⟩
       . exfalso
         have h1:=HL.out
         rw[<-HV.out.1,h]at h1
         have h2:=HYP.out
         have h3:V []=0:=rfl
         omega
       . have zxc:b1≠g:=by omega
         clear hcy
         simp only[Nat.add_zero]at hcy2
         go_wp2_with fail
         refine(zx3 g _ X y _ hB2 hr2.lim hyp hyb (by omega)).mono ?_
         rintro e w3 ⟨cs,r,rfl,hr,hcl,lc,heq,hB3,hg3⟩
         have hbw3:Below w.heap.size w w3:=hbw2.grown hg3 hs2 (fun k hk=>by cases hk;omega)
         have hs3:=hbw3.size
         have hcc1:=hr2.rd.cap
         have hcc2:=hr2.rd.le
         have hrd:=hB3.rd lc 0 X.length c2 (by omega) hcc2 hcc1
         rw[List.drop_zero,List.take_of_length_le (by omega)]at hrd
         have hdm:V cs=V xs/y/\r=V xs%y:=by
          rw[<-HV.out.1,<-heq]
          exact⟨by rw[Nat.mul_comm,Nat.add_comm,Nat.add_mul_div_left _ _ (by omega),Nat.div_eq_of_lt hr,Nat.zero_add],by rw[Nat.mul_comm,Nat.add_comm,Nat.add_mul_mod_self_left,Nat.mod_eq_of_lt hr]⟩
         have HDM:Hid (V cs=V xs/y/\r=V xs%y):=hdm
         have HCL:Hid (cs.length=X.length):=hcl
         clear hdm heq hcl hcc1 hcc2 hr2
         unfold maxLen at *
         go_wp2_with fail
         refine(zm7 _ _ X.length cs _ HCL.out.symm hrd (by rw[HCL.out];omega)).mono ?_
         rintro e w4 ⟨a4,c4,rfl,hr4,hb4⟩
         have hbw4:Below w.heap.size w w4:=hbw3.trans (hb4.mono hs3)
         have hs4:=hbw4.size
         go_wp2_with fail
         refine(zeh r _ (by omega)).mono ?_
         rintro e w5 ⟨a5,c5,z5,rfl,hv5,ht5,hr5,hb5⟩
         have hbw5:Below w.heap.size w w5:=hbw4.trans (hb5.mono hs4)
         have hr4':=hr4.below hb5
         go_wp2
         go_ret2
         refine⟨a4,c4,strip cs,a5,c5,z5,rfl,?_,?_,zav _,ht5,hr4'.mono hs3,hr5.mono hs4,hbw5⟩
         . rw[zap,HDM.out.1,HVY.out]
         . rw[zcw _ HYP.out,hv5,HDM.out.2,HVY.out]
     . have hone':((Y.length:Int)==1)=false:=beq_eq_false_iff_ne.2 (by omega)
       go_wp2_with fail
       refine(zmf _ _ X _ _ Y _ Xr1 Yr1 tX tY (by omega) (by rw[HV.out.1,HV.out.2];exact HL.out) (by omega) (by omega)).mono ?_
       rintro e w2 ⟨a1,c1,z1,a2,c2,z2,rfl,hv1,hv2,ht1,ht2,hr1,hr2,hb2⟩;go_wp2
       go_ret2
       refine⟨a1,c1,z1,a2,c2,z2,rfl,?_,?_,ht1,ht2,hr1.mono hs1,hr2.mono hs1,hb1.trans (hb2.mono hs1)⟩
       . rw[hv1,HV.out.1,HV.out.2]
       . rw[zcw _ HYP.out,hv2,HV.out.1,HV.out.2]
theorem zja(x y:Nat):Nat.gcd y (x%y)=Nat.gcd x y:=by
 rw[Nat.gcd_comm x y,Nat.gcd_rec y x,Nat.gcd_comm]
theorem z0w{a b:Int}(h:a=b):Ending.returned (.int .u64 a)=.returned (.int .u64 b):=by rw[h]
theorem zxp(x y:Nat)(w:World)(hx:x<18446744073709551616)(hy:y<18446744073709551616) :
 Calls Tryz.prog 262 #[.int .u64 (x:Int),.int .u64 (y:Int)] w fun e w'=>e=.returned (.int .u64 (Nat.gcd x y:Nat))/\Below w.heap.size w w':=by
 go_enter Tryz.func262,Tryz.ntmps262
 go_wp2
 go_loopw [0,1] (fun a b wr=>∃p q:Nat,a=.int .u64 p/\b=.int .u64 q/\p<18446744073709551616/\q<18446744073709551616/\Nat.gcd p q=Nat.gcd x y/\Below w.heap.size w wr) (fun _ b _=>(intOf b).toNat)
 case atStart=>exact⟨x,y,rfl,rfl,hx,hy,rfl,Below.refl _ _⟩
 case round =>
  obtain⟨p,q,rfl,rfl,hp,hq,hg,hnx⟩:=hrel
  have HG:Hid (Nat.gcd p q=Nat.gcd x y):=hg
  clear hg
  by_cases hq0:q=0
  . subst hq0
    go_wp2
    go_ret
    refine⟨z0w ?_,hnx⟩
    rw[<-HG.out,Nat.gcd_zero_right]
  . have hne:((q:Int) != 0)=true:=by rw[bne_iff_ne];omega
    have hq1:(1:Int)<=(q:Int):=by omega
    have hq2:(0:Int)<=(p:Int):=by omega
    obtain⟨r,hr⟩:∃r,p%q=r:=⟨_,rfl⟩
    have hri:(p:Int)%(q:Int)=(r:Int):=by rw[<-hr];simp
    have hrb:r<q:=by rw[<-hr];exact Nat.mod_lt _ (by omega)
    have HG2:Hid (Nat.gcd q r=Nat.gcd x y):=by show _=_;rw[<-hr,zja];exact HG.out
    have HRI:Hid ((p:Int)%(q:Int)=(r:Int)):=hri
    clear hr
    go_wp2_with fail
    go_quiet (fail)
    go_wp2
    go_roundw
    case rel=>exact⟨q,r,rfl,congrArg (Value.int .u64) (by first | rfl | exact HRI.out),hq,by omega,HG2.out,below_drewN hnx _⟩
    case measure=>first | (simp[intOf];omega) | (have:=HRI.out;simp[intOf];omega)
theorem zma(a:OA)(cap:Nat)(xs:LN)(b:OA)(cbp:Nat)(ys:LN)(w:World)(ha:Rd w a cap xs)(hb:Rd w b cbp ys)(hla:xs.length<=400000000)(hlb:ys.length<=400000000) :
 Calls Tryz.prog 209 #[.slice a xs.length cap,.slice b ys.length cbp] w fun e w' =>
     ∃a' cap' zs,e=.returned (.slice a' zs.length cap')/\V zs=Nat.gcd (V xs) (V ys)/\Tr zs/\Res 250 w.heap.size w' a' cap' zs/\Below w.heap.size w w':=by
 go_enter Tryz.func209,Tryz.ntmps209
 go_wp2
 go_loopg [0,1] (V ys) (fun k p q wr=>∃(aA:OA) (cA:Nat) (X:LN) (aB:OA) (cB:Nat) (Y:LN),p=.slice aA X.length cA/\q=.slice aB Y.length cB/\X.length<=400000000/\Y.length<=400000000/\V Y=k/\Rd wr aA cA X/\Rd wr aB cB Y/\Nat.gcd (V X) (V Y)=Nat.gcd (V xs) (V ys)/\Below w.heap.size w wr)
 case atStart=>exact⟨a,cap,xs,b,cbp,ys,rfl,rfl,hla,hlb,rfl,ha,hb,rfl,Below.refl _ _⟩
 case round =>
  obtain⟨aA,cA,X,aB,cB,Y,rfl,rfl,hX,hY,hk,rX,rY,hg,hnx⟩:=hrel
  have HG:Hid (Nat.gcd (V X) (V Y)=Nat.gcd (V xs) (V ys)):=hg
  have HK:Hid (V Y=gk):=hk
  have hsz:=hnx.size
  clear hg hk
  go_wp2_with fail
  refine(zc9 _ _ _ _ rX).mono ?_
  rintro e w' ⟨rfl,rfl⟩
  go_wp2_with fail
  refine(zc9 _ _ _ _ rY).mono ?_
  rintro e w' ⟨rfl,rfl⟩
  by_cases hsY:V Y<18446744073709551616
  . rw[zbk hsY,za9 hsY]
    by_cases hsX:V X<18446744073709551616
    . rw[zbk hsX,za9 hsX]
      obtain⟨vx,hvx⟩:∃vx,V X=vx:=⟨_,rfl⟩
      obtain⟨vy,hvy⟩:∃vy,V Y=vy:=⟨_,rfl⟩
      rw[hvx,hvy];rw[hvx]at hsX;rw[hvy]at hsY
      have HG2:Hid (Nat.gcd vx vy=Nat.gcd (V xs) (V ys)):=by show _=_;rw[<-hvx,<-hvy];exact HG.out
      clear hvx hvy HG
      go_wp2_with fail
      refine(zxp vx vy _ hsX hsY).mono ?_
      rintro e v1 ⟨rfl,hv1⟩
      have hgb:Nat.gcd vx vy<18446744073709551616:=by
       rcases Nat.eq_zero_or_pos vx with h0|h0
       . rw[h0,Nat.gcd_zero_left];exact hsY
       . exact Nat.lt_of_le_of_lt (Nat.gcd_le_left _ h0) hsX
      have hb1:Below w.heap.size w v1:=hnx.trans (hv1.mono hsz)
      obtain⟨gg,hgg⟩:∃gg,Nat.gcd vx vy=gg:=⟨_,rfl⟩
      rw[hgg]at hgb ⊢
      have HGG:Hid (gg=Nat.gcd (V xs) (V ys)):=by show _=_;rw[<-hgg];exact HG2.out
      clear hgg HG2
      go_wp2_with fail
      refine(zeh gg _ hgb).mono ?_
      rintro e v2 ⟨a2,c2,z2,rfl,hz2,ht2,hr2,hb2⟩;go_wp2
      go_ret
      exact⟨a2,c2,z2,rfl,by rw[hz2];exact HGG.out,ht2,hr2.mono hb1.size,hb1.trans (hb2.mono hb1.size)⟩
    . rw[zcl hsX,zb9 hsX]
      by_cases hy0:V Y=0
      . rw[hy0]
        have HY0:Hid (V Y=0):=hy0
        clear hy0 hsY hsX
        go_wp2_with fail
        refine(zb2 _ _ _ _ rX (by omega)).mono ?_
        rintro e v1 ⟨a1,c1,rfl,hr1,hb1⟩;go_wp2
        go_ret
        refine⟨a1,c1,strip X,rfl,?_,zav _,hr1.mono hsz,hnx.trans (hb1.mono hsz)⟩
        rw[zap,<-HG.out,HY0.out,Nat.gcd_zero_right]
      . obtain⟨vy,hvy⟩:∃vy,V Y=vy:=⟨_,rfl⟩
        rw[hvy]at hy0 hsY ⊢
        have hyb:((vy:Int)==0)=false:=beq_eq_false_iff_ne.2 (by omega)
        have HVY:Hid (V Y=vy):=hvy
        clear hvy hsX
        go_wp2_with fail
        refine(zg6 _ _ _ _ _ _ _ rX rY hX hY).mono ?_
        rintro e v1 ⟨a1,c1,z1,a2,c2,z2,rfl,hv1,hv2,ht1,ht2,hr1,hr2,hb1⟩
        have zfy:0<V Y:=by rw[HVY.out];omega
        rw[zcw _ zfy]at hv2
        have hlt:V z2<V Y:=by rw[hv2];exact Nat.mod_lt _ zfy
        have HLT:Hid (V z2<gk):=by show _<_;rw[<-HK.out];exact hlt
        have hl2:z2.length<=Y.length:=by
         rcases Nat.lt_or_ge Y.length z2.length with h|h
         . have:=zat rY.lim ht2 h;omega
         . exact h
        have HG2:Hid (Nat.gcd (V Y) (V z2)=Nat.gcd (V xs) (V ys)):=by show _=_;rw[hv2,zja];exact HG.out
        have rY':=rY.below hb1
        have r2:=hr2.rd
        have hbw:Below w.heap.size w v1:=hnx.trans (hb1.mono hsz)
        clear hv1 hv2 zfy hlt hr1 hr2;go_wp2
        go_roundg (V z2)
        case measure=>exact HLT.out
        case rel=>exact⟨aB,cB,Y,a2,c2,z2,rfl,rfl,hY,by omega,rfl,rY',r2,HG2.out,hbw⟩
  . rw[zcl hsY,zb9 hsY]
    have HB:Hid (¬V Y<18446744073709551616):=hsY
    clear hsY
    have fin:∀(vx:Nat) (bx:Bool),True:=fun _ _=>trivial
    generalize zho (V X)=sx
    generalize ze3 (V X)=ix
    cases ix
    all_goals
     go_wp2_with fail
     refine(zg6 _ _ _ _ _ _ _ rX rY hX hY).mono ?_
     rintro e v1 ⟨a1,c1,z1,a2,c2,z2,rfl,hv1,hv2,ht1,ht2,hr1,hr2,hb1⟩
     have zfy:0<V Y:=by have:=HB.out;omega
     rw[zcw _ zfy]at hv2
     have hlt:V z2<V Y:=by rw[hv2];exact Nat.mod_lt _ zfy
     have HLT:Hid (V z2<gk):=by show _<_;rw[<-HK.out];exact hlt
     have hl2:z2.length<=Y.length:=by
      rcases Nat.lt_or_ge Y.length z2.length with h|h
      . have:=zat rY.lim ht2 h;omega
      . exact h
     have HG2:Hid (Nat.gcd (V Y) (V z2)=Nat.gcd (V xs) (V ys)):=by show _=_;rw[hv2,zja];exact HG.out
     have rY':=rY.below hb1
     have r2:=hr2.rd
     have hbw:Below w.heap.size w v1:=hnx.trans (hb1.mono hsz)
     clear hv1 hv2 zfy hlt hr1 hr2;go_wp2
     go_roundg (V z2)
     case measure=>exact HLT.out
     case rel=>exact⟨aB,cB,Y,a2,c2,z2,rfl,rfl,hY,by omega,rfl,rY',r2,HG2.out,hbw⟩
open Classical
def Fmd(n:Bool)(xs ys:LN):Prop:=Tr xs/\Tr ys/\ys≠[]/\¬(n=true/\xs=[])/\Nat.gcd (V xs) (V ys)=1
theorem z3z{xs:LN}(h:xs≠[]):Tr xs↔xs.getD (xs.length-1) 0≠0:=by
 refine⟨fun t=>t.last h,fun h0=>?_⟩
 have hl:0<xs.length:=List.length_pos_iff.2 h
 have e:=zc8 xs (xs.length-1) (by omega) h0
 rw[show xs.length-1+1=xs.length by omega,List.take_length]at e
 exact e
theorem zyl{xs:LN}(l:Lim xs)(t:Tr xs):V xs=1↔xs=[1]:=by
 refine⟨fun h=>uniq l (by intro x hx;simp at hx;omega) t (by unfold Tr;rfl) (by rw[h];rfl),fun h=>by rw[h];rfl⟩
theorem zgf(a:OA)(cap:Nat)(xs:LN)(w:World)(h:Rd w a cap xs) :
 Calls Tryz.prog 260 #[.slice a xs.length cap] w fun e w'=>e=.returned (.bool (decide (Tr xs)))/\w=w':=by
 have k1:=h.le
 have k2:=h.cap
 unfold maxLen at k2
 by_cases h0:xs=[]
 . subst h0
   go_enter Tryz.func260,Tryz.ntmps260
   go_wp2
   go_ret
   exact⟨za2 (by simp[zj1]),rfl⟩
 . have hl:0<xs.length:=List.length_pos_iff.2 h0
   obtain⟨b,off,rfl,hb,hc⟩:=h.fm.at (Below.refl _ _) (xs.length-1) (by omega)
   obtain⟨m,hm⟩:∃m,xs.length=m+1:=⟨xs.length-1,by omega⟩
   have ht:=z3z h0
   rw[hm]at ht hc k1 ⊢
   simp only[Nat.add_sub_cancel]at ht hc
   generalize xs.getD m 0=z at ht hc
   clear h hl hm
   have g1:((m:Int)+1==0)=false:=beq_eq_false_iff_ne.2 (by omega)
   have g2:((z:Int) != 0)=decide (Tr xs):=by
    by_cases hz:z=0
    . subst hz;simp[ht]
    . simp[ht,hz]
   go_enter Tryz.func260,Tryz.ntmps260
   go_wp2
   go_ret
   exact⟨za2 (by simp[g1,ht];try omega),rfl⟩
theorem zs8(a:OA)(cap:Nat)(xs:LN)(w:World)(h:Rd w a cap xs) :
 Calls Tryz.prog 261 #[.slice a xs.length cap] w fun e w'=>e=.returned (.bool (decide (xs=[1])))/\w=w':=by
 have k1:=h.le
 have k2:=h.cap
 unfold maxLen at k2
 by_cases h0:xs.length=1
 . match xs,h0 with
   | [z],_ =>
    obtain⟨b,off,rfl,hb,hc⟩:=h.fm.at (Below.refl _ _) 0 (by simp)
    simp at hc
    clear h h0
    simp only[List.length_cons,List.length_nil]
    go_enter Tryz.func261,Tryz.ntmps261
    go_wp2
    go_ret
    exact⟨za2 (by by_cases hz:z=1 <;> simp[hz];omega),rfl⟩
 . have hx:xs≠[1]:=by intro e;rw[e]at h0;simp at h0
   have g1:((xs.length:Int)==1)=false:=beq_eq_false_iff_ne.2 (by omega)
   generalize xs.length=m at *
   go_enter Tryz.func261,Tryz.ntmps261
   go_wp2
   go_ret
   exact⟨za2 (by simp[hx,h0];try omega),rfl⟩
theorem zp0(n:Bool)(a:OA)(c:Nat)(xs:LN)(a':OA)(c':Nat)(ys:LN)(w:World)(hx:Rd w a c xs)(hy:Rd w a' c' ys)(lx:xs.length<=400000000)(ly:ys.length<=400000000) :
 Calls Tryz.prog 208 #[.agg #[.bool n,.slice a xs.length c,.slice a' ys.length c']] w fun e w'=>e=.returned (.bool (decide (Fmd n xs ys)))/\Below w.heap.size w w':=by
 go_enter Tryz.func208,Tryz.ntmps208
 go_wp2_with fail
 refine(zgf _ _ _ _ (hx.below ((Below.refl _ _).alloc (Nat.le_refl _) _))).mono ?_
 rintro e u ⟨rfl,rfl⟩
 by_cases tx:Tr xs
 . have e1:decide (Tr xs)=true:=decide_eq_true tx
   rw[e1];clear e1
   go_wp2_with fail
   refine(zgf _ _ _ _ (hy.below ((Below.refl _ _).alloc (Nat.le_refl _) _))).mono ?_
   rintro e u ⟨rfl,rfl⟩
   by_cases ty:Tr ys
   . have e1:decide (Tr ys)=true:=decide_eq_true ty
     rw[e1];clear e1
     by_cases hy0:ys=[]
     . subst hy0
       go_wp2
       go_ret
       exact⟨za2 (by simp[Fmd]),(Below.refl _ _).alloc (Nat.le_refl _) _⟩
     . have hyl:0<ys.length:=List.length_pos_iff.2 hy0
       have g1:((ys.length:Int)==0)=false:=beq_eq_false_iff_ne.2 (by omega)
       have key:(n=true/\xs=[])\/((n=true->xs.length≠0)):=by
        by_cases h1:n=true/\xs=[]
        . exact .inl h1
        . exact .inr fun hn h2=>h1 ⟨hn,List.length_eq_zero_iff.1 h2⟩
       rcases key with ⟨rfl,rfl⟩|h1
       . go_wp2
         go_ret
         exact⟨za2 (by simp[Fmd]),(Below.refl _ _).alloc (Nat.le_refl _) _⟩
       . have fin:∀(W:World),Below w.heap.size w W->∀a1 c1 (zs:LN),Rd W a1 c1 zs->V zs=Nat.gcd (V xs) (V ys)->Tr zs ->
             Calls Tryz.prog 261 #[.slice a1 zs.length c1] W fun e w'=>e=.returned (.bool (decide (Fmd n xs ys)))/\Below w.heap.size w w':=by
          intro W hb a1 c1 zs hr hv ht
          refine(zs8 _ _ _ _ hr).mono ?_
          rintro e u ⟨rfl,rfl⟩
          refine⟨za2 ?_,hb⟩
          have hiff:zs=[1]↔Fmd n xs ys:=by
           rw[<-zyl hr.lim ht,hv]
           refine⟨fun h=>⟨tx,ty,hy0,fun⟨hn,hx0⟩=>h1 hn (by rw[hx0];rfl),h⟩,fun h=>h.2.2.2.2⟩
          by_cases hz:zs=[1] <;> simp[hz,<-hiff]
         cases n with
         | false =>
          go_wp2_with fail
          refine(zma _ _ _ _ _ _ _ (hx.below ((Below.refl _ _).alloc (Nat.le_refl _) _)) (hy.below ((Below.refl _ _).alloc (Nat.le_refl _) _)) lx ly).mono ?_
          rintro e u ⟨a1,c1,zs,rfl,hv,ht,hr,hb⟩
          have hb':Below w.heap.size w u:=((Below.refl _ _).alloc (Nat.le_refl _) _).trans (hb.mono (by simp))
          go_wp2_with fail
          refine(fin _ hb' _ _ _ hr.rd hv ht).mono ?_
          rintro e u2 ⟨rfl,hb2⟩;go_wp2
          go_ret
          exact⟨rfl,hb2⟩
         | true =>
          have g2:((xs.length:Int)==0)=false:=beq_eq_false_iff_ne.2 (by have:=h1 rfl;omega)
          go_wp2_with fail
          refine(zma _ _ _ _ _ _ _ (hx.below ((Below.refl _ _).alloc (Nat.le_refl _) _)) (hy.below ((Below.refl _ _).alloc (Nat.le_refl _) _)) lx ly).mono ?_
          rintro e u ⟨a1,c1,zs,rfl,hv,ht,hr,hb⟩
          have hb':Below w.heap.size w u:=((Below.refl _ _).alloc (Nat.le_refl _) _).trans (hb.mono (by simp))
          go_wp2_with fail
          refine(fin _ hb' _ _ _ hr.rd hv ht).mono ?_
          rintro e u2 ⟨rfl,hb2⟩;go_wp2
          go_ret
          exact⟨rfl,hb2⟩
   . have e1:decide (Tr ys)=false:=decide_eq_false ty
     rw[e1];go_wp2
     go_ret
     exact⟨za2 (by simp[Fmd,ty]),(Below.refl _ _).alloc (Nat.le_refl _) _⟩
 . have e1:decide (Tr xs)=false:=decide_eq_false tx
   rw[e1];go_wp2
   go_ret
   exact⟨za2 (by simp[Fmd,tx]),(Below.refl _ _).alloc (Nat.le_refl _) _⟩
def sg(n:Bool)(k:Nat):Int:=if n=true then -(k:Int)else (k:Int)
def qv(n:Bool)(xs ys:LN):Rat:=mkRat (sg n (V xs)) (V ys)
def Rt(w:World)(v:Value)(n:Bool)(xs ys:LN):Prop :=
 ∃a c a' c',v=.agg #[.bool n,.slice a xs.length c,.slice a' ys.length c']/\Rd w a c xs/\Rd w a' c' ys
def Fr(w:World)(v:Value)(k:Nat)(q:Rat):Prop:=∃n xs ys,Rt w v n xs ys/\Fmd n xs ys/\xs.length<=k/\ys.length<=k/\qv n xs ys=q
def Ct(w:World)(v:Value)(k:Nat)(q:Rat):Prop:=∃n xs ys,Rt w v n xs ys/\xs.length<=k/\ys.length<=k/\q=if Fmd n xs ys then qv n xs ys else 0
def Lo(w:World)(v:Value)(k:Nat)(q:Rat):Prop:=∃n xs ys,Rt w v n xs ys/\Tr xs/\Tr ys/\V ys≠0/\xs.length<=k/\ys.length<=k/\qv n xs ys=q
theorem Rt.below{w w':World}{v:Value}{n:Bool}{xs ys:LN}(h:Rt w v n xs ys)(hb:Below w.heap.size w w'):Rt w' v n xs ys:=by
 obtain⟨a,c,a',c',rfl,h1,h2⟩:=h
 exact⟨a,c,a',c',rfl,h1.below hb,h2.below hb⟩
theorem Fr.below{w w':World}{v:Value}{k:Nat}{q:Rat}(h:Fr w v k q)(hb:Below w.heap.size w w'):Fr w' v k q:=by
 obtain⟨n,xs,ys,h1,h2⟩:=h
 exact⟨n,xs,ys,h1.below hb,h2⟩
theorem Ct.below{w w':World}{v:Value}{k:Nat}{q:Rat}(h:Ct w v k q)(hb:Below w.heap.size w w'):Ct w' v k q:=by
 obtain⟨n,xs,ys,h1,h2⟩:=h
 exact⟨n,xs,ys,h1.below hb,h2⟩
theorem Lo.below{w w':World}{v:Value}{k:Nat}{q:Rat}(h:Lo w v k q)(hb:Below w.heap.size w w'):Lo w' v k q:=by
 obtain⟨n,xs,ys,h1,h2⟩:=h
 exact⟨n,xs,ys,h1.below hb,h2⟩
theorem zm1{ys:LN}(t:Tr ys)(h:ys≠[]):V ys≠0:=fun h0=>h (zc0 t h0)
theorem Fmd.den{n:Bool}{xs ys:LN}(h:Fmd n xs ys):V ys≠0:=zm1 h.2.1 h.2.2.1
theorem Fr.lo{w:World}{v:Value}{k:Nat}{q:Rat}(h:Fr w v k q):Lo w v k q:=by
 obtain⟨n,xs,ys,h1,h2,h3⟩:=h
 exact⟨n,xs,ys,h1,h2.1,h2.2.1,h2.den,h3⟩
theorem Fr.ct{w:World}{v:Value}{k:Nat}{q:Rat}(h:Fr w v k q):Ct w v k q:=by
 obtain⟨n,xs,ys,h1,h2,h3,h4,h5⟩:=h
 exact⟨n,xs,ys,h1,h3,h4,by rw[if_pos h2,h5]⟩
theorem Fr.le{w:World}{v:Value}{k k':Nat}{q:Rat}(h:Fr w v k q)(hk:k<=k'):Fr w v k' q:=by
 obtain⟨n,xs,ys,h1,h2,h3,h4,h5⟩:=h
 exact⟨n,xs,ys,h1,h2,by omega,by omega,h5⟩
theorem Fr.eq{w:World}{v:Value}{k:Nat}{q r:Rat}(h:Fr w v k q)(e:q=r):Fr w v k r:=e ▸ h
theorem zrk(n:Bool)(k:Nat):(sg n k).natAbs=k:=by unfold sg;split <;> simp
theorem zrj(n:Bool):sg n 0=0:=by unfold sg;split <;> rfl
theorem zmc{n:Bool}{xs ys ps qs:LN}(hy:V ys≠0)(tp:Tr ps)(tq:Tr qs)(hp:V ps=V xs/Nat.gcd (V xs) (V ys))(hq:V qs=V ys/Nat.gcd (V xs) (V ys)) :
 Fmd (n&&decide (0<ps.length)) ps qs/\qv (n&&decide (0<ps.length)) ps qs=qv n xs ys:=by
 have g0:0<Nat.gcd (V xs) (V ys):=Nat.gcd_pos_of_pos_right _ (by omega)
 generalize hg:Nat.gcd (V xs) (V ys)=g at *
 have d1:g ∣ V xs:=hg ▸ Nat.gcd_dvd_left _ _
 have d2:g ∣ V ys:=hg ▸ Nat.gcd_dvd_right _ _
 obtain⟨x,hx⟩:=d1;obtain⟨y,hyy⟩:=d2;rw[hx,Nat.mul_div_cancel_left _ g0]at hp;rw[hyy,Nat.mul_div_cancel_left _ g0]at hq
 have hy0:y≠0:=by rintro rfl;simp at hyy;exact hy hyy
 have hco:Nat.gcd x y=1:=by
  have h1:=hg
  rw[hx,hyy,Nat.gcd_mul_left]at h1
  exact Nat.eq_of_mul_eq_mul_left g0 (by omega)
 have hq0:qs≠[]:=by rintro rfl;simp[V]at hq;omega
 have hpl:decide (0<ps.length)=decide (x≠0):=by
  by_cases h0:x=0
  . have:ps=[]:=zc0 tp (by omega)
    simp[this,h0]
  . have:ps≠[]:=by rintro rfl;simp[V]at hp;omega
    simp[h0,List.length_pos_iff,this]
 refine⟨⟨tp,tq,hq0,?_,by rw[hp,hq];exact hco⟩,?_⟩
 . rintro ⟨h1,rfl⟩
   simp at h1
 . rw[hpl]
   unfold qv
   rw[hp,hq,hx,hyy,Rat.mkRat_eq_iff hy0 (by have:=Nat.mul_pos g0 (show 0<y by omega);omega)]
   by_cases h0:x=0
   . subst h0;simp[zrj]
   . cases n <;> simp[sg,h0] <;> grind
def Box(t:TypeId)(w:World)(b:Nat)(x y z:Value):Prop:=w.heap[b]?=some (.cells #[x,y,z] t (0,0))
theorem Box.lt{t:TypeId}{w:World}{b:Nat}{x y z:Value}(h:Box t w b x y z):b<w.heap.size:=(Array.getElem?_eq_some_iff.1 h).1
theorem Box.below{t:TypeId}{w w':World}{b:Nat}{x y z:Value}(h:Box t w b x y z)(hb:Below w.heap.size w w'):Box t w' b x y z:=(hb.block b h.lt).trans h
theorem Box.cells{t:TypeId}{w:World}{b:Nat}{x y z:Value}(h:Box t w b x y z) :
 w.cell? ⟨b,0,none⟩=some x/\w.cell? ⟨b,1,none⟩=some y/\w.cell? ⟨b,2,none⟩=some z/\w.frozen? ⟨b,0,none⟩=false/\w.frozen? ⟨b,1,none⟩=false/\w.frozen? ⟨b,2,none⟩=false:=by
 refine⟨cell_of_row w b 0 _ t (0,0) h,cell_of_row w b 1 _ t (0,0) h,cell_of_row w b 2 _ t (0,0) h,frozen_of_row w b 0 _ t h,frozen_of_row w b 1 _ t h,frozen_of_row w b 2 _ t h⟩
theorem Box.new(t:TypeId)(w:World)(x y z:Value):Box t (w.alloc (.cells #[x,y,z] t)) w.heap.size x y z:=heap_alloc_new w (.cells #[x,y,z] t)
theorem Box.alloc{t:TypeId}{w:World}{b:Nat}{x y z:Value}(h:Box t w b x y z)(o:Obj):Box t (w.alloc o) b x y z:=h.below ((Below.refl _ _).alloc (Nat.le_refl _) o)
theorem al1{w:World}(o:Obj):Below w.heap.size w (w.alloc o):=(Below.refl _ _).alloc (Nat.le_refl _) o
theorem al2{w:World}(o o':Obj):Below w.heap.size w ((w.alloc o).alloc o'):=(al1 o).alloc (by simp) o'
theorem al3{w:World}(o o' o'':Obj):Below w.heap.size w (((w.alloc o).alloc o').alloc o''):=(al2 o o').alloc (by simp;omega) o''
theorem Box.new1(t:TypeId)(w:World)(o:Obj)(x y z:Value):Box t ((w.alloc o).alloc (.cells #[x,y,z] t)) (w.heap.size+1) x y z:=by
 have h:=Box.new t (w.alloc o) x y z
 simpa using h
theorem Box.new2(t:TypeId)(w:World)(o o':Obj)(x y z:Value):Box t (((w.alloc o).alloc o').alloc (.cells #[x,y,z] t)) (w.heap.size+1+1) x y z:=by
 have h:=Box.new t ((w.alloc o).alloc o') x y z
 simpa using h
theorem zeu{t:TypeId}{w u:World}{x y z:Value}(hb:Below (w.alloc (.cells #[x,y,z] t)).heap.size (w.alloc (.cells #[x,y,z] t)) u) :
 Box t u w.heap.size x y z/\Below w.heap.size w u :=
 ⟨(Box.new _ _ _ _ _).below hb,(al1 _).trans (hb.mono (by simp))⟩
theorem zur{t s:TypeId}{w u:World}{x y z x' y' z':Value}(hb:Below ((w.alloc (.cells #[x,y,z] t)).alloc (.cells #[x',y',z'] s)).heap.size ((w.alloc (.cells #[x,y,z] t)).alloc (.cells #[x',y',z'] s)) u) :
 Box t u w.heap.size x y z/\Box s u (w.heap.size+1) x' y' z'/\Below w.heap.size w u :=
 ⟨((Box.new _ _ _ _ _).alloc _).below hb,(Box.new1 _ _ _ _ _ _).below hb,(al2 _ _).trans (hb.mono (by simp;omega))⟩
theorem z5w{t s r:TypeId}{w u:World}{x y z x' y' z' x'' y'' z'':Value}(hb:Below (((w.alloc (.cells #[x,y,z] t)).alloc (.cells #[x',y',z'] s)).alloc (.cells #[x'',y'',z''] r)).heap.size (((w.alloc (.cells #[x,y,z] t)).alloc (.cells #[x',y',z'] s)).alloc (.cells #[x'',y'',z''] r)) u) :
 Box t u w.heap.size x y z/\Box s u (w.heap.size+1) x' y' z'/\Box r u (w.heap.size+1+1) x'' y'' z''/\Below w.heap.size w u :=
 ⟨(((Box.new _ _ _ _ _).alloc _).alloc _).below hb,((Box.new1 _ _ _ _ _ _).alloc _).below hb,(Box.new2 _ _ _ _ _ _ _).below hb,(al3 _ _ _).trans (hb.mono (by simp;omega))⟩
theorem zox(t s r:TypeId)(w:World)(x y z x' y' z' x'' y'' z'':Value) :
 ∃W,W=(((w.alloc (.cells #[x,y,z] t)).alloc (.cells #[x',y',z'] s)).alloc (.cells #[x'',y'',z''] r))/\Box t W w.heap.size x y z/\Box s W (w.heap.size+1) x' y' z'/\Box r W (w.heap.size+1+1) x'' y'' z''/\Below w.heap.size w W :=
 ⟨_,rfl,z5w (Below.refl _ _)⟩
theorem z5s(t s:TypeId)(w:World)(x y z x' y' z':Value) :
 ∃W,W=((w.alloc (.cells #[x,y,z] t)).alloc (.cells #[x',y',z'] s))/\Box t W w.heap.size x y z/\Box s W (w.heap.size+1) x' y' z'/\Below w.heap.size w W :=
 ⟨_,rfl,zur (Below.refl _ _)⟩
theorem Box.set3{t:TypeId}{w:World}{b:Nat}{x y z:Value}(h:Box t w b x y z)(x' y' z':Value) :
 Box t (((w.setCell ⟨b,0,none⟩ x').setCell ⟨b,1,none⟩ y').setCell ⟨b,2,none⟩ z') b x' y' z':=by
 have h1:=heap_setCell_same w b 0 _ t x' h
 have h2:=heap_setCell_same _ b 1 _ t y' h1
 have h3:=heap_setCell_same _ b 2 _ t z' h2
 exact h3
theorem zhz{B b:Nat}{w u:World}(h:Below B w u)(hb:B<=b)(x' y' z':Value):Below B w (((u.setCell ⟨b,0,none⟩ x').setCell ⟨b,1,none⟩ y').setCell ⟨b,2,none⟩ z') :=
 ((h.setCell (p:=⟨b,0,none⟩) hb x').setCell (p:=⟨b,1,none⟩) hb y').setCell (p:=⟨b,2,none⟩) hb z'
theorem Rd.apart{t:TypeId}{u U:World}{b:Nat}{n:Bool}{a a':OA}{l c l' c':Nat}(B:Box t u b (.bool n) (.slice a l c) (.slice a' l' c'))(hs:u.heap.size<=U.heap.size)
    (hU:∀k,k≠b->U.heap[k]?=u.heap[k]?) {r:OA} {cp:Nat} {xs:LN} (h:Rd u r cp xs):Rd U r cp xs:=by
 obtain⟨h1,h2,h3,h5,h4⟩:=h
 refine⟨h1,h2,h3,h5,?_⟩
 rcases h4 with h4|⟨g,off,e,hg,hc⟩
 . exact .inl h4
 . by_cases hx:xs=[]
   . exact .inl hx
   refine .inr ⟨g,off,e,Nat.lt_of_lt_of_le hg hs,fun i hi=>?_⟩
   have hne:g≠b:=by
    rintro rfl
    have hc0:=hc 0 (List.length_pos_iff.2 hx)
    have hb:=cell_of_row u g (off+0) _ t (0,0) B
    rw[hc0]at hb
    match off,hb with
    | 0,hb=>simp at hb
    | 1,hb=>simp at hb
    | 2,hb=>simp at hb
    | (k+3),hb=>simp at hb
   exact(World.cell?_of_block (w:=u) (a:=⟨g,off+i,none⟩) (hU g hne)).trans (hc i hi)
theorem zdn(u:World)(b:Nat)(x y z:Value)(k:Nat)(hk:k≠b):(((u.setCell ⟨b,0,none⟩ x).setCell ⟨b,1,none⟩ y).setCell ⟨b,2,none⟩ z).heap[k]?=u.heap[k]?:=by
 rw[Below.heap_setCell _ ⟨b,2,none⟩ z k hk,Below.heap_setCell _ ⟨b,1,none⟩ y k hk,Below.heap_setCell _ ⟨b,0,none⟩ x k hk]
theorem zab{u:World}{b:Nat}{x y z:Value}{k i:Nat}(hk:k≠b):(((u.setCell ⟨b,0,none⟩ x).setCell ⟨b,1,none⟩ y).setCell ⟨b,2,none⟩ z).cell? ⟨k,i,none⟩=u.cell? ⟨k,i,none⟩ :=
 World.cell?_of_block (w:=u) (a:=⟨k,i,none⟩) (zdn u b x y z k hk)
theorem ret3{P:Program}{fn:Func}{R:Ending->World->Prop}{ac:Act}{t:TypeId}{u:World}{b:Nat}{n:Bool}{a a':OA}{l c l' c':Nat}{x' y' z' v:Value}(B:Box t u b (.bool n) (.slice a l c) (.slice a' l' c'))
    (hd:ac.defers=[]) (hr:∀U,Box t U b x' y' z'->(results fn ac.tmps).run P U=.ok v U)
    (hR:∀U,(∀B w,Below B w u->B<=b->Below B w U)->(∀a c xs,Rd u a c xs->Rd U a c xs)->R (.returned v) U) :
    bodyPost P fn R .ret ac (((u.setCell ⟨b,0,none⟩ x').setCell ⟨b,1,none⟩ y').setCell ⟨b,2,none⟩ z') :=
 bodyPost_ret (hr _ (B.set3 x' y' z')) hd (hR _ (fun _ _ h hb=>zhz h hb x' y' z') fun _ _ _ h=>Rd.apart B (by simp[World.setCell]) (zdn u b x' y' z') h)
theorem zh4(z:Int):IntKind.u64.wrap z=z%18446744073709551616:=by
 unfold IntKind.wrap;simp[IntKind.bits,IntKind.signed]
theorem zlw(z:Int)(w:World)(h1:-9223372036854775808<=z)(h2:z<9223372036854775808) :
 Calls Tryz.prog 164 #[.int .i64 z] w fun e w'=>e=.returned (.int .u64 (z.natAbs:Nat))/\w=w':=by
 by_cases hz:z<0
 . go_enter Tryz.func164,Tryz.ntmps164
   go_wp2
   go_ret
   exact⟨by simp[zh4];omega,rfl⟩
 . go_enter Tryz.func164,Tryz.ntmps164
   go_wp2
   go_ret
   exact⟨by simp[zh4];omega,rfl⟩
theorem zd4(k:Nat)(q:Rat)(v:Value)(w:World)(h:Lo w v k q)(hk:k<=400000000) :
 Calls Tryz.prog 163 #[v] w fun e w'=>∃v',e=.returned v'/\Fr w' v' k q/\Below w.heap.size w w':=by
 obtain⟨n,xs,ys,⟨a,c,a',c',rfl,hx,hy⟩,tx,ty,y0,lx,ly,rfl⟩:=h
 have hx0:=hx.lim
 have hy0:=hy.lim
 go_enter Tryz.func163,Tryz.ntmps163
 go_wp2_with fail
 refine(zma _ _ _ _ _ _ _ (hx.below (al2 _ _)) (hy.below (al2 _ _)) (by omega) (by omega)).mono ?_
 rintro e u1 ⟨a1,c1,gs,rfl,hv1,ht1,hr1,hb1⟩
 replace hx:=(hx.below (al2 _ _)).below hb1
 replace hy:=(hy.below (al2 _ _)).below hb1
 obtain⟨B1,B2,hbW⟩:=zur hb1
 have rg:=hr1.rd
 have g0:V gs≠0:=by rw[hv1];exact fun h=>y0 (Nat.gcd_eq_zero_iff.1 h).2
 have lg:gs.length<=k:=by
  refine zas ht1 ?_
  have h1:=V_lt hy.lim
  have h2:V gs<=V ys:=by rw[hv1];exact Nat.gcd_le_right _ (by omega)
  have h3:4294967296 ^ ys.length<=4294967296 ^ k:=Nat.pow_le_pow_right (by decide) ly
  omega
 clear hr1 hb1;obtain⟨p1,p2,p3,_⟩:=B1.cells
 go_wp2_with fail
 refine(zg6 _ _ _ _ _ _ _ hx rg (by omega) (by omega)).mono ?_
 rintro e u2 ⟨a2,c2,ps,a3,c3,rs,rfl,hv2,hv3,ht2,ht3,hr2,hr3,hb2⟩
 have rp:=hr2.rd
 replace hy:=hy.below hb2;replace rg:=rg.below hb2;replace B1:=B1.below hb2;replace B2:=B2.below hb2
 replace hbW:Below w.heap.size w u2:=hbW.trans (hb2.mono hbW.size)
 clear hb2 hr2 hr3 hv3 ht3 p1 p2 p3 hx;obtain⟨p1,p2,p3,_⟩:=B1.cells
 go_wp2_with fail
 refine(zg6 _ _ _ _ _ _ _ hy rg (by omega) (by omega)).mono ?_
 rintro e u3 ⟨a4,c4,qs,a5,c5,rs',rfl,hv4,hv5,ht4,ht5,hr4,hr5,hb3⟩
 have rq:=hr4.rd
 replace rp:=rp.below hb3;replace B1:=B1.below hb3;replace B2:=B2.below hb3
 replace hbW:Below w.heap.size w u3:=hbW.trans (hb3.mono hbW.size)
 clear hb3 hr4 hr5 hv5 ht5 p1 p2 p3 hy rg;obtain⟨p1,p2,p3,_⟩:=B1.cells;obtain⟨q1,q2,q3,q4,q5,q6⟩:=B2.cells
 have hs:=B2.lt
 have hF:=zmc (n:=n) (xs:=xs) (ys:=ys) y0 ht2 ht4 (by rw[hv2,hv1]) (by rw[hv4,hv1])
 have lp:ps.length<=k:=by
  refine zas ht2 ?_
  have h1:=V_lt hx0
  have h2:V ps<=V xs:=by rw[hv2];exact Nat.div_le_self _ _
  have h3:4294967296 ^ xs.length<=4294967296 ^ k:=Nat.pow_le_pow_right (by decide) lx
  omega
 have lq:qs.length<=k:=by
  refine zas ht4 ?_
  have h1:=V_lt hy0
  have h2:V qs<=V ys:=by rw[hv4];exact Nat.div_le_self _ _
  have h3:4294967296 ^ ys.length<=4294967296 ^ k:=Nat.pow_le_pow_right (by decide) ly
  omega
 have fin:∀(m:Bool),m=(n&&decide (0<ps.length))->∀(U:World),(∀a c xs,Rd u3 a c xs->Rd U a c xs)->Fr U (.agg #[.bool m,.slice a2 ps.length c2,.slice a4 qs.length c4]) k (qv n xs ys):=by
  rintro m rfl U hU
  exact⟨_,ps,qs,⟨_,_,_,_,rfl,hU _ _ _ rp,hU _ _ _ rq⟩,hF.1,lp,lq,hF.2⟩
 clear hF
 cases n with
 | false =>
  go_wp2
  refine ret3 (v:=.agg #[.bool false,.slice a2 ps.length c2,.slice a4 qs.length c4]) B2 rfl (fun U hU=>by obtain⟨r1,r2,r3,_⟩:=hU.cells;simp[results,Tryz.results163,go_sem,r1,r2,r3]) (fun U hU hK=>⟨_,rfl,fin _ rfl U hK,hU _ _ hbW (by omega)⟩)
 | true =>
  go_wp2
  refine ret3 (v:=.agg #[.bool (decide (0<ps.length)),.slice a2 ps.length c2,.slice a4 qs.length c4]) B2 rfl (fun U hU=>by obtain⟨r1,r2,r3,_⟩:=hU.cells;simp[results,Tryz.results163,go_sem,r1,r2,r3]) (fun U hU hK=>⟨_,rfl,fin _ (by simp) U hK,hU _ _ hbW (by omega)⟩)
theorem zyw(z:Int):sg (decide (z<0)) z.natAbs=z:=by
 unfold sg
 by_cases h:z<0
 . rw[if_pos (by simpa using h)];omega
 . rw[if_neg (by simpa using h)];omega
theorem ztl{z:Int}{xs ys:LN}(hx:V xs=z.natAbs)(hy:V ys=1)(tx:Tr xs)(ty:Tr ys):Fmd (decide (z<0)) xs ys/\qv (decide (z<0)) xs ys=(z:Rat):=by
 refine⟨⟨tx,ty,?_,?_,by rw[hy];simp⟩,?_⟩
 . rintro rfl;simp[V]at hy
 . rintro ⟨h1,rfl⟩;simp[V]at h1 hx;omega
 . unfold qv;rw[hx,hy,zyw];exact Rat.mkRat_one z
theorem zd5{xs:LN}(t:Tr xs)(h:V xs<18446744073709551616):xs.length<=2:=zas t h
theorem zae(z:Int)(w:World)(h1:-9223372036854775808<=z)(h2:z<9223372036854775808) :
 Calls Tryz.prog 112 #[.int .i64 z] w fun e w'=>∃v',e=.returned v'/\Fr w' v' 2 (z:Rat)/\Below w.heap.size w w':=by
 go_enter Tryz.func112,Tryz.ntmps112
 go_wp2_with fail
 refine(zlw z _ h1 h2).mono ?_
 rintro e u ⟨rfl,rfl⟩
 go_wp2_with fail
 refine(zeh z.natAbs _ (by omega)).mono ?_
 rintro e u1 ⟨a1,c1,xs,rfl,hv1,ht1,hr1,hb1⟩
 obtain⟨B1,hbW⟩:=zeu hb1
 have rx:=hr1.rd
 clear hr1 hb1
 go_wp2_with fail
 refine(zeh 1 _ (by omega)).mono ?_
 rintro e u2 ⟨a2,c2,ys,rfl,hv2,ht2,hr2,hb2⟩
 have ry:=hr2.rd
 replace rx:=rx.below hb2;replace B1:=B1.below hb2
 replace hbW:Below w.heap.size w u2:=hbW.trans (hb2.mono hbW.size)
 clear hr2 hb2;obtain⟨q1,q2,q3,q4,q5,q6⟩:=B1.cells
 have hs:=B1.lt
 go_wp2
 have hF:=ztl hv1 hv2 ht1 ht2
 refine ret3 (v:=.agg #[.bool (decide (z<0)),.slice a1 xs.length c1,.slice a2 ys.length c2]) B1 rfl (fun U hU=>by obtain⟨r1,r2,r3,_⟩:=hU.cells;simp[results,Tryz.results112,go_sem,r1,r2,r3]) (fun U hU hK=>⟨_,rfl,⟨_,_,_,⟨_,_,_,_,rfl,hK _ _ _ rx,hK _ _ _ ry⟩,hF.1,zd5 ht1 (by omega),zd5 ht2 (by omega),hF.2⟩,hU _ _ hbW (by omega)⟩)
theorem zbu(k:Nat)(q:Rat)(v:Value)(w:World)(h:Ct w v k q)(hk:k<=400000000)(hk2:2<=k) :
 Calls Tryz.prog 162 #[v] w fun e w'=>∃v',e=.returned v'/\Fr w' v' k q/\Below w.heap.size w w':=by
 obtain⟨n,xs,ys,⟨a,c,a',c',rfl,hx,hy⟩,lx,ly,hq⟩:=h
 have HQ:Hid (q=if Fmd n xs ys then qv n xs ys else 0):=hq
 clear hq
 go_enter Tryz.func162,Tryz.ntmps162
 go_wp2_with fail
 refine(zp0 _ _ _ _ _ _ _ _ (hx.below (al2 _ _)) (hy.below (al2 _ _)) (by omega) (by omega)).mono ?_
 rintro e u1 ⟨rfl,hb1⟩
 replace hx:=(hx.below (al2 _ _)).below hb1
 replace hy:=(hy.below (al2 _ _)).below hb1
 obtain⟨B1,B2,hbW⟩:=zur hb1
 obtain⟨p1,p2,p3,_⟩:=B1.cells;obtain⟨q1,q2,q3,q4,q5,q6⟩:=B2.cells
 have hs:=B2.lt
 clear hb1
 by_cases hf:Fmd n xs ys
 . have e1:decide (Fmd n xs ys)=true:=decide_eq_true hf
   rw[e1];clear e1;go_wp2
   refine ret3 (v:=.agg #[.bool n,.slice a xs.length c,.slice a' ys.length c']) B2 rfl (fun U hU=>by obtain⟨r1,r2,r3,_⟩:=hU.cells;simp[results,Tryz.results162,go_sem,r1,r2,r3]) (fun U hU hK=>⟨_,rfl,⟨_,_,_,⟨_,_,_,_,rfl,hK _ _ _ hx,hK _ _ _ hy⟩,hf,lx,ly,by rw[HQ.out,if_pos hf]⟩,hU _ _ hbW (by omega)⟩)
 . have e1:decide (Fmd n xs ys)=false:=decide_eq_false hf
   rw[e1];clear e1
   go_wp2_with fail
   refine(zae 0 _ (by decide) (by decide)).mono ?_
   rintro e u2 ⟨v2,rfl,hF,hb2⟩;replace B2:=B2.below hb2
   replace hbW:Below w.heap.size w u2:=hbW.trans (hb2.mono hbW.size)
   clear q1 q2 q3 q4 q5 q6;obtain⟨q1,q2,q3,q4,q5,q6⟩:=B2.cells
   have hs':=B2.lt
   obtain⟨n',xs',ys',⟨b,d,b',d',rfl,hx',hy'⟩,hf',lx',ly',he⟩:=hF;go_wp2
   refine ret3 (v:=.agg #[.bool n',.slice b xs'.length d,.slice b' ys'.length d']) B2 rfl (fun U hU=>by obtain⟨r1,r2,r3,_⟩:=hU.cells;simp[results,Tryz.results162,go_sem,r1,r2,r3]) (fun U hU hK=>⟨_,rfl,⟨_,_,_,⟨_,_,_,_,rfl,hK _ _ _ hx',hK _ _ _ hy'⟩,hf',by omega,by omega,by rw[HQ.out,if_neg hf,he];rfl⟩,hU _ _ hbW (by omega)⟩)
theorem zyv(n m:Bool)(a b:Nat):sg n a*sg m b=sg (!(n==m)) (a*b):=by
 cases n <;> cases m <;> simp[sg] <;> grind
theorem z06{z d:Int}{xs ys:LN}(hx:V xs=z.natAbs)(hy:V ys=d.natAbs)(hd:d≠0):qv (!(decide (z<0)==decide (d<0))) xs ys=(z:Rat)/(d:Rat):=by
 unfold qv
 rw[hx,hy,<-Rat.divInt_ofNat,<-Rat.divInt_eq_div,Rat.divInt_eq_divInt_iff (by omega) hd]
 have e:sg (!(decide (z<0)==decide (d<0))) z.natAbs=sg (decide (z<0)) z.natAbs*sg (decide (d<0)) 1:=by rw[zyv,Nat.mul_one]
 rw[e,zyw,Int.mul_assoc]
 congr 1
 unfold sg
 by_cases h:d<0
 . simp[h];omega
 . simp[h];omega
theorem zwe{n m:Bool}{xs ys ps qs rs ts:LN}(hr:V rs=V xs*V ps)(ht:V ts=V ys*V qs):qv (!(n==m)) rs ts=qv n xs ys*qv m ps qs:=by
 unfold qv
 rw[Rat.mkRat_mul_mkRat,zyv,hr,ht]
theorem zke{n:Bool}{xs ys ps qs rs ts:LN}(hy:V ys≠0)(hq:V qs≠0)(hr:V rs=V xs*V qs+V ps*V ys)(ht:V ts=V ys*V qs):qv n rs ts=qv n xs ys+qv n ps qs:=by
 unfold qv
 rw[Rat.mkRat_add_mkRat _ _ hy hq,hr,ht]
 congr 1
 cases n <;> simp[sg] <;> grind
theorem zkg{n m:Bool}(hnm:n≠m){xs ys ps qs rs ts:LN}(hy:V ys≠0)(hq:V qs≠0)(hl:V xs*V qs<V ps*V ys)(hr:V rs=V ps*V ys-V xs*V qs)(ht:V ts=V ys*V qs):qv m rs ts=qv n xs ys+qv m ps qs:=by
 unfold qv
 rw[Rat.mkRat_add_mkRat _ _ hy hq,hr,ht]
 congr 1
 cases n <;> cases m <;> simp[sg]at hnm ⊢ <;> grind
theorem zkf{n m:Bool}(hnm:n≠m){xs ys ps qs rs ts:LN}(hy:V ys≠0)(hq:V qs≠0)(hl:¬V xs*V qs<V ps*V ys)(hr:V rs=V xs*V qs-V ps*V ys)(ht:V ts=V ys*V qs):qv n rs ts=qv n xs ys+qv m ps qs:=by
 unfold qv
 rw[Rat.mkRat_add_mkRat _ _ hy hq,hr,ht]
 congr 1
 cases n <;> cases m <;> simp[sg]at hnm ⊢ <;> grind
theorem zdw{xs:LN}(l:Lim xs){k:Nat}(h:xs.length<=k):V xs<4294967296 ^ k :=
 Nat.lt_of_lt_of_le (V_lt l) (Nat.pow_le_pow_right (by decide) h)
theorem zef{xs ys zs:LN}(lx:Lim xs)(ly:Lim ys)(t:Tr zs){k l:Nat}(hx:xs.length<=k)(hy:ys.length<=l)(h:V zs=V xs*V ys):zs.length<=k+l:=by
 refine zas t ?_
 rw[h,Nat.pow_add]
 exact Nat.mul_lt_mul'' (zdw lx hx) (zdw ly hy)
theorem zll{xs ys zs:LN}(lx:Lim xs)(ly:Lim ys)(t:Tr zs){k:Nat}(hx:xs.length<=k)(hy:ys.length<=k)(h:V zs<=V xs+V ys):zs.length<=k+1:=by
 refine zas t ?_
 have h1:=zdw lx hx
 have h2:=zdw ly hy
 rw[Nat.pow_succ]
 omega
theorem zi3(z d:Int)(w:World)(h1:-9223372036854775808<=z)(h2:z<9223372036854775808)(h3:-9223372036854775808<=d)(h4:d<9223372036854775808) :
 Calls Tryz.prog 263 #[.int .i64 z,.int .i64 d] w fun e w'=>∃v',e=.returned v'/\Fr w' v' 2 ((z:Rat)/(d:Rat))/\Below w.heap.size w w':=by
 by_cases hd:d=0
 . subst hd
   go_enter Tryz.func263,Tryz.ntmps263
   go_wp2_with fail
   refine(zae 0 _ (by decide) (by decide)).mono ?_
   rintro e u2 ⟨v2,rfl,hF,hb2⟩
   obtain⟨B2,hbW⟩:=zeu hb2
   obtain⟨q1,q2,q3,q4,q5,q6⟩:=B2.cells
   have hs':=B2.lt
   obtain⟨n',xs',ys',⟨b,d,b',d',rfl,hx',hy'⟩,hf',lx',ly',he⟩:=hF;clear hb2;go_wp2
   refine ret3 (v:=.agg #[.bool n',.slice b xs'.length d,.slice b' ys'.length d']) B2 rfl (fun U hU=>by obtain⟨r1,r2,r3,_⟩:=hU.cells;simp[results,Tryz.results263,go_sem,r1,r2,r3]) (fun U hU hK=>⟨_,rfl,⟨_,_,_,⟨_,_,_,_,rfl,hK _ _ _ hx',hK _ _ _ hy'⟩,hf',by omega,by omega,by rw[he];simp[Rat.div_def]⟩,hU _ _ hbW (by omega)⟩)
 . have hd0:(d==0)=false:=beq_eq_false_iff_ne.2 hd
   go_enter Tryz.func263,Tryz.ntmps263
   go_wp2_with fail
   refine(zlw z _ h1 h2).mono ?_
   rintro e u ⟨rfl,rfl⟩
   go_wp2_with fail
   refine(zeh z.natAbs _ (by omega)).mono ?_
   rintro e u1 ⟨a1,c1,xs,rfl,hv1,ht1,hr1,hb1⟩
   obtain⟨B1,hbW⟩:=zeu hb1
   have rx:=hr1.rd
   clear hr1 hb1
   go_wp2_with fail
   refine(zlw d _ h3 h4).mono ?_
   rintro e u ⟨rfl,rfl⟩
   go_wp2_with fail
   refine(zeh d.natAbs _ (by omega)).mono ?_
   rintro e u2 ⟨a2,c2,ys,rfl,hv2,ht2,hr2,hb2⟩
   have ry:=hr2.rd
   replace rx:=rx.below hb2;replace B1:=B1.below hb2
   replace hbW:Below w.heap.size w u2:=hbW.trans (hb2.mono hbW.size)
   clear hr2 hb2
   have hL:Lo u2 (.agg #[.bool (!(decide (z<0)==decide (d<0))),.slice a1 xs.length c1,.slice a2 ys.length c2]) 2 ((z:Rat)/(d:Rat)) :=
    ⟨_,_,_,⟨_,_,_,_,rfl,rx,ry⟩,ht1,ht2,by omega,zd5 ht1 (by omega),zd5 ht2 (by omega),z06 hv1 hv2 hd⟩
   go_wp2_with fail
   refine(zd4 2 _ _ _ hL (by decide)).mono ?_
   rintro e u3 ⟨v3,rfl,hF,hb3⟩;replace B1:=B1.below hb3
   replace hbW:Below w.heap.size w u3:=hbW.trans (hb3.mono hbW.size)
   obtain⟨q1,q2,q3,q4,q5,q6⟩:=B1.cells
   have hs':=B1.lt
   obtain⟨n',xs',ys',⟨b,d,b',d',rfl,hx',hy'⟩,hf',lx',ly',he⟩:=hF;clear hb3 hL rx ry;go_wp2
   refine ret3 (v:=.agg #[.bool n',.slice b xs'.length d,.slice b' ys'.length d']) B1 rfl (fun U hU=>by obtain⟨r1,r2,r3,_⟩:=hU.cells;simp[results,Tryz.results263,go_sem,r1,r2,r3]) (fun U hU hK=>⟨_,rfl,⟨_,_,_,⟨_,_,_,_,rfl,hK _ _ _ hx',hK _ _ _ hy'⟩,hf',by omega,by omega,he⟩,hU _ _ hbW (by omega)⟩)
theorem zq7(k l:Nat)(q r:Rat)(v v':Value)(w:World)(h:Lo w v k q)(h':Lo w v' l r)(hk:k<=100000000)(hl:l<=100000000) :
 Calls Tryz.prog 213 #[v,v'] w fun e w'=>∃v',e=.returned v'/\Lo w' v' (k+l) (q*r)/\Below w.heap.size w w':=by
 obtain⟨n,xs,ys,⟨a,c,a',c',rfl,hx,hy⟩,tx,ty,y0,lx,ly,rfl⟩:=h;obtain⟨m,ps,qs,⟨b,d,b',d',rfl,hp,hq⟩,tp,tq,q0,lp,lq,rfl⟩:=h'
 have lx0:=hx.lim
 have ly0:=hy.lim
 have lp0:=hp.lim
 have lq0:=hq.lim
 go_enter Tryz.func213,Tryz.ntmps213
 go_wp2_with fail
 obtain⟨W,hW,B1,B2,B3,hbW⟩:=zox 125 125 125 w (.bool n) (.slice a xs.length c) (.slice a' ys.length c') (.bool m) (.slice b ps.length d) (.slice b' qs.length d') (.bool false) (.slice none 0 0) (.slice none 0 0)
 rw[<-hW];clear hW;replace hx:=hx.below hbW;replace hy:=hy.below hbW;replace hp:=hp.below hbW;replace hq:=hq.below hbW;obtain⟨p1,p2,p3,_⟩:=B1.cells;obtain⟨p4,p5,p6,_⟩:=B2.cells
 go_region_held3 (fun u=>u.cell? ⟨w.heap.size,0,none⟩=some (.bool n)/\u.cell? ⟨w.heap.size,1,none⟩=some (.slice a xs.length c)/\u.cell? ⟨w.heap.size,2,none⟩=some (.slice a' ys.length c')/\u.cell? ⟨w.heap.size+1,0,none⟩=some (.bool m)/\u.cell? ⟨w.heap.size+1,1,none⟩=some (.slice b ps.length d)/\u.cell? ⟨w.heap.size+1,2,none⟩=some (.slice b' qs.length d')) (first | (go_keep;done) | (refine⟨(zab (by omega)).trans p1,(zab (by omega)).trans p2,(zab (by omega)).trans p3,(zab (by omega)).trans p4,(zab (by omega)).trans p5,(zab (by omega)).trans p6⟩))
  (first
   | (go_at_call_of 205 (Value.slice a xs.length c)
      refine(zgu _ _ _ _ _ _ _ (hx.below Below.drew1) (hp.below Below.drew1) ?_ ?_).mono ?_
      . omega
      . omega
      rintro e u1 ⟨a1,c1,rs,rfl,hv1,ht1,hr1,hb1⟩
      have zc6:Below W.heap.size W u1:=Below.drew1.trans hb1
      replace hy:=hy.below zc6
      replace hq:=hq.below zc6
      replace B1:=B1.below zc6
      replace B2:=B2.below zc6
      replace B3:=B3.below zc6
      replace hbW:Below w.heap.size w u1:=hbW.trans (zc6.mono hbW.size)
      have rr:=hr1.rd
      clear hr1 hb1 zc6 hx hp p1 p2 p3 p4 p5 p6;obtain⟨p1,p2,p3,_⟩:=B1.cells
      obtain⟨p4,p5,p6,_⟩:=B2.cells)
   | (go_at_call_of 205 (Value.slice a' ys.length c')
      refine(zgu _ _ _ _ _ _ _ hy hq ?_ ?_).mono ?_
      . omega
      . omega
      rintro e u2 ⟨a2,c2,ts,rfl,hv2,ht2,hr2,hb2⟩
      have rt:=hr2.rd
      replace rr:=rr.below hb2;replace B1:=B1.below hb2;replace B2:=B2.below hb2;replace B3:=B3.below hb2
      replace hbW:Below w.heap.size w u2:=hbW.trans (hb2.mono hbW.size)
      clear hr2 hb2 hy hq p1 p2 p3 p4 p5 p6;obtain⟨p1,p2,p3,_⟩:=B1.cells;obtain⟨p4,p5,p6,_⟩:=B2.cells;obtain⟨q1,q2,q3,q4,q5,q6⟩:=B3.cells
      have hs:=B3.lt))
 go_wp2
 refine ret3 (v:=.agg #[.bool (!(n==m)),.slice a1 rs.length c1,.slice a2 ts.length c2]) B3 rfl (fun U hU=>by obtain⟨r1,r2,r3,_⟩:=hU.cells;simp[results,Tryz.results213,go_sem,r1,r2,r3]) (fun U hU hK=>⟨_,rfl,⟨_,_,_,⟨_,_,_,_,rfl,hK _ _ _ rr,hK _ _ _ rt⟩,ht1,ht2,?_,?_,?_,?_⟩,hU _ _ hbW (by omega)⟩)
 . rw[hv2];exact Nat.mul_ne_zero y0 q0
 . exact zef lx0 lp0 ht1 lx lp hv1
 . exact zef ly0 lq0 ht2 ly lq hv2
 . exact zwe hv1 hv2
theorem znu(k l:Nat)(q r:Rat)(v v':Value)(w:World)(h:Lo w v k q)(h':Lo w v' l r)(hk:k<=100000000)(hl:l<=100000000) :
 Calls Tryz.prog 161 #[v,v'] w fun e w'=>∃v',e=.returned v'/\Lo w' v' (k+l+1) (q+r)/\Below w.heap.size w w':=by
 obtain⟨n,xs,ys,⟨a,c,a',c',rfl,hx,hy⟩,tx,ty,y0,lx,ly,rfl⟩:=h;obtain⟨m,ps,qs,⟨b,d,b',d',rfl,hp,hq⟩,tp,tq,q0,lp,lq,rfl⟩:=h'
 have lx0:=hx.lim
 have ly0:=hy.lim
 have lp0:=hp.lim
 have lq0:=hq.lim
 go_enter Tryz.func161,Tryz.ntmps161
 go_wp2_with fail
 obtain⟨W,hW,B1,B2,B3,hbW⟩:=zox 125 125 125 w (.bool n) (.slice a xs.length c) (.slice a' ys.length c') (.bool m) (.slice b ps.length d) (.slice b' qs.length d') (.bool false) (.slice none 0 0) (.slice none 0 0)
 rw[<-hW];clear hW;replace hx:=hx.below hbW;replace hy:=hy.below hbW;replace hp:=hp.below hbW;replace hq:=hq.below hbW;obtain⟨p1,p2,p3,_⟩:=B1.cells;obtain⟨p4,p5,p6,_⟩:=B2.cells
 go_region_held3 (fun u=>u.cell? ⟨w.heap.size,0,none⟩=some (.bool n)/\u.cell? ⟨w.heap.size,1,none⟩=some (.slice a xs.length c)/\u.cell? ⟨w.heap.size,2,none⟩=some (.slice a' ys.length c')/\u.cell? ⟨w.heap.size+1,0,none⟩=some (.bool m)/\u.cell? ⟨w.heap.size+1,1,none⟩=some (.slice b ps.length d)/\u.cell? ⟨w.heap.size+1,2,none⟩=some (.slice b' qs.length d')) (first | (go_keep;done) | (refine⟨(zab (by omega)).trans p1,(zab (by omega)).trans p2,(zab (by omega)).trans p3,(zab (by omega)).trans p4,(zab (by omega)).trans p5,(zab (by omega)).trans p6⟩))
  (first
   | (go_at_call_of 205 (Value.slice a xs.length c)
      refine(zgu _ _ _ _ _ _ _ (hx.below Below.drew1) (hq.below Below.drew1) ?_ ?_).mono ?_
      . omega
      . omega
      rintro e u1 ⟨a1,c1,zs,rfl,hv1,ht1,hr1,hb1⟩
      have zc6:Below W.heap.size W u1:=Below.drew1.trans hb1
      replace hy:=hy.below zc6
      replace hq:=hq.below zc6
      replace hp:=hp.below zc6
      replace B1:=B1.below zc6
      replace B2:=B2.below zc6
      replace B3:=B3.below zc6
      replace hbW:Below w.heap.size w u1:=hbW.trans (zc6.mono hbW.size)
      have ra:=hr1.rd
      clear hr1 hb1 zc6 hx p1 p2 p3 p4 p5 p6;obtain⟨p1,p2,p3,_⟩:=B1.cells
      obtain⟨p4,p5,p6,_⟩:=B2.cells)
   | (go_at_call_of 205 (Value.slice b ps.length d)
      refine(zgu _ _ _ _ _ _ _ hp hy ?_ ?_).mono ?_
      . omega
      . omega
      rintro e u2 ⟨a2,c2,bs,rfl,hv2,ht2,hr2,hb2⟩
      have rb:=hr2.rd
      replace ra:=ra.below hb2;replace hy:=hy.below hb2;replace hq:=hq.below hb2;replace B1:=B1.below hb2;replace B2:=B2.below hb2;replace B3:=B3.below hb2
      replace hbW:Below w.heap.size w u2:=hbW.trans (hb2.mono hbW.size)
      clear hr2 hb2 hp p1 p2 p3 p4 p5 p6;obtain⟨p1,p2,p3,_⟩:=B1.cells
      obtain⟨p4,p5,p6,_⟩:=B2.cells))
 go_wp2_with fail
 refine(zgu _ _ _ _ _ _ _ hy hq (by omega) (by omega)).mono ?_
 rintro e u3 ⟨a3,c3,ds,rfl,hv3,ht3,hr3,hb3⟩
 have rd:=hr3.rd
 replace ra:=ra.below hb3;replace rb:=rb.below hb3;replace B1:=B1.below hb3;replace B2:=B2.below hb3;replace B3:=B3.below hb3
 replace hbW:Below w.heap.size w u3:=hbW.trans (hb3.mono hbW.size)
 clear hr3 hb3 hy hq p1 p2 p3 p4 p5 p6;obtain⟨p1,p2,p3,_⟩:=B1.cells;obtain⟨p4,p5,p6,_⟩:=B2.cells
 have d0:V ds≠0:=by rw[hv3];exact Nat.mul_ne_zero y0 q0
 have ld:ds.length<=k+l:=zef ly0 lq0 ht3 ly lq hv3
 have la:zs.length<=k+l:=zef lx0 lq0 ht1 lx lq hv1
 have lb:bs.length<=k+l:=by have:=zef lp0 ly0 ht2 lp ly hv2;omega
 by_cases hnm:n=m
 . subst hnm
   have e0:(n==n)=true:=by simp
   go_wp2_with fail
   go_region_held3 (fun u=>u.cell? ⟨w.heap.size,0,none⟩=some (.bool n)/\u.cell? ⟨w.heap.size,1,none⟩=some (.slice a xs.length c)/\u.cell? ⟨w.heap.size,2,none⟩=some (.slice a' ys.length c')/\u.cell? ⟨w.heap.size+1,0,none⟩=some (.bool n)/\u.cell? ⟨w.heap.size+1,1,none⟩=some (.slice b ps.length d)/\u.cell? ⟨w.heap.size+1,2,none⟩=some (.slice b' qs.length d')) (first | (go_keep;done) | (refine⟨(zab (by omega)).trans p1,(zab (by omega)).trans p2,(zab (by omega)).trans p3,(zab (by omega)).trans p4,(zab (by omega)).trans p5,(zab (by omega)).trans p6⟩))
    (first
     | (go_at_call 204
        refine(zut _ _ _ _ _ _ _ (ra.below Below.drew1) (rb.below Below.drew1) ?_ ?_).mono ?_
        . omega
        . omega
        rintro e u5 ⟨a4,c4,rs,rfl,hv4,ht4,hr4,hb4⟩
        have rr:=hr4.rd
        have lr:rs.length<=k+l+1:=zll ra.lim rb.lim ht4 la lb (by omega)
        replace hb4:Below u3.heap.size u3 u5:=Below.drew1.trans hb4
        replace rd:=rd.below hb4;replace B1:=B1.below hb4;replace B2:=B2.below hb4;replace B3:=B3.below hb4
        replace hbW:Below w.heap.size w u5:=hbW.trans (hb4.mono hbW.size)
        clear hr4 hb4 p1 p2 p3 p4 p5 p6;obtain⟨p1,p2,p3,_⟩:=B1.cells;obtain⟨p4,p5,p6,_⟩:=B2.cells;obtain⟨q1,q2,q3,q4,q5,q6⟩:=B3.cells
        have hs:=B3.lt))
   go_wp2
   refine ret3 (v:=.agg #[.bool n,.slice a4 rs.length c4,.slice a3 ds.length c3]) B3 rfl (fun U hU=>by obtain⟨r1,r2,r3,_⟩:=hU.cells;simp[results,Tryz.results161,go_sem,r1,r2,r3]) (fun U hU hK=>⟨_,rfl,⟨_,_,_,⟨_,_,_,_,rfl,hK _ _ _ rr,hK _ _ _ rd⟩,ht4,ht3,d0,lr,by omega,?_⟩,hU _ _ hbW (by omega)⟩)
   exact zke y0 q0 (by rw[hv4,hv1,hv2]) hv3
 . have e0:(n==m)=false:=by simpa using hnm
   go_wp2_with fail
   refine(zjl _ _ _ _ _ _ _ ra rb).mono ?_
   rintro e u4 ⟨rfl,hb4⟩;replace rd:=rd.below hb4;replace ra:=ra.below hb4;replace rb:=rb.below hb4;replace B1:=B1.below hb4;replace B2:=B2.below hb4;replace B3:=B3.below hb4
   replace hbW:Below w.heap.size w u4:=hbW.trans (hb4.mono hbW.size)
   clear hb4 p1 p2 p3 p4 p5 p6;obtain⟨p1,p2,p3,_⟩:=B1.cells;obtain⟨p4,p5,p6,_⟩:=B2.cells
   by_cases hlt:V zs<V bs
   . have ec:cmpN (V zs) (V bs)=-1:=by unfold cmpN;rw[if_pos hlt]
     rw[ec];clear ec
     go_wp2_with fail
     go_region_held3 (fun u=>u.cell? ⟨w.heap.size,0,none⟩=some (.bool n)/\u.cell? ⟨w.heap.size,1,none⟩=some (.slice a xs.length c)/\u.cell? ⟨w.heap.size,2,none⟩=some (.slice a' ys.length c')/\u.cell? ⟨w.heap.size+1,0,none⟩=some (.bool m)/\u.cell? ⟨w.heap.size+1,1,none⟩=some (.slice b ps.length d)/\u.cell? ⟨w.heap.size+1,2,none⟩=some (.slice b' qs.length d')) (first | (go_keep;done) | (refine⟨(zab (by omega)).trans p1,(zab (by omega)).trans p2,(zab (by omega)).trans p3,(zab (by omega)).trans p4,(zab (by omega)).trans p5,(zab (by omega)).trans p6⟩))
      (first
       | (go_at_call 207
          refine(zrc _ _ _ _ _ _ _ (rb.below Below.drew1) (ra.below Below.drew1) ?_ ?_).mono ?_
          . omega
          . omega
          rintro e u5 ⟨a4,c4,rs,rfl,hv4,ht4,hr4,hb4⟩
          have rr:=hr4.rd
          have lr:rs.length<=k+l+1:=zll ra.lim rb.lim ht4 la lb (by omega)
          replace hb4:Below u4.heap.size u4 u5:=Below.drew1.trans hb4
          replace rd:=rd.below hb4;replace B1:=B1.below hb4;replace B2:=B2.below hb4;replace B3:=B3.below hb4
          replace hbW:Below w.heap.size w u5:=hbW.trans (hb4.mono hbW.size)
          clear hr4 hb4 p1 p2 p3 p4 p5 p6;obtain⟨p1,p2,p3,_⟩:=B1.cells;obtain⟨p4,p5,p6,_⟩:=B2.cells;obtain⟨q1,q2,q3,q4,q5,q6⟩:=B3.cells
          have hs:=B3.lt))
     go_wp2
     refine ret3 (v:=.agg #[.bool m,.slice a4 rs.length c4,.slice a3 ds.length c3]) B3 rfl (fun U hU=>by obtain⟨r1,r2,r3,_⟩:=hU.cells;simp[results,Tryz.results161,go_sem,r1,r2,r3]) (fun U hU hK=>⟨_,rfl,⟨_,_,_,⟨_,_,_,_,rfl,hK _ _ _ rr,hK _ _ _ rd⟩,ht4,ht3,d0,lr,by omega,?_⟩,hU _ _ hbW (by omega)⟩)
     exact zkg hnm y0 q0 (by rw[<-hv1,<-hv2];exact hlt) (by rw[hv4,hv1,hv2]) hv3
   . have ec:¬cmpN (V zs) (V bs)<0:=by unfold cmpN;rw[if_neg hlt];split <;> decide
     generalize cmpN (V zs) (V bs)=cc at ec ⊢
     go_wp2_with fail
     go_region_held3 (fun u=>u.cell? ⟨w.heap.size,0,none⟩=some (.bool n)/\u.cell? ⟨w.heap.size,1,none⟩=some (.slice a xs.length c)/\u.cell? ⟨w.heap.size,2,none⟩=some (.slice a' ys.length c')/\u.cell? ⟨w.heap.size+1,0,none⟩=some (.bool m)/\u.cell? ⟨w.heap.size+1,1,none⟩=some (.slice b ps.length d)/\u.cell? ⟨w.heap.size+1,2,none⟩=some (.slice b' qs.length d')) (first | (go_keep;done) | (refine⟨(zab (by omega)).trans p1,(zab (by omega)).trans p2,(zab (by omega)).trans p3,(zab (by omega)).trans p4,(zab (by omega)).trans p5,(zab (by omega)).trans p6⟩))
      (first
       | (go_at_call 207
          refine(zrc _ _ _ _ _ _ _ (ra.below Below.drew1) (rb.below Below.drew1) ?_ ?_).mono ?_
          . omega
          . omega
          rintro e u5 ⟨a4,c4,rs,rfl,hv4,ht4,hr4,hb4⟩
          have rr:=hr4.rd
          have lr:rs.length<=k+l+1:=zll ra.lim rb.lim ht4 la lb (by omega)
          replace hb4:Below u4.heap.size u4 u5:=Below.drew1.trans hb4
          replace rd:=rd.below hb4;replace B1:=B1.below hb4;replace B2:=B2.below hb4;replace B3:=B3.below hb4
          replace hbW:Below w.heap.size w u5:=hbW.trans (hb4.mono hbW.size)
          clear hr4 hb4 p1 p2 p3 p4 p5 p6;obtain⟨p1,p2,p3,_⟩:=B1.cells;obtain⟨p4,p5,p6,_⟩:=B2.cells;obtain⟨q1,q2,q3,q4,q5,q6⟩:=B3.cells
          have hs:=B3.lt))
     go_wp2
     refine ret3 (v:=.agg #[.bool n,.slice a4 rs.length c4,.slice a3 ds.length c3]) B3 rfl (fun U hU=>by obtain⟨r1,r2,r3,_⟩:=hU.cells;simp[results,Tryz.results161,go_sem,r1,r2,r3]) (fun U hU hK=>⟨_,rfl,⟨_,_,_,⟨_,_,_,_,rfl,hK _ _ _ rr,hK _ _ _ rd⟩,ht4,ht3,d0,lr,by omega,?_⟩,hU _ _ hbW (by omega)⟩)
     exact zkf hnm y0 q0 (by rw[<-hv1,<-hv2];exact hlt) (by rw[hv4,hv1,hv2]) hv3
def sgnQ(q:Rat):Int:=if q=0 then 0 else if q<0 then -1 else 1
theorem z36{n:Bool}{xs ys:LN}(tx:Tr xs)(hy:V ys≠0):sgnQ (qv n xs ys)=if xs.length=0 then 0 else if n=true then -1 else 1:=by
 have h0:qv n xs ys=0↔xs.length=0:=by
  unfold qv
  rw[Rat.mkRat_eq_zero hy]
  refine⟨fun h=>?_,fun h=>?_⟩
  . have:=congrArg Int.natAbs h
    rw[zrk]at this
    rw[zc0 tx this];rfl
  . rw[List.length_eq_zero_iff.1 h];exact zrj n
 have h1:xs.length≠0->(qv n xs ys<0↔n=true):=by
  intro hx
  have hv:V xs≠0:=zm1 tx fun h=>hx (by rw[h];rfl)
  have key:0<=qv n xs ys↔0<=sg n (V xs):=by
   unfold qv
   rw[<-Rat.divInt_ofNat]
   exact Rat.divInt_nonneg_iff_of_pos_right (by omega)
  rw[<-Rat.not_le,key]
  cases n <;> simp[sg] <;> omega
 unfold sgnQ
 by_cases hx:xs.length=0
 . rw[if_pos (h0.2 hx),if_pos hx]
 . rw[if_neg (fun h=>hx (h0.1 h)),if_neg hx]
   by_cases hn:n=true
   . rw[if_pos ((h1 hx).2 hn),if_pos hn]
   . rw[if_neg (fun h=>hn ((h1 hx).1 h)),if_neg hn]
theorem zvr(k:Nat)(q:Rat)(v:Value)(w:World)(h:Lo w v k q)(hk:k<=400000000) :
 Calls Tryz.prog 212 #[v] w fun e w'=>e=.returned (.int .i64 (sgnQ q))/\Below w.heap.size w w':=by
 obtain⟨n,xs,ys,⟨a,c,a',c',rfl,hx,hy⟩,tx,ty,y0,lx,ly,rfl⟩:=h
 have e:=z36 (n:=n) tx y0
 have k1:xs.length<=400000000:=by omega
 generalize sgnQ (qv n xs ys)=sq at e
 by_cases h0:xs.length=0
 . rw[if_pos h0]at e
   subst e;rw[h0]
   go_enter Tryz.func212,Tryz.ntmps212
   go_wp2
   go_ret
   exact⟨rfl,al1 _⟩
 . rw[if_neg h0]at e
   have g1:((xs.length:Int)==0)=false:=beq_eq_false_iff_ne.2 (by omega)
   cases n with
   | true =>
    simp at e
    subst e
    go_enter Tryz.func212,Tryz.ntmps212
    go_wp2
    go_ret
    exact⟨rfl,al1 _⟩
   | false =>
    simp at e
    subst e
    go_enter Tryz.func212,Tryz.ntmps212
    go_wp2
    go_ret
    exact⟨rfl,al1 _⟩
theorem zns(k l:Nat)(q r:Rat)(v v':Value)(w:World)(h:Ct w v k q)(h':Ct w v' l r)(hk:k<=100000000)(hl:l<=100000000)(hk2:2<=k)(hl2:2<=l) :
 Calls Tryz.prog 111 #[v,v'] w fun e w'=>∃v',e=.returned v'/\Fr w' v' (k+l+1) (q+r)/\Below w.heap.size w w':=by
 have hX:=h
 have hY:=h'
 obtain⟨n,xs,ys,⟨a,c,a',c',rfl,hx,hy⟩,lx,ly,hq⟩:=h;obtain⟨m,ps,qs,⟨b,d,b',d',rfl,hp,hqs⟩,lp,lq,hr⟩:=h';clear hq hr hx hy hp hqs lx ly lp lq
 go_enter Tryz.func111,Tryz.ntmps111
 go_wp2_with fail
 obtain⟨W,hW,B1,B2,B3,hbW⟩:=zox 125 125 125 w (.bool n) (.slice a xs.length c) (.slice a' ys.length c') (.bool m) (.slice b ps.length d) (.slice b' qs.length d') (.bool false) (.slice none 0 0) (.slice none 0 0)
 rw[<-hW];clear hW;replace hX:=hX.below hbW;replace hY:=hY.below hbW;obtain⟨p1,p2,p3,_⟩:=B1.cells;obtain⟨p4,p5,p6,_⟩:=B2.cells
 go_region_held3 (fun u=>u.cell? ⟨w.heap.size,0,none⟩=some (.bool n)/\u.cell? ⟨w.heap.size,1,none⟩=some (.slice a xs.length c)/\u.cell? ⟨w.heap.size,2,none⟩=some (.slice a' ys.length c')/\u.cell? ⟨w.heap.size+1,0,none⟩=some (.bool m)/\u.cell? ⟨w.heap.size+1,1,none⟩=some (.slice b ps.length d)/\u.cell? ⟨w.heap.size+1,2,none⟩=some (.slice b' qs.length d')) (first | (go_keep;done) | (refine⟨(zab (by omega)).trans p1,(zab (by omega)).trans p2,(zab (by omega)).trans p3,(zab (by omega)).trans p4,(zab (by omega)).trans p5,(zab (by omega)).trans p6⟩))
  (first
   | (go_at_call_of 162 (Value.agg #[.bool n,.slice a xs.length c,.slice a' ys.length c'])
      refine(zbu k q _ _ (hX.below Below.drew1) ?_ ?_).mono ?_
      . omega
      . omega
      rintro e u1 ⟨v1,rfl,hF1,hb1⟩
      have zc6:Below W.heap.size W u1:=Below.drew1.trans hb1
      replace hY:=hY.below zc6
      replace B1:=B1.below zc6
      replace B2:=B2.below zc6
      replace B3:=B3.below zc6
      replace hbW:Below w.heap.size w u1:=hbW.trans (zc6.mono hbW.size)
      clear hb1 zc6 hX;clear p1 p2 p3 p4 p5 p6;obtain⟨p1,p2,p3,_⟩:=B1.cells
      obtain⟨p4,p5,p6,_⟩:=B2.cells)
   | (go_at_call_of 162 (Value.agg #[.bool m,.slice b ps.length d,.slice b' qs.length d'])
      refine(zbu l r _ _ hY ?_ ?_).mono ?_
      . omega
      . omega
      rintro e u2 ⟨v2,rfl,hF2,hb2⟩;replace hF1:=hF1.below hb2;replace B1:=B1.below hb2;replace B2:=B2.below hb2;replace B3:=B3.below hb2
      replace hbW:Below w.heap.size w u2:=hbW.trans (hb2.mono hbW.size)
      clear hb2 hY;clear p1 p2 p3 p4 p5 p6;obtain⟨p1,p2,p3,_⟩:=B1.cells
      obtain⟨p4,p5,p6,_⟩:=B2.cells)
   | (go_at_call 161
      refine(znu k l q r _ _ _ hF1.lo hF2.lo ?_ ?_).mono ?_
      . omega
      . omega
      rintro e u3 ⟨v3,rfl,hL,hb3⟩;replace B1:=B1.below hb3;replace B2:=B2.below hb3;replace B3:=B3.below hb3
      replace hbW:Below w.heap.size w u3:=hbW.trans (hb3.mono hbW.size)
      clear hb3 hF1 hF2;clear p1 p2 p3 p4 p5 p6;obtain⟨p1,p2,p3,_⟩:=B1.cells
      obtain⟨p4,p5,p6,_⟩:=B2.cells)
   | (go_at_call 163
      refine(zd4 (k+l+1) _ _ _ hL ?_).mono ?_
      . omega
      rintro e u4 ⟨v4,rfl,hF,hb4⟩;replace B1:=B1.below hb4;replace B2:=B2.below hb4;replace B3:=B3.below hb4
      replace hbW:Below w.heap.size w u4:=hbW.trans (hb4.mono hbW.size)
      clear hb4 hL;clear p1 p2 p3 p4 p5 p6;obtain⟨p1,p2,p3,_⟩:=B1.cells;obtain⟨p4,p5,p6,_⟩:=B2.cells;obtain⟨q1,q2,q3,q4,q5,q6⟩:=B3.cells
      have hs:=B3.lt
      obtain⟨n1,x1,y1,⟨b1,d1,b2,d2,rfl,hx',hy'⟩,hF⟩:=hF))
 go_wp2
 exact ret3 (v:=.agg #[.bool n1,.slice b1 x1.length d1,.slice b2 y1.length d2]) B3 rfl (fun U hU=>by obtain⟨r1,r2,r3,_⟩:=hU.cells;simp[results,Tryz.results111,go_sem,r1,r2,r3]) (fun U hU hK=>⟨_,rfl,⟨_,_,_,⟨_,_,_,_,rfl,hK _ _ _ hx',hK _ _ _ hy'⟩,hF⟩,hU _ _ hbW (by omega)⟩)
theorem zfv(k l:Nat)(q r:Rat)(v v':Value)(w:World)(h:Ct w v k q)(h':Ct w v' l r)(hk:k<=100000000)(hl:l<=100000000)(hk2:2<=k)(hl2:2<=l) :
 Calls Tryz.prog 167 #[v,v'] w fun e w'=>∃v',e=.returned v'/\Fr w' v' (k+l) (q*r)/\Below w.heap.size w w':=by
 have hX:=h
 have hY:=h'
 obtain⟨n,xs,ys,⟨a,c,a',c',rfl,hx,hy⟩,lx,ly,hq⟩:=h;obtain⟨m,ps,qs,⟨b,d,b',d',rfl,hp,hqs⟩,lp,lq,hr⟩:=h';clear hq hr hx hy hp hqs lx ly lp lq
 go_enter Tryz.func167,Tryz.ntmps167
 go_wp2_with fail
 obtain⟨W,hW,B1,B2,B3,hbW⟩:=zox 125 125 125 w (.bool n) (.slice a xs.length c) (.slice a' ys.length c') (.bool m) (.slice b ps.length d) (.slice b' qs.length d') (.bool false) (.slice none 0 0) (.slice none 0 0)
 rw[<-hW];clear hW;replace hX:=hX.below hbW;replace hY:=hY.below hbW;obtain⟨p1,p2,p3,_⟩:=B1.cells;obtain⟨p4,p5,p6,_⟩:=B2.cells
 go_region_held3 (fun u=>u.cell? ⟨w.heap.size,0,none⟩=some (.bool n)/\u.cell? ⟨w.heap.size,1,none⟩=some (.slice a xs.length c)/\u.cell? ⟨w.heap.size,2,none⟩=some (.slice a' ys.length c')/\u.cell? ⟨w.heap.size+1,0,none⟩=some (.bool m)/\u.cell? ⟨w.heap.size+1,1,none⟩=some (.slice b ps.length d)/\u.cell? ⟨w.heap.size+1,2,none⟩=some (.slice b' qs.length d')) (first | (go_keep;done) | (refine⟨(zab (by omega)).trans p1,(zab (by omega)).trans p2,(zab (by omega)).trans p3,(zab (by omega)).trans p4,(zab (by omega)).trans p5,(zab (by omega)).trans p6⟩))
  (first
   | (go_at_call_of 162 (Value.agg #[.bool n,.slice a xs.length c,.slice a' ys.length c'])
      refine(zbu k q _ _ (hX.below Below.drew1) ?_ ?_).mono ?_
      . omega
      . omega
      rintro e u1 ⟨v1,rfl,hF1,hb1⟩
      have zc6:Below W.heap.size W u1:=Below.drew1.trans hb1
      replace hY:=hY.below zc6
      replace B1:=B1.below zc6
      replace B2:=B2.below zc6
      replace B3:=B3.below zc6
      replace hbW:Below w.heap.size w u1:=hbW.trans (zc6.mono hbW.size)
      clear hb1 zc6 hX;clear p1 p2 p3 p4 p5 p6;obtain⟨p1,p2,p3,_⟩:=B1.cells
      obtain⟨p4,p5,p6,_⟩:=B2.cells)
   | (go_at_call_of 162 (Value.agg #[.bool m,.slice b ps.length d,.slice b' qs.length d'])
      refine(zbu l r _ _ hY ?_ ?_).mono ?_
      . omega
      . omega
      rintro e u2 ⟨v2,rfl,hF2,hb2⟩;replace hF1:=hF1.below hb2;replace B1:=B1.below hb2;replace B2:=B2.below hb2;replace B3:=B3.below hb2
      replace hbW:Below w.heap.size w u2:=hbW.trans (hb2.mono hbW.size)
      clear hb2 hY;clear p1 p2 p3 p4 p5 p6;obtain⟨p1,p2,p3,_⟩:=B1.cells
      obtain⟨p4,p5,p6,_⟩:=B2.cells)
   | (go_at_call 213
      refine(zq7 k l q r _ _ _ hF1.lo hF2.lo ?_ ?_).mono ?_
      . omega
      . omega
      rintro e u3 ⟨v3,rfl,hL,hb3⟩;replace B1:=B1.below hb3;replace B2:=B2.below hb3;replace B3:=B3.below hb3
      replace hbW:Below w.heap.size w u3:=hbW.trans (hb3.mono hbW.size)
      clear hb3 hF1 hF2;clear p1 p2 p3 p4 p5 p6;obtain⟨p1,p2,p3,_⟩:=B1.cells
      obtain⟨p4,p5,p6,_⟩:=B2.cells)
   | (go_at_call 163
      refine(zd4 (k+l) _ _ _ hL ?_).mono ?_
      . omega
      rintro e u4 ⟨v4,rfl,hF,hb4⟩;replace B1:=B1.below hb4;replace B2:=B2.below hb4;replace B3:=B3.below hb4
      replace hbW:Below w.heap.size w u4:=hbW.trans (hb4.mono hbW.size)
      clear hb4 hL;clear p1 p2 p3 p4 p5 p6;obtain⟨p1,p2,p3,_⟩:=B1.cells;obtain⟨p4,p5,p6,_⟩:=B2.cells;obtain⟨q1,q2,q3,q4,q5,q6⟩:=B3.cells
      have hs:=B3.lt
      obtain⟨n1,x1,y1,⟨b1,d1,b2,d2,rfl,hx',hy'⟩,hF⟩:=hF))
 go_wp2
 exact ret3 (v:=.agg #[.bool n1,.slice b1 x1.length d1,.slice b2 y1.length d2]) B3 rfl (fun U hU=>by obtain⟨r1,r2,r3,_⟩:=hU.cells;simp[results,Tryz.results167,go_sem,r1,r2,r3]) (fun U hU hK=>⟨_,rfl,⟨_,_,_,⟨_,_,_,_,rfl,hK _ _ _ hx',hK _ _ _ hy'⟩,hF⟩,hU _ _ hbW (by omega)⟩)
theorem zgr(k:Nat)(q:Rat)(v:Value)(w:World)(h:Ct w v k q)(hk:k<=100000000)(hk2:2<=k) :
 Calls Tryz.prog 166 #[v] w fun e w'=>e=.returned (.int .i64 (sgnQ q))/\Below w.heap.size w w':=by
 have hX:=h
 obtain⟨n,xs,ys,⟨a,c,a',c',rfl,hx,hy⟩,lx,ly,hq⟩:=h;clear hq hx hy lx ly
 go_enter Tryz.func166,Tryz.ntmps166
 go_wp2_with fail
 refine(zbu k q _ _ (hX.below (al1 _)) (by omega) hk2).mono ?_
 rintro e u1 ⟨v1,rfl,hF1,hb1⟩
 obtain⟨B1,hbW⟩:=zeu hb1
 clear hb1
 go_wp2_with fail
 refine(zvr k q _ _ hF1.lo (by omega)).mono ?_
 rintro e u2 ⟨rfl,hb2⟩
 replace hbW:Below w.heap.size w u2:=hbW.trans (hb2.mono hbW.size)
 go_wp2
 go_ret
 exact⟨rfl,hbW⟩
theorem Box.other{t:TypeId}{u U:World}{b k:Nat}{x y z:Value}(h:Box t u k x y z)(hU:∀j,j≠b->U.heap[j]?=u.heap[j]?)(hk:k≠b):Box t U k x y z:=(hU k hk).trans h
theorem zb7{t:TypeId}{u:World}{b:Nat}{n:Bool}{a a':OA}{l c l' c':Nat}(B:Box t u b (.bool n) (.slice a l c) (.slice a' l' c'))(x' y' z':Value) :
 ∃U,U=(((u.setCell ⟨b,0,none⟩ x').setCell ⟨b,1,none⟩ y').setCell ⟨b,2,none⟩ z')/\Box t U b x' y' z'/\(∀B w,Below B w u->B<=b->Below B w U)/\(∀a c xs,Rd u a c xs->Rd U a c xs)/\(∀j,j≠b->U.heap[j]?=u.heap[j]?) :=
 ⟨_,rfl,B.set3 x' y' z',fun _ _ h hb=>zhz h hb x' y' z',fun _ _ _ h=>Rd.apart B (by simp[World.setCell]) (zdn u b x' y' z') h,zdn u b x' y' z'⟩
theorem zj8{q:Rat}:sgnQ q=0↔q=0:=by
 unfold sgnQ
 refine⟨fun h=>?_,fun h=>by rw[if_pos h]⟩
 by_cases h0:q=0
 . exact h0
 . rw[if_neg h0]at h;split at h <;> cases h
theorem zog(a:Int)(b:Nat)(hb:b≠0):(mkRat a b).floor=a/(b:Int):=by
 have key:∀x:Int,(mkRat a b).floor<x↔a/(b:Int)<x:=by
  intro x
  have hb':(0:Rat)<(b:Rat):=Rat.natCast_pos.2 (Nat.pos_of_ne_zero hb)
  rw[Rat.floor_lt_iff,Rat.mkRat_eq_div,Rat.div_lt_iff hb',Int.ediv_lt_iff_lt_mul (by omega)]
  rw[show((b:Rat))=(((b:Int)):Rat)from rfl,<-Rat.intCast_mul,Rat.intCast_lt_intCast]
 have h1:=(key (a/(b:Int)+1)).2 (by omega)
 have h2:=(key ((mkRat a b).floor+1)).1 (by omega)
 omega
theorem zws(x y:Nat)(hy:y≠0):(-(x:Int))/(y:Int)=-((x/y+(if 0<x%y then 1 else 0):Nat):Int):=by
 have h:=Nat.div_add_mod x y
 have hl:=Nat.mod_lt x (Nat.pos_of_ne_zero hy)
 generalize x/y=q at *
 generalize x%y=r at *
 subst h
 have hy':(y:Int)≠0:=by omega
 split
 . have:(-((y*q+r:Nat):Int))=(y-r:Int)+(y:Int)*(-(q:Int)-1):=by push_cast;grind
   rw[this,Int.add_mul_ediv_left _ _ hy',Int.ediv_eq_zero_of_lt (by omega) (by omega)];push_cast;omega
 . have:r=0:=by omega
   subst this
   have:(-((y*q+0:Nat):Int))=(y:Int)*(-(q:Int)):=by push_cast;grind
   rw[this,Int.mul_ediv_cancel_left _ hy'];push_cast;omega
def flB(z:Int):Bool:=decide (-9223372036854775808<=z/\z<9223372036854775808)
def flN(z:Int):Int:=if flB z=true then z else 0
theorem ztm{xs ys:LN}(hy:V ys≠0):(qv false xs ys).floor=((V xs/V ys:Nat):Int):=by
 unfold qv;rw[zog _ _ hy];simp[sg]
theorem zk0{xs ys:LN}(hy:V ys≠0):(qv true xs ys).floor=-((V xs/V ys+(if 0<V xs%V ys then 1 else 0):Nat):Int):=by
 unfold qv;rw[zog _ _ hy,show sg true (V xs)=-(V xs:Int)from rfl,zws _ _ hy]
theorem zjc(m:Nat):flB (m:Int)=decide (m<9223372036854775808):=by
 unfold flB;by_cases h:m<9223372036854775808 <;> simp[h] <;> omega
theorem zd7(m:Nat):flB (-(m:Int))=decide (m<=9223372036854775808):=by
 unfold flB;by_cases h:m<=9223372036854775808 <;> simp[h] <;> omega
theorem zmd(m:Nat):flN (m:Int)=if m<9223372036854775808 then (m:Int)else 0:=by unfold flN;rw[zjc];simp
theorem ze7(m:Nat):flN (-(m:Int))=if m<=9223372036854775808 then -(m:Int)else 0:=by unfold flN;rw[zd7];simp
theorem zyf{m:Nat}(h:m<9223372036854775808):wrap64 (m:Int)=(m:Int):=by
 unfold wrap64;omega
theorem zoy{m:Nat}(h:m<=9223372036854775808):wrap64 (IntKind.u64.wrap (-(m:Int)))=-(m:Int):=by
 rw[zh4]
 unfold wrap64
 by_cases h0:m=0
 . subst h0;rfl
 . have e:(-(m:Int))%18446744073709551616=18446744073709551616-(m:Int):=by omega
   rw[e];omega
theorem zcv{a b:Int}{c d:Bool}(h:a=b)(k:c=d):Ending.returned (.tuple #[.int .i64 a,.bool c])=.returned (.tuple #[.int .i64 b,.bool d]):=by rw[h,k]
theorem ztn(k:Nat)(q:Rat)(v:Value)(w:World)(h:Lo w v k q)(hk:k<=400000000) :
 Calls Tryz.prog 160 #[v] w fun e w'=>e=.returned (.tuple #[.int .i64 (flN q.floor),.bool (flB q.floor)])/\Below w.heap.size w w':=by
 obtain⟨n,xs,ys,⟨a,c,a',c',rfl,hx,hy⟩,tx,ty,y0,lx,ly,rfl⟩:=h
 go_enter Tryz.func160,Tryz.ntmps160
 go_wp2_with fail
 refine(zg6 _ _ _ _ _ _ _ (hx.below (al1 _)) (hy.below (al1 _)) (by omega) (by omega)).mono ?_
 rintro e u1 ⟨a1,c1,zs,a2,c2,rs,rfl,hv1,hv2,ht1,ht2,hr1,hr2,hb1⟩
 obtain⟨B1,hbW⟩:=zeu hb1
 have lz:zs.length<=400000000:=by
  have h1:=zdw hx.lim lx
  have:zs.length<=k:=zas ht1 (by rw[hv1];exact Nat.lt_of_le_of_lt (Nat.div_le_self _ _) h1)
  omega
 have lr:rs.length<=400000000:=by
  have h1:=zdw hx.lim lx
  have:rs.length<=k:=zas ht2 (by rw[hv2,zcw _ (by omega)];exact Nat.lt_of_le_of_lt (Nat.mod_le _ _) h1)
  omega
 have rz:=hr1.rd
 rw[zcw _ (by omega)]at hv2
 clear hr1 hr2 hb1;obtain⟨p1,p2,p3,_⟩:=B1.cells
 cases n with
 | false =>
  have HF:Hid ((qv false xs ys).floor=((V zs:Nat):Int)):=by show _=_;rw[ztm y0,hv1]
  clear hv1 hv2 hx hy
  go_wp2_with fail
  refine(zc9 _ _ _ _ rz).mono ?_
  rintro e u ⟨rfl,rfl⟩;clear rz
  generalize V zs=m at HF ⊢
  by_cases hm:m<9223372036854775808
  . rw[zbk (by omega),za9 (by omega)]
    have g1:(m:Int)<9223372036854775808:=by omega
    have HM:Hid (m<9223372036854775808):=hm
    clear hm
    obtain⟨z,hz⟩:∃z:Int,(m:Int)=z:=⟨_,rfl⟩
    rw[hz]at g1 ⊢
    have HZ:Hid ((m:Int)=z):=hz
    clear hz;go_wp2
    go_ret2
    exact⟨zcv (by rw[HF.out,zmd,if_pos HM.out,<-HZ.out];exact zyf HM.out) (by rw[HF.out,zjc];simp[HM.out]),hbW⟩
  . by_cases hm2:m<18446744073709551616
    . rw[zbk hm2,za9 hm2]
      have g1:(9223372036854775808:Int)<=(m:Int):=by omega
      go_wp2
      go_ret2
      exact⟨zcv (by rw[HF.out,zmd,if_neg hm]) (by rw[HF.out,zjc];simp[hm]),hbW⟩
    . rw[zcl hm2,zb9 hm2]
      go_wp2
      go_ret2
      exact⟨zcv (by rw[HF.out,zmd,if_neg hm]) (by rw[HF.out,zjc];simp[hm]),hbW⟩
 | true =>
  by_cases hrs:rs.length=0
  . have hr0:V rs=0:=by rw[List.length_eq_zero_iff.1 hrs];rfl
    have HF:Hid ((qv true xs ys).floor=-((V zs:Nat):Int)):=by show _=_;rw[zk0 y0,hv1,<-hv2,hr0];simp
    clear hv1 hv2 hx hy hr0
    have g0:¬(0:Int)<(rs.length:Int):=by omega
    clear hrs
    go_wp2_with fail
    refine(zc9 _ _ _ _ rz).mono ?_
    rintro e u ⟨rfl,rfl⟩;clear rz
    generalize V zs=m at HF ⊢
    by_cases hm:m<=9223372036854775808
    . rw[zbk (by omega),za9 (by omega)]
      have g1:¬(9223372036854775808:Int)<(m:Int):=by omega
      go_wp2
      go_ret2
      exact⟨zcv (by rw[HF.out,ze7,if_pos hm];exact zoy hm) (by rw[HF.out,zd7];simp[hm]),hbW⟩
    . by_cases hm2:m<18446744073709551616
      . rw[zbk hm2,za9 hm2]
        have g1:(9223372036854775808:Int)<(m:Int):=by omega
        go_wp2
        go_ret2
        exact⟨zcv (by rw[HF.out,ze7,if_neg hm]) (by rw[HF.out,zd7];simp[hm]),hbW⟩
      . rw[zcl hm2,zb9 hm2]
        go_wp2
        go_ret2
        exact⟨zcv (by rw[HF.out,ze7,if_neg hm]) (by rw[HF.out,zd7];simp[hm]),hbW⟩
  . have hr0:0<V rs:=by
      have:=zm1 ht2 fun h=>hrs (by rw[h];rfl)
      omega
    have g0:(0:Int)<(rs.length:Int):=by omega
    go_wp2_with fail
    refine(zeh 1 _ (by decide)).mono ?_
    rintro e u2 ⟨a3,c3,os,rfl,hv3,ht3,hr3,hb3⟩
    have ro:=hr3.rd
    replace rz:=rz.below hb3
    replace hbW:Below w.heap.size w u2:=hbW.trans (hb3.mono hbW.size)
    have lo:os.length<=2:=zd5 ht3 (by omega)
    clear hr3 hb3 p1 p2 p3
    go_wp2_with fail
    refine(zut _ _ _ _ _ _ _ rz ro (by omega) (by omega)).mono ?_
    rintro e u3 ⟨a4,c4,ws,rfl,hv4,ht4,hr4,hb4⟩
    have rw4:=hr4.rd
    replace hbW:Below w.heap.size w u3:=hbW.trans (hb4.mono hbW.size)
    have HF:Hid ((qv true xs ys).floor=-((V ws:Nat):Int)):=by show _=_;rw[zk0 y0,hv4,hv1,hv3,<-hv2,if_pos hr0]
    clear hv1 hv2 hx hy hr0 hr4 hb4 rz ro hv4 hv3
    go_wp2_with fail
    refine(zc9 _ _ _ _ rw4).mono ?_
    rintro e u ⟨rfl,rfl⟩;clear rw4
    generalize V ws=m at HF ⊢
    by_cases hm:m<=9223372036854775808
    . rw[zbk (by omega),za9 (by omega)]
      have g1:¬(9223372036854775808:Int)<(m:Int):=by omega
      go_wp2
      go_ret2
      exact⟨zcv (by rw[HF.out,ze7,if_pos hm];exact zoy hm) (by rw[HF.out,zd7];simp[hm]),hbW⟩
    . by_cases hm2:m<18446744073709551616
      . rw[zbk hm2,za9 hm2]
        have g1:(9223372036854775808:Int)<(m:Int):=by omega
        go_wp2
        go_ret2
        exact⟨zcv (by rw[HF.out,ze7,if_neg hm]) (by rw[HF.out,zd7];simp[hm]),hbW⟩
      . rw[zcl hm2,zb9 hm2]
        go_wp2
        go_ret2
        exact⟨zcv (by rw[HF.out,ze7,if_neg hm]) (by rw[HF.out,zd7];simp[hm]),hbW⟩
theorem z1t{w:World}{a a':OA}{c c':Nat}{xs ys:LN}(hx:Rd w a c xs)(hy:Rd w a' c' ys)(tx:Tr xs)(ty:Tr ys)(vx:V xs=1)(vy:V ys=2) :
 Lo w (.agg #[.bool false,.slice a xs.length c,.slice a' ys.length c']) 2 (1/2):=by
 refine⟨_,_,_,⟨_,_,_,_,rfl,hx,hy⟩,tx,ty,by omega,zd5 tx (by omega),zd5 ty (by omega),?_⟩
 unfold qv
 rw[vx,vy,Rat.mkRat_eq_div]
 rfl
theorem ze1(k:Nat)(q:Rat)(v:Value)(w:World)(h:Ct w v k q)(hk:k<=100000000)(hk2:2<=k) :
 Calls Tryz.prog 110 #[v] w fun e w'=>e=.returned (.tuple #[.int .i64 (flN (q+1/2).floor),.bool (flB (q+1/2).floor)])/\Below w.heap.size w w':=by
 have hX:=h
 obtain⟨n,xs,ys,⟨a,c,a',c',rfl,hx,hy⟩,lx,ly,hq⟩:=h;clear hq hx hy lx ly
 go_enter Tryz.func110,Tryz.ntmps110
 go_wp2_with fail
 refine(zeh 1 _ (by decide)).mono ?_
 rintro e u1 ⟨a1,c1,os,rfl,hv1,ht1,hr1,hb1⟩
 obtain⟨B1,hbW⟩:=zeu hb1
 replace hX:=(hX.below (al1 _)).below hb1
 have ro:=hr1.rd
 clear hr1 hb1
 go_wp2_with fail
 refine(zeh 2 _ (by decide)).mono ?_
 rintro e u2 ⟨a2,c2,ts,rfl,hv2,ht2,hr2,hb2⟩;replace B1:=B1.below hb2;replace hX:=hX.below hb2;replace ro:=ro.below hb2
 replace hbW:Below w.heap.size w u2:=hbW.trans (hb2.mono hbW.size)
 have rt:=hr2.rd
 clear hr2 hb2
 go_wp2_with fail
 obtain⟨W,hW,B2,hW2⟩:∃W,W=u2.alloc (Obj.cells #[Value.bool false,Value.slice a1 os.length c1,Value.slice a2 ts.length c2] 125)/\Box 125 W u2.heap.size (.bool false) (.slice a1 os.length c1) (.slice a2 ts.length c2)/\Below u2.heap.size u2 W:=⟨_,rfl,Box.new _ _ _ _ _,al1 _⟩
 rw[<-hW];clear hW;replace B1:=B1.below hW2;replace hX:=hX.below hW2
 have hH:Lo W (.agg #[.bool false,.slice a1 os.length c1,.slice a2 ts.length c2]) 2 (1/2):=(z1t ro rt ht1 ht2 hv1 hv2).below hW2
 replace hbW:Below w.heap.size w W:=hbW.trans (hW2.mono hbW.size)
 clear hW2 ro rt
 generalize u2.heap.size=bh at B2 ⊢
 obtain⟨p1,p2,p3,_⟩:=B1.cells;obtain⟨p4,p5,p6,_⟩:=B2.cells
 go_region_held3 (fun u=>u.cell? ⟨w.heap.size,0,none⟩=some (.bool n)/\u.cell? ⟨w.heap.size,1,none⟩=some (.slice a xs.length c)/\u.cell? ⟨w.heap.size,2,none⟩=some (.slice a' ys.length c')/\u.cell? ⟨bh,0,none⟩=some (.bool false)/\u.cell? ⟨bh,1,none⟩=some (.slice a1 os.length c1)/\u.cell? ⟨bh,2,none⟩=some (.slice a2 ts.length c2)) (go_keep)
  (first
   | (go_at_call 162
      refine(zbu k q _ _ (hX.below Below.drew1) ?_ ?_).mono ?_
      . omega
      . omega
      rintro e u3 ⟨v3,rfl,hF3,hb3⟩
      replace hb3:Below W.heap.size W u3:=Below.drew1.trans hb3
      replace hH:=hH.below hb3;replace B1:=B1.below hb3;replace B2:=B2.below hb3
      replace hbW:Below w.heap.size w u3:=hbW.trans (hb3.mono hbW.size)
      clear hb3 hX p1 p2 p3 p4 p5 p6;obtain⟨p1,p2,p3,_⟩:=B1.cells
      obtain⟨p4,p5,p6,_⟩:=B2.cells)
   | (go_at_call 161
      refine(znu k 2 q (1/2) _ _ _ hF3.lo hH ?_ ?_).mono ?_
      . omega
      . omega
      rintro e u4 ⟨v4,rfl,hL,hb4⟩;replace B1:=B1.below hb4;replace B2:=B2.below hb4
      replace hbW:Below w.heap.size w u4:=hbW.trans (hb4.mono hbW.size)
      clear hb4 hF3 hH p1 p2 p3 p4 p5 p6;obtain⟨p1,p2,p3,_⟩:=B1.cells
      obtain⟨p4,p5,p6,_⟩:=B2.cells)
   | (go_at_call 160
      refine(ztn (k+2+1) _ _ _ hL ?_).mono ?_
      . omega
      rintro e u5 ⟨rfl,hb5⟩;replace B1:=B1.below hb5;replace B2:=B2.below hb5
      replace hbW:Below w.heap.size w u5:=hbW.trans (hb5.mono hbW.size)
      clear hb5 hL p1 p2 p3 p4 p5 p6;obtain⟨p1,p2,p3,_⟩:=B1.cells
      obtain⟨p4,p5,p6,_⟩:=B2.cells))
 go_wp2
 go_ret2
 exact⟨rfl,hbW⟩
def crd(z:Int):Bool:=decide (-16384<=z/\z<=16384)
def fldN(z:Int):Int:=if -32768<=z/\z<=32767 then z else 0
def fldE(z:Int):Int:=if -32768<=z/\z<=32767 then 0 else 4
theorem zh5(z:Int):IntKind.i16.wrap z=if 32768<=z%65536 then z%65536-65536 else z%65536:=by
 simp[IntKind.wrap,IntKind.bits,IntKind.signed]
theorem zak(z:Int)(w:World):Calls Tryz.prog 197 #[.int .i64 z] w fun e w'=>e=.returned (.bool (crd z))/\w=w':=by
 by_cases h1:-16384<=z
 . go_enter Tryz.func197,Tryz.ntmps197
   go_wp2
   go_ret
   exact⟨za2 (by simp[crd,h1]),rfl⟩
 . go_enter Tryz.func197,Tryz.ntmps197
   go_wp2
   go_ret
   exact⟨za2 (by simp[crd];omega),rfl⟩
theorem ztu(k:Nat)(q:Rat)(v:Value)(w:World)(h:Ct w v k q)(hk:k<=100000000)(hk2:2<=k) :
 Calls Tryz.prog 67 #[v] w fun e w'=>e=.returned (.tuple #[.int .i64 (fldN (q+1/2).floor),.int .i64 (fldE (q+1/2).floor)])/\Below w.heap.size w w':=by
 have hX:=h
 obtain⟨n,xs,ys,⟨a,c,a',c',rfl,_,_⟩,hz1⟩:=h;clear hz1
 obtain⟨z,hz⟩:∃z,(q+1/2).floor=z:=⟨_,rfl⟩
 rw[hz]
 have HZ:Hid ((q+1/2).floor=z):=hz
 clear hz
 have e34:(-32768<=z/\z<=32767/\fldN z=z/\fldE z=0/\flB z=true/\flN z=z)\/(¬(-32768<=z/\z<=32767)/\fldN z=0/\fldE z=4):=by
  by_cases h1:-32768<=z/\z<=32767
  . have e1:flB z=true:=by unfold flB;exact decide_eq_true (by omega)
    exact .inl ⟨h1.1,h1.2,by unfold fldN;rw[if_pos h1],by unfold fldE;rw[if_pos h1],e1,by unfold flN;rw[if_pos e1]⟩
  . exact .inr ⟨h1,by unfold fldN;rw[if_neg h1],by unfold fldE;rw[if_neg h1]⟩
 rcases e34 with ⟨h1,h2,e3,e4,e1,e2⟩|⟨h1,e3,e4⟩
 . rw[e3,e4]
   have E1:Hid (flB z=true/\flN z=z):=⟨e1,e2⟩
   clear e1 e2 e3 e4
   go_enter Tryz.func67,Tryz.ntmps67
   go_wp2_with fail
   refine(ze1 k q _ _ (hX.below (al1 _)) hk hk2).mono ?_
   rintro e u1 ⟨rfl,hb1⟩
   obtain⟨B1,hbW⟩:=zeu hb1
   clear hb1 hX;rw[HZ.out,E1.out.1,E1.out.2];go_wp2
   go_ret2
   exact⟨rfl,hbW⟩
 rw[e3,e4];clear e3 e4
 have h3:z < -32768\/32767<z:=by omega
 clear h1
 by_cases h2:flB z=true
 . have e2:flN z=z:=by unfold flN;rw[if_pos h2]
   have e5:-9223372036854775808<=z/\z<9223372036854775808:=by unfold flB at h2;simpa using h2
   have E1:Hid (flB z=true/\flN z=z):=⟨h2,e2⟩
   have g1:(wrap64 (IntKind.i16.wrap z) != z)=true:=by
    rw[zh5 z]
    simp
    unfold wrap64
    split <;> omega
   clear h2 e2
   go_enter Tryz.func67,Tryz.ntmps67
   go_wp2_with fail
   refine(ze1 k q _ _ (hX.below (al1 _)) hk hk2).mono ?_
   rintro e u1 ⟨rfl,hb1⟩
   obtain⟨B1,hbW⟩:=zeu hb1
   clear hb1 hX;rw[HZ.out,E1.out.1,E1.out.2];go_wp2
   go_ret2
   exact⟨rfl,hbW⟩
 . have e1:flB z=false:=by simpa using h2
   have E1:Hid (flB z=false):=e1
   clear h2 e1
   go_enter Tryz.func67,Tryz.ntmps67
   go_wp2_with fail
   refine(ze1 k q _ _ (hX.below (al1 _)) hk hk2).mono ?_
   rintro e u1 ⟨rfl,hb1⟩
   obtain⟨B1,hbW⟩:=zeu hb1
   clear hb1 hX;rw[HZ.out,E1.out]
   generalize flN z=y
   go_wp2
   go_ret2
   exact⟨rfl,hbW⟩
