import Derived.Test.YtkmcodofnckdmaaGreatZK2
import Derived.Deep.LoopGhost
set_option maxHeartbeats 4000000
set_option maxRecDepth 100000
set_option linter.unusedSimpArgs false
set_option linter.unusedVariables false
namespace Go.Proofs.YtkmcodofnckdmaaGreat
theorem z3i(f:Nat->Nat)(j n:Nat):Sv (fun i=>f (j+i)) (n+1)=f j+4294967296*Sv (fun i=>f (j+1+i)) n:=by
 rw[Nat.add_comm n 1,zh1]
 simp only[Sv,Nat.pow_zero,Nat.one_mul,Nat.add_zero,Nat.zero_add,Nat.pow_one]
 rw[zb6 (f:=fun i=>f (j+(1+i))) (g:=fun i=>f (j+1+i)) (fun i _=>by rw[Nat.add_assoc])]
theorem zpm{f:Nat->Nat}{j n VB:Nat}(hf:f j<4294967296)(h:Sv (fun i=>f (j+1+i)) n<VB):Sv (fun i=>f (j+i)) (n+1)<4294967296*VB:=by
 rw[z3i];omega
theorem zww{d:Nat->Nat}{j n r VB:Nat}(h:Sv (fun i=>d (j+i)) (n+1)=r)(hr:r<VB)(hp:VB<4294967296 ^ n):d (j+n)=0/\Sv (fun i=>d (j+i)) n=r:=by
 rw[Sv]at h
 rcases Nat.eq_zero_or_pos (d (j+n))with h0|h0
 . rw[h0,Nat.mul_zero,Nat.add_zero]at h;exact⟨h0,h⟩
 . have:4294967296 ^ n*1<=4294967296 ^ n*d (j+n):=Nat.mul_le_mul_left _ h0
   omega
theorem zsz{c d:Nat->Nat}{j n r q Qv Qw VA VB:Nat}(hinv:Sv c (j+1+n)+4294967296 ^ (j+1)*Qv*VB=VA)(zb4:∀i,i<j->d i=c i)(hd:Sv (fun i=>d (j+i)) n=r)
    (hdm:VB*q+r=Sv (fun i=>c (j+i)) (n+1)) (hQ:Qw=q+4294967296*Qv):Sv d (j+n)+4294967296 ^ j*Qw*VB=VA:=by
 rw[show j+1+n=j+(n+1) by omega,zh1,<-hdm,Nat.pow_succ]at hinv
 rw[zh1,zb6 zb4,hd,hQ]
 generalize 4294967296 ^ j=p at hinv ⊢
 generalize Sv c j=A at hinv ⊢
 rw[<-hinv]
 grind
theorem zpl{f:Nat->Nat}{K n la VA VB s:Nat}(hK:K+n=la+1)(hn:1<=n)(hv:Sv f (K+n)=VA)(hA:VA<4294967296 ^ la*2 ^ s)(hB:2 ^ s*4294967296 ^ (n-1)<=VB):Sv (fun i=>f (K+i)) n<VB:=by
 rcases Nat.lt_or_ge (Sv (fun i=>f (K+i)) n) VB with h|h
 . exact h
 . exfalso
   rw[zh1]at hv
   have h1:4294967296 ^ K*(2 ^ s*4294967296 ^ (n-1))<=4294967296 ^ K*Sv (fun i=>f (K+i)) n:=Nat.mul_le_mul_left _ (Nat.le_trans hB h)
   have h2:4294967296 ^ la=4294967296 ^ K*4294967296 ^ (n-1):=by rw[<-Nat.pow_add,show K+(n-1)=la by omega]
   have h3:4294967296 ^ K*(2 ^ s*4294967296 ^ (n-1))=4294967296 ^ la*2 ^ s:=by
    rw[h2]
    generalize 4294967296 ^ K=a
    generalize 4294967296 ^ (n-1)=b
    generalize 2 ^ s=c
    grind
   omega
theorem zwx{R Q A B S:Nat}(hS:0<S)(h:R+Q*(B*S)=A*S)(hr:R<B*S):Q=A/B/\R/S=A%B:=by
 have hB:0<B*S:=by omega
 have e1:A*S/(B*S)=Q:=by
  rw[<-h,Nat.add_mul_div_right _ _ hB,Nat.div_eq_of_lt hr,Nat.zero_add]
 have e2:A*S%(B*S)=R:=by
  rw[<-h,Nat.add_mul_mod_self_right,Nat.mod_eq_of_lt hr]
 rw[Nat.mul_div_mul_right _ _ hS]at e1;rw[Nat.mul_mod_mul_right]at e2
 exact⟨e1.symm,by rw[<-e2,Nat.mul_div_cancel _ hS]⟩
theorem z1n{ys bs:LN}{n s x:Nat}(ly:Lim ys)(lb:Lim bs)(tb:Tr bs)(hn:ys.length=n)(hn1:1<=n)(hx:ys.getD (n-1) 0=x)(hs:s<32)(h1:2147483648<=x*2 ^ s)(h2:x*2 ^ s<4294967296)(hv:V bs=V ys*2 ^ s) :
 bs.length=n/\2147483648<=bs.getD (n-1) 0/\2147483648*4294967296 ^ (n-1)<=V bs:=by
 have eY:=zam ys (n-1)
 rw[show n-1+1=ys.length by omega,List.take_length,hx]at eY
 have bY:V (ys.take (n-1))<4294967296 ^ (n-1):=by rw[zev];exact Sv_lt (fun i _=>ly.getD _)
 have hmul:(x+1)*2 ^ s<=4294967296:=by
  have e32:(4294967296:Nat)=2 ^ (32-s)*2 ^ s:=by rw[<-Nat.pow_add,show 32-s+s=32 by omega]
  have h3:x*2 ^ s<2 ^ (32-s)*2 ^ s:=by rw[<-e32];exact h2
  have h4:=zdg h3
  calc (x+1)*2 ^ s<=2 ^ (32-s)*2 ^ s:=Nat.mul_le_mul_right _ h4
   _=4294967296:=e32.symm
 have hpw:4294967296 ^ n=4294967296 ^ (n-1)*4294967296:=by rw[<-Nat.pow_succ];congr 1;omega
 have hP:0<4294967296 ^ (n-1):=Nat.pow_pos (by decide)
 have hS:0<2 ^ s:=Nat.pow_pos (by decide)
 have up:V bs<4294967296 ^ n:=by
  rw[hv,hpw]
  have h5:V ys<4294967296 ^ (n-1)*(x+1):=by rw[eY,Nat.mul_add,Nat.mul_one];omega
  calc V ys*2 ^ s<4294967296 ^ (n-1)*(x+1)*2 ^ s:=Nat.mul_lt_mul_of_pos_right h5 hS
   _=4294967296 ^ (n-1)*((x+1)*2 ^ s):=Nat.mul_assoc _ _ _
   _<=4294967296 ^ (n-1)*4294967296:=Nat.mul_le_mul_left _ hmul
 have low:2147483648*4294967296 ^ (n-1)<=V bs:=by
  rw[hv]
  have h6:4294967296 ^ (n-1)*x<=V ys:=by omega
  calc 2147483648*4294967296 ^ (n-1)<=x*2 ^ s*4294967296 ^ (n-1):=Nat.mul_le_mul_right _ h1
   _=4294967296 ^ (n-1)*x*2 ^ s:=by
    generalize 4294967296 ^ (n-1)=a
    generalize 2 ^ s=c
    grind
   _<=V ys*2 ^ s:=Nat.mul_le_mul_right _ h6
 have hl1:=zas tb up
 have hl2:n<=bs.length:=by
  rcases Nat.lt_or_ge bs.length n with h|h
  . exfalso
    have h7:=V_lt lb
    have h8:4294967296 ^ bs.length<=4294967296 ^ (n-1):=Nat.pow_le_pow_right (by decide) (by omega)
    omega
  . exact h
 have hl:bs.length=n:=by omega
 refine⟨hl,?_,low⟩
 have eB:=zam bs (n-1)
 rw[show n-1+1=bs.length by omega,List.take_length]at eB
 have bB:V (bs.take (n-1))<4294967296 ^ (n-1):=by rw[zev];exact Sv_lt (fun i _=>lb.getD _)
 rcases Nat.lt_or_ge (bs.getD (n-1) 0) 2147483648 with h|h
 . exfalso
   have h9:4294967296 ^ (n-1)*bs.getD (n-1) 0<=4294967296 ^ (n-1)*2147483647:=Nat.mul_le_mul_left _ (by omega)
   omega
 . exact h
open Go.RowKit
theorem Blk.set_other{e:TypeId}{w:World}{g k:Nat}{zs:LN}(h:Blk e w g zs)(hne:g≠k)(i:Nat)(v:Value):Blk e (w.setCell ⟨k,i,none⟩ v) g zs:=by
 obtain⟨cur,h1,h2⟩:=h
 exact⟨cur,(Below.heap_setCell w ⟨k,i,none⟩ v g hne).trans h1,h2⟩
theorem Rd.set_other{w:World}{g o k cap:Nat}{zs:LN}(h:Rd w (some ⟨g,o,none⟩) cap zs)(hne:g≠k)(i:Nat)(v:Value):Rd (w.setCell ⟨k,i,none⟩ v) (some ⟨g,o,none⟩) cap zs :=
 h.keep (by simp[World.setCell]) fun b _ hb=>by
  obtain⟨o',e⟩:=hb
  simp at e
  exact Below.heap_setCell w ⟨k,i,none⟩ v b (by rw[<-e.1];exact hne)
theorem z30(a:OA)(cap n:Nat)(xs:LN)(s:Nat)(w:World)(hn:n=xs.length)(h:Rd w a cap xs)(hl:xs.length<=500000000)(hs:s<32) :
 Calls Tryz.prog 275 #[.slice a n cap,.int .i64 (s:Int)] w fun e w' =>
     ∃g zs,e=.returned (.slice (some ⟨g,0,none⟩) n n)/\zs.length=n/\V zs=V xs/2 ^ s/\Rd w' (some ⟨g,0,none⟩) n zs/\Below w.heap.size w w':=by
 subst hn;exact zvn a cap xs s w h hl hs
theorem zh0{cs:LN}{n:Nat}(h:n<=cs.length)(hz:∀i,n<=i->cs.getD i 0=0):V cs=Sv (fun i=>cs.getD i 0) n:=by
 rw[V_Sv,show cs.length=n+(cs.length-n) by omega,zh1,zut (f:=fun i=>cs.getD (n+i) 0) (fun i _=>hz (n+i) (by omega)),Nat.mul_zero,Nat.add_zero]
theorem zmd(a:OA)(cap:Nat)(xs:LN)(b:OA)(cb:Nat)(ys:LN)(w:World)(ha:Rd w a cap xs)(hb:Rd w b cb ys)(ta:Tr xs)(tb:Tr ys)(h2:2<=ys.length)(hle:V ys<=V xs)(hla:xs.length<=400000000)(hlb:ys.length<=400000000) :
 Calls Tryz.prog 256 #[.slice a xs.length cap,.slice b ys.length cb] w fun e w' =>
     ∃a1 c1 z1 a2 c2 z2,e=.returned (.tuple #[.slice a1 z1.length c1,.slice a2 z2.length c2])/\V z1=V xs/V ys/\V z2=V xs%V ys/\Tr z1/\Tr z2/\Res 250 w.heap.size w' a1 c1 z1/\Res 250 w.heap.size w' a2 c2 z2/\Below w.heap.size w w':=by
 obtain⟨i0,hi,hz0,hz1,hz2⟩:=info_parts zcb
 have hll:ys.length<=xs.length:=by
  rcases Nat.lt_or_ge xs.length ys.length with h|h
  . have:=zat ha.lim tb h;omega
  . exact h
 have ly:=hb.lim
 have hyl:=hb.le
 have hyc:=hb.cap
 unfold maxLen at hyc
 obtain⟨b1,o1,rfl,hb1,hcb⟩:=hb.fm.at (Below.refl _ _) (ys.length-1) (by omega)
 obtain⟨x,hx⟩:∃x,ys.getD (ys.length-1) 0=x:=⟨_,rfl⟩
 have hx0:x≠0:=by rw[<-hx];exact tb.last (by intro e;rw[e]at h2;simp at h2)
 have hxb:x<4294967296:=by rw[<-hx];exact ly.getD _
 rw[hx]at hcb
 obtain⟨s,hs,hs1,hs2,hs3⟩:=z1m hx0 hxb
 have HX:Hid (ys.getD (ys.length-1) 0=x):=hx
 have HS1:Hid ((32-(Lib.bitLen x:Int))=(s:Int)):=hs1
 have HS2:Hid (2147483648<=x*2 ^ s/\x*2 ^ s<4294967296):=⟨hs2,hs3⟩
 have HLE:Hid (V ys<=V xs):=hle
 have HA:Hid (V xs<4294967296 ^ xs.length):=V_lt ha.lim
 clear hx hs1 hs2 hs3 hle
 go_enter Tryz.func256,Tryz.ntmps256
 go_wp2_with fail
 refine(zwv x _ hxb).mono ?_
 rintro e w' ⟨rfl,rfl⟩
 rw[HS1.out];clear HS1
 go_wp2_with fail
 refine(znb a cap xs s _ ha (by omega) hs).mono ?_
 rintro e w1 ⟨aL,capL,L,rfl,hLl,hLv,hLr,zc6⟩
 have hbw1:=hb.below zc6
 have HLV:Hid (V L=V xs*2 ^ s):=hLv
 have HLL:Hid (L.length=xs.length+1):=hLl
 clear hLv hb
 go_wp2_with fail
 refine(znb _ cb ys s _ hbw1 (by omega) hs).mono ?_
 rintro e w2 ⟨aB,capB,Bs,rfl,hBl,hBv,hBr,z4z⟩
 have hL2:=hLr.below z4z
 have hbb2:Below w.heap.size w w2:=zc6.trans (z4z.mono zc6.size)
 have HBV:Hid (V Bs=V ys*2 ^ s):=hBv
 have hBl2:Bs.length<=1000000000:=by omega
 clear hBv hbw1 hBl
 go_wp2_with fail
 refine(zb2 _ _ Bs _ hBr.rd hBl2).mono ?_
 rintro e w3 ⟨aT,capT,rfl,hTr,z4y⟩
 have hL3:=hL2.below z4y
 have hbb3:Below w.heap.size w w3:=hbb2.trans (z4y.mono hbb2.size)
 have HTV:Hid (V (strip Bs)=V ys*2 ^ s):=by show _=_;rw[zap];exact HBV.out
 have tT:=zav Bs
 generalize strip Bs=T at hTr HTV tT ⊢
 obtain⟨hT1,hT2,hT3⟩:=z1n ly hTr.lim tT rfl (by omega) HX.out hs HS2.out.1 HS2.out.2 HTV.out
 have HT1:Hid (T.length=ys.length):=hT1
 have HT2:Hid (2147483648<=T.getD (ys.length-1) 0):=hT2
 have HT3:Hid (2147483648*4294967296 ^ (ys.length-1)<=V T):=hT3
 -- the blocks
 obtain⟨gL,rfl,hgL1,hBL⟩:∃g,aL=some ⟨g,0,none⟩/\w.heap.size<=g/\Blk 250 w1 g L:=by
  rcases hLr.blk with h|h
  . rw[h]at hLl;simp at hLl
  . exact h
 have hgLlt:=hBL.lt
 obtain⟨gT,rfl,hgT1,hBT⟩:∃g,aT=some ⟨g,0,none⟩/\w2.heap.size<=g/\Blk 250 w3 g T:=by
  rcases hTr.blk with h|h
  . rw[h]at hT1;simp at hT1;omega
  . exact h
 have hgTlt:=hBT.lt
 have s12:=z4z.size
 have s23:=z4y.size
 have s01:=zc6.size
 have hBL3:Blk 250 w3 gL L:=(hBL.below z4z).below z4y
 have hTrd:=hTr.rd
 have hTc:=hTrd.cap
 have hTle:=hTrd.le
 have lL:=hLr.lim
 have hLcap:=hLr.rd.cap
 have hLle:=hLr.rd.le
 unfold maxLen at hTc hLcap
 clear hT1 hT2 hT3 hLr hTr hBr hL2 hL3 hBL hBT zc6 z4z z4y hLl
 go_wp2_with (at_make;refine wpList_make_full _ rfl _ _ 123 rfl w3.heap.size 250 i0 (.int .u32 0) 1 Tryz.underlying123 hi hz0 hz1 _ _ _ _ (xs.length-ys.length+1) rfl rfl (by omega) (by omega) (by rw[hz2];omega) (by unfold maxLen;omega) (Nat.le_refl _) ?_)
 intro w4 z4n zy4
 have hbb4:Below w3.heap.size w3 w4:=(Below.refl _ _).grown zy4 (Nat.le_refl _) (fun k h=>by cases h)
 have hBQ4:=zjo z4n
 have hBL4:=hBL3.below hbb4
 have hT4:=hTrd.below hbb4
 have hw4:Below w.heap.size w w4:=hbb3.trans (hbb4.mono hbb3.size)
 have hgTL:gT≠gL:=by omega
 have hgQL:w3.heap.size≠gL:=by omega
 have hgQT:gT≠w3.heap.size:=by omega
 have hT2l:2<=T.length:=by rw[HT1.out];exact h2
 have hTx:T.length<=xs.length:=by rw[HT1.out];exact hll
 have zy1:Sv (fun j=>L.getD (xs.length-ys.length+1+j) 0) T.length<V T:=by
  refine zpl (f:=fun j=>L.getD j 0) (K:=xs.length-ys.length+1) (n:=T.length) (la:=xs.length) (VA:=V xs*2 ^ s) (s:=s) (by rw[HT1.out];omega) (by omega) ?_ (Nat.mul_lt_mul_of_pos_right HA.out (Nat.pow_pos (by decide))) ?_
  . rw[show xs.length-ys.length+1+T.length=L.length by rw[HT1.out,HLL.out];omega,<-V_Sv];exact HLV.out
  . rw[HT1.out]
    have h31:2 ^ s<=2147483648:=Nat.pow_le_pow_right (n:=2) (by decide) (show s<=31 by omega)
    exact Nat.le_trans (Nat.mul_le_mul_right _ h31) HT3.out
 have HST:Hid (Sv (fun j=>L.getD (xs.length-ys.length+1+j) 0) T.length<V T):=zy1
 clear zy1 z4n zy4 hBL3 hTrd hbb4;go_wp2
 go_loopw [10] (fun i wr=>∃(k:Nat) (q:Int) (cs Q:LN),k<=xs.length-ys.length+1/\q=(k:Int)-1/\i=.int .i64 q/\cs.length=xs.length+1/\Lim cs/\Q.length=xs.length-ys.length+1/\Lim Q /\
     Sv (fun j=>cs.getD j 0) (k+T.length)+4294967296 ^ k*V (Q.drop k)*V T=V xs*2 ^ s/\Sv (fun j=>cs.getD (k+j) 0) T.length<V T/\(∀j,k+T.length<=j->cs.getD j 0=0)/\Blk 250 wr gL cs/\Blk 250 wr w3.heap.size Q/\Rd wr (some ⟨gT,0,none⟩) capT T/\Below w.heap.size w wr) (fun i _=>(intOf i+1).toNat)
 case atStart =>
  refine⟨xs.length-ys.length+1,_,L,_,Nat.le_refl _,?_,rfl,HLL.out,lL,List.length_replicate,fun x hx=>by rw[List.eq_of_mem_replicate hx];decide,?_,HST.out,fun j hj=>zeo _ _ ?_,hBL4,hBQ4,hT4,hw4⟩
  . omega
  . rw[List.drop_eq_nil_of_le (by simp),V_nil,Nat.mul_zero,Nat.zero_mul,Nat.add_zero,show xs.length-ys.length+1+T.length=L.length by rw[HT1.out,HLL.out];omega,<-V_Sv];exact HLV.out
  . rw[HLL.out];rw[HT1.out]at hj;omega
 case round =>
  obtain⟨k,q,cs,Q,hk,hq,rfl,hcl,lc,hQl,lQ,hinv,hseg,hzer,hBL,hBQ,hT,hnx⟩:=hrel
  have HC:Hid (cs.length=xs.length+1):=hcl
  have HQ:Hid (Q.length=xs.length-ys.length+1):=hQl
  have HI:Hid (Sv (fun j=>cs.getD j 0) (k+T.length)+4294967296 ^ k*V (Q.drop k)*V T=V xs*2 ^ s):=hinv
  have HSG:Hid (Sv (fun j=>cs.getD (k+j) 0) T.length<V T):=hseg
  have HZ:Hid (∀j,k+T.length<=j->cs.getD j 0=0):=hzer
  have hsz:=hnx.size
  clear hcl hQl hinv hseg hzer
  by_cases hk0:k=0
  . subst hk0
    obtain rfl:q=-1:=by omega
    clear hq
    have hr:=hBQ.rd lQ 0 (xs.length-ys.length+1) (xs.length-ys.length+1) (by rw[HQ.out];omega) (Nat.le_refl _) (by unfold maxLen;omega)
    rw[List.drop_zero,List.take_of_length_le (by rw[HQ.out];exact Nat.le_refl _)]at hr
    have hr2:=hBL.rd lc 0 (xs.length+1) capL (by rw[HC.out];omega) (by have:=HLL.out;omega) (by unfold maxLen;omega)
    rw[List.drop_zero,List.take_of_length_le (by rw[HC.out];exact Nat.le_refl _)]at hr2
    have zau:=zwx (R:=V cs) (Q:=V Q) (A:=V xs) (B:=V ys) (S:=2 ^ s) (Nat.pow_pos (by decide))
     (by
      have h1:=HI.out
      rw[List.drop_zero,Nat.pow_zero,Nat.one_mul,Nat.zero_add,<-zh0 (by rw[HC.out];omega) (fun i hi=>HZ.out i (by omega)),HTV.out]at h1
      exact h1)
     (by
      have h1:=HSG.out
      rw[zb6 (g:=fun i=>cs.getD i 0) (fun i _=>by rw[Nat.zero_add]),<-zh0 (by rw[HC.out];omega) (fun i hi=>HZ.out i (by omega)),HTV.out]at h1
      exact h1)
    have HF:Hid (V Q=V xs/V ys/\V cs/2 ^ s=V xs%V ys):=zau
    clear zau
    go_wp2_with fail
    refine(zm5 _ _ (xs.length-ys.length+1) Q _ HQ.out.symm hr (by rw[HQ.out];omega)).mono ?_
    rintro e v1 ⟨a1,c1,rfl,hr1,hv1⟩
    have hbv1:Below w.heap.size w v1:=hnx.trans (hv1.mono hsz)
    obtain⟨z1,hz1'⟩:∃z1,strip Q=z1:=⟨_,rfl⟩
    have tz1:Tr z1:=by rw[<-hz1'];exact zav Q
    have HV1:Hid (V z1=V xs/V ys):=by show _=_;rw[<-hz1',zap];exact HF.out.1
    rw[hz1']at hr1 ⊢
    have hr2':=hr2.below hv1
    clear hr hz1'
    go_wp2_with fail
    refine(z30 _ _ (xs.length+1) cs s _ HC.out.symm hr2' (by rw[HC.out];omega) hs).mono ?_
    rintro e v2 ⟨g2,ds,rfl,hdl,hdv,hdr,hv2⟩
    have hbv2:Below w.heap.size w v2:=hbv1.trans (hv2.mono hbv1.size)
    have hr1':=hr1.below hv2
    have HDV:Hid (V ds=V xs%V ys):=by show _=_;rw[hdv];exact HF.out.2
    have HDL:Hid (ds.length=xs.length+1):=hdl
    clear hdl hdv hr1 hr2 hr2' hv1 hv2
    go_wp2_with fail
    refine(zm5 _ _ (xs.length+1) ds _ HDL.out.symm hdr (by rw[HDL.out];omega)).mono ?_
    rintro e v3 ⟨a2,c2,rfl,hr3,hv3⟩
    have hr1'':=hr1'.below hv3
    have hs1:=hbv2.size
    have hbv3:Below w.heap.size w v3:=hbv2.trans (hv3.mono hbv2.size)
    go_wp2
    go_ret2
    exact⟨a1,c1,z1,a2,c2,strip ds,rfl,HV1.out,by rw[zap];exact HDV.out,tz1,zav _,hr1''.mono hsz,hr3.mono hs1,hbv3⟩
  . obtain⟨j,rfl⟩:∃j,k=j+1:=⟨k-1,by omega⟩
    obtain rfl:q=(j:Int):=by omega
    clear hq
    have hsl:j+T.length+1<=capL:=by have:=HLL.out;rw[HT1.out];omega
    have hjc:j+T.length+1<=cs.length:=by rw[HC.out,HT1.out];omega
    have zy2:Sv (fun i=>cs.getD (j+i) 0) (T.length+1)<4294967296*V T:=zpm (f:=fun i=>cs.getD i 0) (lc.getD j) HSG.out
    have hTlt:V T<4294967296 ^ T.length:=V_lt hT.lim
    go_wp2_with fail
    rw[show j+T.length+1-j=T.length+1 by omega]
    refine(zmc gL j (capL-j) cs gT 0 capT T wr hBL lc hT hgTL hT2l hjc (by rw[HC.out];omega) (by omega) (by omega) (by rw[HT1.out];exact HT2.out) zy2).mono ?_
    rintro e v1 ⟨ds,qd,rfl,hqd,z4l,hdl,ld,zb4,hrem,hB1,hg1⟩
    have hb1'':Below w.heap.size w v1:=hnx.grown hg1 hsz (fun k hk=>by cases hk;exact hgL1)
    have hBQ1:=hBQ.other hg1 hgQL
    have hT1':Rd v1 (some ⟨gT,0,none⟩) capT T:=hT.other hg1 (fun k o e _=>by simp at e;rw[<-e.1];exact hgTL)
    have c2:=hBQ1.cell j (by rw[HQ.out];omega)
    have c3:=hBQ1.frozen j
    obtain⟨o,ho⟩:∃o,Q.getD j 0=o:=⟨_,rfl⟩
    rw[ho]at c2
    have hmod:Sv (fun i=>cs.getD (j+i) 0) (T.length+1)%V T<V T:=Nat.mod_lt _ (by omega)
    obtain⟨htop,zuv⟩:=zww (d:=fun i=>ds.getD i 0) hrem hmod hTlt
    have hdm:=Nat.div_add_mod (Sv (fun i=>cs.getD (j+i) 0) (T.length+1)) (V T)
    rw[<-hqd]at hdm
    have HSTEP:Hid (Sv (fun i=>ds.getD i 0) (j+T.length)+4294967296 ^ j*V ((Q.set j qd).drop j)*V T=V xs*2 ^ s):=by
     refine zsz (c:=fun i=>cs.getD i 0) (q:=qd) HI.out (fun i hi=>zb4 i (by omega)) zuv hdm ?_
     rw[zla,za7 _ _ _ (by rw[HQ.out];omega),List.drop_set_of_lt (by omega)]
    have HSEG:Hid (Sv (fun i=>ds.getD (j+i) 0) T.length<V T):=by show _<_;rw[zuv];exact hmod
    have HZZ:Hid (∀i,j+T.length<=i->ds.getD i 0=0):=fun i hi=>by
     rcases Nat.lt_or_eq_of_le hi with h|h
     . rw[zb4 i (by omega)];exact HZ.out i (by omega)
     . rw[<-h];exact htop
    have HDL:Hid (ds.length=cs.length):=hdl
    clear hmod htop zuv hdm zb4 hrem hqd zy2 hTlt hdl ho hBQ hT hjc;go_wp2
    go_roundw
    case rel =>
     exact⟨j,_,ds,Q.set j qd,by omega,rfl,by go_num,by rw[HDL.out];exact HC.out,ld,by rw[List.length_set];exact HQ.out,lQ.set _ z4l,HSTEP.out,HSEG.out,HZZ.out,hB1.set_other hgQL.symm _ _,hBQ1.set _ _ _ (by rw[HQ.out];omega) rfl,hT1'.set_other hgQT _ _,hb1''.setCell (Nat.le_trans hbb3.size (Nat.le_refl _)) _⟩
    case measure=>simp[intOf]
theorem zym{a b:Int}(h:a=b):Value.int .u64 a=Value.int .u64 b:=by rw[h]
theorem zcg(n:Int):IntKind.u64.wrap n=n%18446744073709551616:=by simp[IntKind.wrap,IntKind.bits,IntKind.signed]
theorem zm8{zs L S:LN}{k cy x y t:Nat}(hz:zs.length=k)(he:V zs+V (S.take k)=V (L.take k)+4294967296 ^ k*cy)(hx:L.getD k 0=x)(hy:S.getD k 0=y)(ht:t=x+4294967296-cy-y)(hc:cy<=1)(hb:y<4294967296)(hxb:x<4294967296) :
 V (zs++[t%4294967296])+V (S.take (k+1))=V (L.take (k+1))+4294967296 ^ (k+1)*(1-t/4294967296):=by
 rw[zhz,hz,zam,zam,hx,hy,Nat.pow_succ]
 have e:t%4294967296+y+cy=x+4294967296*(1-t/4294967296):=by omega
 . generalize t%4294967296=r at e ⊢
   generalize 1-t/4294967296=d at e ⊢
   generalize 4294967296 ^ k=p at he ⊢
   generalize V zs=o at he ⊢
   generalize V (L.take k)=A at he ⊢
   generalize V (S.take k)=C at he ⊢
   grind
theorem zqi{S:LN}{n:Nat}(h:V S<4294967296 ^ n):V (S.take n)=V S:=by
 have e:=zmy S n
 rcases Nat.eq_zero_or_pos (V (S.drop n))with h0|h0
 . rw[h0]at e;omega
 . have:4294967296 ^ n*1<=4294967296 ^ n*V (S.drop n):=Nat.mul_le_mul_left _ h0
   omega
theorem z0b{zs L S:LN}{cy:Nat}(lz:Lim zs)(hz:zs.length=L.length)(he:V zs+V (S.take L.length)=V (L.take L.length)+4294967296 ^ L.length*cy)(lL:Lim L)(hv:V S<V L):V zs=V L-V S:=by
 have hL:=V_lt lL
 rw[List.take_length,zqi (by omega)]at he
 have hzs:=V_lt lz
 rw[hz]at hzs
 rcases Nat.eq_zero_or_pos cy with h0|h0
 . rw[h0]at he;omega
 . have:4294967296 ^ L.length*1<=4294967296 ^ L.length*cy:=Nat.mul_le_mul_left _ h0
   omega
theorem z29{x y:Nat}(h:x<=y):cmpN x y<=0:=by unfold cmpN;split <;> (try split) <;> omega
theorem z3a{x y:Nat}(h:y<x):cmpN x y=1:=by unfold cmpN;rw[if_neg (by omega),if_pos h]
theorem zq9(a:OA)(cap:Nat)(xs:LN)(b:OA)(cbp:Nat)(ys:LN)(w:World)(ha:Rd w a cap xs)(hb:Rd w b cbp ys)(hla:xs.length<=500000000)(hlb:ys.length<=500000000) :
 Calls Tryz.prog 207 #[.slice a xs.length cap,.slice b ys.length cbp] w fun e w' =>
     ∃a' cap' zs,e=.returned (.slice a' zs.length cap')/\V zs=V xs-V ys/\Tr zs/\Res 250 w.heap.size w' a' cap' zs/\Below w.heap.size w w':=by
 obtain⟨i0,hi,hz0,hz1,hz2⟩:=info_parts zcb
 by_cases hle:V xs<=V ys
 . have hc:=z29 hle
   go_enter Tryz.func207,Tryz.ntmps207
   go_wp2_with fail
   refine(zjk _ _ _ _ _ _ _ ha hb).mono ?_
   rintro e w1 ⟨rfl,hb1⟩
   generalize cmpN (V xs) (V ys)=q at hc ⊢
   go_wp2
   go_ret
   refine⟨some ⟨w1.heap.size,0,none⟩,0,[],rfl,?_,zjz,?_,hb1.alloc hb1.size _⟩
   . show 0=_;omega
   . exact⟨Lim.nil,zfh (World.ownsRow_made w1 #[] 0 (Nat.le_refl _) (Nat.zero_le _) rfl) hb1.size⟩
 . have hc:=z3a (Nat.lt_of_not_le hle)
   have HC:Hid (cmpN (V xs) (V ys)=1):=hc
   clear hc
   go_enter Tryz.func207,Tryz.ntmps207
   go_wp2_with fail
   refine(zjk _ _ _ _ _ _ _ ha hb).mono ?_
   rintro e w0 ⟨rfl,hb0⟩;rw[HC.out]
   have ha0:=ha.below hb0
   have hb00:=hb.below hb0
   clear ha hb
   have Xr:=ha0.strip
   have Yr:=hb00.strip
   have lx:=zah xs
   have ly:=zah ys
   go_wp2_with fail
   refine(zb0 a cap xs _ ha0).mono ?_
   rintro e w' ⟨rfl,rfl⟩
   go_wp2_with fail
   refine(zb0 b cbp ys _ hb00).mono ?_
   rintro e w' ⟨rfl,rfl⟩
   clear ha0 hb00
   have HV:Hid (V (strip ys)<V (strip xs)/\V (strip xs)=V xs/\V (strip ys)=V ys):=by show _/\_;rw[zap,zap];exact⟨by omega,rfl,rfl⟩
   generalize strip xs=X at Xr lx HV ⊢
   generalize strip ys=Y at Yr ly HV ⊢
   have hL2:=Xr.le
   have hL3:=Xr.cap
   unfold maxLen at hL3
   have lL:=Xr.lim
   have lS:=Yr.lim
   have fL:=Xr.fm
   have fS:=Yr.fm
   clear Xr Yr
   have hs0:=hb0.size
   go_wp2_with (at_make;refine wpList_make_own _ rfl _ _ 123 rfl w0.heap.size 250 i0 (.int .u32 0) 1 Tryz.underlying123 hi hz0 hz1 _ _ _ X.length rfl rfl (by omega) (by rw[hz2];omega) (by unfold maxLen;omega) (Nat.le_refl _) ?_)
   intro u0 ze4 zcn
   have hbu:Below w0.heap.size w0 u0:=(Below.refl _ _).grown zcn (Nat.le_refl _) (fun k h=>by cases h)
   go_wp2
   go_loopw [5,6,24] (fun out c i wr=>∃(k:Nat) (zs:LN) (cy:Nat),k<=X.length/\i=.int .i64 k/\c=.int .u64 cy/\cy<=1/\zs.length=k/\Lim zs/\V zs+V (Y.take k)=V (X.take k)+4294967296 ^ k*cy/\wr.ownsRow w0.heap.size 250 1 out k (zs.map U)/\Below w0.heap.size w0 wr) (fun _ _ i _=>X.length-(intOf i).toNat)
   case atStart=>exact⟨0,[],0,Nat.zero_le _,rfl,rfl,Nat.zero_le _,rfl,Lim.nil,by simp[V],ze4,hbu⟩
   case round =>
    obtain⟨k,zs,cy,hk,rfl,rfl,hcy,hzl,lz,heq,hown,hnx⟩:=hrel
    have HE:Hid (V zs+V (Y.take k)=V (X.take k)+4294967296 ^ k*cy):=heq
    have HZ:Hid (zs.length=k):=hzl
    have hsz:=hnx.size
    clear heq hzl
    by_cases hkn:k<X.length
    . obtain⟨bl,ol,rfl,_,hcl⟩:=fL.at hnx k hkn
      obtain⟨x,hx⟩:∃x,X.getD k 0=x:=⟨_,rfl⟩
      obtain⟨y,hy⟩:∃y,Y.getD k 0=y:=⟨_,rfl⟩
      have bx:x<4294967296:=by rw[<-hx];exact lL.getD k
      have byy:y<4294967296:=by rw[<-hy];exact lS.getD k
      rw[hx]at hcl
      have HX:Hid (X.getD k 0=x):=hx
      have HY:Hid (Y.getD k 0=y):=hy
      clear hx hy
      by_cases hkm:k<Y.length
      . obtain⟨bs,os,rfl,_,hcs⟩:=fS.at hnx k hkm
        rw[HY.out]at hcs
        go_wp2_with (at_builtin;refine zag rfl _ _ 123 rfl w0.heap.size 250 i0 Tryz.underlying123 hi hz0 hz1 hz2 _ k zs rfl (hown.alloc _) wr.heap.size ((x+4294967296-cy-y)%4294967296) rfl (zbe _ _ _ _ (by simp only[zcg];omega)) (by omega) (by simp;omega) ?_)
        intro v' w1 hown1 zbn
        have hb1:Below w0.heap.size w0 w1:=(hnx.alloc hsz _).grown zbn (by simp;omega) (fun k hk=>(hown.lt k hk).1)
        clear hown;go_wp2
        go_roundw
        case rel =>
         exact⟨k+1,zs++[(x+4294967296-cy-y)%4294967296],1-(x+4294967296-cy-y)/4294967296,by omega,by go_num,zym (by simp only[zcg];omega),by omega,by simp[HZ.out],lz.snoc (by omega),zm8 HZ.out HE.out HX.out HY.out (by omega) hcy byy bx,zbw hown1,hb1⟩
        case measure=>simp[intOf];omega
      . have y0:y=0:=by rw[<-HY.out];exact zeo _ _ (by omega)
        subst y0
        go_wp2_with (at_builtin;refine zag rfl _ _ 123 rfl w0.heap.size 250 i0 Tryz.underlying123 hi hz0 hz1 hz2 _ k zs rfl (hown.alloc _) wr.heap.size ((x+4294967296-cy)%4294967296) rfl (zbe _ _ _ _ (by simp only[zcg];omega)) (by omega) (by simp;omega) ?_)
        intro v' w1 hown1 zbn
        have hb1:Below w0.heap.size w0 w1:=(hnx.alloc hsz _).grown zbn (by simp;omega) (fun k hk=>(hown.lt k hk).1)
        clear hown;go_wp2
        go_roundw
        case rel =>
         exact⟨k+1,zs++[(x+4294967296-cy)%4294967296],1-(x+4294967296-cy)/4294967296,by omega,by go_num,zym (by simp only[zcg];omega),by omega,by simp[HZ.out],lz.snoc (by omega),zm8 HZ.out HE.out HX.out HY.out (by omega) hcy byy bx,zbw hown1,hb1⟩
        case measure=>simp[intOf];omega
    . obtain rfl:k=X.length:=by omega
      obtain⟨a',cap',rfl,hres⟩:=Res.of lz hown
      clear hown
      go_wp2_with fail
      refine(zb2 _ _ _ _ hres.rd (by rw[HZ.out];omega)).mono ?_
      rintro e w2 ⟨a2,c2,rfl,hr2,hb2⟩;go_wp2
      go_ret
      refine⟨a2,c2,_,rfl,?_,zav _,hr2.mono (Nat.le_trans hs0 hsz),hb0.trans ((hnx.trans (hb2.mono hsz)).mono hs0)⟩
      rw[zap,<-HV.out.2.1,<-HV.out.2.2]
      exact z0b lz HZ.out HE.out lL HV.out.1
def remN(x y:Nat):Nat:=if y=0 then 0 else x%y
theorem zrt(x:Nat){y:Nat}(h:y=0):remN x y=0:=by unfold remN;rw[if_pos h]
theorem zcw(x:Nat){y:Nat}(h:0<y):remN x y=x%y:=by unfold remN;rw[if_neg (by omega)]
theorem V_one{ys:LN}(h:ys.length=1):V ys=ys.getD 0 0:=by
 match ys,h with
 | [y],_=>simp[V]
theorem zg6(a:OA)(cap:Nat)(xs:LN)(b:OA)(cbp:Nat)(ys:LN)(w:World)(ha:Rd w a cap xs)(hb:Rd w b cbp ys)(hla:xs.length<=400000000)(hlb:ys.length<=400000000) :
 Calls Tryz.prog 202 #[.slice a xs.length cap,.slice b ys.length cbp] w fun e w' =>
     ∃a1 c1 z1 a2 c2 z2,e=.returned (.tuple #[.slice a1 z1.length c1,.slice a2 z2.length c2])/\V z1=V xs/V ys/\V z2=remN (V xs) (V ys)/\Tr z1/\Tr z2/\Res 250 w.heap.size w' a1 c1 z1/\Res 250 w.heap.size w' a2 c2 z2/\Below w.heap.size w w':=by
 have Xr:=ha.strip
 have Yr:=hb.strip
 have lx:=zah xs
 have ly:=zah ys
 have tX:=zav xs
 have tY:=zav ys
 go_enter Tryz.func202,Tryz.ntmps202
 go_wp2_with fail
 refine(zb0 a cap xs _ ha).mono ?_
 rintro e w' ⟨rfl,rfl⟩
 go_wp2_with fail
 refine(zb0 b cbp ys _ hb).mono ?_
 rintro e w' ⟨rfl,rfl⟩
 clear ha hb
 have HV:Hid (V (strip xs)=V xs/\V (strip ys)=V ys):=⟨zap xs,zap ys⟩
 generalize strip xs=X at Xr lx HV tX ⊢
 generalize strip ys=Y at Yr ly HV tY ⊢
 have hx2:=Xr.cap
 have hx1:=Xr.le
 have hy2:=Yr.cap
 have hy1:=Yr.le
 unfold maxLen at hx2 hy2
 by_cases h0:Y.length=0
 . have hY0:V ys=0:=by rw[<-HV.out.2,List.length_eq_zero_iff.1 h0];rfl
   have HY0:Hid (V ys=0):=hY0
   have hq:((Y.length:Int)==0)=true:=beq_iff_eq.2 (by omega)
   have H0:Hid (Y.length=0):=h0
   clear hY0 h0;go_wp2
   go_ret2
   refine⟨some ⟨w.heap.size,0,none⟩,0,[],some ⟨w.heap.size+1,0,none⟩,0,[],rfl,by rw[HY0.out,Nat.div_zero];rfl,by rw[zrt _ HY0.out];rfl,zjz,zjz,?_,?_,?_⟩
   . exact⟨Lim.nil,(World.ownsRow_made w #[] 0 (Nat.le_refl _) (Nat.zero_le _) rfl).alloc _⟩
   . have:=World.ownsRow_made (e:=250) (size:=1) (base:=w.heap.size) (w.alloc (.cells #[] 250)) #[] 0 (by simp) (Nat.zero_le _) rfl
     simp at this
     exact⟨Lim.nil,by simpa using this⟩
   . exact((Below.refl _ _).alloc (Nat.le_refl _) _).alloc (by simp) _
 . have hq:((Y.length:Int)==0)=false:=beq_eq_false_iff_ne.2 (by omega)
   have z42:0<V ys:=by
    rw[<-HV.out.2]
    rcases Nat.eq_zero_or_pos (V Y)with h|h
    . exact absurd (by rw[zc0 tY h];rfl) h0
    . exact h
   have HYP:Hid (0<V ys):=z42
   clear z42
   go_wp2_with fail
   refine(zjk _ _ _ _ _ _ _ Xr Yr).mono ?_
   rintro e w1 ⟨rfl,hb1⟩;rw[HV.out.1,HV.out.2]
   have Xr1:=Xr.below hb1
   have Yr1:=Yr.below hb1
   have hs1:=hb1.size
   clear Xr Yr
   by_cases hlt:V xs<V ys
   . have hc:cmpN (V xs) (V ys)=-1:=by simp[cmpN,hlt]
     rw[hc]
     have HL:Hid (V xs<V ys):=hlt
     clear hc hlt
     go_wp2_with fail
     refine(zb2 _ _ X _ (Xr1.below ((Below.refl _ _).alloc (Nat.le_refl _) _)) (by omega)).mono ?_
     rintro e w2 ⟨a2,c2,rfl,hr2,hb2⟩
     have hba:Below w.heap.size w (w1.alloc (.cells #[] 250)):=hb1.alloc hs1 _
     have hbw:Below w.heap.size w w2:=hba.trans (hb2.mono hba.size)
     have hown:(w1.alloc (.cells #[] 250)).ownsRow w1.heap.size 250 1 (.slice (some ⟨w1.heap.size,0,none⟩) 0 0) 0 []:=World.ownsRow_made w1 #[] 0 (Nat.le_refl _) (Nat.zero_le _) rfl
     have hR1:Res 250 w1.heap.size (w1.alloc (.cells #[] 250)) (some ⟨w1.heap.size,0,none⟩) 0 []:=⟨Lim.nil,hown⟩
     have hR1':=hR1.below hb2
     go_wp2
     go_ret2
     refine⟨some ⟨w1.heap.size,0,none⟩,0,[],a2,c2,strip X,rfl,?_,?_,zjz,zav _,hR1'.mono hs1,hr2.mono hba.size,hbw⟩
     . rw[Nat.div_eq_of_lt HL.out];rfl
     . rw[zcw _ HYP.out,Nat.mod_eq_of_lt HL.out,zap,HV.out.1]
   . have hc:0<=cmpN (V xs) (V ys):=by unfold cmpN;rw[if_neg hlt];split <;> omega
     have HL:Hid (V ys<=V xs):=Nat.le_of_not_lt hlt
     generalize cmpN (V xs) (V ys)=cc at hc ⊢
     clear hlt
     by_cases zba:Y.length=1
     . have hone':((Y.length:Int)==1)=true:=beq_iff_eq.2 (by omega)
       obtain⟨y,hy⟩:∃y,Y.getD 0 0=y:=⟨_,rfl⟩
       have hVy:V Y=y:=by rw[V_one zba,hy]
       have hyb:y<4294967296:=by rw[<-hy];exact Yr1.lim.getD 0
       have hyp:1<=y:=by have:=HYP.out;rw[<-HV.out.2,hVy]at this;exact this
       obtain⟨b1,o1,rfl,hb1lt,hcy⟩:=Yr1.fm.at (Below.refl _ _) 0 (by omega)
       rw[hy]at hcy
       have HVY:Hid (V ys=y):=by show _=_;rw[<-HV.out.2,hVy]
       have H1:Hid (Y.length=1):=zba
       have hYl1:(0:Int)<(Y.length:Int):=by omega
       clear zba hy hVy h0
       go_wp2_with fail
       refine(zb2 _ _ X _ Xr1 (by omega)).mono ?_
       rintro e w2 ⟨a2,c2,rfl,hr2,hb2⟩
       have hbw2:Below w.heap.size w w2:=hb1.trans (hb2.mono hs1)
       have hcy2:w2.cell? ⟨b1,o1+0,none⟩=some (.int .u32 (y:Int)):=(hb2.cell (p:=⟨b1,o1+0,none⟩) hb1lt).trans hcy
       have hXs:strip X=X:=tX
       rw[hXs]at hr2 ⊢
       have hs2:=hbw2.size
       rcases hr2.blk with h|⟨g,rfl,hg1,hB2⟩
       . exfalso
         have h1:=HL.out
         rw[<-HV.out.1,h]at h1
         have h2:=HYP.out
         have h3:V []=0:=rfl
         omega
       . have zw7:b1≠g:=by omega
         clear hcy
         simp only[Nat.add_zero]at hcy2
         go_wp2_with fail
         refine(zxy g _ X y _ hB2 hr2.lim hyp hyb (by omega)).mono ?_
         rintro e w3 ⟨cs,r,rfl,hr,hcl,lc,heq,hB3,hg3⟩
         have hbw3:Below w.heap.size w w3:=hbw2.grown hg3 hs2 (fun k hk=>by cases hk;omega)
         have hs3:=hbw3.size
         have hcc1:=hr2.rd.cap
         have hcc2:=hr2.rd.le
         have hrd:=hB3.rd lc 0 X.length c2 (by omega) hcc2 hcc1
         rw[List.drop_zero,List.take_of_length_le (by omega)]at hrd
         have hdm:V cs=V xs/y/\r=V xs%y:=by
          rw[<-HV.out.1,<-heq]
          exact⟨by rw[Nat.mul_comm,Nat.add_comm,Nat.add_mul_div_left _ _ (by omega),Nat.div_eq_of_lt hr,Nat.zero_add],by rw[Nat.mul_comm,Nat.add_comm,Nat.add_mul_mod_self_left,Nat.mod_eq_of_lt hr]⟩
         have HDM:Hid (V cs=V xs/y/\r=V xs%y):=hdm
         have HCL:Hid (cs.length=X.length):=hcl
         clear hdm heq hcl hcc1 hcc2 hr2
         unfold maxLen at *
         go_wp2_with fail
         refine(zm5 _ _ X.length cs _ HCL.out.symm hrd (by rw[HCL.out];omega)).mono ?_
         rintro e w4 ⟨a4,c4,rfl,hr4,hb4⟩
         have hbw4:Below w.heap.size w w4:=hbw3.trans (hb4.mono hs3)
         have hs4:=hbw4.size
         go_wp2_with fail
         refine(zeh r _ (by omega)).mono ?_
         rintro e w5 ⟨a5,c5,z5,rfl,hv5,ht5,hr5,hb5⟩
         have hbw5:Below w.heap.size w w5:=hbw4.trans (hb5.mono hs4)
         have hr4':=hr4.below hb5
         go_wp2
         go_ret2
         refine⟨a4,c4,strip cs,a5,c5,z5,rfl,?_,?_,zav _,ht5,hr4'.mono hs3,hr5.mono hs4,hbw5⟩
         . rw[zap,HDM.out.1,HVY.out]
         . rw[zcw _ HYP.out,hv5,HDM.out.2,HVY.out]
     . have hone':((Y.length:Int)==1)=false:=beq_eq_false_iff_ne.2 (by omega)
       go_wp2_with fail
       refine(zmd _ _ X _ _ Y _ Xr1 Yr1 tX tY (by omega) (by rw[HV.out.1,HV.out.2];exact HL.out) (by omega) (by omega)).mono ?_
       rintro e w2 ⟨a1,c1,z1,a2,c2,z2,rfl,hv1,hv2,ht1,ht2,hr1,hr2,hb2⟩;go_wp2
       go_ret2
       refine⟨a1,c1,z1,a2,c2,z2,rfl,?_,?_,ht1,ht2,hr1.mono hs1,hr2.mono hs1,hb1.trans (hb2.mono hs1)⟩
       . rw[hv1,HV.out.1,HV.out.2]
       . rw[zcw _ HYP.out,hv2,HV.out.1,HV.out.2]
theorem zi9(x y:Nat):Nat.gcd y (x%y)=Nat.gcd x y:=by
 rw[Nat.gcd_comm x y,Nat.gcd_rec y x,Nat.gcd_comm]
theorem z0r{a b:Int}(h:a=b):Ending.returned (.int .u64 a)=.returned (.int .u64 b):=by rw[h]
theorem zxk(x y:Nat)(w:World)(hx:x<18446744073709551616)(hy:y<18446744073709551616) :
 Calls Tryz.prog 262 #[.int .u64 (x:Int),.int .u64 (y:Int)] w fun e w'=>e=.returned (.int .u64 (Nat.gcd x y:Nat))/\Below w.heap.size w w':=by
 go_enter Tryz.func262,Tryz.ntmps262
 go_wp2
 go_loopw [0,1] (fun a b wr=>∃p q:Nat,a=.int .u64 p/\b=.int .u64 q/\p<18446744073709551616/\q<18446744073709551616/\Nat.gcd p q=Nat.gcd x y/\Below w.heap.size w wr) (fun _ b _=>(intOf b).toNat)
 case atStart=>exact⟨x,y,rfl,rfl,hx,hy,rfl,Below.refl _ _⟩
 case round =>
  obtain⟨p,q,rfl,rfl,hp,hq,hg,hnx⟩:=hrel
  have HG:Hid (Nat.gcd p q=Nat.gcd x y):=hg
  clear hg
  by_cases hq0:q=0
  . subst hq0
    go_wp2
    go_ret
    refine⟨z0r ?_,hnx⟩
    rw[<-HG.out,Nat.gcd_zero_right]
  . have hne:((q:Int) != 0)=true:=by rw[bne_iff_ne];omega
    have hq1:(1:Int)<=(q:Int):=by omega
    have hq2:(0:Int)<=(p:Int):=by omega
    obtain⟨r,hr⟩:∃r,p%q=r:=⟨_,rfl⟩
    have hri:(p:Int)%(q:Int)=(r:Int):=by rw[<-hr];simp
    have hrb:r<q:=by rw[<-hr];exact Nat.mod_lt _ (by omega)
    have HG2:Hid (Nat.gcd q r=Nat.gcd x y):=by show _=_;rw[<-hr,zi9];exact HG.out
    have HRI:Hid ((p:Int)%(q:Int)=(r:Int)):=hri
    clear hr
    go_wp2_with fail
    go_quiet (fail)
    go_wp2
    go_roundw
    case rel=>exact⟨q,r,rfl,congrArg (Value.int .u64) (by first | rfl | exact HRI.out),hq,by omega,HG2.out,below_drewN hnx _⟩
    case measure=>first | (simp[intOf];omega) | (have:=HRI.out;simp[intOf];omega)
theorem zl8(a:OA)(cap:Nat)(xs:LN)(b:OA)(cbp:Nat)(ys:LN)(w:World)(ha:Rd w a cap xs)(hb:Rd w b cbp ys)(hla:xs.length<=400000000)(hlb:ys.length<=400000000) :
 Calls Tryz.prog 209 #[.slice a xs.length cap,.slice b ys.length cbp] w fun e w' =>
     ∃a' cap' zs,e=.returned (.slice a' zs.length cap')/\V zs=Nat.gcd (V xs) (V ys)/\Tr zs/\Res 250 w.heap.size w' a' cap' zs/\Below w.heap.size w w':=by
 go_enter Tryz.func209,Tryz.ntmps209
 go_wp2
 go_loopg [0,1] (V ys) (fun k p q wr=>∃(aA:OA) (cA:Nat) (X:LN) (aB:OA) (cB:Nat) (Y:LN),p=.slice aA X.length cA/\q=.slice aB Y.length cB/\X.length<=400000000/\Y.length<=400000000/\V Y=k/\Rd wr aA cA X/\Rd wr aB cB Y/\Nat.gcd (V X) (V Y)=Nat.gcd (V xs) (V ys)/\Below w.heap.size w wr)
 case atStart=>exact⟨a,cap,xs,b,cbp,ys,rfl,rfl,hla,hlb,rfl,ha,hb,rfl,Below.refl _ _⟩
 case round =>
  obtain⟨aA,cA,X,aB,cB,Y,rfl,rfl,hX,hY,hk,rX,rY,hg,hnx⟩:=hrel
  have HG:Hid (Nat.gcd (V X) (V Y)=Nat.gcd (V xs) (V ys)):=hg
  have HK:Hid (V Y=gk):=hk
  have hsz:=hnx.size
  clear hg hk
  go_wp2_with fail
  refine(zc9 _ _ _ _ rX).mono ?_
  rintro e w' ⟨rfl,rfl⟩
  go_wp2_with fail
  refine(zc9 _ _ _ _ rY).mono ?_
  rintro e w' ⟨rfl,rfl⟩
  by_cases hsY:V Y<18446744073709551616
  . rw[zbk hsY,za9 hsY]
    by_cases hsX:V X<18446744073709551616
    . rw[zbk hsX,za9 hsX]
      obtain⟨vx,hvx⟩:∃vx,V X=vx:=⟨_,rfl⟩
      obtain⟨vy,hvy⟩:∃vy,V Y=vy:=⟨_,rfl⟩
      rw[hvx,hvy];rw[hvx]at hsX;rw[hvy]at hsY
      have HG2:Hid (Nat.gcd vx vy=Nat.gcd (V xs) (V ys)):=by show _=_;rw[<-hvx,<-hvy];exact HG.out
      clear hvx hvy HG
      go_wp2_with fail
      refine(zxk vx vy _ hsX hsY).mono ?_
      rintro e v1 ⟨rfl,hv1⟩
      have hgb:Nat.gcd vx vy<18446744073709551616:=by
       rcases Nat.eq_zero_or_pos vx with h0|h0
       . rw[h0,Nat.gcd_zero_left];exact hsY
       . exact Nat.lt_of_le_of_lt (Nat.gcd_le_left _ h0) hsX
      have hb1:Below w.heap.size w v1:=hnx.trans (hv1.mono hsz)
      obtain⟨gg,hgg⟩:∃gg,Nat.gcd vx vy=gg:=⟨_,rfl⟩
      rw[hgg]at hgb ⊢
      have HGG:Hid (gg=Nat.gcd (V xs) (V ys)):=by show _=_;rw[<-hgg];exact HG2.out
      clear hgg HG2
      go_wp2_with fail
      refine(zeh gg _ hgb).mono ?_
      rintro e v2 ⟨a2,c2,z2,rfl,hz2,ht2,hr2,hb2⟩;go_wp2
      go_ret
      exact⟨a2,c2,z2,rfl,by rw[hz2];exact HGG.out,ht2,hr2.mono hb1.size,hb1.trans (hb2.mono hb1.size)⟩
    . rw[zcl hsX,zb9 hsX]
      by_cases hy0:V Y=0
      . rw[hy0]
        have HY0:Hid (V Y=0):=hy0
        clear hy0 hsY hsX
        go_wp2_with fail
        refine(zb2 _ _ _ _ rX (by omega)).mono ?_
        rintro e v1 ⟨a1,c1,rfl,hr1,hb1⟩;go_wp2
        go_ret
        refine⟨a1,c1,strip X,rfl,?_,zav _,hr1.mono hsz,hnx.trans (hb1.mono hsz)⟩
        rw[zap,<-HG.out,HY0.out,Nat.gcd_zero_right]
      . obtain⟨vy,hvy⟩:∃vy,V Y=vy:=⟨_,rfl⟩
        rw[hvy]at hy0 hsY ⊢
        have hyb:((vy:Int)==0)=false:=beq_eq_false_iff_ne.2 (by omega)
        have HVY:Hid (V Y=vy):=hvy
        clear hvy hsX
        go_wp2_with fail
        refine(zg6 _ _ _ _ _ _ _ rX rY hX hY).mono ?_
        rintro e v1 ⟨a1,c1,z1,a2,c2,z2,rfl,hv1,hv2,ht1,ht2,hr1,hr2,hb1⟩
        have zfy:0<V Y:=by rw[HVY.out];omega
        rw[zcw _ zfy]at hv2
        have hlt:V z2<V Y:=by rw[hv2];exact Nat.mod_lt _ zfy
        have HLT:Hid (V z2<gk):=by show _<_;rw[<-HK.out];exact hlt
        have hl2:z2.length<=Y.length:=by
         rcases Nat.lt_or_ge Y.length z2.length with h|h
         . have:=zat rY.lim ht2 h;omega
         . exact h
        have HG2:Hid (Nat.gcd (V Y) (V z2)=Nat.gcd (V xs) (V ys)):=by show _=_;rw[hv2,zi9];exact HG.out
        have rY':=rY.below hb1
        have r2:=hr2.rd
        have hbw:Below w.heap.size w v1:=hnx.trans (hb1.mono hsz)
        clear hv1 hv2 zfy hlt hr1 hr2;go_wp2
        go_roundg (V z2)
        case measure=>exact HLT.out
        case rel=>exact⟨aB,cB,Y,a2,c2,z2,rfl,rfl,hY,by omega,rfl,rY',r2,HG2.out,hbw⟩
  . rw[zcl hsY,zb9 hsY]
    have HB:Hid (¬V Y<18446744073709551616):=hsY
    clear hsY
    have fin:∀(vx:Nat) (bx:Bool),True:=fun _ _=>trivial
    generalize zho (V X)=sx
    generalize ze3 (V X)=ix
    cases ix
    all_goals
     go_wp2_with fail
     refine(zg6 _ _ _ _ _ _ _ rX rY hX hY).mono ?_
     rintro e v1 ⟨a1,c1,z1,a2,c2,z2,rfl,hv1,hv2,ht1,ht2,hr1,hr2,hb1⟩
     have zfy:0<V Y:=by have:=HB.out;omega
     rw[zcw _ zfy]at hv2
     have hlt:V z2<V Y:=by rw[hv2];exact Nat.mod_lt _ zfy
     have HLT:Hid (V z2<gk):=by show _<_;rw[<-HK.out];exact hlt
     have hl2:z2.length<=Y.length:=by
      rcases Nat.lt_or_ge Y.length z2.length with h|h
      . have:=zat rY.lim ht2 h;omega
      . exact h
     have HG2:Hid (Nat.gcd (V Y) (V z2)=Nat.gcd (V xs) (V ys)):=by show _=_;rw[hv2,zi9];exact HG.out
     have rY':=rY.below hb1
     have r2:=hr2.rd
     have hbw:Below w.heap.size w v1:=hnx.trans (hb1.mono hsz)
     clear hv1 hv2 zfy hlt hr1 hr2;go_wp2
     go_roundg (V z2)
     case measure=>exact HLT.out
     case rel=>exact⟨aB,cB,Y,a2,c2,z2,rfl,rfl,hY,by omega,rfl,rY',r2,HG2.out,hbw⟩
open Classical
def Fmd(n:Bool)(xs ys:LN):Prop:=Tr xs/\Tr ys/\ys≠[]/\¬(n=true/\xs=[])/\Nat.gcd (V xs) (V ys)=1
theorem z3u{xs:LN}(h:xs≠[]):Tr xs↔xs.getD (xs.length-1) 0≠0:=by
 refine⟨fun t=>t.last h,fun h0=>?_⟩
 have hl:0<xs.length:=List.length_pos_iff.2 h
 have e:=zc8 xs (xs.length-1) (by omega) h0
 rw[show xs.length-1+1=xs.length by omega,List.take_length]at e
 exact e
theorem zyg{xs:LN}(l:Lim xs)(t:Tr xs):V xs=1↔xs=[1]:=by
 refine⟨fun h=>uniq l (by intro x hx;simp at hx;omega) t (by unfold Tr;rfl) (by rw[h];rfl),fun h=>by rw[h];rfl⟩
theorem zgf(a:OA)(cap:Nat)(xs:LN)(w:World)(h:Rd w a cap xs) :
 Calls Tryz.prog 260 #[.slice a xs.length cap] w fun e w'=>e=.returned (.bool (decide (Tr xs)))/\w=w':=by
 have k1:=h.le
 have k2:=h.cap
 unfold maxLen at k2
 by_cases h0:xs=[]
 . subst h0
   go_enter Tryz.func260,Tryz.ntmps260
   go_wp2
   go_ret
   exact⟨za2 (by simp[zjz]),rfl⟩
 . have hl:0<xs.length:=List.length_pos_iff.2 h0
   obtain⟨b,off,rfl,hb,hc⟩:=h.fm.at (Below.refl _ _) (xs.length-1) (by omega)
   obtain⟨m,hm⟩:∃m,xs.length=m+1:=⟨xs.length-1,by omega⟩
   have ht:=z3u h0
   rw[hm]at ht hc k1 ⊢
   simp only[Nat.add_sub_cancel]at ht hc
   generalize xs.getD m 0=z at ht hc
   clear h hl hm
   have g1:((m:Int)+1==0)=false:=beq_eq_false_iff_ne.2 (by omega)
   have g2:((z:Int) != 0)=decide (Tr xs):=by
    by_cases hz:z=0
    . subst hz;simp[ht]
    . simp[ht,hz]
   go_enter Tryz.func260,Tryz.ntmps260
   go_wp2
   go_ret
   exact⟨za2 (by simp[g1,ht];try omega),rfl⟩
theorem zs5(a:OA)(cap:Nat)(xs:LN)(w:World)(h:Rd w a cap xs) :
 Calls Tryz.prog 261 #[.slice a xs.length cap] w fun e w'=>e=.returned (.bool (decide (xs=[1])))/\w=w':=by
 have k1:=h.le
 have k2:=h.cap
 unfold maxLen at k2
 by_cases h0:xs.length=1
 . match xs,h0 with
   | [z],_ =>
    obtain⟨b,off,rfl,hb,hc⟩:=h.fm.at (Below.refl _ _) 0 (by simp)
    simp at hc
    clear h h0
    simp only[List.length_cons,List.length_nil]
    go_enter Tryz.func261,Tryz.ntmps261
    go_wp2
    go_ret
    exact⟨za2 (by by_cases hz:z=1 <;> simp[hz];omega),rfl⟩
 . have hx:xs≠[1]:=by intro e;rw[e]at h0;simp at h0
   have g1:((xs.length:Int)==1)=false:=beq_eq_false_iff_ne.2 (by omega)
   generalize xs.length=m at *
   go_enter Tryz.func261,Tryz.ntmps261
   go_wp2
   go_ret
   exact⟨za2 (by simp[hx,h0];try omega),rfl⟩
theorem zpy(n:Bool)(a:OA)(c:Nat)(xs:LN)(a':OA)(c':Nat)(ys:LN)(w:World)(hx:Rd w a c xs)(hy:Rd w a' c' ys)(lx:xs.length<=400000000)(ly:ys.length<=400000000) :
 Calls Tryz.prog 208 #[.agg #[.bool n,.slice a xs.length c,.slice a' ys.length c']] w fun e w'=>e=.returned (.bool (decide (Fmd n xs ys)))/\Below w.heap.size w w':=by
 go_enter Tryz.func208,Tryz.ntmps208
 go_wp2_with fail
 refine(zgf _ _ _ _ (hx.below ((Below.refl _ _).alloc (Nat.le_refl _) _))).mono ?_
 rintro e u ⟨rfl,rfl⟩
 by_cases tx:Tr xs
 . have e1:decide (Tr xs)=true:=decide_eq_true tx
   rw[e1];clear e1
   go_wp2_with fail
   refine(zgf _ _ _ _ (hy.below ((Below.refl _ _).alloc (Nat.le_refl _) _))).mono ?_
   rintro e u ⟨rfl,rfl⟩
   by_cases ty:Tr ys
   . have e1:decide (Tr ys)=true:=decide_eq_true ty
     rw[e1];clear e1
     by_cases hy0:ys=[]
     . subst hy0
       go_wp2
       go_ret
       exact⟨za2 (by simp[Fmd]),(Below.refl _ _).alloc (Nat.le_refl _) _⟩
     . have hyl:0<ys.length:=List.length_pos_iff.2 hy0
       have g1:((ys.length:Int)==0)=false:=beq_eq_false_iff_ne.2 (by omega)
       have key:(n=true/\xs=[])\/((n=true->xs.length≠0)):=by
        by_cases h1:n=true/\xs=[]
        . exact .inl h1
        . exact .inr fun hn h2=>h1 ⟨hn,List.length_eq_zero_iff.1 h2⟩
       rcases key with ⟨rfl,rfl⟩|h1
       . go_wp2
         go_ret
         exact⟨za2 (by simp[Fmd]),(Below.refl _ _).alloc (Nat.le_refl _) _⟩
       . have fin:∀(W:World),Below w.heap.size w W->∀a1 c1 (zs:LN),Rd W a1 c1 zs->V zs=Nat.gcd (V xs) (V ys)->Tr zs ->
             Calls Tryz.prog 261 #[.slice a1 zs.length c1] W fun e w'=>e=.returned (.bool (decide (Fmd n xs ys)))/\Below w.heap.size w w':=by
          intro W hb a1 c1 zs hr hv ht
          refine(zs5 _ _ _ _ hr).mono ?_
          rintro e u ⟨rfl,rfl⟩
          refine⟨za2 ?_,hb⟩
          have hiff:zs=[1]↔Fmd n xs ys:=by
           rw[<-zyg hr.lim ht,hv]
           refine⟨fun h=>⟨tx,ty,hy0,fun⟨hn,hx0⟩=>h1 hn (by rw[hx0];rfl),h⟩,fun h=>h.2.2.2.2⟩
          by_cases hz:zs=[1] <;> simp[hz,<-hiff]
         cases n with
         | false =>
          go_wp2_with fail
          refine(zl8 _ _ _ _ _ _ _ (hx.below ((Below.refl _ _).alloc (Nat.le_refl _) _)) (hy.below ((Below.refl _ _).alloc (Nat.le_refl _) _)) lx ly).mono ?_
          rintro e u ⟨a1,c1,zs,rfl,hv,ht,hr,hb⟩
          have hb':Below w.heap.size w u:=((Below.refl _ _).alloc (Nat.le_refl _) _).trans (hb.mono (by simp))
          go_wp2_with fail
          refine(fin _ hb' _ _ _ hr.rd hv ht).mono ?_
          rintro e u2 ⟨rfl,hb2⟩;go_wp2
          go_ret
          exact⟨rfl,hb2⟩
         | true =>
          have g2:((xs.length:Int)==0)=false:=beq_eq_false_iff_ne.2 (by have:=h1 rfl;omega)
          go_wp2_with fail
          refine(zl8 _ _ _ _ _ _ _ (hx.below ((Below.refl _ _).alloc (Nat.le_refl _) _)) (hy.below ((Below.refl _ _).alloc (Nat.le_refl _) _)) lx ly).mono ?_
          rintro e u ⟨a1,c1,zs,rfl,hv,ht,hr,hb⟩
          have hb':Below w.heap.size w u:=((Below.refl _ _).alloc (Nat.le_refl _) _).trans (hb.mono (by simp))
          go_wp2_with fail
          refine(fin _ hb' _ _ _ hr.rd hv ht).mono ?_
          rintro e u2 ⟨rfl,hb2⟩;go_wp2
          go_ret
          exact⟨rfl,hb2⟩
   . have e1:decide (Tr ys)=false:=decide_eq_false ty
     rw[e1];go_wp2
     go_ret
     exact⟨za2 (by simp[Fmd,ty]),(Below.refl _ _).alloc (Nat.le_refl _) _⟩
 . have e1:decide (Tr xs)=false:=decide_eq_false tx
   rw[e1];go_wp2
   go_ret
   exact⟨za2 (by simp[Fmd,tx]),(Below.refl _ _).alloc (Nat.le_refl _) _⟩
def sg(n:Bool)(k:Nat):Int:=if n=true then -(k:Int)else (k:Int)
def qv(n:Bool)(xs ys:LN):Rat:=mkRat (sg n (V xs)) (V ys)
def Rt(w:World)(v:Value)(n:Bool)(xs ys:LN):Prop :=
 ∃a c a' c',v=.agg #[.bool n,.slice a xs.length c,.slice a' ys.length c']/\Rd w a c xs/\Rd w a' c' ys
def Fr(w:World)(v:Value)(k:Nat)(q:Rat):Prop:=∃n xs ys,Rt w v n xs ys/\Fmd n xs ys/\xs.length<=k/\ys.length<=k/\qv n xs ys=q
def Ct(w:World)(v:Value)(k:Nat)(q:Rat):Prop:=∃n xs ys,Rt w v n xs ys/\xs.length<=k/\ys.length<=k/\q=if Fmd n xs ys then qv n xs ys else 0
def Lo(w:World)(v:Value)(k:Nat)(q:Rat):Prop:=∃n xs ys,Rt w v n xs ys/\Tr xs/\Tr ys/\V ys≠0/\xs.length<=k/\ys.length<=k/\qv n xs ys=q
theorem Rt.below{w w':World}{v:Value}{n:Bool}{xs ys:LN}(h:Rt w v n xs ys)(hb:Below w.heap.size w w'):Rt w' v n xs ys:=by
 obtain⟨a,c,a',c',rfl,h1,h2⟩:=h
 exact⟨a,c,a',c',rfl,h1.below hb,h2.below hb⟩
theorem Fr.below{w w':World}{v:Value}{k:Nat}{q:Rat}(h:Fr w v k q)(hb:Below w.heap.size w w'):Fr w' v k q:=by
 obtain⟨n,xs,ys,h1,h2⟩:=h
 exact⟨n,xs,ys,h1.below hb,h2⟩
theorem Ct.below{w w':World}{v:Value}{k:Nat}{q:Rat}(h:Ct w v k q)(hb:Below w.heap.size w w'):Ct w' v k q:=by
 obtain⟨n,xs,ys,h1,h2⟩:=h
 exact⟨n,xs,ys,h1.below hb,h2⟩
theorem Lo.below{w w':World}{v:Value}{k:Nat}{q:Rat}(h:Lo w v k q)(hb:Below w.heap.size w w'):Lo w' v k q:=by
 obtain⟨n,xs,ys,h1,h2⟩:=h
 exact⟨n,xs,ys,h1.below hb,h2⟩
theorem zmz{ys:LN}(t:Tr ys)(h:ys≠[]):V ys≠0:=fun h0=>h (zc0 t h0)
theorem Fmd.den{n:Bool}{xs ys:LN}(h:Fmd n xs ys):V ys≠0:=zmz h.2.1 h.2.2.1
theorem Fr.lo{w:World}{v:Value}{k:Nat}{q:Rat}(h:Fr w v k q):Lo w v k q:=by
 obtain⟨n,xs,ys,h1,h2,h3⟩:=h
 exact⟨n,xs,ys,h1,h2.1,h2.2.1,h2.den,h3⟩
theorem Fr.ct{w:World}{v:Value}{k:Nat}{q:Rat}(h:Fr w v k q):Ct w v k q:=by
 obtain⟨n,xs,ys,h1,h2,h3,h4,h5⟩:=h
 exact⟨n,xs,ys,h1,h3,h4,by rw[if_pos h2,h5]⟩
theorem Fr.le{w:World}{v:Value}{k k':Nat}{q:Rat}(h:Fr w v k q)(hk:k<=k'):Fr w v k' q:=by
 obtain⟨n,xs,ys,h1,h2,h3,h4,h5⟩:=h
 exact⟨n,xs,ys,h1,h2,by omega,by omega,h5⟩
theorem Fr.eq{w:World}{v:Value}{k:Nat}{q r:Rat}(h:Fr w v k q)(e:q=r):Fr w v k r:=e ▸ h
theorem zrh(n:Bool)(k:Nat):(sg n k).natAbs=k:=by unfold sg;split <;> simp
theorem zrg(n:Bool):sg n 0=0:=by unfold sg;split <;> rfl
theorem zma{n:Bool}{xs ys ps qs:LN}(hy:V ys≠0)(tp:Tr ps)(tq:Tr qs)(hp:V ps=V xs/Nat.gcd (V xs) (V ys))(hq:V qs=V ys/Nat.gcd (V xs) (V ys)) :
 Fmd (n&&decide (0<ps.length)) ps qs/\qv (n&&decide (0<ps.length)) ps qs=qv n xs ys:=by
 have g0:0<Nat.gcd (V xs) (V ys):=Nat.gcd_pos_of_pos_right _ (by omega)
 generalize hg:Nat.gcd (V xs) (V ys)=g at *
 have d1:g ∣ V xs:=hg ▸ Nat.gcd_dvd_left _ _
 have d2:g ∣ V ys:=hg ▸ Nat.gcd_dvd_right _ _
 obtain⟨x,hx⟩:=d1;obtain⟨y,hyy⟩:=d2;rw[hx,Nat.mul_div_cancel_left _ g0]at hp;rw[hyy,Nat.mul_div_cancel_left _ g0]at hq
 have hy0:y≠0:=by rintro rfl;simp at hyy;exact hy hyy
 have hco:Nat.gcd x y=1:=by
  have h1:=hg
  rw[hx,hyy,Nat.gcd_mul_left]at h1
  exact Nat.eq_of_mul_eq_mul_left g0 (by omega)
 have hq0:qs≠[]:=by rintro rfl;simp[V]at hq;omega
 have hpl:decide (0<ps.length)=decide (x≠0):=by
  by_cases h0:x=0
  . have:ps=[]:=zc0 tp (by omega)
    simp[this,h0]
  . have:ps≠[]:=by rintro rfl;simp[V]at hp;omega
    simp[h0,List.length_pos_iff,this]
 refine⟨⟨tp,tq,hq0,?_,by rw[hp,hq];exact hco⟩,?_⟩
 . rintro ⟨h1,rfl⟩
   simp at h1
 . rw[hpl]
   unfold qv
   rw[hp,hq,hx,hyy,Rat.mkRat_eq_iff hy0 (by have:=Nat.mul_pos g0 (show 0<y by omega);omega)]
   by_cases h0:x=0
   . subst h0;simp[zrg]
   . cases n <;> simp[sg,h0] <;> grind
