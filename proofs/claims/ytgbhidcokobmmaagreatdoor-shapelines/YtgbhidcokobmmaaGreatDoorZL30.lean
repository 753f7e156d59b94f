import Derived.Test.YtgbhidcokobmmaaGreatDoorZL29
set_option maxHeartbeats 4000000
set_option maxRecDepth 100000
set_option linter.unusedSimpArgs false
set_option linter.unusedVariables false
namespace Go.Proofs.YtgbhidcokobmmaaGreatDoor
open Go.RowKit
theorem zm1{A B la lb n:Nat}(ha:A<2 ^ la)(hb:2 ^ (lb-1)<=B)(hlb:1<=lb)(hn:la-lb<=n):A<B*2 ^ (n+1):=by
 have h1:2 ^ (lb-1)*2 ^ (n+1)<=B*2 ^ (n+1):=Nat.mul_le_mul_right _ hb
 rw[<-Nat.pow_add]at h1
 have h2:2 ^ la<=2 ^ (lb-1+(n+1)):=Nat.pow_le_pow_right (by decide) (by omega)
 omega
theorem zp2{Q:List Nat}(lQ:Lim Q){i:Nat}(h:V Q%2 ^ (i+1)=0):Q.getD (i/32) 0+2 ^ (i%32)<4294967296:=by
 have e:=zb8 Q (i/32)
 have hd:=zbb (Q.drop (i/32))
 have hg:(Q.drop (i/32)).getD 0 0=Q.getD (i/32) 0:=by simp[List.getD]
 rw[hg]at hd
 have hl:V (Q.take (i/32))<4294967296 ^ (i/32):=by rw[zcj];exact Sv_lt (fun j _=>lQ.getD j)
 have hx:=lQ.getD (i/32)
 have hp:2 ^ (i+1)=4294967296 ^ (i/32)*2 ^ (i%32+1):=by rw[zgh,<-Nat.pow_add];congr 1;omega
 have hP:0<4294967296 ^ (i/32):=Nat.pow_pos (by decide)
 obtain⟨t,ht⟩:=Nat.dvd_of_mod_eq_zero h
 have h1:V (Q.drop (i/32))=2 ^ (i%32+1)*t:=by
  have:V Q/4294967296 ^ (i/32)=V (Q.drop (i/32)):=by rw[e,Nat.add_mul_div_left _ _ hP,Nat.div_eq_of_lt hl,Nat.zero_add]
  rw[<-this,ht,hp,Nat.mul_assoc,Nat.mul_div_cancel_left _ hP]
 have h32:(4294967296:Nat)=2 ^ (i%32+1)*2 ^ (31-i%32):=by rw[<-Nat.pow_add,show i%32+1+(31-i%32)=32 by omega]
 have hS:0<2 ^ (i%32):=Nat.pow_pos (by decide)
 generalize Q.getD (i/32) 0=x at *
 generalize V (Q.drop (i/32)).tail=T at *
 have h2:x%2 ^ (i%32+1)=0:=by
  have h3:(x+4294967296*T)%2 ^ (i%32+1)=0:=by rw[<-hd,h1,Nat.mul_mod_right]
  rw[h32,Nat.mul_assoc,Nat.add_mul_mod_self_left]at h3
  exact h3
 obtain⟨u,hu⟩:=Nat.dvd_of_mod_eq_zero h2
 rw[h32]at hx ⊢
 rw[Nat.pow_succ]at *
 generalize 2 ^ (i%32)=S at *
 generalize 2 ^ (31-i%32)=R at *
 rw[hu]at hx ⊢
 have hur:u<R:=Nat.lt_of_mul_lt_mul_left hx
 have h4:S*2*(u+1)<=S*2*R:=Nat.mul_le_mul_left _ hur
 rw[Nat.mul_add,Nat.mul_one]at h4
 omega
theorem zrq{Q:List Nat}{j d:Nat}(h:j<Q.length):V (Q.set j (Q.getD j 0+d))=V Q+4294967296 ^ j*d:=by
 have e1:=zb8 (Q.set j (Q.getD j 0+d)) j
 have e2:=zb8 Q j
 rw[zey,za6 _ _ _ h,List.drop_set_of_lt (by omega),List.take_set_of_le (by omega)]at e1
 rw[zey Q j]at e2;rw[e1,e2]
 generalize 4294967296 ^ j=p
 grind
theorem zo1{R B A Qv i:Nat}(hinv:R+B*Qv=A)(hge:B*2 ^ i<=R):(R-B*2 ^ i)+B*(Qv+2 ^ i)=A:=by
 rw[Nat.mul_add];omega
theorem zo2{R B i:Nat}(h:R<B*2 ^ (i+1))(hge:B*2 ^ i<=R):R-B*2 ^ i<B*2 ^ i:=by
 rw[Nat.pow_succ,<-Nat.mul_assoc]at h;omega
theorem zpq{v i:Nat}(h:v%2 ^ (i+1)=0):v%2 ^ i=0:=by
 obtain⟨t,ht⟩:=Nat.dvd_of_mod_eq_zero h
 rw[ht,Nat.pow_succ,Nat.mul_assoc,Nat.mul_mod_right]
theorem zj3{v i:Nat}(h:v%2 ^ (i+1)=0):(v+2 ^ i)%2 ^ i=0:=by
 rw[Nat.add_mod_right];exact zpq h
theorem Res.addr{e:TypeId}{base:Nat}{w:World}{a:Option Addr}{cap:Nat}{xs:List Nat}(h:Res e base w a cap xs)(g o:Nat)(ha:a=some ⟨g,o,none⟩):base<=g/\g<w.heap.size:=by
 rcases h.2.2 with ⟨h0,_⟩|⟨g',cap',cur,h1,h2,h3,_⟩
 . rw[ha]at h0;cases h0
 . rw[ha]at h1
   simp at h1
   rw[h1.1.1]
   exact⟨h2,(Array.getElem?_eq_some_iff.1 h3).1⟩
theorem Res.set_other{e:TypeId}{base k:Nat}{w:World}{a:Option Addr}{cap:Nat}{xs:List Nat}(h:Res e base w a cap xs)(hne:∀g o,a=some ⟨g,o,none⟩->g≠k)(i:Nat)(v:Value):Res e base (w.setCell ⟨k,i,none⟩ v) a cap xs:=by
 refine⟨h.1,h.2.1,?_⟩
 rcases h.2.2 with h0|⟨g,cap',cur,h1,h2,h3,h4⟩
 . exact .inl h0
 . have hg:g≠k:=hne g 0 (by simp at h1;exact h1.1)
   exact .inr ⟨g,cap',cur,h1,h2,(Below.heap_setCell w ⟨k,i,none⟩ v g hg).trans h3,h4⟩
theorem zvj(a:Option Addr)(cap n:Nat)(xs:List Nat)(w:World)(hn:n=xs.length)(h:Rd w a cap xs)(hl:xs.length<=1000000000) :
 Calls Tryz.prog 222 #[.slice a n cap] w fun e w'=>∃a' cap',e=.returned (.slice a' (strip xs).length cap')/\Res 211 w.heap.size w' a' cap' (strip xs)/\Below w.heap.size w w':=by
 subst hn;exact zbw a cap xs w h hl
theorem ze1(a:Option Addr)(cap:Nat)(xs:List Nat)(b:Option Addr)(cbp:Nat)(ys:List Nat)(w:World)(ha:Rd w a cap xs)(hb:Rd w b cbp ys)(hla:xs.length<=10000000)(hlb:ys.length<=10000000) :
 Calls Tryz.prog 202 #[.slice a xs.length cap,.slice b ys.length cbp] w fun e w' =>
     ∃a1 c1 z1 a2 c2 z2,e=.returned (.tuple #[.slice a1 z1.length c1,.slice a2 z2.length c2])/\V z1=V xs/V ys/\V z2=remN (V xs) (V ys)/\Tr z1/\Tr z2/\Res 211 w.heap.size w' a1 c1 z1/\Res 211 w.heap.size w' a2 c2 z2/\Below w.heap.size w w':=by
 obtain⟨i0,hi,hz0,hz1,hz2⟩:=info_parts za3
 go_enter Tryz.func202,Tryz.ntmps202
 go_wp2_with fail
 refine(zbw _ _ xs _ ha (by omega)).mono ?_
 rintro e w1 ⟨aR,cR,rfl,hR1,hb1⟩
 have hs1:=hb1.size
 have ha1:=ha.below hb1
 have hb1r:=hb.below hb1
 have lx:=ha.lim
 have ly:=hb.lim
 clear ha
 go_wp2_with fail
 refine(zg7 _ _ ys _ hb1r (by omega)).mono ?_
 rintro e w' ⟨lb,rfl,zuq,zwl,hlb3,rfl⟩
 by_cases hlb0:lb=0
 . subst hlb0
   have hY0:V ys=0:=by simpa using zwl
   have HY0:Hid (V ys=0):=hY0
   clear hY0 zwl hlb3;go_wp2
   go_ret2
   exact⟨none,0,[],none,0,[],rfl,by rw[HY0.out,Nat.div_zero];rfl,by rw[zii _ HY0.out];rfl,zcq,zcq,⟨Lim.nil,World.ownsRow_nil _ _ _ _⟩,⟨Lim.nil,World.ownsRow_nil _ _ _ _⟩,hb1⟩
 . have hq:((lb:Int)==0)=false:=beq_eq_false_iff_ne.2 (by omega)
   have HLB:Hid (2 ^ (lb-1)<=V ys):=hlb3 (by omega)
   clear zwl hlb3
   go_wp2_with fail
   refine(zg7 _ _ xs _ ha1 (by omega)).mono ?_
   rintro e w' ⟨la,rfl,hla1,hla2,_,rfl⟩
   have HLA:Hid (V xs<2 ^ la):=hla2
   clear hla2
   go_wp2_with fail
   refine(zg7 _ _ ys _ hb1r (by omega)).mono ?_
   rintro e w' ⟨lb',rfl,hlb1',zwk,zyw,rfl⟩
   have zdf:0<V ys:=Nat.lt_of_lt_of_le (Nat.pow_pos (by decide)) HLB.out
   have zyx:1<=lb':=by
    rcases Nat.eq_zero_or_pos lb' with h|h
    . rw[h]at zwk;simp at zwk;omega
    . exact h
   obtain⟨n,hn⟩:∃n,la-lb'=n:=⟨_,rfl⟩
   have hmx:max ((la:Int)-(lb':Int)) 0=(n:Int):=by omega
   have hnb:n<=320000000:=by omega
   have HST:Hid (V xs<V ys*2 ^ (n+1)):=zm1 HLA.out (zyw zyx) zyx (by omega)
   have zzw:Hid (0<V ys):=zdf
   have HN32:Hid (n<=32*xs.length):=by show _<=_;omega
   clear zdf zwk zyw hn HLB HLA
   go_wp2_with (at_make;refine wpList_make_full _ rfl _ _ 159 rfl w1.heap.size 211 i0 (.int .u32 0) 1 Tryz.underlying159 hi hz0 hz1 _ _ _ _ (n/32+1) rfl rfl (by omega) (by omega) (by rw[hz2];omega) (by unfold maxLen;omega) (Nat.le_refl _) ?_)
   intro u0 zcm zbo
   have hb0:Below w1.heap.size w1 u0:=(Below.refl _ _).grown zbo (Nat.le_refl _) (fun k h=>by cases h)
   have hB0:=ze5 zcm
   have hR0:=hR1.below hb0
   have hbw0:Below w.heap.size w u0:=hb1.trans (hb0.mono hs1)
   have zy3:∀g o,aR=some ⟨g,o,none⟩->g≠w1.heap.size:=fun g o e=>by have:=(hR1.addr g o e).2;omega
   have HAD:Hid (∀g o,aR=some ⟨g,o,none⟩->g≠w1.heap.size):=zy3
   have HVS:Hid (V (strip xs)=V xs):=zaj xs
   have tX:=zak xs
   clear zcm zbo hmx zy3
   generalize strip xs=X at hR0 hR1 HVS tX ⊢
   go_wp2
   go_loopw [6,9] (fun rv i wr=>∃(k:Nat) (q:Int) (aR:Option Addr) (cR:Nat) (R Q:List Nat),k<=n+1/\q=(k:Int)-1/\i=.int .i64 q/\rv=.slice aR R.length cR/\Tr R/\Res 211 w.heap.size wr aR cR R/\(∀g o,aR=some ⟨g,o,none⟩->g≠w1.heap.size) /\
       Q.length=n/32+1/\Lim Q/\Blk 211 wr w1.heap.size Q/\V R+V ys*V Q=V xs/\V R<V ys*2 ^ k/\V Q%2 ^ k=0/\Below w.heap.size w wr) (fun _ i _=>(intOf i+1).toNat)
   case atStart =>
    exact⟨n+1,_,aR,cR,X,List.replicate (n/32+1) 0,Nat.le_refl _,by omega,rfl,rfl,tX,hR0,HAD.out,List.length_replicate,fun x hx=>by rw[List.eq_of_mem_replicate hx];decide,hB0,by rw[zk2,Nat.mul_zero,Nat.add_zero];exact HVS.out,by rw[HVS.out];exact HST.out,by rw[zk2,Nat.zero_mod],hbw0⟩
   case round =>
    obtain⟨k,q,aR',cR',R,Q,hk,hqk,rfl,rfl,tR,hR,hadr,hQl,lQ,hB,hinv,zyv,zxo,hnx⟩:=hrel
    have HI:Hid (V R+V ys*V Q=V xs):=hinv
    have HL:Hid (V R<V ys*2 ^ k):=zyv
    have HM:Hid (V Q%2 ^ k=0):=zxo
    have HQ:Hid (Q.length=n/32+1):=hQl
    have HA:Hid (∀g o,aR'=some ⟨g,o,none⟩->g≠w1.heap.size):=hadr
    have hsz:=hnx.size
    have hRl:R.length<=xs.length:=zah tR (Nat.lt_of_le_of_lt (by omega) (V_lt lx))
    clear hinv zyv zxo hQl hadr
    by_cases hk0:k=0
    . subst hk0
      obtain rfl:q=-1:=by omega
      clear hqk
      have hr:=hB.rd lQ 0 (n/32+1) (n/32+1) (by rw[HQ.out];omega) (Nat.le_refl _) (by unfold maxLen;omega)
      rw[List.drop_zero,List.take_of_length_le (by rw[HQ.out];exact Nat.le_refl _)]at hr
      go_wp2_with fail
      refine(zvj _ _ (n/32+1) Q _ HQ.out.symm hr (by rw[HQ.out];omega)).mono ?_
      rintro e v1 ⟨a1,c1,rfl,hr1,hv1⟩
      have hbv:Below w.heap.size w v1:=hnx.trans (hv1.mono hsz)
      have hR':=hR.below hv1
      go_wp2
      go_ret2
      have hl:=HL.out
      rw[Nat.pow_zero,Nat.mul_one]at hl
      have hi1:=HI.out
      refine⟨a1,c1,strip Q,aR',cR',R,rfl,?_,?_,zak _,tR,hr1.mono hsz,hR',hbv⟩
      . rw[zaj,<-hi1,Nat.add_mul_div_left _ _ zzw.out,Nat.div_eq_of_lt hl,Nat.zero_add]
      . rw[zbm _ zzw.out,<-hi1,Nat.add_mul_mod_self_left,Nat.mod_eq_of_lt hl]
    . obtain⟨j,rfl⟩:∃j,k=j+1:=⟨k-1,by omega⟩
      obtain rfl:q=(j:Int):=by omega
      clear hqk
      go_wp2_with fail
      refine(zvh _ _ ys j _ (hb.below hnx) (by omega) (by omega)).mono ?_
      rintro e v1 ⟨ax,cx,x,rfl,hxv,hxt,hxr,hv1⟩
      have zi1:Below w.heap.size w v1:=hnx.trans (hv1.mono hsz)
      have hR':=hR.below hv1
      have hB':=hB.below hv1
      have hxl:x.length<=ys.length+xs.length:=by
       refine zah hxt ?_
       have h1:2 ^ j<=4294967296 ^ xs.length:=by rw[zgh];exact Nat.pow_le_pow_right (by decide) (by have:=HN32.out;omega)
       rw[hxv,Nat.pow_add]
       calc V ys*2 ^ j<=V ys*4294967296 ^ xs.length:=Nat.mul_le_mul_left _ h1
        _<4294967296 ^ ys.length*4294967296 ^ xs.length:=Nat.mul_lt_mul_of_pos_right (V_lt ly) (Nat.pow_pos (by decide))
      have HXV:Hid (V x=V ys*2 ^ j):=hxv
      clear hxv hR hB
      go_wp2_with fail
      refine(zdr _ _ _ _ _ _ _ hR'.rd hxr.rd).mono ?_
      rintro e v2 ⟨rfl,rfl⟩
      by_cases hge:V x<=V R
      . have hc:0<=cmpN (V R) (V x):=by unfold cmpN;rw[if_neg (by omega)];split <;> omega
        generalize cmpN (V R) (V x)=cc at hc ⊢
        have HGE:Hid (V ys*2 ^ j<=V R):=by show _<=_;rw[<-HXV.out];exact hge
        clear hge
        go_wp2_with fail
        refine(zg4 _ _ _ _ _ _ _ hR'.rd hxr.rd (by omega) (by omega)).mono ?_
        rintro e v2 ⟨a2,c2,R2,rfl,hv2,ht2,hr2,hb2⟩
        have zh3:Below w.heap.size w v2:=zi1.trans (hb2.mono zi1.size)
        have hB2:=hB'.below hb2
        have hBlt:=hB'.lt
        have HR2:Hid (V R2=V R-V ys*2 ^ j):=by show _=_;rw[hv2,HXV.out]
        have HA2:Hid (∀g o,a2=some ⟨g,o,none⟩->g≠w1.heap.size):=fun g o e=>by have:=(hr2.addr g o e).1;omega
        have hroom:=zp2 lQ HM.out
        have c2':=hB2.cell (j/32) (by rw[HQ.out];omega)
        have c3:=hB2.frozen (j/32)
        obtain⟨y,hy⟩:∃y,Q.getD (j/32) 0=y:=⟨_,rfl⟩
        obtain⟨S,hS⟩:∃S,2 ^ (j%32)=S:=⟨_,rfl⟩
        rw[hy,hS]at hroom;rw[hy]at c2'
        have HY:Hid (Q.getD (j/32) 0=y):=hy
        have HS:Hid (2 ^ (j%32)=S):=hS
        have hSi:(2:Int) ^ (j%32)=(S:Int):=by rw[<-hS];simp
        have hj32:j/32<n/32+1:=by omega
        clear hv2 hy hS hR' hxr hB'
        have HQV:Hid (V (Q.set (j/32) (y+S))=V Q+2 ^ j):=by
         show _=_
         rw[<-HY.out,zrq (by rw[HQ.out];omega),<-HS.out,zgh,<-Nat.pow_add,show 32*(j/32)+j%32=j by omega]
        go_wp2
        go_roundw
        case rel =>
         exact⟨j,_,a2,c2,R2,Q.set (j/32) (y+S),by omega,rfl,by go_num,rfl,ht2,(hr2.mono zi1.size).set_other HA2.out _ _,HA2.out,by rw[List.length_set];exact HQ.out,lQ.set _ hroom,hB2.set _ _ _ (by rw[HQ.out];omega) (by omega),by rw[HR2.out,HQV.out];exact zo1 HI.out HGE.out,by rw[HR2.out];exact zo2 HL.out HGE.out,by rw[HQV.out];exact zj3 HM.out,zh3.setCell hs1 _⟩
        case measure=>simp[intOf]
      . have hc:cmpN (V R) (V x)=-1:=by unfold cmpN;rw[if_pos (by omega)]
        rw[hc]
        have HLT:Hid (V R<V ys*2 ^ j):=by show _<_;rw[<-HXV.out];omega
        clear hc hge;go_wp2
        go_roundw
        case rel =>
         exact⟨j,_,aR',cR',R,Q,by omega,rfl,by go_num,rfl,tR,hR',HA.out,HQ.out,lQ,hB',HI.out,HLT.out,zpq HM.out,zi1⟩
        case measure=>simp[intOf]
theorem zd9(a:Option Addr)(cap:Nat)(xs:List Nat)(w:World)(h:Rd w a cap xs)(hl:xs.length<=1000000000) :
 Calls Tryz.prog 204 #[.slice a xs.length cap] w fun e w'=>e=.returned (.tuple #[.int .u64 (zff (V xs):Nat),.bool (zde (V xs))])/\Below w.heap.size w w':=by
 go_enter Tryz.func204,Tryz.ntmps204
 go_wp2_with fail
 refine(zbw a cap xs _ h hl).mono ?_
 rintro e w1 ⟨aT,cT,rfl,hT,hb1⟩
 have Xr:=hT.rd
 have tX:=zak xs
 clear h hT
 have HV:Hid (V (strip xs)=V xs):=zaj xs
 generalize strip xs=X at Xr tX HV ⊢
 have k1:=Xr.le
 have k2:=Xr.cap
 unfold maxLen at k2
 have fX:=Xr.fm
 have lX:=Xr.lim
 clear Xr
 by_cases hl:2<X.length
 . have HG:Hid (¬V xs<18446744073709551616):=by show ¬_;rw[<-HV.out];exact zgs tX hl
   go_wp2
   go_ret2
   exact⟨by rw[zbe HG.out,za8 HG.out];rfl,hb1⟩
 . have HG:Hid (V xs<18446744073709551616):=by show _<_;rw[<-HV.out];exact zhz lX (by omega)
   go_wp2
   go_loop [5,6] (fun n i=>∃(k m:Nat) (q:Int),k<=X.length/\q=(k:Int)-1/\i=.int .i64 q/\n=.int .u64 m/\m=V (X.drop k)) (fun _ i=>(intOf i+1).toNat)
   case atStart=>exact⟨X.length,0,_,Nat.le_refl _,rfl,rfl,rfl,by simp[V]⟩
   case round =>
    obtain⟨k,m,q,hk,hq,rfl,rfl,hm⟩:=hrel
    have HM:Hid (m=V (X.drop k)):=hm
    clear hm
    by_cases hk0:k=0
    . subst hk0
      obtain rfl:q=-1:=by omega
      clear hq;go_wp2
      go_ret2
      refine⟨?_,hb1⟩
      rw[zar HG.out,zap HG.out,<-HV.out]
      have:=HM.out
      rw[List.drop_zero]at this;rw[<-this]
      rfl
    . obtain⟨j,rfl⟩:∃j,k=j+1:=⟨k-1,by omega⟩
      obtain rfl:q=(j:Int):=by omega
      clear hq
      obtain⟨bl,ol,rfl,_,hcx⟩:=fX.at (Below.refl _ _) j (by omega)
      obtain⟨x,hx⟩:∃x,X.getD j 0=x:=⟨_,rfl⟩
      have bx:x<4294967296:=by rw[<-hx];exact lX.getD j
      rw[hx]at hcx
      have hd:=zey X j
      rw[hx,<-HM.out]at hd
      have hlt:V (X.drop j)<18446744073709551616:=zhz (lX.drop j) (by simp;omega)
      have hb2:x+4294967296*m<18446744073709551616:=by omega
      have HD:Hid (V (X.drop j)=x+4294967296*m):=hd
      clear hx hd hlt;go_wp2
      go_round
      case rel=>exact⟨j,m*4294967296+x,_,by omega,rfl,by go_num,congrArg (Value.int .u64) (by omega),by rw[HD.out];omega⟩
      case measure=>simp[intOf]
theorem zg8(a:Option Addr)(cap:Nat)(xs:List Nat)(b:Option Addr)(cbp:Nat)(ys:List Nat)(w:World)(ha:Rd w a cap xs)(hb:Rd w b cbp ys)(hla:xs.length<=10000000)(hlb:ys.length<=10000000) :
 Calls Tryz.prog 211 #[.slice a xs.length cap,.slice b ys.length cbp] w fun e w' =>
     ∃a' cap' zs,e=.returned (.slice a' zs.length cap')/\V zs=Nat.gcd (V xs) (V ys)/\Tr zs/\Res 211 w.heap.size w' a' cap' zs/\Below w.heap.size w w':=by
 go_enter Tryz.func211,Tryz.ntmps211
 go_wp2_with fail
 refine(zbw _ _ xs _ ha (by omega)).mono ?_
 rintro e w1 ⟨a1,c1,rfl,hr1,hb1⟩
 have hs1:=hb1.size
 go_wp2_with fail
 refine(zbw _ _ ys _ (hb.below hb1) (by omega)).mono ?_
 rintro e w2 ⟨a2,c2,rfl,hr2,hb2⟩
 have hr1':=hr1.below hb2
 have hbw2:Below w.heap.size w w2:=hb1.trans (hb2.mono hs1)
 have HV:Hid (V (strip xs)=V xs/\V (strip ys)=V ys):=⟨zaj xs,zaj ys⟩
 have t1:=zak xs
 have t2:=zak ys
 have l1:=zag xs
 have l2:=zag ys
 generalize strip xs=X0 at hr1 hr1' HV t1 l1 ⊢
 generalize strip ys=Y0 at hr2 HV t2 l2 ⊢
 clear ha hb hr1;go_wp2
 go_loopg [5,6] (V Y0) (fun k p q wr=>∃(aA:Option Addr) (cA:Nat) (X:List Nat) (aB:Option Addr) (cB:Nat) (Y:List Nat),p=.slice aA X.length cA/\q=.slice aB Y.length cB/\X.length<=10000000/\Y.length<=10000000/\V Y=k/\Tr X/\Tr Y/\Res 211 w.heap.size wr aA cA X/\Res 211 w.heap.size wr aB cB Y/\Nat.gcd (V X) (V Y)=Nat.gcd (V xs) (V ys)/\Below w.heap.size w wr)
 case atStart=>exact⟨a1,c1,X0,a2,c2,Y0,rfl,rfl,by omega,by omega,rfl,t1,t2,hr1',hr2.mono hs1,by rw[HV.out.1,HV.out.2],hbw2⟩
 case round =>
  obtain⟨aA,cA,X,aB,cB,Y,rfl,rfl,hX,hY,hk,tX,tY,rX,rY,hg,hnx⟩:=hrel
  have HG:Hid (Nat.gcd (V X) (V Y)=Nat.gcd (V xs) (V ys)):=hg
  have HK:Hid (V Y=gk):=hk
  have hsz:=hnx.size
  clear hg hk
  by_cases hy0:Y.length=0
  . have HY:Hid (V Y=0):=by show _=_;rw[List.length_eq_zero_iff.1 hy0];rfl
    have hyl:¬(0:Int)<(Y.length:Int):=by omega
    clear hy0;go_wp2
    go_ret
    refine⟨aA,cA,X,rfl,?_,tX,rX,hnx⟩
    rw[<-HG.out,HY.out,Nat.gcd_zero_right]
  . have hyl:(0:Int)<(Y.length:Int):=by omega
    have zdf:0<V Y:=by
     rcases Nat.eq_zero_or_pos (V Y)with h|h
     . exact absurd (by rw[zb7 tY h];rfl) hy0
     . exact h
    have zzw:Hid (0<V Y):=zdf
    clear hy0 zdf
    go_wp2_with fail
    refine(ze1 _ _ _ _ _ _ _ rX.rd rY.rd hX hY).mono ?_
    rintro e v1 ⟨b1,d1,z1,b2,d2,z2,rfl,hv1,hv2,ht1,ht2,hq1,hq2,hb3⟩;rw[zbm _ zzw.out]at hv2
    have hlt:V z2<V Y:=by rw[hv2];exact Nat.mod_lt _ zzw.out
    have HLT:Hid (V z2<gk):=by show _<_;rw[<-HK.out];exact hlt
    have hl2:z2.length<=Y.length:=by
     rcases Nat.lt_or_ge Y.length z2.length with h|h
     . have:=zau rY.lim ht2 h;omega
     . exact h
    have HG2:Hid (Nat.gcd (V Y) (V z2)=Nat.gcd (V xs) (V ys)):=by show _=_;rw[hv2,ze4];exact HG.out
    have rY':=rY.below hb3
    have hbw:Below w.heap.size w v1:=hnx.trans (hb3.mono hsz)
    clear hv1 hv2 hlt hq1 rX;go_wp2
    go_roundg (V z2)
    case measure=>exact HLT.out
    case rel=>exact⟨aB,cB,Y,b2,d2,z2,rfl,rfl,hY,by omega,rfl,tY,ht2,rY',hq2.mono hsz,HG2.out,hbw⟩
theorem zjp(n:Nat)(w:World)(hn:n<18446744073709551616) :
 Calls Tryz.prog 212 #[.int .u64 (n:Int)] w fun e w'=>∃a cap ys,e=.returned (.slice a ys.length cap)/\V ys=n/\Tr ys/\Res 211 w.heap.size w' a cap ys/\Below w.heap.size w w':=by
 obtain⟨i0,hi,hz0,hz1,hz2⟩:=info_parts za3
 go_enter Tryz.func212,Tryz.ntmps212
 go_wp2
 go_loopw [0,3] (fun s out wr=>∃(k m:Nat) (zs:List Nat),s=.int .u64 m/\m<18446744073709551616/\k=zs.length/\k<=2/\(k=2->m=0)/\(k=1->m<4294967296)/\Lim zs/\(m=0->Tr zs)/\V zs+4294967296 ^ k*m=n/\wr.ownsRow w.heap.size 211 1 out k (zs.map U)/\Below w.heap.size w wr) (fun s _ _=>(intOf s).toNat)
 case atStart=>exact⟨0,n,[],rfl,hn,rfl,by decide,fun h=>by omega,fun h=>by omega,Lim.nil,fun _=>zcq,by simp[V],World.ownsRow_nil _ _ _ _,Below.refl _ _⟩
 case round =>
  obtain⟨k,m,zs,rfl,hm,hkz,hk2,hm2,hm1,lz,htr,heq,hown,hnx⟩:=hrel
  have HE:Hid (V zs+4294967296 ^ k*m=n):=heq
  have HZ:Hid (k=zs.length):=hkz
  have H2:Hid ((k=2->m=0)/\(k=1->m<4294967296)):=⟨hm2,hm1⟩
  have HT:Hid (m=0->Tr zs):=htr
  have hsz:=hnx.size
  clear heq hkz hm2 hm1 htr
  by_cases hm0:m=0
  . subst hm0
    obtain⟨a',cap',rfl,hres⟩:=Res.of lz hown
    clear hown;go_wp2
    go_ret
    refine⟨a',cap',zs,rfl,?_,HT.out (by first | rfl | trivial),hres,hnx⟩
    have:=HE.out;omega
  . have hp:1<=m:=by omega
    have hk1:k<=1:=by have:=H2.out.1;omega
    go_wp2_with (at_builtin;refine zae rfl _ _ 159 rfl w.heap.size 211 i0 Tryz.underlying159 hi hz0 hz1 hz2 _ k zs rfl (hown.alloc _) wr.heap.size (m%4294967296) rfl (zan _ _ _ _ (by omega)) (by omega) (by simp;omega) ?_)
    intro v' w1 hown1 zaq
    have hb1:Below w.heap.size w w1:=(hnx.alloc hsz _).grown zaq (by simp;omega) (fun k hk=>(hown.lt k hk).1)
    clear hown;go_wp2
    go_roundw
    case rel =>
     refine⟨k+1,m/4294967296,zs++[m%4294967296],by go_num,by omega,by rw[HZ.out];simp,by omega,fun h=>by have:=H2.out.2;omega,fun h=>by omega,lz.snoc (by omega),fun h=>zu8 (by omega),?_,zat hown1,hb1⟩
     rw[zd4,<-HZ.out,<-HE.out,Nat.pow_succ]
     have hd:=Nat.mod_add_div m 4294967296
     generalize m%4294967296=r at hd ⊢
     generalize m/4294967296=d at hd ⊢
     subst hd
     grind
    case measure=>simp[intOf];omega
theorem zds(a:Option Addr)(cap:Nat)(xs:List Nat)(b:Option Addr)(cbp:Nat)(ys:List Nat)(w:World)(ha:Rd w a cap xs)(hb:Rd w b cbp ys)(hla:xs.length<=500000000)(hlb:ys.length<=500000000) :
 Calls Tryz.prog 203 #[.slice a xs.length cap,.slice b ys.length cbp] w fun e w' =>
     ∃a' cap' zs,e=.returned (.slice a' zs.length cap')/\V zs=V xs+V ys/\Tr zs/\Res 211 w.heap.size w' a' cap' zs/\Below w.heap.size w w':=by
 obtain⟨i0,hi,hz0,hz1,hz2⟩:=info_parts za3
 have lL:=ha.lim
 have lS:=hb.lim
 have fL:=ha.fm
 have fS:=hb.fm
 have q1:=ha.le
 have q2:=ha.cap
 have q3:=hb.le
 have q4:=hb.cap
 unfold maxLen at q2 q4
 clear ha hb
 obtain⟨mx,hmx1,hmx2,hmx3⟩:∃mx,xs.length<=mx/\ys.length<=mx/\(mx=xs.length\/mx=ys.length):=⟨max xs.length ys.length,by omega,by omega,by omega⟩
 go_enter Tryz.func203,Tryz.ntmps203
 go_wp2
 go_loopw [5,6,7] (fun out c i wr=>∃(k:Nat) (zs:List Nat) (cy:Nat),k<=mx+1/\i=.int .i64 k/\c=.int .u64 cy/\cy<=1/\(k=mx+1->cy=0)/\zs.length=k/\Lim zs/\V zs+4294967296 ^ k*cy=V (xs.take k)+V (ys.take k)/\wr.ownsRow w.heap.size 211 1 out k (zs.map U)/\Below w.heap.size w wr) (fun _ _ i _=>mx+1-(intOf i).toNat)
 case atStart=>exact⟨0,[],0,Nat.zero_le _,rfl,rfl,Nat.zero_le _,fun _=>rfl,rfl,Lim.nil,by simp[V],World.ownsRow_nil _ _ _ _,Below.refl _ _⟩
 case round =>
  obtain⟨k,zs,cy,hk,rfl,rfl,hcy,zcn,hzl,lz,heq,hown,hnx⟩:=hrel
  have HE:Hid (V zs+4294967296 ^ k*cy=V (xs.take k)+V (ys.take k)):=heq
  have HZ:Hid (zs.length=k):=hzl
  have HLA:Hid (k=mx+1->cy=0):=zcn
  have hsz:=hnx.size
  clear heq hzl zcn
  obtain⟨x,hx⟩:∃x,xs.getD k 0=x:=⟨_,rfl⟩
  obtain⟨y,hy⟩:∃y,ys.getD k 0=y:=⟨_,rfl⟩
  have bx:x<4294967296:=by rw[<-hx];exact lL.getD k
  have byy:y<4294967296:=by rw[<-hy];exact lS.getD k
  have HX:Hid (xs.getD k 0=x):=hx
  have HY:Hid (ys.getD k 0=y):=hy
  clear hx hy
  by_cases hkn:k<xs.length
  . obtain⟨bl,ol,rfl,_,hcl⟩:=fL.at hnx k hkn
    rw[HX.out]at hcl
    by_cases hkm:k<ys.length
    . obtain⟨bs,os,rfl,_,hcs⟩:=fS.at hnx k hkm
      rw[HY.out]at hcs
      go_wp2_with (at_builtin;refine zae rfl _ _ 159 rfl w.heap.size 211 i0 Tryz.underlying159 hi hz0 hz1 hz2 _ k zs rfl (hown.alloc _) wr.heap.size ((cy+x+y)%4294967296) rfl (zan _ _ _ _ (by omega)) (by omega) (by simp;omega) ?_)
      intro v' w1 hown1 zaq
      have hb1:Below w.heap.size w w1:=(hnx.alloc hsz _).grown zaq (by simp;omega) (fun k hk=>(hown.lt k hk).1)
      clear hown;go_wp2
      go_roundw
      case rel =>
       exact⟨k+1,zs++[(cy+x+y)%4294967296],(cy+x+y)/4294967296,by omega,by go_num,by go_num,by omega,by omega,by simp[HZ.out],lz.snoc (by omega),zcc HZ.out HE.out HX.out HY.out (by omega),zat hown1,hb1⟩
      case measure=>simp[intOf];omega
    . have y0:y=0:=by rw[<-HY.out];exact za5 _ _ (by omega)
      subst y0
      go_wp2_with (at_builtin;refine zae rfl _ _ 159 rfl w.heap.size 211 i0 Tryz.underlying159 hi hz0 hz1 hz2 _ k zs rfl (hown.alloc _) wr.heap.size ((cy+x)%4294967296) rfl (zan _ _ _ _ (by omega)) (by omega) (by simp;omega) ?_)
      intro v' w1 hown1 zaq
      have hb1:Below w.heap.size w w1:=(hnx.alloc hsz _).grown zaq (by simp;omega) (fun k hk=>(hown.lt k hk).1)
      clear hown;go_wp2
      go_roundw
      case rel =>
       exact⟨k+1,zs++[(cy+x)%4294967296],(cy+x)/4294967296,by omega,by go_num,by go_num,by omega,by omega,by simp[HZ.out],lz.snoc (by omega),zcc HZ.out HE.out HX.out HY.out (by omega),zat hown1,hb1⟩
      case measure=>simp[intOf];omega
  . have x0:x=0:=by rw[<-HX.out];exact za5 _ _ (by omega)
    subst x0
    by_cases hkm:k<ys.length
    . obtain⟨bs,os,rfl,_,hcs⟩:=fS.at hnx k hkm
      rw[HY.out]at hcs
      go_wp2_with (at_builtin;refine zae rfl _ _ 159 rfl w.heap.size 211 i0 Tryz.underlying159 hi hz0 hz1 hz2 _ k zs rfl (hown.alloc _) wr.heap.size ((cy+y)%4294967296) rfl (zan _ _ _ _ (by omega)) (by omega) (by simp;omega) ?_)
      intro v' w1 hown1 zaq
      have hb1:Below w.heap.size w w1:=(hnx.alloc hsz _).grown zaq (by simp;omega) (fun k hk=>(hown.lt k hk).1)
      clear hown;go_wp2
      go_roundw
      case rel =>
       exact⟨k+1,zs++[(cy+y)%4294967296],(cy+y)/4294967296,by omega,by go_num,by go_num,by omega,by omega,by simp[HZ.out],lz.snoc (by omega),zcc HZ.out HE.out HX.out HY.out (by omega),zat hown1,hb1⟩
      case measure=>simp[intOf];omega
    . have y0:y=0:=by rw[<-HY.out];exact za5 _ _ (by omega)
      subst y0
      have g1:decide ((k:Int)<(xs.length:Int))=false:=by simp;omega
      have g2:decide ((k:Int)<(ys.length:Int))=false:=by simp;omega
      by_cases hc1:cy=0
      . subst hc1
        obtain⟨a',cap',rfl,hres⟩:=Res.of lz hown
        clear hown
        go_wp2_with fail
        refine(zbw _ _ _ _ hres.rd (by rw[HZ.out];omega)).mono ?_
        rintro e w2 ⟨a2,c2,rfl,hr2,hb2⟩;go_wp2
        go_ret
        refine⟨a2,c2,_,rfl,?_,zak _,hr2.mono hsz,hnx.trans (hb2.mono hsz)⟩
        have h1:=HE.out
        rw[List.take_of_length_le (by omega),List.take_of_length_le (by omega)]at h1
        rw[zaj];omega
      . have hkmx:k<=mx:=by have:=HLA.out;omega
        have hc2:1<=cy:=by omega
        clear hc1
        go_wp2_with (at_builtin;refine zae rfl _ _ 159 rfl w.heap.size 211 i0 Tryz.underlying159 hi hz0 hz1 hz2 _ k zs rfl (hown.alloc _) wr.heap.size ((cy)%4294967296) rfl (zan _ _ _ _ (by omega)) (by omega) (by simp;omega) ?_)
        intro v' w1 hown1 zaq
        have hb1:Below w.heap.size w w1:=(hnx.alloc hsz _).grown zaq (by simp;omega) (fun k hk=>(hown.lt k hk).1)
        clear hown;go_wp2
        go_roundw
        case rel =>
         exact⟨k+1,zs++[(cy)%4294967296],(cy)/4294967296,by omega,by go_num,by go_num,by omega,by omega,by simp[HZ.out],lz.snoc (by omega),zcc HZ.out HE.out HX.out HY.out (by omega),zat hown1,hb1⟩
        case measure=>simp[intOf];omega
open Classical
theorem zc0(w:World) :
 Calls Tryz.prog 178 #[] w fun e w'=>∃a c ys,e=.returned (.slice a ys.length c)/\V ys=1/\Tr ys/\Rd w' a c ys/\Below w.heap.size w w':=by
 go_enter Tryz.func178,Tryz.ntmps178
 go_wp2_with fail
 refine(zjp 1 _ (by decide)).mono ?_
 rintro e u ⟨a,c,ys,rfl,h1,h2,h3,h4⟩;go_wp2
 go_ret
 exact⟨_,_,_,rfl,h1,h2,h3.rd,h4⟩
theorem zws{w:World}{a:Option Addr}{c:Nat}{ys:List Nat}(hv:V ys=1)(ht:Tr ys)(hr:Rd w a c ys):Fr w (.agg #[.bool false,.slice none 0 0,.slice a ys.length c]) 2 0:=by
 refine⟨false,[],ys,⟨_,_,_,_,rfl,Rd.nil _ _ _ (Nat.zero_le _) (fun _=>rfl),hr⟩,⟨zcq,ht,?_,by simp,by rw[hv];simp⟩,by simp,zbh ht (by omega),?_⟩
 . rintro rfl;simp[V]at hv
 . unfold qv;rw[hv];rfl
theorem zbd(w:World) :
 Calls Tryz.prog 179 #[] w fun e w'=>∃v',e=.returned v'/\Fr w' v' 2 0/\Below w.heap.size w w':=by
 go_enter Tryz.func179,Tryz.ntmps179
 go_wp2_with fail
 refine(zc0 _).mono ?_
 rintro e u1 ⟨a,c,ys,rfl,h1,h2,h3,hb1⟩
 obtain⟨B1,hbW⟩:=zbr hb1
 clear hb1;obtain⟨q1,q2,q3,q4,q5,q6⟩:=B1.cells
 have hs:=B1.lt
 go_wp2
 exact ret3 (v:=.agg #[.bool false,.slice none 0 0,.slice a ys.length c]) B1 rfl (fun U hU=>by obtain⟨r1,r2,r3,_⟩:=hU.cells;simp[results,Tryz.results179,go_sem,r1,r2,r3]) (fun U hU hK=>⟨_,rfl,zws h1 h2 (hK _ _ _ h3),hU _ _ hbW (by omega)⟩)
theorem zkh{zs os:List Nat}(ho:V os=1):cmpN (V zs) (V os)=0↔V zs=1:=by
 rw[ho]
 unfold cmpN
 by_cases h:V zs<1
 . rw[if_pos h];simp;omega
 . rw[if_neg h];split <;> simp <;> omega
theorem zjm(n:Bool)(a:Option Addr)(c:Nat)(xs:List Nat)(a':Option Addr)(c':Nat)(ys:List Nat)(w:World)(hx:Rd w a c xs)(hy:Rd w a' c' ys)(lx:xs.length<=10000000)(ly:ys.length<=10000000) :
 Calls Tryz.prog 205 #[.agg #[.bool n,.slice a xs.length c,.slice a' ys.length c']] w fun e w'=>e=.returned (.bool (decide (Fmd n xs ys)))/\Below w.heap.size w w':=by
 have fin:Tr xs->Tr ys->ys≠[]->¬(n=true/\xs=[])->∀(W:World),Below w.heap.size w W->∀a1 c1 (zs:List Nat) a2 c2 (os:List Nat),Rd W a1 c1 zs->Rd W a2 c2 os->V os=1->V zs=Nat.gcd (V xs) (V ys) ->
     Calls Tryz.prog 206 #[.slice a1 zs.length c1,.slice a2 os.length c2] W fun e w'=>∃s:Int,e=.returned (.int .i64 s)/\(s==0)=decide (Fmd n xs ys)/\Below w.heap.size w w':=by
  intro tx ty y0 hn W hb a1 c1 zs a2 c2 os r1 r2 ho hz
  refine(zdr _ _ _ _ _ _ _ r1 r2).mono ?_
  rintro e u ⟨rfl,rfl⟩
  refine⟨_,rfl,?_,hb⟩
  have h1:=zkh (zs:=zs) ho
  have h2:V zs=1↔Fmd n xs ys:=by rw[hz];exact⟨fun h=>⟨tx,ty,y0,hn,h⟩,fun h=>h.2.2.2.2⟩
  have h3:=h1.trans h2
  by_cases h:Fmd n xs ys
  . simp[h,h3.2 h]
  . have:¬cmpN (V zs) (V os)=0:=fun h4=>h (h3.1 h4)
    simp[h,this]
 have k1:=hx.le
 have k2:=hx.cap
 have k3:=hy.le
 have k4:=hy.cap
 unfold maxLen at k2 k4
 obtain⟨p1,p2,p3,_⟩:=(Box.new 161 w (.bool n) (.slice a xs.length c) (.slice a' ys.length c')).cells
 by_cases y0:ys=[]
 . subst y0
   go_enter Tryz.func205,Tryz.ntmps205
   go_wp2_with fail
   go_quiet (fail)
   go_wp2
   go_ret
   exact⟨zaz (by simp[Fmd]),below_drewN (al1 _) _⟩
 have hyl:0<ys.length:=List.length_pos_iff.2 y0
 obtain⟨m,hm⟩:∃m,ys.length=m+1:=⟨ys.length-1,by omega⟩
 have hty:=zn2 y0
 have fy:=hy.fm
 rw[hm]at hty
 simp only[Nat.add_sub_cancel]at hty
 obtain⟨b,off,rfl,hb,hc⟩:=fy.at (Below.refl _ _) m (by omega)
 obtain⟨z,hz⟩:∃z,ys.getD m 0=z:=⟨_,rfl⟩
 rw[hz]at hc hty
 have g1:((m:Int)+1==0)=false:=beq_eq_false_iff_ne.2 (by omega)
 have hc':(w.alloc (.cells #[.bool n,.slice a xs.length c,.slice (some ⟨b,off,none⟩) ys.length c'] 161)).cell? ⟨b,off+m,none⟩=some (.int .u32 (z:Int)):=(World.cell?_of_block (w:=w) (a:=⟨b,off+m,none⟩) (Below.heap_alloc _ _ _ hb)).trans hc
 have hne:¬b=w.heap.size:=by omega
 rw[hm]at hc' k3 p1 p2 p3
 by_cases z0:z=0
 . have hnt:¬Tr ys:=fun h=>hty.1 h z0
   subst z0;rw[hm];clear hx hy fy fin
   go_enter Tryz.func205,Tryz.ntmps205
   go_wp2_with fail
   go_quiet (fail)
   go_wp2
   go_ret
   exact⟨zaz (by simp[Fmd,hnt]),below_drewN (al1 _) _⟩
 have ty:Tr ys:=hty.2 z0
 have gz:((z:Int)==0)=false:=beq_eq_false_iff_ne.2 (by omega)
 by_cases x0:xs=[]
 . subst x0
   cases n with
   | true =>
    rw[hm];clear hx hy fy fin
    go_enter Tryz.func205,Tryz.ntmps205
    go_wp2_with fail
    go_quiet (fail)
    go_wp2
    go_ret
    exact⟨zaz (by simp[Fmd]),below_drewN (al1 _) _⟩
   | false =>
    have fin':=fin zcq ty y0 (by simp)
    clear fin fy
    have hy':=hy
    rw[hm]
    go_enter Tryz.func205,Tryz.ntmps205
    go_wp2_with fail
    go_quiet (fail)
    go_wp2_with fail
    rw[<-hm]
    refine(zg8 _ _ _ _ _ _ _ (hx.below (below_drewN (al1 _) _)) (hy'.below (below_drewN (al1 _) _)) lx ly).mono ?_
    rintro e u1 ⟨a1,c1,zs,rfl,hv1,ht1,hr1,hb1⟩
    have hbW:Below w.heap.size w u1:=(below_drewN (al1 _) _).trans (hb1.mono (by simp))
    have rz:=hr1.rd
    clear hr1 hb1 hx hy hy'
    go_wp2_with fail
    refine(zc0 _).mono ?_
    rintro e u2 ⟨a2,c2,os,rfl,ho,hto,ro,hb2⟩;replace rz:=rz.below hb2
    replace hbW:Below w.heap.size w u2:=hbW.trans (hb2.mono hbW.size)
    clear hb2
    go_wp2_with fail
    refine(fin' _ hbW _ _ _ _ _ _ rz ro ho hv1).mono ?_
    rintro e u3 ⟨s,rfl,hs,hb3⟩;go_wp2
    go_ret
    exact⟨rfl,hb3⟩
 have hxl:0<xs.length:=List.length_pos_iff.2 x0
 obtain⟨l,hl⟩:∃l,xs.length=l+1:=⟨xs.length-1,by omega⟩
 have htx:=zn2 x0
 have fx:=hx.fm
 rw[hl]at htx
 simp only[Nat.add_sub_cancel]at htx
 obtain⟨b2,off2,rfl,hb2,hc2⟩:=fx.at (Below.refl _ _) l (by omega)
 obtain⟨x,hxx⟩:∃x,xs.getD l 0=x:=⟨_,rfl⟩
 rw[hxx]at hc2 htx
 have g2:((l:Int)+1==0)=false:=beq_eq_false_iff_ne.2 (by omega)
 have hc2':(w.alloc (.cells #[.bool n,.slice (some ⟨b2,off2,none⟩) xs.length c,.slice (some ⟨b,off,none⟩) ys.length c'] 161)).cell? ⟨b2,off2+l,none⟩=some (.int .u32 (x:Int)):=(World.cell?_of_block (w:=w) (a:=⟨b2,off2+l,none⟩) (Below.heap_alloc _ _ _ hb2)).trans hc2
 have hne2:¬b2=w.heap.size:=by omega
 rw[hl,hm]at hc2';rw[hl]at hc' k1 p1 p2 p3
 by_cases xz:x=0
 . have hnt:¬Tr xs:=fun h=>htx.1 h xz
   subst xz;rw[hm,hl];clear hx hy fy fx fin
   go_enter Tryz.func205,Tryz.ntmps205
   go_wp2_with fail
   go_quiet (fail)
   go_wp2
   go_ret
   exact⟨zaz (by simp[Fmd,hnt]),below_drewN (al1 _) _⟩
 have tx:Tr xs:=htx.2 xz
 have gx:((x:Int)==0)=false:=beq_eq_false_iff_ne.2 (by omega)
 have fin':=fin tx ty y0 (fun h=>x0 h.2)
 have hy':=hy
 clear fin fy fx
 have key:∀i j:Nat,i=xs.length->j=ys.length->Calls Tryz.prog 205 #[.agg #[.bool n,.slice (some ⟨b2,off2,none⟩) i c,.slice (some ⟨b,off,none⟩) j c']] w fun e w'=>e=.returned (.bool (decide (Fmd n xs ys)))/\Below w.heap.size w w':=by
  intro i j hi hj
  rw[hl]at hi;rw[hm]at hj;subst hi hj
  go_enter Tryz.func205,Tryz.ntmps205
  go_wp2_with fail
  go_quiet (fail)
  go_wp2_with fail
  rw[<-hl,<-hm]
  refine(zg8 _ _ _ _ _ _ _ (hx.below (below_drewN (al1 _) _)) (hy'.below (below_drewN (al1 _) _)) lx ly).mono ?_
  rintro e u1 ⟨a1,c1,zs,rfl,hv1,ht1,hr1,hb1⟩
  have hbW:Below w.heap.size w u1:=(below_drewN (al1 _) _).trans (hb1.mono (by simp))
  have rz:=hr1.rd
  clear hr1 hb1 hx hy hy'
  go_wp2_with fail
  refine(zc0 _).mono ?_
  rintro e u2 ⟨a2,c2,os,rfl,ho,hto,ro,hb2⟩;replace rz:=rz.below hb2
  replace hbW:Below w.heap.size w u2:=hbW.trans (hb2.mono hbW.size)
  clear hb2
  go_wp2_with fail
  refine(fin' _ hbW _ _ _ _ _ _ rz ro ho hv1).mono ?_
  rintro e u3 ⟨s,rfl,hs,hb3⟩;go_wp2
  go_ret
  exact⟨rfl,hb3⟩
 exact key _ _ rfl rfl
theorem zcu(k:Nat)(q:Rat)(v:Value)(w:World)(h:Ct w v k q)(hk:k<=10000000)(hk2:2<=k) :
 Calls Tryz.prog 173 #[v] w fun e w'=>∃v',e=.returned v'/\Fr w' v' k q/\Below w.heap.size w w':=by
 obtain⟨n,xs,ys,⟨a,c,a',c',rfl,hx,hy⟩,lx,ly,hq⟩:=h
 have HQ:Hid (q=if Fmd n xs ys then qv n xs ys else 0):=hq
 clear hq
 go_enter Tryz.func173,Tryz.ntmps173
 go_wp2_with fail
 refine(zjm _ _ _ _ _ _ _ _ (hx.below (al2 _ _)) (hy.below (al2 _ _)) (by omega) (by omega)).mono ?_
 rintro e u1 ⟨rfl,hb1⟩
 replace hx:=(hx.below (al2 _ _)).below hb1
 replace hy:=(hy.below (al2 _ _)).below hb1
 obtain⟨B1,B2,hbW⟩:=zmj hb1
 obtain⟨p1,p2,p3,_⟩:=B1.cells;obtain⟨q1,q2,q3,q4,q5,q6⟩:=B2.cells
 have hs:=B2.lt
 clear hb1
 by_cases hf:Fmd n xs ys
 . have e1:decide (Fmd n xs ys)=true:=decide_eq_true hf
   rw[e1];clear e1;go_wp2
   refine ret3 (v:=.agg #[.bool n,.slice a xs.length c,.slice a' ys.length c']) B2 rfl (fun U hU=>by obtain⟨r1,r2,r3,_⟩:=hU.cells;simp[results,Tryz.results173,go_sem,r1,r2,r3]) (fun U hU hK=>⟨_,rfl,⟨_,_,_,⟨_,_,_,_,rfl,hK _ _ _ hx,hK _ _ _ hy⟩,hf,lx,ly,by rw[HQ.out,if_pos hf]⟩,hU _ _ hbW (by omega)⟩)
 . have e1:decide (Fmd n xs ys)=false:=decide_eq_false hf
   rw[e1];clear e1
   go_wp2_with fail
   refine(zbd _).mono ?_
   rintro e u2 ⟨v2,rfl,hF,hb2⟩;replace B2:=B2.below hb2
   replace hbW:Below w.heap.size w u2:=hbW.trans (hb2.mono hbW.size)
   clear q1 q2 q3 q4 q5 q6;obtain⟨q1,q2,q3,q4,q5,q6⟩:=B2.cells
   have hs':=B2.lt
   obtain⟨n',xs',ys',⟨b,d,b',d',rfl,hx',hy'⟩,hf',lx',ly',he⟩:=hF;go_wp2
   refine ret3 (v:=.agg #[.bool n',.slice b xs'.length d,.slice b' ys'.length d']) B2 rfl (fun U hU=>by obtain⟨r1,r2,r3,_⟩:=hU.cells;simp[results,Tryz.results173,go_sem,r1,r2,r3]) (fun U hU hK=>⟨_,rfl,⟨_,_,_,⟨_,_,_,_,rfl,hK _ _ _ hx',hK _ _ _ hy'⟩,hf',by omega,by omega,by rw[HQ.out,if_neg hf,he]⟩,hU _ _ hbW (by omega)⟩)
theorem ze0(k:Nat)(n:Bool)(a:Option Addr)(c:Nat)(xs:List Nat)(a':Option Addr)(c':Nat)(ys:List Nat)(w:World)(hx:Rd w a c xs)(hy:Rd w a' c' ys)(y0:V ys≠0)(lx:xs.length<=k)(ly:ys.length<=k)(hk:k<=10000000) :
 Calls Tryz.prog 176 #[.bool n,.slice a xs.length c,.slice a' ys.length c'] w fun e w'=>∃v',e=.returned v'/\Fr w' v' k (qv n xs ys)/\Below w.heap.size w w':=by
 have hx0:=hx.lim
 have hy0:=hy.lim
 go_enter Tryz.func176,Tryz.ntmps176
 go_wp2_with fail
 refine(zg8 _ _ _ _ _ _ _ (hx.below (al1 _)) (hy.below (al1 _)) (by omega) (by omega)).mono ?_
 rintro e u1 ⟨a1,c1,gs,rfl,hv1,ht1,hr1,hb1⟩
 replace hx:=(hx.below (al1 _)).below hb1
 replace hy:=(hy.below (al1 _)).below hb1
 obtain⟨B2,hbW⟩:=zbr hb1
 have rg:=hr1.rd
 have lg:gs.length<=k:=by
  refine zah ht1 ?_
  have h1:=V_lt hy.lim
  have h2:V gs<=V ys:=by rw[hv1];exact Nat.gcd_le_right _ (by omega)
  have h3:4294967296 ^ ys.length<=4294967296 ^ k:=Nat.pow_le_pow_right (by decide) ly
  omega
 clear hr1 hb1
 go_wp2_with fail
 refine(ze1 _ _ _ _ _ _ _ hx rg (by omega) (by omega)).mono ?_
 rintro e u2 ⟨a2,c2,ps,a3,c3,rs,rfl,hv2,hv3,ht2,ht3,hr2,hr3,hb2⟩
 have rp:=hr2.rd
 replace hy:=hy.below hb2;replace rg:=rg.below hb2;replace B2:=B2.below hb2
 replace hbW:Below w.heap.size w u2:=hbW.trans (hb2.mono hbW.size)
 clear hb2 hr2 hr3 hv3 ht3 hx
 go_wp2_with fail
 refine(ze1 _ _ _ _ _ _ _ hy rg (by omega) (by omega)).mono ?_
 rintro e u3 ⟨a4,c4,qs,a5,c5,rs',rfl,hv4,hv5,ht4,ht5,hr4,hr5,hb3⟩
 have rq:=hr4.rd
 replace rp:=rp.below hb3;replace B2:=B2.below hb3
 replace hbW:Below w.heap.size w u3:=hbW.trans (hb3.mono hbW.size)
 clear hb3 hr4 hr5 hv5 ht5 hy rg;obtain⟨q1,q2,q3,q4,q5,q6⟩:=B2.cells
 have hs:=B2.lt
 have hF:=zfw (n:=n) (xs:=xs) (ys:=ys) y0 ht2 ht4 (by rw[hv2,hv1]) (by rw[hv4,hv1])
 have lp:ps.length<=k:=zah ht2 (Nat.lt_of_le_of_lt (by rw[hv2];exact Nat.div_le_self _ _) (zbv hx0 lx))
 have lq:qs.length<=k:=zah ht4 (Nat.lt_of_le_of_lt (by rw[hv4];exact Nat.div_le_self _ _) (zbv hy0 ly))
 have fin:∀(m:Bool),m=(n&&decide (0<ps.length))->∀(U:World),(∀a c xs,Rd u3 a c xs->Rd U a c xs)->Fr U (.agg #[.bool m,.slice a2 ps.length c2,.slice a4 qs.length c4]) k (qv n xs ys):=by
  rintro m rfl U hU
  exact⟨_,ps,qs,⟨_,_,_,_,rfl,hU _ _ _ rp,hU _ _ _ rq⟩,hF.1,lp,lq,hF.2⟩
 clear hF
 cases n with
 | false =>
  go_wp2
  refine ret3 (v:=.agg #[.bool false,.slice a2 ps.length c2,.slice a4 qs.length c4]) B2 rfl (fun U hU=>by obtain⟨r1,r2,r3,_⟩:=hU.cells;simp[results,Tryz.results176,go_sem,r1,r2,r3]) (fun U hU hK=>⟨_,rfl,fin _ rfl U hK,hU _ _ hbW (by omega)⟩)
 | true =>
  go_wp2
  refine ret3 (v:=.agg #[.bool (decide (0<ps.length)),.slice a2 ps.length c2,.slice a4 qs.length c4]) B2 rfl (fun U hU=>by obtain⟨r1,r2,r3,_⟩:=hU.cells;simp[results,Tryz.results176,go_sem,r1,r2,r3]) (fun U hU hK=>⟨_,rfl,fin _ (by simp) U hK,hU _ _ hbW (by omega)⟩)
theorem zfc(z:Int)(w:World)(h1:-9223372036854775808<=z)(h2:z<9223372036854775808) :
 Calls Tryz.prog 177 #[.int .i64 z] w fun e w'=>∃a c ys,e=.returned (.slice a ys.length c)/\V ys=z.natAbs/\Tr ys/\Rd w' a c ys/\Below w.heap.size w w':=by
 by_cases hz:z<0
 . obtain⟨m,hm⟩:∃m:Nat,(m:Int)=-(z+1):=⟨(-(z+1)).toNat,by omega⟩
   have e1:wrap64 (z+1)=z+1:=by unfold wrap64;omega
   have e2:wrap64 (-(z+1))=(m:Int):=by unfold wrap64;omega
   have HZ:Hid (z.natAbs=m+1):=by show _=_;omega
   have hm2:m<18446744073709551616:=by omega
   go_enter Tryz.func177,Tryz.ntmps177
   go_wp2_with fail
   rw[<-hm]
   refine(zjp m _ hm2).mono ?_
   rintro e u1 ⟨a1,c1,zs,rfl,hv1,ht1,hr1,hb1⟩
   have rz:=hr1.rd
   go_wp2_with fail
   refine(zc0 _).mono ?_
   rintro e u2 ⟨a2,c2,os,rfl,ho,hto,ro,hb2⟩;replace rz:=rz.below hb2
   have hbW:Below w.heap.size w u2:=hb1.trans (hb2.mono hb1.size)
   have lz:=zbh ht1 (by omega)
   have lo:=zbh hto (by omega)
   clear hr1 hb1 hb2
   go_wp2_with fail
   refine(zds _ _ _ _ _ _ _ rz ro (by omega) (by omega)).mono ?_
   rintro e u3 ⟨a3,c3,ts,rfl,hv3,ht3,hr3,hb3⟩;go_wp2
   go_ret
   exact⟨_,_,_,rfl,by rw[hv3,hv1,ho,HZ.out],ht3,hr3.rd,hbW.trans (hb3.mono hbW.size)⟩
 . obtain⟨m,rfl⟩:∃m:Nat,z=(m:Int):=⟨z.toNat,by omega⟩
   go_enter Tryz.func177,Tryz.ntmps177
   go_wp2_with fail
   refine(zjp m _ (by omega)).mono ?_
   rintro e u1 ⟨a1,c1,ys,rfl,hv,ht,hr,hb⟩;go_wp2
   go_ret
   exact⟨_,_,_,rfl,by rw[hv];simp,ht,hr.rd,hb⟩
theorem zse{z:Int}{xs ys:List Nat}(hx:V xs=z.natAbs)(hy:V ys=1):qv (decide (z<0)) xs ys=(z:Rat):=by
 unfold qv;rw[hx,hy,zoj];exact Rat.mkRat_one z
theorem zb2(z:Int)(w:World)(h1:-9223372036854775808<=z)(h2:z<9223372036854775808) :
 Calls Tryz.prog 136 #[.int .i64 z] w fun e w'=>∃v',e=.returned v'/\Fr w' v' 2 (z:Rat)/\Below w.heap.size w w':=by
 go_enter Tryz.func136,Tryz.ntmps136
 go_wp2_with fail
 refine(zfc z _ h1 h2).mono ?_
 rintro e u1 ⟨a1,c1,xs,rfl,hv1,ht1,rx,hb1⟩
 obtain⟨B1,hbW⟩:=zbr hb1
 clear hb1
 go_wp2_with fail
 refine(zc0 _).mono ?_
 rintro e u2 ⟨a2,c2,ys,rfl,hv2,ht2,ry,hb2⟩;replace rx:=rx.below hb2;replace B1:=B1.below hb2
 replace hbW:Below w.heap.size w u2:=hbW.trans (hb2.mono hbW.size)
 clear hb2
 go_wp2_with fail
 refine(ze0 2 _ _ _ _ _ _ _ _ rx ry (by omega) (zbh ht1 (by omega)) (zbh ht2 (by omega)) (by decide)).mono ?_
 rintro e u3 ⟨v3,rfl,hF,hb3⟩;rw[zse hv1 hv2]at hF;replace B1:=B1.below hb3
 replace hbW:Below w.heap.size w u3:=hbW.trans (hb3.mono hbW.size)
 clear hb3;obtain⟨q1,q2,q3,q4,q5,q6⟩:=B1.cells
 have hs':=B1.lt
 obtain⟨n',xs',ys',⟨b,d,b',d',rfl,hx',hy'⟩,hF⟩:=hF;go_wp2
 exact ret3 (v:=.agg #[.bool n',.slice b xs'.length d,.slice b' ys'.length d']) B1 rfl (fun U hU=>by obtain⟨r1,r2,r3,_⟩:=hU.cells;simp[results,Tryz.results136,go_sem,r1,r2,r3]) (fun U hU hK=>⟨_,rfl,⟨_,_,_,⟨_,_,_,_,rfl,hK _ _ _ hx',hK _ _ _ hy'⟩,hF⟩,hU _ _ hbW (by omega)⟩)
theorem zfg(z d:Int)(w:World)(h1:-9223372036854775808<=z)(h2:z<9223372036854775808)(h3:-9223372036854775808<=d)(h4:d<9223372036854775808) :
 Calls Tryz.prog 172 #[.int .i64 z,.int .i64 d] w fun e w'=>∃v',e=.returned v'/\Fr w' v' 2 ((z:Rat)/(d:Rat))/\Below w.heap.size w w':=by
 by_cases hd:d=0
 . subst hd
   go_enter Tryz.func172,Tryz.ntmps172
   go_wp2_with fail
   refine(zbd _).mono ?_
   rintro e u2 ⟨v2,rfl,hF,hb2⟩
   obtain⟨B2,hbW⟩:=zbr hb2
   obtain⟨q1,q2,q3,q4,q5,q6⟩:=B2.cells
   have hs':=B2.lt
   obtain⟨n',xs',ys',⟨b,d,b',d',rfl,hx',hy'⟩,hf',lx',ly',he⟩:=hF;clear hb2;go_wp2
   refine ret3 (v:=.agg #[.bool n',.slice b xs'.length d,.slice b' ys'.length d']) B2 rfl (fun U hU=>by obtain⟨r1,r2,r3,_⟩:=hU.cells;simp[results,Tryz.results172,go_sem,r1,r2,r3]) (fun U hU hK=>⟨_,rfl,⟨_,_,_,⟨_,_,_,_,rfl,hK _ _ _ hx',hK _ _ _ hy'⟩,hf',by omega,by omega,by rw[he];simp[Rat.div_def]⟩,hU _ _ hbW (by omega)⟩)
 . have hd0:(d==0)=false:=beq_eq_false_iff_ne.2 hd
   go_enter Tryz.func172,Tryz.ntmps172
   go_wp2_with fail
   refine(zfc z _ h1 h2).mono ?_
   rintro e u1 ⟨a1,c1,xs,rfl,hv1,ht1,rx,hb1⟩
   obtain⟨B1,hbW⟩:=zbr hb1
   clear hb1
   go_wp2_with fail
   refine(zfc d _ h3 h4).mono ?_
   rintro e u2 ⟨a2,c2,ys,rfl,hv2,ht2,ry,hb2⟩;replace rx:=rx.below hb2;replace B1:=B1.below hb2
   replace hbW:Below w.heap.size w u2:=hbW.trans (hb2.mono hbW.size)
   clear hb2
   go_wp2_with fail
   refine(ze0 2 _ _ _ _ _ _ _ _ rx ry (by omega) (zbh ht1 (by omega)) (zbh ht2 (by omega)) (by decide)).mono ?_
   rintro e u3 ⟨v3,rfl,hF,hb3⟩;rw[zo3 hv1 hv2 hd]at hF;replace B1:=B1.below hb3
   replace hbW:Below w.heap.size w u3:=hbW.trans (hb3.mono hbW.size)
   clear hb3;obtain⟨q1,q2,q3,q4,q5,q6⟩:=B1.cells
   have hs':=B1.lt
   obtain⟨n',xs',ys',⟨b,d,b',d',rfl,hx',hy'⟩,hF⟩:=hF;go_wp2
   exact ret3 (v:=.agg #[.bool n',.slice b xs'.length d,.slice b' ys'.length d']) B1 rfl (fun U hU=>by obtain⟨r1,r2,r3,_⟩:=hU.cells;simp[results,Tryz.results172,go_sem,r1,r2,r3]) (fun U hU hK=>⟨_,rfl,⟨_,_,_,⟨_,_,_,_,rfl,hK _ _ _ hx',hK _ _ _ hy'⟩,hF⟩,hU _ _ hbW (by omega)⟩)
open Go.Maps
theorem zod(t:Te)(c:Int)(w:World)(hc:I64 c) :
 Calls Tryz.prog 213 #[.agg #[.int .i64 t.st,.int .i64 t.pk,.int .i64 t.en],.int .i64 c] w fun e w'=>∃v',e=.returned v'/\Fr w' v' 2 (paQ t c)/\Below w.heap.size w w':=by
 have hfo:=fun U=>zmv t U
 obtain⟨W,hW,X1,B1,hbW⟩:=zuy 220 161 w (.int .i64 t.st) (.int .i64 t.pk) (.int .i64 t.en) (.bool false) (.slice none 0 0) (.slice none 0 0)
 cases hf:tfB t with
 | false =>
  have HP:Hid ((0:Rat)=paQ t c):=(zln (fun h=>by rw[hf]at h;cases h.1)).symm
  simp only[hf]at hfo
  clear hf;obtain⟨st,pk,en⟩:=t
  dsimp only at *
  go_enter Tryz.func213,Tryz.ntmps213
  go_wp2_with fail
  rw[<-hW];clear hW
  refine(hfo _).mono ?_
  rintro e u1 ⟨rfl,hb1⟩;replace X1:=X1.below hb1;replace B1:=B1.below hb1
  replace hbW:=hbW.trans (hb1.mono hbW.size)
  clear hb1 hfo;obtain⟨p0,p1,p2,_⟩:=X1.cells
  go_wp2_with fail
  refine(zbd _).mono ?_
  rintro e u3 ⟨v3,rfl,hF3,hb3⟩;replace B1:=B1.below hb3
  replace hbW:=hbW.trans (hb3.mono hbW.size)
  rw[HP.out]at hF3;clear hb3 X1;obtain⟨n3,xs,ys,⟨a3,c3,b3,d3,rfl,hx3,hy3⟩,f1,f2,f3,f4⟩:=hF3;obtain⟨q1,q2,q3,q4,q5,q6⟩:=B1.cells
  have hs:=B1.lt
  go_wp2
  refine ret3 (v:=.agg #[.bool n3,.slice a3 xs.length c3,.slice b3 ys.length d3]) B1 rfl (fun U hU=>by obtain⟨r1,r2,r3,_⟩:=hU.cells;simp[results,Tryz.results213,go_sem,r1,r2,r3]) (fun U hU hK=>⟨_,rfl,⟨_,_,_,⟨_,_,_,_,rfl,hK _ _ _ hx3,hK _ _ _ hy3⟩,f1,f2,f3,f4⟩,hU _ _ hbW (by omega)⟩)
 | true =>
  have hbd:=zck.1 hf
  unfold TfT at hbd
  simp only[hf]at hfo
  cases hcc:crd c with
  | false =>
   have HP:Hid ((0:Rat)=paQ t c):=(zln (fun h=>by rw[hcc]at h;cases h.2)).symm
   clear hf hbd;obtain⟨st,pk,en⟩:=t
   dsimp only at *
   go_enter Tryz.func213,Tryz.ntmps213
   go_wp2_with fail
   rw[<-hW];clear hW
   refine(hfo _).mono ?_
   rintro e u1 ⟨rfl,hb1⟩;replace X1:=X1.below hb1;replace B1:=B1.below hb1
   replace hbW:=hbW.trans (hb1.mono hbW.size)
   clear hb1 hfo;obtain⟨p0,p1,p2,_⟩:=X1.cells
   go_wp2_with fail
   refine(zac c _).mono ?_
   rintro e u2 ⟨rfl,rfl⟩;rw[hcc];clear hcc
   go_wp2_with fail
   refine(zbd _).mono ?_
   rintro e u3 ⟨v3,rfl,hF3,hb3⟩;replace B1:=B1.below hb3
   replace hbW:=hbW.trans (hb3.mono hbW.size)
   rw[HP.out]at hF3;clear hb3 X1;obtain⟨n3,xs,ys,⟨a3,c3,b3,d3,rfl,hx3,hy3⟩,f1,f2,f3,f4⟩:=hF3;obtain⟨q1,q2,q3,q4,q5,q6⟩:=B1.cells
   have hs:=B1.lt
   go_wp2
   refine ret3 (v:=.agg #[.bool n3,.slice a3 xs.length c3,.slice b3 ys.length d3]) B1 rfl (fun U hU=>by obtain⟨r1,r2,r3,_⟩:=hU.cells;simp[results,Tryz.results213,go_sem,r1,r2,r3]) (fun U hU hK=>⟨_,rfl,⟨_,_,_,⟨_,_,_,_,rfl,hK _ _ _ hx3,hK _ _ _ hy3⟩,f1,f2,f3,f4⟩,hU _ _ hbW (by omega)⟩)
  | true =>
   have hcd:=crdT.1 hcc
   by_cases h1:t.pk=0
   . have HP:Hid (((1:Int):Rat)=paQ t c):=zhd hf hcc (.inl h1)
     have g1:(t.pk==0)=true:=by simp[h1]
     clear hf hbd hcd h1;obtain⟨st,pk,en⟩:=t
     dsimp only at *
     go_enter Tryz.func213,Tryz.ntmps213
     go_wp2_with fail
     rw[<-hW];clear hW
     refine(hfo _).mono ?_
     rintro e u1 ⟨rfl,hb1⟩;replace X1:=X1.below hb1;replace B1:=B1.below hb1
     replace hbW:=hbW.trans (hb1.mono hbW.size)
     clear hb1 hfo;obtain⟨p0,p1,p2,_⟩:=X1.cells
     go_wp2_with fail
     refine(zac c _).mono ?_
     rintro e u2 ⟨rfl,rfl⟩;rw[hcc];clear hcc
     go_wp2_with fail
     refine(zb2 1 _ (by decide) (by decide)).mono ?_
     rintro e u3 ⟨v3,rfl,hF3,hb3⟩;replace B1:=B1.below hb3
     replace hbW:=hbW.trans (hb3.mono hbW.size)
     rw[HP.out]at hF3;clear hb3 X1;obtain⟨n3,xs,ys,⟨a3,c3,b3,d3,rfl,hx3,hy3⟩,f1,f2,f3,f4⟩:=hF3;obtain⟨q1,q2,q3,q4,q5,q6⟩:=B1.cells
     have hs:=B1.lt
     go_wp2
     refine ret3 (v:=.agg #[.bool n3,.slice a3 xs.length c3,.slice b3 ys.length d3]) B1 rfl (fun U hU=>by obtain⟨r1,r2,r3,_⟩:=hU.cells;simp[results,Tryz.results213,go_sem,r1,r2,r3]) (fun U hU hK=>⟨_,rfl,⟨_,_,_,⟨_,_,_,_,rfl,hK _ _ _ hx3,hK _ _ _ hy3⟩,f1,f2,f3,f4⟩,hU _ _ hbW (by omega)⟩)
   . by_cases h2:c=t.pk
     . have HP:Hid (((1:Int):Rat)=paQ t c):=zhd hf hcc (.inr h2)
       have g1:(t.pk==0)=false:=by simp[h1]
       have g2:(c==t.pk)=true:=by simp[h2]
       clear h1 h2 hf hbd hcd;obtain⟨st,pk,en⟩:=t
       dsimp only at *
       go_enter Tryz.func213,Tryz.ntmps213
       go_wp2_with fail
       rw[<-hW];clear hW
       refine(hfo _).mono ?_
       rintro e u1 ⟨rfl,hb1⟩;replace X1:=X1.below hb1;replace B1:=B1.below hb1
       replace hbW:=hbW.trans (hb1.mono hbW.size)
       clear hb1 hfo;obtain⟨p0,p1,p2,_⟩:=X1.cells
       go_wp2_with fail
       refine(zac c _).mono ?_
       rintro e u2 ⟨rfl,rfl⟩;rw[hcc];clear hcc
       go_wp2_with fail
       refine(zb2 1 _ (by decide) (by decide)).mono ?_
       rintro e u3 ⟨v3,rfl,hF3,hb3⟩;replace B1:=B1.below hb3
       replace hbW:=hbW.trans (hb3.mono hbW.size)
       rw[HP.out]at hF3;clear hb3 X1;obtain⟨n3,xs,ys,⟨a3,c3,b3,d3,rfl,hx3,hy3⟩,f1,f2,f3,f4⟩:=hF3;obtain⟨q1,q2,q3,q4,q5,q6⟩:=B1.cells
       have hs:=B1.lt
       go_wp2
       refine ret3 (v:=.agg #[.bool n3,.slice a3 xs.length c3,.slice b3 ys.length d3]) B1 rfl (fun U hU=>by obtain⟨r1,r2,r3,_⟩:=hU.cells;simp[results,Tryz.results213,go_sem,r1,r2,r3]) (fun U hU hK=>⟨_,rfl,⟨_,_,_,⟨_,_,_,_,rfl,hK _ _ _ hx3,hK _ _ _ hy3⟩,f1,f2,f3,f4⟩,hU _ _ hbW (by omega)⟩)
     . have h12:¬(t.pk=0\/c=t.pk):=by omega
       by_cases h3:c<=t.st
       . have HP:Hid ((0:Rat)=paQ t c):=zhe hf hcc h12 (.inl h3)
         have g1:(t.pk==0)=false:=by simp[h1]
         have g2:(c==t.pk)=false:=by simp[h2]
         have g3:decide (c<=t.st)=true:=decide_eq_true h3
         clear h1 h2 hf hbd hcd h12;obtain⟨st,pk,en⟩:=t
         dsimp only at *
         go_enter Tryz.func213,Tryz.ntmps213
         go_wp2_with fail
         rw[<-hW];clear hW
         refine(hfo _).mono ?_
         rintro e u1 ⟨rfl,hb1⟩;replace X1:=X1.below hb1;replace B1:=B1.below hb1
         replace hbW:=hbW.trans (hb1.mono hbW.size)
         clear hb1 hfo;obtain⟨p0,p1,p2,_⟩:=X1.cells
         go_wp2_with fail
         refine(zac c _).mono ?_
         rintro e u2 ⟨rfl,rfl⟩;rw[hcc];clear hcc
         go_wp2_with fail
         refine(zbd _).mono ?_
         rintro e u3 ⟨v3,rfl,hF3,hb3⟩;replace B1:=B1.below hb3
         replace hbW:=hbW.trans (hb3.mono hbW.size)
         rw[HP.out]at hF3;clear hb3 X1;obtain⟨n3,xs,ys,⟨a3,c3,b3,d3,rfl,hx3,hy3⟩,f1,f2,f3,f4⟩:=hF3;obtain⟨q1,q2,q3,q4,q5,q6⟩:=B1.cells
         have hs:=B1.lt
         go_wp2
         refine ret3 (v:=.agg #[.bool n3,.slice a3 xs.length c3,.slice b3 ys.length d3]) B1 rfl (fun U hU=>by obtain⟨r1,r2,r3,_⟩:=hU.cells;simp[results,Tryz.results213,go_sem,r1,r2,r3]) (fun U hU hK=>⟨_,rfl,⟨_,_,_,⟨_,_,_,_,rfl,hK _ _ _ hx3,hK _ _ _ hy3⟩,f1,f2,f3,f4⟩,hU _ _ hbW (by omega)⟩)
       . by_cases h4:t.en<=c
         . have HP:Hid ((0:Rat)=paQ t c):=zhe hf hcc h12 (.inr h4)
           have g1:(t.pk==0)=false:=by simp[h1]
           have g2:(c==t.pk)=false:=by simp[h2]
           have g3:decide (c<=t.st)=false:=decide_eq_false h3
           have g4:decide (t.en<=c)=true:=decide_eq_true h4
           clear h1 h2 hf hbd hcd h12;obtain⟨st,pk,en⟩:=t
           dsimp only at *
           go_enter Tryz.func213,Tryz.ntmps213
           go_wp2_with fail
           rw[<-hW];clear hW
           refine(hfo _).mono ?_
           rintro e u1 ⟨rfl,hb1⟩;replace X1:=X1.below hb1;replace B1:=B1.below hb1
           replace hbW:=hbW.trans (hb1.mono hbW.size)
           clear hb1 hfo;obtain⟨p0,p1,p2,_⟩:=X1.cells
           go_wp2_with fail
           refine(zac c _).mono ?_
           rintro e u2 ⟨rfl,rfl⟩;rw[hcc];clear hcc
           go_wp2_with fail
           refine(zbd _).mono ?_
           rintro e u3 ⟨v3,rfl,hF3,hb3⟩;replace B1:=B1.below hb3
           replace hbW:=hbW.trans (hb3.mono hbW.size)
           rw[HP.out]at hF3;clear hb3 X1;obtain⟨n3,xs,ys,⟨a3,c3,b3,d3,rfl,hx3,hy3⟩,f1,f2,f3,f4⟩:=hF3;obtain⟨q1,q2,q3,q4,q5,q6⟩:=B1.cells
           have hs:=B1.lt
           go_wp2
           refine ret3 (v:=.agg #[.bool n3,.slice a3 xs.length c3,.slice b3 ys.length d3]) B1 rfl (fun U hU=>by obtain⟨r1,r2,r3,_⟩:=hU.cells;simp[results,Tryz.results213,go_sem,r1,r2,r3]) (fun U hU hK=>⟨_,rfl,⟨_,_,_,⟨_,_,_,_,rfl,hK _ _ _ hx3,hK _ _ _ hy3⟩,f1,f2,f3,f4⟩,hU _ _ hbW (by omega)⟩)
         . have h34:¬(c<=t.st\/t.en<=c):=by omega
           by_cases h5:c<t.pk
           . have HP:Hid (((c-t.st:Int):Rat)/((t.pk-t.st:Int):Rat)=paQ t c):=zt8 hf hcc h12 h34 h5
             have g1:(t.pk==0)=false:=by simp[h1]
             have g2:(c==t.pk)=false:=by simp[h2]
             have g3:decide (c<=t.st)=false:=decide_eq_false h3
             have g4:decide (t.en<=c)=false:=decide_eq_false h4
             clear hf h12 h34
             have k1:IntKind.i64.wrap (c-t.st)=c-t.st:=zbs (by omega) (by omega)
             have k2:IntKind.i64.wrap (t.pk-t.st)=t.pk-t.st:=zbs (by omega) (by omega)
             have hm:=fun U=>zfg (c-t.st) (t.pk-t.st) U (by omega) (by omega) (by omega) (by omega)
             clear h1 h2 hbd hcd;obtain⟨st,pk,en⟩:=t
             dsimp only at *
             go_enter Tryz.func213,Tryz.ntmps213
             go_wp2_with fail
             rw[<-hW];clear hW
             refine(hfo _).mono ?_
             rintro e u1 ⟨rfl,hb1⟩;replace X1:=X1.below hb1;replace B1:=B1.below hb1
             replace hbW:=hbW.trans (hb1.mono hbW.size)
             clear hb1 hfo;obtain⟨p0,p1,p2,_⟩:=X1.cells
             go_wp2_with fail
             refine(zac c _).mono ?_
             rintro e u2 ⟨rfl,rfl⟩;rw[hcc];clear hcc
             go_wp2_with fail
             refine(hm _).mono ?_
             rintro e u3 ⟨v3,rfl,hF3,hb3⟩;replace B1:=B1.below hb3
             replace hbW:=hbW.trans (hb3.mono hbW.size)
             rw[HP.out]at hF3;clear hb3 X1;obtain⟨n3,xs,ys,⟨a3,c3,b3,d3,rfl,hx3,hy3⟩,f1,f2,f3,f4⟩:=hF3;obtain⟨q1,q2,q3,q4,q5,q6⟩:=B1.cells
             have hs:=B1.lt
             go_wp2
             refine ret3 (v:=.agg #[.bool n3,.slice a3 xs.length c3,.slice b3 ys.length d3]) B1 rfl (fun U hU=>by obtain⟨r1,r2,r3,_⟩:=hU.cells;simp[results,Tryz.results213,go_sem,r1,r2,r3]) (fun U hU hK=>⟨_,rfl,⟨_,_,_,⟨_,_,_,_,rfl,hK _ _ _ hx3,hK _ _ _ hy3⟩,f1,f2,f3,f4⟩,hU _ _ hbW (by omega)⟩)
           . have HP:Hid (((t.en-c:Int):Rat)/((t.en-t.pk:Int):Rat)=paQ t c):=zlo hf hcc h12 h34 h5
             have g1:(t.pk==0)=false:=by simp[h1]
             have g2:(c==t.pk)=false:=by simp[h2]
             have g3:decide (c<=t.st)=false:=decide_eq_false h3
             have g4:decide (t.en<=c)=false:=decide_eq_false h4
             clear hf h12 h34
             have k1:IntKind.i64.wrap (t.en-c)=t.en-c:=zbs (by omega) (by omega)
             have k2:IntKind.i64.wrap (t.en-t.pk)=t.en-t.pk:=zbs (by omega) (by omega)
             have hm:=fun U=>zfg (t.en-c) (t.en-t.pk) U (by omega) (by omega) (by omega) (by omega)
             clear h1 h2 hbd hcd;obtain⟨st,pk,en⟩:=t
             dsimp only at *
             go_enter Tryz.func213,Tryz.ntmps213
             go_wp2_with fail
             rw[<-hW];clear hW
             refine(hfo _).mono ?_
             rintro e u1 ⟨rfl,hb1⟩;replace X1:=X1.below hb1;replace B1:=B1.below hb1
             replace hbW:=hbW.trans (hb1.mono hbW.size)
             clear hb1 hfo;obtain⟨p0,p1,p2,_⟩:=X1.cells
             go_wp2_with fail
             refine(zac c _).mono ?_
             rintro e u2 ⟨rfl,rfl⟩;rw[hcc];clear hcc
             go_wp2_with fail
             refine(hm _).mono ?_
             rintro e u3 ⟨v3,rfl,hF3,hb3⟩;replace B1:=B1.below hb3
             replace hbW:=hbW.trans (hb3.mono hbW.size)
             rw[HP.out]at hF3;clear hb3 X1;obtain⟨n3,xs,ys,⟨a3,c3,b3,d3,rfl,hx3,hy3⟩,f1,f2,f3,f4⟩:=hF3;obtain⟨q1,q2,q3,q4,q5,q6⟩:=B1.cells
             have hs:=B1.lt
             go_wp2
             refine ret3 (v:=.agg #[.bool n3,.slice a3 xs.length c3,.slice b3 ys.length d3]) B1 rfl (fun U hU=>by obtain⟨r1,r2,r3,_⟩:=hU.cells;simp[results,Tryz.results213,go_sem,r1,r2,r3]) (fun U hU hK=>⟨_,rfl,⟨_,_,_,⟨_,_,_,_,rfl,hK _ _ _ hx3,hK _ _ _ hy3⟩,f1,f2,f3,f4⟩,hU _ _ hbW (by omega)⟩)
