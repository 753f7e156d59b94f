import Derived.Test.YtgbhidcokobmmaaGreatDoorZL10
set_option maxHeartbeats 4000000
set_option maxRecDepth 100000
set_option linter.unusedSimpArgs false
set_option linter.unusedVariables false
namespace Go.Proofs.YtgbhidcokobmmaaGreatDoor
open Go.RowKit
theorem zfx(w:World)(a b:Nat):(w.drewN a).drewN b=w.drewN (a+b):=by simp[World.drewN,Nat.add_assoc]
theorem zke{q v0 v1 u0 u1 u2 tp t0 r0:Nat}(hq:q*(v0+4294967296*v1)<=u0+4294967296*u1+18446744073709551616*u2)(htp:u2*4294967296+u1=tp)(hd:v1*t0+r0=tp)(hr:r0<v1)(hu:u0<4294967296):q<=t0:=by
 rcases Nat.lt_or_ge t0 q with h|h
 . exfalso
   have h1:v1*(t0+1)<=v1*q:=Nat.mul_le_mul_left _ h
   rw[Nat.mul_add,Nat.mul_one]at h1
   have e:q*(v0+4294967296*v1)=q*v0+4294967296*(v1*q):=by grind
   omega
 . exact h
theorem zkf{v1 u1 u2 tp t0 r0:Nat}(htp:u2*4294967296+u1=tp)(hd:v1*t0+r0=tp)(hv1:2147483648<=v1)(hu2:u2<=v1)(k1:u1<4294967296):t0<=4294967297:=by
 rcases Nat.lt_or_ge 4294967297 t0 with h|h
 . exfalso
   have h1:v1*4294967298<=v1*t0:=Nat.mul_le_mul_left _ h
   omega
 . exact h
theorem zkg{v1 u1 u2 tp t r:Nat}(htp:u2*4294967296+u1=tp)(hd:v1*t+(r+v1)=tp)(hu2:u2<=v1)(k1:u1<4294967296)(hb:4294967296<=r+v1):t<4294967296:=by
 rcases Nat.lt_or_ge t 4294967296 with h|h
 . exact h
 . exfalso
   have h1:v1*4294967296<=v1*t:=Nat.mul_le_mul_left _ h
   omega
theorem zfu{t v0 u0 r:Nat}(ht:t<4294967296)(hv:v0<4294967296)(hb:4294967296<=r):t*v0<=r*4294967296+u0:=by
 have:=zdv ht hv
 omega
theorem zfv{v0 v1 u0 u1 u2 tp t r:Nat}(htp:u2*4294967296+u1=tp)(hd:v1*t+r=tp)(h:t*v0<=r*4294967296+u0):t*(v0+4294967296*v1)<=u0+4294967296*u1+18446744073709551616*u2:=by
 have e:t*(v0+4294967296*v1)=t*v0+4294967296*(v1*t):=by grind
 omega
theorem znl{v0 v1 u0 u1 u2 tp t r:Nat}(htp:u2*4294967296+u1=tp)(hd:v1*t+r=tp)(h:r*4294967296+u0<t*v0):u0+4294967296*u1+18446744073709551616*u2<t*(v0+4294967296*v1):=by
 have e:t*(v0+4294967296*v1)=t*v0+4294967296*(v1*t):=by grind
 omega
theorem zqk(g off co n:Nat)(zs:List Nat)(b1 o1 cb:Nat)(ys:List Nat)(q:Nat)(w:World)(hblk:Blk 211 w g zs)(lz:Lim zs)(hb:Rd w (some ⟨b1,o1,none⟩) cb ys)
    (hn:ys.length=n) (hn2:2<=n) (hlen:off+n+1<=zs.length) (hbig:zs.length<=4000000000) (hv1:2147483648<=ys.getD (n-1) 0) (hu2:zs.getD (off+n) 0<=ys.getD (n-1) 0) (hq:q<4294967296)
    (zrx:∀t,zs.getD (off+n-2) 0+4294967296*zs.getD (off+n-1) 0+18446744073709551616*zs.getD (off+n) 0<t*(ys.getD (n-2) 0+4294967296*ys.getD (n-1) 0)->q<t)
    (hq0:q*(ys.getD (n-2) 0+4294967296*ys.getD (n-1) 0)<=zs.getD (off+n-2) 0+4294967296*zs.getD (off+n-1) 0+18446744073709551616*zs.getD (off+n) 0) :
    Calls Tryz.prog 227 #[.slice (some ⟨g,off,none⟩) (n+1) co,.slice (some ⟨b1,o1,none⟩) n cb] w fun e w' =>
     ∃t:Nat,e=.returned (.int .u32 (t:Int))/\t<4294967296/\q<=t/\t*(ys.getD (n-2) 0+4294967296*ys.getD (n-1) 0)<=zs.getD (off+n-2) 0+4294967296*zs.getD (off+n-1) 0+18446744073709551616*zs.getD (off+n) 0/\∃k,w'=w.drewN k:=by
 obtain⟨m,rfl⟩:∃m,n=m+2:=⟨n-2,by omega⟩
 have c1:=hb.at (m+1) (by omega)
 have c0:=hb.at m (by omega)
 have d2:=hblk.cell (off+(m+2)) (by omega)
 have d1:=hblk.cell (off+(m+1)) (by omega)
 have d0:=hblk.cell (off+m) (by omega)
 rw[show m+2-1=m+1 by omega]at hv1 hu2 zrx hq0 ⊢
 rw[show m+2-2=m by omega]at zrx hq0 ⊢
 rw[show off+(m+2)-1=off+(m+1) by omega]at zrx hq0 ⊢
 rw[show off+(m+2)-2=off+m by omega]at zrx hq0 ⊢
 have l1:=hb.lim.getD (m+1)
 have l0:=hb.lim.getD m
 have k2:=lz.getD (off+(m+2))
 have k1:=lz.getD (off+(m+1))
 have k0:=lz.getD (off+m)
 generalize ys.getD (m+1) 0=v1 at *
 generalize ys.getD m 0=v0 at *
 generalize zs.getD (off+(m+2)) 0=u2 at *
 generalize zs.getD (off+(m+1)) 0=u1 at *
 generalize zs.getD (off+m) 0=u0 at *
 clear hb hblk
 have HLO:Hid (∀t,u0+4294967296*u1+18446744073709551616*u2<t*(v0+4294967296*v1)->q<t):=zrx
 have HQ0:Hid (q*(v0+4294967296*v1)<=u0+4294967296*u1+18446744073709551616*u2):=hq0
 clear zrx hq0
 have i1:(0:Int)<=(m:Int)+2-1:=by omega
 have i2:(m:Int)+2-1<(m:Int)+2:=by omega
 have hor1:=zlp u2 u1 k2 k1
 obtain⟨tp,htp⟩:∃tp,u2*4294967296+u1=tp:=⟨_,rfl⟩
 have htpi:(u2:Int)*4294967296+(u1:Int)=(tp:Int):=by omega
 have HTP:Hid (u2*4294967296+u1=tp):=htp
 have btp:tp<18446744073709551616:=by omega
 obtain⟨t0,ht0⟩:∃t0,tp/v1=t0:=⟨_,rfl⟩
 obtain⟨r0,hr0⟩:∃r0,tp%v1=r0:=⟨_,rfl⟩
 have ht0i:(tp:Int)/(v1:Int)=(t0:Int):=by rw[<-ht0];simp
 have hr0i:(tp:Int)%(v1:Int)=(r0:Int):=by rw[<-hr0];simp
 have hdm:v1*t0+r0=tp:=by rw[<-ht0,<-hr0];exact Nat.div_add_mod tp v1
 have hr0b:r0<v1:=by rw[<-hr0];exact Nat.mod_lt _ (by omega)
 have HDM:Hid (v1*t0+r0=tp):=hdm
 clear htp ht0 hr0 hdm
 have hq1:q<=t0:=zke HQ0.out HTP.out HDM.out hr0b k0
 have ht1:t0<=4294967297:=zkf HTP.out HDM.out hv1 hu2 k1
 go_enter Tryz.func227,Tryz.ntmps227
 go_wp2_with fail
 go_quiet (fail)
 go_wp2_with fail
 have e2:(w.drewN nq).cell? ⟨g,off+(m+2),none⟩=some (.int .u32 (u2:Int)):=d2
 have e1:(w.drewN nq).cell? ⟨g,off+(m+1),none⟩=some (.int .u32 (u1:Int)):=d1
 have e0:(w.drewN nq).cell? ⟨g,off+m,none⟩=some (.int .u32 (u0:Int)):=d0
 have HW1:Hid (∃k,w.drewN nq=w.drewN k):=⟨_,rfl⟩
 clear d2 d1 d0 c1 c0
 generalize w.drewN nq=wq at e2 e1 e0 HW1 ⊢
 go_quiet (fail)
 go_wp2_with fail
 have f0:(wq.drewN nq).cell? ⟨g,off+m,none⟩=some (.int .u32 (u0:Int)):=e0
 have HW2:Hid (∃k,wq.drewN nq=w.drewN k):=by obtain⟨k,hk⟩:=HW1.out;exact⟨k+nq,by rw[hk];exact zfx _ _ _⟩
 clear e2 e1 e0 HW1
 generalize wq.drewN nq=wq2 at f0 HW2 ⊢
 go_quiet (fail)
 go_wp2_with fail
 have g0:(wq2.drewN nq).cell? ⟨g,off+m,none⟩=some (.int .u32 (u0:Int)):=f0
 have HW3:Hid (∃k,wq2.drewN nq=w.drewN k):=by obtain⟨k,hk⟩:=HW2.out;exact⟨k+nq,by rw[hk];exact zfx _ _ _⟩
 clear f0 HW2
 generalize wq2.drewN nq=wq3 at g0 HW3 ⊢
 have HR0:Hid (Value.int .u64 ((tp:Int)%(v1:Int))=Value.int .u64 (r0:Int)):=congrArg (Value.int .u64) hr0i
 clear hor1 htpi ht0i hr0i
 go_loop [9,10] (fun a b=>∃t r:Nat,a=.int .u64 t/\b=.int .u64 r/\v1*t+r=tp/\q<=t/\r<4294967296/\t<=4294967297) (fun a _=>(intOf a).toNat)
 case atStart=>exact⟨t0,r0,rfl,HR0.out,HDM.out,hq1,by omega,ht1⟩
 case round =>
  obtain⟨t,r,rfl,rfl,hinv,hqt,hr,ht⟩:=hrel
  have HI:Hid (v1*t+r=tp):=hinv
  clear hinv
  have hor2:=zlp r u0 hr k0
  by_cases hA:4294967296<=t
  . have hA':((t:Int)/4294967296 != 0)=true:=by rw[bne_iff_ne];omega
    have zyr:q<t:=by omega
    obtain⟨t',ht'⟩:∃t',t'+1=t:=⟨t-1,by omega⟩
    have HI2:Hid (v1*t'+(r+v1)=tp):=by have:=HI.out;show _=_;rw[<-this,<-ht',Nat.mul_add];omega
    by_cases hbr:4294967296<=r+v1
    . have hB':(((r:Int)+(v1:Int))/4294967296 != 0)=true:=by rw[bne_iff_ne];omega
      have hlt:t'<4294967296:=zkg HTP.out HI2.out hu2 k1 hbr
      go_wp2
      go_ret
      exact⟨t',zcd (by omega),hlt,by omega,zfv HTP.out HI2.out (zfu hlt l0 hbr),HW3.out⟩
    . have hB':(((r:Int)+(v1:Int))/4294967296 != 0)=false:=by rw[bne_eq_false_iff_eq];omega
      go_wp2
      go_round
      case rel=>exact⟨t',r+v1,congrArg (Value.int .u64) (by omega),congrArg (Value.int .u64) (by omega),HI2.out,by omega,by omega,by omega⟩
      case measure=>simp[intOf];omega
  . have hA':((t:Int)/4294967296 != 0)=false:=by rw[bne_eq_false_iff_eq];omega
    obtain⟨p,hp⟩:∃p,t*v0=p:=⟨_,rfl⟩
    have bp:p<=18446744065119617025:=by rw[<-hp];exact zdv (by omega) l0
    have hpi:(t:Int)*(v0:Int)=(p:Int):=by rw[<-hp];simp
    have HP:Hid (t*v0=p):=hp
    clear hp
    by_cases hC:r*4294967296+u0<p
    . have zyr:q<t:=HLO.out t (znl HTP.out HI.out (by rw[HP.out];exact hC))
      obtain⟨t',ht'⟩:∃t',t'+1=t:=⟨t-1,by omega⟩
      have HI2:Hid (v1*t'+(r+v1)=tp):=by have:=HI.out;show _=_;rw[<-this,<-ht',Nat.mul_add];omega
      by_cases hbr:4294967296<=r+v1
      . have hB':(((r:Int)+(v1:Int))/4294967296 != 0)=true:=by rw[bne_iff_ne];omega
        have hlt:t'<4294967296:=by omega
        go_wp2
        go_ret
        exact⟨t',zcd (by omega),hlt,by omega,zfv HTP.out HI2.out (zfu hlt l0 hbr),HW3.out⟩
      . have hB':(((r:Int)+(v1:Int))/4294967296 != 0)=false:=by rw[bne_eq_false_iff_eq];omega
        go_wp2
        go_round
        case rel=>exact⟨t',r+v1,congrArg (Value.int .u64) (by omega),congrArg (Value.int .u64) (by omega),HI2.out,by omega,by omega,by omega⟩
        case measure=>simp[intOf];omega
    . go_wp2
      go_ret
      exact⟨t,zcd (by omega),by omega,hqt,zfv HTP.out HI.out (by rw[HP.out];omega),HW3.out⟩
theorem zcv{a b P:Nat}(h:a*P<b*P):a<b:=by
 rcases Nat.lt_or_ge a b with h1|h1
 . exact h1
 . have:=Nat.mul_le_mul_right P h1;omega
theorem zmo{f y:Nat->Nat}{m:Nat}(hf:∀i,f i<4294967296)(hy:∀i,y i<4294967296)(hv:2147483648<=y (m+1))(hlt:Sv f (m+3)<4294967296*Sv y (m+2)) :
 f (m+2)<=y (m+1)/\Sv f (m+3)/Sv y (m+2)<4294967296 /\
    (∀t,f m+4294967296*f (m+1)+18446744073709551616*f (m+2)<t*(y m+4294967296*y (m+1))->Sv f (m+3)/Sv y (m+2)<t) /\
    Sv f (m+3)/Sv y (m+2)*(y m+4294967296*y (m+1))<=f m+4294967296*f (m+1)+18446744073709551616*f (m+2) /\
    (∀t,t*(y m+4294967296*y (m+1))<=f m+4294967296*f (m+1)+18446744073709551616*f (m+2)->t<=Sv f (m+3)/Sv y (m+2)+1):=by
 have eF:=zxb f m
 have eY:=zxc y m
 have bF:=Sv_lt (f:=f) (k:=m) (fun i _=>hf i)
 have bY:=Sv_lt (f:=y) (k:=m) (fun i _=>hy i)
 have hP:0<4294967296 ^ m:=Nat.pow_pos (by decide)
 have h0:=hf m;have h1:=hf (m+1);have h2:=hf (m+2);have g0:=hy m;have g1:=hy (m+1)
 generalize Sv f (m+3)=VL at *
 generalize Sv y (m+2)=VB at *
 generalize Sv f m=F at *
 generalize Sv y m=Y at *
 generalize 4294967296 ^ m=P at *
 generalize f m=u0 at *
 generalize f (m+1)=u1 at *
 generalize f (m+2)=u2 at *
 generalize y m=v0 at *
 generalize y (m+1)=v1 at *
 obtain⟨W,hW⟩:∃W,v0+4294967296*v1=W:=⟨_,rfl⟩
 obtain⟨U,hU⟩:∃U,u0+4294967296*u1+18446744073709551616*u2=U:=⟨_,rfl⟩
 rw[hW]at eY ⊢;rw[hU]at eF ⊢
 have hVB:0<VB:=by
  have:P*1<=P*W:=Nat.mul_le_mul_left P (by omega)
  omega
 have hq1:VL/VB*VB<=VL:=Nat.div_mul_le_self VL VB
 have hq2:VL<(VL/VB+1)*VB:=by
  have:=Nat.lt_div_mul_add (a:=VL) hVB
  rw[Nat.add_mul,Nat.one_mul];exact this
 have a1:W*P<=VB:=by rw[eY,Nat.mul_comm];omega
 have a2:VB<(W+1)*P:=by rw[eY,Nat.add_mul,Nat.one_mul,Nat.mul_comm];omega
 have a3:U*P<=VL:=by rw[eF,Nat.mul_comm];omega
 have a4:VL<(U+1)*P:=by rw[eF,Nat.add_mul,Nat.one_mul,Nat.mul_comm];omega
 have zyr:VL/VB<4294967296:=Nat.div_lt_of_lt_mul (by rw[Nat.mul_comm];exact hlt)
 refine⟨?_,zyr,fun t ht=>zqj hP hq1 a1 a4 ht,?_,fun t ht=>znm hP hq2 a2 a3 ht (by omega)⟩
 . have h3:U*P<(4294967296*(W+1))*P:=by
     have:4294967296*VB<=4294967296*((W+1)*P):=Nat.mul_le_mul_left _ (Nat.le_of_lt a2)
     rw[Nat.mul_assoc];omega
   have:=zcv h3
   omega
 . have h4:VL/VB*W*P<(U+1)*P:=by
     have:VL/VB*(W*P)<=VL/VB*VB:=Nat.mul_le_mul_left _ a1
     rw[Nat.mul_assoc];omega
   have:=zcv h4
   omega
theorem zmn{VL VB S0 S1 p u2 c t:Nat}(hVB:0<VB)(hL:VL=S0+p*u2)(hs:S1+VB*t=S0+p*c)(hc:c<=u2)(hq:VL/VB<=t):t=VL/VB/\S1+p*(u2-c)=VL%VB:=by
 obtain⟨k,rfl⟩:∃k,u2=c+k:=⟨u2-c,by omega⟩
 rw[show c+k-c=k by omega]
 have e:VB*t+(S1+p*k)=VL:=by rw[hL,Nat.mul_add];omega
 have ht:t<=VL/VB:=(Nat.le_div_iff_mul_le hVB).2 (by rw[Nat.mul_comm];omega)
 have htq:t=VL/VB:=by omega
 refine⟨htq,?_⟩
 have:=Nat.div_add_mod VL VB
 rw[<-htq]at this
 omega
theorem zob{VL VB S0 S1 S2 p u2 c d t:Nat}(hVB:0<VB)(hp:VB<p)(h1:S1<p)(h2:S2<p)(hL:VL=S0+p*u2)(hs:S1+VB*t=S0+p*c)(ha:S2+p*d=S1+VB)(hc:u2<c)(ht:t<=VL/VB+1) :
 t=VL/VB+1/\u2+d=c/\S2=VL%VB:=by
 have hpc:p*(u2+1)<=p*c:=Nat.mul_le_mul_left p hc
 rw[Nat.mul_add,Nat.mul_one]at hpc
 have hgt:VL<VB*t:=by omega
 have htq:VL/VB<t:=(Nat.div_lt_iff_lt_mul hVB).2 (by rw[Nat.mul_comm];exact hgt)
 have htt:t=VL/VB+1:=by omega
 have hdm:=Nat.div_add_mod VL VB
 have hr:=Nat.mod_lt VL hVB
 have e:S2+p*(u2+d)=VL%VB+p*c:=by
  rw[htt,Nat.mul_add,Nat.mul_one]at hs
  rw[Nat.mul_add];omega
 generalize VL%VB=r at *
 have hud:u2+d=c:=by
  rcases Nat.lt_trichotomy (u2+d) c with h|h|h
  . have:=Nat.mul_le_mul_left p h
    rw[Nat.mul_succ]at this;omega
  . exact h
  . have:=Nat.mul_le_mul_left p h
    rw[Nat.mul_succ]at this;omega
 refine⟨htt,hud,?_⟩
 rw[hud]at e;omega
theorem zdy{a b c:World}{row:Option Nat}(h:a.grownBy b row)(k:b.grownBy c row):a.grownBy c row :=
 ⟨k.os.trans h.os,k.tape.trans h.tape,k.output.trans h.output,Nat.le_trans h.size k.size,fun i hi hne=>(k.block i (Nat.lt_of_lt_of_le hi h.size) hne).trans (h.block i hi hne)⟩
theorem zho(w:World)(k:Nat)(row:Option Nat):w.grownBy (w.drewN k) row:=⟨rfl,rfl,rfl,Nat.le_refl _,fun _ _ _=>rfl⟩
theorem zkj(g off co:Nat)(zs:List Nat)(b1 o1 cb:Nat)(ys:List Nat)(w:World)(hblk:Blk 211 w g zs)(lz:Lim zs)(hb:Rd w (some ⟨b1,o1,none⟩) cb ys)(zs9:b1≠g)
    (hn2:2<=ys.length) (hlen:off+ys.length+1<=zs.length) (hbig:zs.length<=2000000000) (hco:ys.length+1<=co) (hco2:co<=9223372036854775807) (hv1:2147483648<=ys.getD (ys.length-1) 0)
    (hlt:Sv (fun i=>zs.getD (off+i) 0) (ys.length+1)<4294967296*V ys) :
    Calls Tryz.prog 216 #[.slice (some ⟨g,off,none⟩) (ys.length+1) co,.slice (some ⟨b1,o1,none⟩) ys.length cb] w fun e w' =>
     ∃(cs:List Nat) (q:Nat),e=.returned (.int .u32 (q:Int))/\q=Sv (fun i=>zs.getD (off+i) 0) (ys.length+1)/V ys/\q<4294967296/\cs.length=zs.length/\Lim cs/\(∀i,i<off\/off+ys.length+1<=i->cs.getD i 0=zs.getD i 0) /\
      Sv (fun i=>cs.getD (off+i) 0) (ys.length+1)=Sv (fun i=>zs.getD (off+i) 0) (ys.length+1)%V ys/\Blk 211 w' g cs/\w.grownBy w' (some g):=by
 have ly:=hb.lim
 obtain⟨n,hn⟩:∃n,ys.length=n:=⟨_,rfl⟩
 obtain⟨m,hm⟩:∃m,n=m+2:=⟨n-2,by omega⟩
 have hV:V ys=Sv (fun i=>ys.getD i 0) (m+2):=by rw[V_Sv,hn,hm]
 have hVlt:V ys<4294967296 ^ n:=by rw[<-hn];exact V_lt ly
 obtain⟨VL,hVL⟩:∃VL,Sv (fun i=>zs.getD (off+i) 0) (ys.length+1)=VL:=⟨_,rfl⟩
 rw[hVL]at hlt ⊢
 have hVL2:VL=Sv (fun i=>zs.getD (off+i) 0) n+4294967296 ^ n*zs.getD (off+n) 0:=by rw[<-hVL,hn,Sv]
 have hVL3:Sv (fun i=>zs.getD (off+i) 0) (m+3)=VL:=by rw[<-hVL,hn,hm]
 have zdf:0<V ys:=by omega
 have facts:=zmo (f:=fun i=>zs.getD (off+i) 0) (y:=fun i=>ys.getD i 0) (m:=m) (fun i=>lz.getD _) (fun i=>ly.getD _) (by rw[hn,hm]at hv1;exact hv1) (by rw[hVL3,<-hV];exact hlt)
 rw[hVL3,<-hV]at facts;obtain⟨f1,f2,f3,f4,f5⟩:=facts
 obtain⟨q,hq⟩:∃q,VL/V ys=q:=⟨_,rfl⟩
 rw[hq]at f2 f3 f4 f5
 have hrd:=hb
 have zwh:∀k o,some (⟨b1,o1,none⟩:Addr)=some ⟨k,o,none⟩->ys≠[]->k≠g:=fun k o e _=>by simp at e;rw[<-e.1];exact zs9
 have hg:=zqk g off co n zs b1 o1 cb ys q w hblk lz hb hn (by omega) (by omega) (by omega) (by rw[<-hn];exact hv1) (by rw[hm];exact f1) f2 (by rw[hm,show m+2-1=m+1 by omega,show m+2-2=m by omega,show off+(m+2)-1=off+(m+1) by omega,show off+(m+2)-2=off+m by omega];exact f3) (by rw[hm,show m+2-1=m+1 by omega,show m+2-2=m by omega,show off+(m+2)-1=off+(m+1) by omega,show off+(m+2)-2=off+m by omega];exact f4)
 rw[hm,show m+2-1=m+1 by omega,show m+2-2=m by omega,show off+(m+2)-1=off+(m+1) by omega,show off+(m+2)-2=off+m by omega,<-hm]at hg
 have HF5:Hid (∀t,t*(ys.getD m 0+4294967296*ys.getD (m+1) 0)<=zs.getD (off+m) 0+4294967296*zs.getD (off+(m+1)) 0+18446744073709551616*zs.getD (off+(m+2)) 0->t<=q+1):=f5
 have HQ:Hid (VL/V ys=q):=hq
 have HN:Hid (ys.length=n):=hn
 have HVL2:Hid (VL=Sv (fun i=>zs.getD (off+i) 0) n+4294967296 ^ n*zs.getD (off+n) 0):=hVL2
 have HVlt:Hid (V ys<4294967296 ^ n):=hVlt
 have HPos:Hid (0<V ys):=zdf
 have hsm:=fun(t:Nat) (w':World) (hB:Blk 211 w' g zs) (hr:Rd w' (some ⟨b1,o1,none⟩) cb ys) (ht:t<4294967296)=>zrz g off co zs (some ⟨b1,o1,none⟩) cb ys t w' hB lz hr zwh ht (by omega) (by omega)
 have ham:=fun(cs:List Nat) (w':World) (hB:Blk 211 w' g cs) (lc:Lim cs) (hr:Rd w' (some ⟨b1,o1,none⟩) cb ys) (hl:cs.length=zs.length)=>zmk g off co cs (some ⟨b1,o1,none⟩) cb ys 1 w' hB lc hr zwh (by decide) (by omega) (by omega)
 rw[hn]at hsm ham hlen hco hn2 ⊢
 have HM:Hid (n=m+2):=hm
 clear f1 f2 f3 f4 f5 hq hn hVL2 hVlt zdf hVL3 hVL hV hm zwh hv1 hlt
 go_enter Tryz.func216,Tryz.ntmps216
 go_wp2_with fail
 refine hg.mono ?_
 rintro e w1 ⟨t,rfl,ht,hqt,hfit,k,hk⟩
 have hth:t<=q+1:=HF5.out t (by rw[<-HM.out];exact hfit)
 have hB1:Blk 211 w1 g zs:=by rw[hk];exact hblk
 have hr1:Rd w1 (some ⟨b1,o1,none⟩) cb ys:=by rw[hk];exact hb.below (below_drewN (Below.refl _ _) k)
 have hg1:w.grownBy w1 (some g):=by rw[hk];exact zho w k _
 clear hk hfit HF5 hg hb hrd hblk
 go_wp2_with fail
 refine(hsm t w1 hB1 hr1 ht).mono ?_
 rintro e w2 ⟨cs,c,rfl,hc,hcl,lc,zb9,heq,hB2,hg2⟩
 have hr2:Rd w2 (some ⟨b1,o1,none⟩) cb ys:=hr1.other hg2 (fun k o e _=>by simp at e;rw[<-e.1];exact zs9)
 have hg12:=zdy hg1 hg2
 have HEQ:Hid (Sv (fun i=>cs.getD (off+i) 0) n+V ys*t=Sv (fun i=>zs.getD (off+i) 0) n+4294967296 ^ n*c):=heq
 have HSA:Hid (∀i,i<off\/off+n<=i->cs.getD i 0=zs.getD i 0):=zb9
 have HCL:Hid (cs.length=zs.length):=hcl
 obtain⟨u2,hu2⟩:∃u2,zs.getD (off+n) 0=u2:=⟨_,rfl⟩
 have bu2:u2<4294967296:=by rw[<-hu2];exact lz.getD _
 have hcu:cs.getD (off+n) 0=u2:=by rw[HSA.out (off+n) (by omega),hu2]
 have c2:=hB2.cell (off+n) (by omega)
 have c3:=hB2.frozen (off+n)
 rw[hcu]at c2
 have HU:Hid (zs.getD (off+n) 0=u2):=hu2
 have HVLu:Hid (VL=Sv (fun i=>zs.getD (off+i) 0) n+4294967296 ^ n*u2):=by have:=HVL2.out;rw[hu2]at this;exact this
 clear heq zb9 hu2 hcu hB1 hr1 hg1 hg2 HVL2
 by_cases hcc:u2<c
 . go_wp2_with fail
   refine(ham cs w2 hB2 lc hr2 HCL.out).mono ?_
   rintro e w3 ⟨ds,d,rfl,hd,hdl,ld,zqd,heq2,hB3,hg3⟩
   have hg13:=zdy hg12 hg3
   have HDL:Hid (ds.length=cs.length):=hdl
   have hdu:ds.getD (off+n) 0=u2:=by rw[zqd (off+n) (by omega),HSA.out (off+n) (by omega),HU.out]
   have d2:=hB3.cell (off+n) (by omega)
   have d3:=hB3.frozen (off+n)
   rw[hdu]at d2
   have hS1:Sv (fun i=>cs.getD (off+i) 0) n<4294967296 ^ n:=Sv_lt (fun i _=>lc.getD _)
   have hS2:Sv (fun i=>ds.getD (off+i) 0) n<4294967296 ^ n:=Sv_lt (fun i _=>ld.getD _)
   obtain⟨r1,r2,r3⟩:=zob (S2:=Sv (fun i=>ds.getD (off+i) 0) n) (d:=d) HPos.out HVlt.out hS1 hS2 HVLu.out HEQ.out (by rw[heq2,Nat.mul_one]) hcc (by rw[HQ.out];exact hth)
   rw[HQ.out]at r1
   have HR1:Hid (t=q+1):=r1
   have HR3:Hid (Sv (fun i=>ds.getD (off+i) 0) n=VL%V ys):=r3
   have q1:d<=c:=by omega
   have q2:c<=u2+d:=by omega
   have q3:u2+d<=c:=by omega
   have q4:1<=t:=by omega
   have HSD:Hid (∀i,i<off\/off+n<=i->ds.getD i 0=cs.getD i 0):=zqd
   clear r1 r2 r3 hS1 hS2 heq2 zqd hdl hcl hdu c2 c3 ham hsm hth hqt;go_wp2
   go_ret
   refine⟨ds.set (off+n) 0,q,zcd (by have:=HR1.out;omega),HQ.out.symm,by have:=HR1.out;omega,by rw[List.length_set,HDL.out];exact HCL.out,ld.set _ (by decide),fun i hi=>?_,?_,hB3.set _ _ _ (by rw[HDL.out,HCL.out];omega) (by omega),za4 hg13 _ _⟩
   . rw[zax _ _ _ _ (by omega),HSD.out i (by omega),HSA.out i (by omega)]
   . rw[Sv,za6 _ _ _ (by rw[HDL.out,HCL.out];omega),zb1 (g:=fun i=>ds.getD (off+i) 0) (fun i hi=>zax _ _ _ _ (by omega)),HR3.out];simp
 . obtain⟨r1,r2⟩:=zmn HPos.out HVLu.out HEQ.out (by omega) (by rw[HQ.out];exact hqt)
   rw[HQ.out]at r1
   have HR1:Hid (t=q):=r1
   have HR2:Hid (Sv (fun i=>cs.getD (off+i) 0) n+4294967296 ^ n*(u2-c)=VL%V ys):=r2
   clear r1 r2 hcl ham hsm hth hqt;go_wp2
   go_ret
   refine⟨cs.set (off+n) (u2-c),q,zcd (by have:=HR1.out;omega),HQ.out.symm,by have:=HR1.out;omega,by rw[List.length_set];exact HCL.out,lc.set _ (by omega),fun i hi=>?_,?_,hB2.set _ _ _ (by rw[HCL.out];omega) (by omega),za4 hg12 _ _⟩
   . rw[zax _ _ _ _ (by omega),HSA.out i (by omega)]
   . rw[Sv,za6 _ _ _ (by rw[HCL.out];omega),zb1 (g:=fun i=>cs.getD (off+i) 0) (fun i hi=>zax _ _ _ _ (by omega)),HR2.out]
theorem zxd(f:Nat->Nat)(j n:Nat):Sv (fun i=>f (j+i)) (n+1)=f j+4294967296*Sv (fun i=>f (j+1+i)) n:=by
 rw[Nat.add_comm n 1,zgu]
 simp only[Sv,Nat.pow_zero,Nat.one_mul,Nat.add_zero,Nat.zero_add,Nat.pow_one]
 rw[zb1 (f:=fun i=>f (j+(1+i))) (g:=fun i=>f (j+1+i)) (fun i _=>by rw[Nat.add_assoc])]
theorem zne{f:Nat->Nat}{j n VB:Nat}(hf:f j<4294967296)(h:Sv (fun i=>f (j+1+i)) n<VB):Sv (fun i=>f (j+i)) (n+1)<4294967296*VB:=by
 rw[zxd];omega
theorem zsx{d:Nat->Nat}{j n r VB:Nat}(h:Sv (fun i=>d (j+i)) (n+1)=r)(hr:r<VB)(hp:VB<4294967296 ^ n):d (j+n)=0/\Sv (fun i=>d (j+i)) n=r:=by
 rw[Sv]at h
 rcases Nat.eq_zero_or_pos (d (j+n))with h0|h0
 . rw[h0,Nat.mul_zero,Nat.add_zero]at h;exact⟨h0,h⟩
 . have:4294967296 ^ n*1<=4294967296 ^ n*d (j+n):=Nat.mul_le_mul_left _ h0
   omega
theorem zpv{c d:Nat->Nat}{j n r q Qv Qw VA VB:Nat}(hinv:Sv c (j+1+n)+4294967296 ^ (j+1)*Qv*VB=VA)(zb9:∀i,i<j->d i=c i)(hd:Sv (fun i=>d (j+i)) n=r)
    (hdm:VB*q+r=Sv (fun i=>c (j+i)) (n+1)) (hQ:Qw=q+4294967296*Qv):Sv d (j+n)+4294967296 ^ j*Qw*VB=VA:=by
 rw[show j+1+n=j+(n+1) by omega,zgu,<-hdm,Nat.pow_succ]at hinv
 rw[zgu,zb1 zb9,hd,hQ]
 generalize 4294967296 ^ j=p at hinv ⊢
 generalize Sv c j=A at hinv ⊢
 rw[<-hinv]
 grind
theorem znd{f:Nat->Nat}{K n la VA VB s:Nat}(hK:K+n=la+1)(hn:1<=n)(hv:Sv f (K+n)=VA)(hA:VA<4294967296 ^ la*2 ^ s)(hB:2 ^ s*4294967296 ^ (n-1)<=VB):Sv (fun i=>f (K+i)) n<VB:=by
 rcases Nat.lt_or_ge (Sv (fun i=>f (K+i)) n) VB with h|h
 . exact h
 . exfalso
   rw[zgu]at hv
   have h1:4294967296 ^ K*(2 ^ s*4294967296 ^ (n-1))<=4294967296 ^ K*Sv (fun i=>f (K+i)) n:=Nat.mul_le_mul_left _ (Nat.le_trans hB h)
   have h2:4294967296 ^ la=4294967296 ^ K*4294967296 ^ (n-1):=by rw[<-Nat.pow_add,show K+(n-1)=la by omega]
   have h3:4294967296 ^ K*(2 ^ s*4294967296 ^ (n-1))=4294967296 ^ la*2 ^ s:=by
    rw[h2]
    generalize 4294967296 ^ K=a
    generalize 4294967296 ^ (n-1)=b
    generalize 2 ^ s=c
    grind
   omega
theorem zsy{R Q A B S:Nat}(hS:0<S)(h:R+Q*(B*S)=A*S)(hr:R<B*S):Q=A/B/\R/S=A%B:=by
 have hB:0<B*S:=by omega
 have e1:A*S/(B*S)=Q:=by
  rw[<-h,Nat.add_mul_div_right _ _ hB,Nat.div_eq_of_lt hr,Nat.zero_add]
 have e2:A*S%(B*S)=R:=by
  rw[<-h,Nat.add_mul_mod_self_right,Nat.mod_eq_of_lt hr]
 rw[Nat.mul_div_mul_right _ _ hS]at e1;rw[Nat.mul_mod_mul_right]at e2
 exact⟨e1.symm,by rw[<-e2,Nat.mul_div_cancel _ hS]⟩
theorem zv6{ys bs:List Nat}{n s x:Nat}(ly:Lim ys)(lb:Lim bs)(tb:Tr bs)(hn:ys.length=n)(hn1:1<=n)(hx:ys.getD (n-1) 0=x)(hs:s<32)(h1:2147483648<=x*2 ^ s)(h2:x*2 ^ s<4294967296)(hv:V bs=V ys*2 ^ s) :
 bs.length=n/\2147483648<=bs.getD (n-1) 0/\2147483648*4294967296 ^ (n-1)<=V bs:=by
 have eY:=zao ys (n-1)
 rw[show n-1+1=ys.length by omega,List.take_length,hx]at eY
 have bY:V (ys.take (n-1))<4294967296 ^ (n-1):=by rw[zcj];exact Sv_lt (fun i _=>ly.getD _)
 have hmul:(x+1)*2 ^ s<=4294967296:=by
  have e32:(4294967296:Nat)=2 ^ (32-s)*2 ^ s:=by rw[<-Nat.pow_add,show 32-s+s=32 by omega]
  have h3:x*2 ^ s<2 ^ (32-s)*2 ^ s:=by rw[<-e32];exact h2
  have h4:=zcv h3
  calc (x+1)*2 ^ s<=2 ^ (32-s)*2 ^ s:=Nat.mul_le_mul_right _ h4
   _=4294967296:=e32.symm
 have hpw:4294967296 ^ n=4294967296 ^ (n-1)*4294967296:=by rw[<-Nat.pow_succ];congr 1;omega
 have hP:0<4294967296 ^ (n-1):=Nat.pow_pos (by decide)
 have hS:0<2 ^ s:=Nat.pow_pos (by decide)
 have up:V bs<4294967296 ^ n:=by
  rw[hv,hpw]
  have h5:V ys<4294967296 ^ (n-1)*(x+1):=by rw[eY,Nat.mul_add,Nat.mul_one];omega
  calc V ys*2 ^ s<4294967296 ^ (n-1)*(x+1)*2 ^ s:=Nat.mul_lt_mul_of_pos_right h5 hS
   _=4294967296 ^ (n-1)*((x+1)*2 ^ s):=Nat.mul_assoc _ _ _
   _<=4294967296 ^ (n-1)*4294967296:=Nat.mul_le_mul_left _ hmul
 have low:2147483648*4294967296 ^ (n-1)<=V bs:=by
  rw[hv]
  have h6:4294967296 ^ (n-1)*x<=V ys:=by omega
  calc 2147483648*4294967296 ^ (n-1)<=x*2 ^ s*4294967296 ^ (n-1):=Nat.mul_le_mul_right _ h1
   _=4294967296 ^ (n-1)*x*2 ^ s:=by
    generalize 4294967296 ^ (n-1)=a
    generalize 2 ^ s=c
    grind
   _<=V ys*2 ^ s:=Nat.mul_le_mul_right _ h6
 have hl1:=zah tb up
 have hl2:n<=bs.length:=by
  rcases Nat.lt_or_ge bs.length n with h|h
  . exfalso
    have h7:=V_lt lb
    have h8:4294967296 ^ bs.length<=4294967296 ^ (n-1):=Nat.pow_le_pow_right (by decide) (by omega)
    omega
  . exact h
 have hl:bs.length=n:=by omega
 refine⟨hl,?_,low⟩
 have eB:=zao bs (n-1)
 rw[show n-1+1=bs.length by omega,List.take_length]at eB
 have bB:V (bs.take (n-1))<4294967296 ^ (n-1):=by rw[zcj];exact Sv_lt (fun i _=>lb.getD _)
 rcases Nat.lt_or_ge (bs.getD (n-1) 0) 2147483648 with h|h
 . exfalso
   have h9:4294967296 ^ (n-1)*bs.getD (n-1) 0<=4294967296 ^ (n-1)*2147483647:=Nat.mul_le_mul_left _ (by omega)
   omega
 . exact h
theorem Blk.set_other{e:TypeId}{w:World}{g k:Nat}{zs:List Nat}(h:Blk e w g zs)(hne:g≠k)(i:Nat)(v:Value):Blk e (w.setCell ⟨k,i,none⟩ v) g zs:=by
 obtain⟨cur,h1,h2⟩:=h
 exact⟨cur,(Below.heap_setCell w ⟨k,i,none⟩ v g hne).trans h1,h2⟩
theorem Rd.set_other{w:World}{g o k cap:Nat}{zs:List Nat}(h:Rd w (some ⟨g,o,none⟩) cap zs)(hne:g≠k)(i:Nat)(v:Value):Rd (w.setCell ⟨k,i,none⟩ v) (some ⟨g,o,none⟩) cap zs :=
 h.keep (by simp[World.setCell]) fun b _ hb=>by
  obtain⟨o',e⟩:=hb
  simp at e
  exact Below.heap_setCell w ⟨k,i,none⟩ v b (by rw[<-e.1];exact hne)
theorem zxw(a:Option Addr)(cap n:Nat)(xs:List Nat)(s:Nat)(w:World)(hn:n=xs.length)(h:Rd w a cap xs)(hl:xs.length<=500000000)(hs:s<32) :
 Calls Tryz.prog 217 #[.slice a n cap,.int .i64 (s:Int)] w fun e w' =>
     ∃g zs,e=.returned (.slice (some ⟨g,0,none⟩) n n)/\zs.length=n/\V zs=V xs/2 ^ s/\Rd w' (some ⟨g,0,none⟩) n zs/\Below w.heap.size w w':=by
 subst hn;exact zr7 a cap xs s w h hl hs
theorem zgt{cs:List Nat}{n:Nat}(h:n<=cs.length)(hz:∀i,n<=i->cs.getD i 0=0):V cs=Sv (fun i=>cs.getD i 0) n:=by
 rw[V_Sv,show cs.length=n+(cs.length-n) by omega,zgu,zrs (f:=fun i=>cs.getD (n+i) 0) (fun i _=>hz (n+i) (by omega)),Nat.mul_zero,Nat.add_zero]
theorem zkk(a:Option Addr)(cap:Nat)(xs:List Nat)(b:Option Addr)(cb:Nat)(ys:List Nat)(w:World)(ha:Rd w a cap xs)(hb:Rd w b cb ys)(ta:Tr xs)(tb:Tr ys)(h2:2<=ys.length)(hle:V ys<=V xs)(hla:xs.length<=400000000)(hlb:ys.length<=400000000) :
 Calls Tryz.prog 184 #[.slice a xs.length cap,.slice b ys.length cb] w fun e w' =>
     ∃a1 c1 z1 a2 c2 z2,e=.returned (.tuple #[.slice a1 z1.length c1,.slice a2 z2.length c2])/\V z1=V xs/V ys/\V z2=V xs%V ys/\Tr z1/\Tr z2/\Res 211 w.heap.size w' a1 c1 z1/\Res 211 w.heap.size w' a2 c2 z2/\Below w.heap.size w w':=by
 obtain⟨i0,hi,hz0,hz1,hz2⟩:=info_parts za3
 have hll:ys.length<=xs.length:=by
  rcases Nat.lt_or_ge xs.length ys.length with h|h
  . have:=zau ha.lim tb h;omega
  . exact h
 have ly:=hb.lim
 have hyl:=hb.le
 have hyc:=hb.cap
 unfold maxLen at hyc
 obtain⟨b1,o1,rfl,hb1,hcb⟩:=hb.fm.at (Below.refl _ _) (ys.length-1) (by omega)
 obtain⟨x,hx⟩:∃x,ys.getD (ys.length-1) 0=x:=⟨_,rfl⟩
 have hx0:x≠0:=by rw[<-hx];exact tb.last (by intro e;rw[e]at h2;simp at h2)
 have hxb:x<4294967296:=by rw[<-hx];exact ly.getD _
 rw[hx]at hcb
 obtain⟨s,hs,hs1,hs2,hs3⟩:=zv5 hx0 hxb
 have HX:Hid (ys.getD (ys.length-1) 0=x):=hx
 have HS1:Hid ((32-(Lib.bitLen x:Int))=(s:Int)):=hs1
 have HS2:Hid (2147483648<=x*2 ^ s/\x*2 ^ s<4294967296):=⟨hs2,hs3⟩
 have HLE:Hid (V ys<=V xs):=hle
 have HA:Hid (V xs<4294967296 ^ xs.length):=V_lt ha.lim
 clear hx hs1 hs2 hs3 hle
 go_enter Tryz.func184,Tryz.ntmps184
 go_wp2_with fail
 refine(zsw x _ hxb).mono ?_
 rintro e w' ⟨rfl,rfl⟩
 rw[HS1.out];clear HS1
 go_wp2_with fail
 refine(zla a cap xs s _ ha (by omega) hs).mono ?_
 rintro e w1 ⟨aL,capL,L,rfl,hLl,hLv,hLr,zcf⟩
 have hbw1:=hb.below zcf
 have HLV:Hid (V L=V xs*2 ^ s):=hLv
 have HLL:Hid (L.length=xs.length+1):=hLl
 clear hLv hb
 go_wp2_with fail
 refine(zla _ cb ys s _ hbw1 (by omega) hs).mono ?_
 rintro e w2 ⟨aB,capB,Bs,rfl,hBl,hBv,hBr,zwo⟩
 have hL2:=hLr.below zwo
 have hbb2:Below w.heap.size w w2:=zcf.trans (zwo.mono zcf.size)
 have HBV:Hid (V Bs=V ys*2 ^ s):=hBv
 have hBl2:Bs.length<=1000000000:=by omega
 clear hBv hbw1 hBl
 go_wp2_with fail
 refine(zbz _ _ Bs _ hBr.rd hBl2).mono ?_
 rintro e w3 ⟨aT,capT,rfl,hTr,zy1⟩
 have hL3:=hL2.below zy1
 have hbb3:Below w.heap.size w w3:=hbb2.trans (zy1.mono hbb2.size)
 have HTV:Hid (V (strip Bs)=V ys*2 ^ s):=by show _=_;rw[zaj];exact HBV.out
 have tT:=zak Bs
 generalize strip Bs=T at hTr HTV tT ⊢
 obtain⟨hT1,hT2,hT3⟩:=zv6 ly hTr.lim tT rfl (by omega) HX.out hs HS2.out.1 HS2.out.2 HTV.out
 have HT1:Hid (T.length=ys.length):=hT1
 have HT2:Hid (2147483648<=T.getD (ys.length-1) 0):=hT2
 have HT3:Hid (2147483648*4294967296 ^ (ys.length-1)<=V T):=hT3
 -- the blocks
 obtain⟨gL,rfl,hgL1,hBL⟩:∃g,aL=some ⟨g,0,none⟩/\w.heap.size<=g/\Blk 211 w1 g L:=by
  rcases hLr.blk with h|h
  . rw[h]at hLl;simp at hLl
  . exact h
 have hgLlt:=hBL.lt
 obtain⟨gT,rfl,hgT1,hBT⟩:∃g,aT=some ⟨g,0,none⟩/\w2.heap.size<=g/\Blk 211 w3 g T:=by
  rcases hTr.blk with h|h
  . rw[h]at hT1;simp at hT1;omega
  . exact h
 have hgTlt:=hBT.lt
 have s12:=zwo.size
 have s23:=zy1.size
 have s01:=zcf.size
 have hBL3:Blk 211 w3 gL L:=(hBL.below zwo).below zy1
 have hTrd:=hTr.rd
 have hTc:=hTrd.cap
 have hTle:=hTrd.le
 have lL:=hLr.lim
 have hLcap:=hLr.rd.cap
 have hLle:=hLr.rd.le
 unfold maxLen at hTc hLcap
 clear hT1 hT2 hT3 hLr hTr hBr hL2 hL3 hBL hBT zcf zwo zy1 hLl
 go_wp2_with (at_make;refine wpList_make_full _ rfl _ _ 94 rfl w3.heap.size 211 i0 (.int .u32 0) 1 Tryz.underlying94 hi hz0 hz1 _ _ _ _ (xs.length-ys.length+1) rfl rfl (by omega) (by omega) (by rw[hz2];omega) (by unfold maxLen;omega) (Nat.le_refl _) ?_)
 intro w4 zys zur
 have hbb4:Below w3.heap.size w3 w4:=(Below.refl _ _).grown zur (Nat.le_refl _) (fun k h=>by cases h)
 have hBQ4:=ze5 zys
 have hBL4:=hBL3.below hbb4
 have hT4:=hTrd.below hbb4
 have hw4:Below w.heap.size w w4:=hbb3.trans (hbb4.mono hbb3.size)
 have hgTL:gT≠gL:=by omega
 have hgQL:w3.heap.size≠gL:=by omega
 have hgQT:gT≠w3.heap.size:=by omega
 have hT2l:2<=T.length:=by rw[HT1.out];exact h2
 have hTx:T.length<=xs.length:=by rw[HT1.out];exact hll
 have zum:Sv (fun j=>L.getD (xs.length-ys.length+1+j) 0) T.length<V T:=by
  refine znd (f:=fun j=>L.getD j 0) (K:=xs.length-ys.length+1) (n:=T.length) (la:=xs.length) (VA:=V xs*2 ^ s) (s:=s) (by rw[HT1.out];omega) (by omega) ?_ (Nat.mul_lt_mul_of_pos_right HA.out (Nat.pow_pos (by decide))) ?_
  . rw[show xs.length-ys.length+1+T.length=L.length by rw[HT1.out,HLL.out];omega,<-V_Sv];exact HLV.out
  . rw[HT1.out]
    have h31:2 ^ s<=2147483648:=Nat.pow_le_pow_right (n:=2) (by decide) (show s<=31 by omega)
    exact Nat.le_trans (Nat.mul_le_mul_right _ h31) HT3.out
 have HST:Hid (Sv (fun j=>L.getD (xs.length-ys.length+1+j) 0) T.length<V T):=zum
 clear zum zys zur hBL3 hTrd hbb4;go_wp2
 go_loopw [10] (fun i wr=>∃(k:Nat) (q:Int) (cs Q:List Nat),k<=xs.length-ys.length+1/\q=(k:Int)-1/\i=.int .i64 q/\cs.length=xs.length+1/\Lim cs/\Q.length=xs.length-ys.length+1/\Lim Q /\
     Sv (fun j=>cs.getD j 0) (k+T.length)+4294967296 ^ k*V (Q.drop k)*V T=V xs*2 ^ s/\Sv (fun j=>cs.getD (k+j) 0) T.length<V T/\(∀j,k+T.length<=j->cs.getD j 0=0)/\Blk 211 wr gL cs/\Blk 211 wr w3.heap.size Q/\Rd wr (some ⟨gT,0,none⟩) capT T/\Below w.heap.size w wr) (fun i _=>(intOf i+1).toNat)
 case atStart =>
  refine⟨xs.length-ys.length+1,_,L,_,Nat.le_refl _,?_,rfl,HLL.out,lL,List.length_replicate,fun x hx=>by rw[List.eq_of_mem_replicate hx];decide,?_,HST.out,fun j hj=>za5 _ _ ?_,hBL4,hBQ4,hT4,hw4⟩
  . omega
  . rw[List.drop_eq_nil_of_le (by simp),V_nil,Nat.mul_zero,Nat.zero_mul,Nat.add_zero,show xs.length-ys.length+1+T.length=L.length by rw[HT1.out,HLL.out];omega,<-V_Sv];exact HLV.out
  . rw[HLL.out];rw[HT1.out]at hj;omega
 case round =>
  obtain⟨k,q,cs,Q,hk,hq,rfl,hcl,lc,hQl,lQ,hinv,hseg,hzer,hBL,hBQ,hT,hnx⟩:=hrel
  have HC:Hid (cs.length=xs.length+1):=hcl
  have HQ:Hid (Q.length=xs.length-ys.length+1):=hQl
  have HI:Hid (Sv (fun j=>cs.getD j 0) (k+T.length)+4294967296 ^ k*V (Q.drop k)*V T=V xs*2 ^ s):=hinv
  have HSG:Hid (Sv (fun j=>cs.getD (k+j) 0) T.length<V T):=hseg
  have HZ:Hid (∀j,k+T.length<=j->cs.getD j 0=0):=hzer
  have hsz:=hnx.size
  clear hcl hQl hinv hseg hzer
  by_cases hk0:k=0
  . subst hk0
    obtain rfl:q=-1:=by omega
    clear hq
    have hr:=hBQ.rd lQ 0 (xs.length-ys.length+1) (xs.length-ys.length+1) (by rw[HQ.out];omega) (Nat.le_refl _) (by unfold maxLen;omega)
    rw[List.drop_zero,List.take_of_length_le (by rw[HQ.out];exact Nat.le_refl _)]at hr
    have hr2:=hBL.rd lc 0 (xs.length+1) capL (by rw[HC.out];omega) (by have:=HLL.out;omega) (by unfold maxLen;omega)
    rw[List.drop_zero,List.take_of_length_le (by rw[HC.out];exact Nat.le_refl _)]at hr2
    have zaf:=zsy (R:=V cs) (Q:=V Q) (A:=V xs) (B:=V ys) (S:=2 ^ s) (Nat.pow_pos (by decide))
     (by
      have h1:=HI.out
      rw[List.drop_zero,Nat.pow_zero,Nat.one_mul,Nat.zero_add,<-zgt (by rw[HC.out];omega) (fun i hi=>HZ.out i (by omega)),HTV.out]at h1
      exact h1)
     (by
      have h1:=HSG.out
      rw[zb1 (g:=fun i=>cs.getD i 0) (fun i _=>by rw[Nat.zero_add]),<-zgt (by rw[HC.out];omega) (fun i hi=>HZ.out i (by omega)),HTV.out]at h1
      exact h1)
    have HF:Hid (V Q=V xs/V ys/\V cs/2 ^ s=V xs%V ys):=zaf
    clear zaf
    go_wp2_with fail
    refine(zk8 _ _ (xs.length-ys.length+1) Q _ HQ.out.symm hr (by rw[HQ.out];omega)).mono ?_
    rintro e v1 ⟨a1,c1,rfl,hr1,hv1⟩
    have zi1:Below w.heap.size w v1:=hnx.trans (hv1.mono hsz)
    obtain⟨z1,hz1'⟩:∃z1,strip Q=z1:=⟨_,rfl⟩
    have tz1:Tr z1:=by rw[<-hz1'];exact zak Q
    have HV1:Hid (V z1=V xs/V ys):=by show _=_;rw[<-hz1',zaj];exact HF.out.1
    rw[hz1']at hr1 ⊢
    have hr2':=hr2.below hv1
    clear hr hz1'
    go_wp2_with fail
    refine(zxw _ _ (xs.length+1) cs s _ HC.out.symm hr2' (by rw[HC.out];omega) hs).mono ?_
    rintro e v2 ⟨g2,ds,rfl,hdl,hdv,hdr,hv2⟩
    have zh3:Below w.heap.size w v2:=zi1.trans (hv2.mono zi1.size)
    have hr1':=hr1.below hv2
    have HDV:Hid (V ds=V xs%V ys):=by show _=_;rw[hdv];exact HF.out.2
    have HDL:Hid (ds.length=xs.length+1):=hdl
    clear hdl hdv hr1 hr2 hr2' hv1 hv2
    go_wp2_with fail
    refine(zk8 _ _ (xs.length+1) ds _ HDL.out.symm hdr (by rw[HDL.out];omega)).mono ?_
    rintro e v3 ⟨a2,c2,rfl,hr3,hv3⟩
    have hr1'':=hr1'.below hv3
    have hs1:=zh3.size
    have hbv3:Below w.heap.size w v3:=zh3.trans (hv3.mono zh3.size)
    go_wp2
    go_ret2
    exact⟨a1,c1,z1,a2,c2,strip ds,rfl,HV1.out,by rw[zaj];exact HDV.out,tz1,zak _,hr1''.mono hsz,hr3.mono hs1,hbv3⟩
  . obtain⟨j,rfl⟩:∃j,k=j+1:=⟨k-1,by omega⟩
    obtain rfl:q=(j:Int):=by omega
    clear hq
    have hsl:j+T.length+1<=capL:=by have:=HLL.out;rw[HT1.out];omega
    have hjc:j+T.length+1<=cs.length:=by rw[HC.out,HT1.out];omega
    have zun:Sv (fun i=>cs.getD (j+i) 0) (T.length+1)<4294967296*V T:=zne (f:=fun i=>cs.getD i 0) (lc.getD j) HSG.out
    have hTlt:V T<4294967296 ^ T.length:=V_lt hT.lim
    go_wp2_with fail
    rw[show j+T.length+1-j=T.length+1 by omega]
    refine(zkj gL j (capL-j) cs gT 0 capT T wr hBL lc hT hgTL hT2l hjc (by rw[HC.out];omega) (by omega) (by omega) (by rw[HT1.out];exact HT2.out) zun).mono ?_
    rintro e v1 ⟨ds,qd,rfl,hqd,zyr,hdl,ld,zb9,hrem,hB1,hg1⟩
    have hb1'':Below w.heap.size w v1:=hnx.grown hg1 hsz (fun k hk=>by cases hk;exact hgL1)
    have hBQ1:=hBQ.other hg1 hgQL
    have hT1':Rd v1 (some ⟨gT,0,none⟩) capT T:=hT.other hg1 (fun k o e _=>by simp at e;rw[<-e.1];exact hgTL)
    have c2:=hBQ1.cell j (by rw[HQ.out];omega)
    have c3:=hBQ1.frozen j
    obtain⟨o,ho⟩:∃o,Q.getD j 0=o:=⟨_,rfl⟩
    rw[ho]at c2
    have zxo:Sv (fun i=>cs.getD (j+i) 0) (T.length+1)%V T<V T:=Nat.mod_lt _ (by omega)
    obtain⟨htop,zrx⟩:=zsx (d:=fun i=>ds.getD i 0) hrem zxo hTlt
    have hdm:=Nat.div_add_mod (Sv (fun i=>cs.getD (j+i) 0) (T.length+1)) (V T)
    rw[<-hqd]at hdm
    have HSTEP:Hid (Sv (fun i=>ds.getD i 0) (j+T.length)+4294967296 ^ j*V ((Q.set j qd).drop j)*V T=V xs*2 ^ s):=by
     refine zpv (c:=fun i=>cs.getD i 0) (q:=qd) HI.out (fun i hi=>zb9 i (by omega)) zrx hdm ?_
     rw[zey,za6 _ _ _ (by rw[HQ.out];omega),List.drop_set_of_lt (by omega)]
    have HSEG:Hid (Sv (fun i=>ds.getD (j+i) 0) T.length<V T):=by show _<_;rw[zrx];exact zxo
    have HZZ:Hid (∀i,j+T.length<=i->ds.getD i 0=0):=fun i hi=>by
     rcases Nat.lt_or_eq_of_le hi with h|h
     . rw[zb9 i (by omega)];exact HZ.out i (by omega)
     . rw[<-h];exact htop
    have HDL:Hid (ds.length=cs.length):=hdl
    clear zxo htop zrx hdm zb9 hrem hqd zun hTlt hdl ho hBQ hT hjc;go_wp2
    go_roundw
    case rel =>
     exact⟨j,_,ds,Q.set j qd,by omega,rfl,by go_num,by rw[HDL.out];exact HC.out,ld,by rw[List.length_set];exact HQ.out,lQ.set _ zyr,HSTEP.out,HSEG.out,HZZ.out,hB1.set_other hgQL.symm _ _,hBQ1.set _ _ _ (by rw[HQ.out];omega) rfl,hT1'.set_other hgQT _ _,hb1''.setCell (Nat.le_trans hbb3.size (Nat.le_refl _)) _⟩
    case measure=>simp[intOf]
theorem zk7{a b:Int}(h:a=b):Value.int .u64 a=Value.int .u64 b:=by rw[h]
theorem zca(n:Int):IntKind.u64.wrap n=n%18446744073709551616:=by simp[IntKind.wrap,IntKind.bits,IntKind.signed]
theorem zez{zs L S:List Nat}{k cy x y t:Nat}(hz:zs.length=k)(he:V zs+V (S.take k)=V (L.take k)+4294967296 ^ k*cy)(hx:L.getD k 0=x)(hy:S.getD k 0=y)(ht:t=x+4294967296-cy-y)(hc:cy<=1)(hb:y<4294967296)(hxb:x<4294967296) :
 V (zs++[t%4294967296])+V (S.take (k+1))=V (L.take (k+1))+4294967296 ^ (k+1)*(1-t/4294967296):=by
 rw[zd4,hz,zao,zao,hx,hy,Nat.pow_succ]
 have e:t%4294967296+y+cy=x+4294967296*(1-t/4294967296):=by omega
 . generalize t%4294967296=r at e ⊢
   generalize 1-t/4294967296=d at e ⊢
   generalize 4294967296 ^ k=p at he ⊢
   generalize V zs=o at he ⊢
   generalize V (L.take k)=A at he ⊢
   generalize V (S.take k)=C at he ⊢
   grind
theorem znz{S:List Nat}{n:Nat}(h:V S<4294967296 ^ n):V (S.take n)=V S:=by
 have e:=zb8 S n
 rcases Nat.eq_zero_or_pos (V (S.drop n))with h0|h0
 . rw[h0]at e;omega
 . have:4294967296 ^ n*1<=4294967296 ^ n*V (S.drop n):=Nat.mul_le_mul_left _ h0
   omega
theorem zn8{zs L S:List Nat}{cy:Nat}(lz:Lim zs)(hz:zs.length=L.length)(he:V zs+V (S.take L.length)=V (L.take L.length)+4294967296 ^ L.length*cy)(lL:Lim L)(hv:V S<V L):V zs=V L-V S:=by
 have hL:=V_lt lL
 rw[List.take_length,znz (by omega)]at he
 have hzs:=V_lt lz
 rw[hz]at hzs
 rcases Nat.eq_zero_or_pos cy with h0|h0
 . rw[h0]at he;omega
 . have:4294967296 ^ L.length*1<=4294967296 ^ L.length*cy:=Nat.mul_le_mul_left _ h0
   omega
theorem zq9{x y:Nat}(h:x<=y):cmpN x y<=0:=by unfold cmpN;split <;> (try split) <;> omega
theorem zra{x y:Nat}(h:y<x):cmpN x y=1:=by unfold cmpN;rw[if_neg (by omega),if_pos h]
theorem zn9(a:Option Addr)(cap:Nat)(xs:List Nat)(b:Option Addr)(cbp:Nat)(ys:List Nat)(w:World)(ha:Rd w a cap xs)(hb:Rd w b cbp ys)(hla:xs.length<=500000000)(hlb:ys.length<=500000000) :
 Calls Tryz.prog 146 #[.slice a xs.length cap,.slice b ys.length cbp] w fun e w' =>
     ∃a' cap' zs,e=.returned (.slice a' zs.length cap')/\V zs=V xs-V ys/\Tr zs/\Res 211 w.heap.size w' a' cap' zs/\Below w.heap.size w w':=by
 obtain⟨i0,hi,hz0,hz1,hz2⟩:=info_parts za3
 by_cases hle:V xs<=V ys
 . have hc:=zq9 hle
   go_enter Tryz.func146,Tryz.ntmps146
   go_wp2_with fail
   refine(zht _ _ _ _ _ _ _ ha hb).mono ?_
   rintro e w1 ⟨rfl,hb1⟩
   generalize cmpN (V xs) (V ys)=q at hc ⊢
   go_wp2
   go_ret
   refine⟨some ⟨w1.heap.size,0,none⟩,0,[],rfl,?_,zcq,?_,hb1.alloc hb1.size _⟩
   . show 0=_;omega
   . exact⟨Lim.nil,zep (World.ownsRow_made w1 #[] 0 (Nat.le_refl _) (Nat.zero_le _) rfl) hb1.size⟩
 . have hc:=zra (Nat.lt_of_not_le hle)
   have HC:Hid (cmpN (V xs) (V ys)=1):=hc
   clear hc
   go_enter Tryz.func146,Tryz.ntmps146
   go_wp2_with fail
   refine(zht _ _ _ _ _ _ _ ha hb).mono ?_
   rintro e w0 ⟨rfl,hb0⟩;rw[HC.out]
   have ha0:=ha.below hb0
   have hb00:=hb.below hb0
   clear ha hb
   have Xr:=ha0.strip
   have Yr:=hb00.strip
   have lx:=zag xs
   have ly:=zag ys
   go_wp2_with fail
   refine(zby a cap xs _ ha0).mono ?_
   rintro e w' ⟨rfl,rfl⟩
   go_wp2_with fail
   refine(zby b cbp ys _ hb00).mono ?_
   rintro e w' ⟨rfl,rfl⟩
   clear ha0 hb00
   have HV:Hid (V (strip ys)<V (strip xs)/\V (strip xs)=V xs/\V (strip ys)=V ys):=by show _/\_;rw[zaj,zaj];exact⟨by omega,rfl,rfl⟩
   generalize strip xs=X at Xr lx HV ⊢
   generalize strip ys=Y at Yr ly HV ⊢
   have hL2:=Xr.le
   have hL3:=Xr.cap
   unfold maxLen at hL3
   have lL:=Xr.lim
   have lS:=Yr.lim
   have fL:=Xr.fm
   have fS:=Yr.fm
   clear Xr Yr
   have hs0:=hb0.size
   go_wp2_with (at_make;refine wpList_make_own _ rfl _ _ 94 rfl w0.heap.size 211 i0 (.int .u32 0) 1 Tryz.underlying94 hi hz0 hz1 _ _ _ X.length rfl rfl (by omega) (by rw[hz2];omega) (by unfold maxLen;omega) (Nat.le_refl _) ?_)
   intro u0 zcm zbo
   have hbu:Below w0.heap.size w0 u0:=(Below.refl _ _).grown zbo (Nat.le_refl _) (fun k h=>by cases h)
   go_wp2
   go_loopw [5,6,24] (fun out c i wr=>∃(k:Nat) (zs:List Nat) (cy:Nat),k<=X.length/\i=.int .i64 k/\c=.int .u64 cy/\cy<=1/\zs.length=k/\Lim zs/\V zs+V (Y.take k)=V (X.take k)+4294967296 ^ k*cy/\wr.ownsRow w0.heap.size 211 1 out k (zs.map U)/\Below w0.heap.size w0 wr) (fun _ _ i _=>X.length-(intOf i).toNat)
   case atStart=>exact⟨0,[],0,Nat.zero_le _,rfl,rfl,Nat.zero_le _,rfl,Lim.nil,by simp[V],zcm,hbu⟩
   case round =>
    obtain⟨k,zs,cy,hk,rfl,rfl,hcy,hzl,lz,heq,hown,hnx⟩:=hrel
    have HE:Hid (V zs+V (Y.take k)=V (X.take k)+4294967296 ^ k*cy):=heq
    have HZ:Hid (zs.length=k):=hzl
    have hsz:=hnx.size
    clear heq hzl
    by_cases hkn:k<X.length
    . obtain⟨bl,ol,rfl,_,hcl⟩:=fL.at hnx k hkn
      obtain⟨x,hx⟩:∃x,X.getD k 0=x:=⟨_,rfl⟩
      obtain⟨y,hy⟩:∃y,Y.getD k 0=y:=⟨_,rfl⟩
      have bx:x<4294967296:=by rw[<-hx];exact lL.getD k
      have byy:y<4294967296:=by rw[<-hy];exact lS.getD k
      rw[hx]at hcl
      have HX:Hid (X.getD k 0=x):=hx
      have HY:Hid (Y.getD k 0=y):=hy
      clear hx hy
      by_cases hkm:k<Y.length
      . obtain⟨bs,os,rfl,_,hcs⟩:=fS.at hnx k hkm
        rw[HY.out]at hcs
        go_wp2_with (at_builtin;refine zae rfl _ _ 94 rfl w0.heap.size 211 i0 Tryz.underlying94 hi hz0 hz1 hz2 _ k zs rfl (hown.alloc _) wr.heap.size ((x+4294967296-cy-y)%4294967296) rfl (zan _ _ _ _ (by simp only[zca];omega)) (by omega) (by simp;omega) ?_)
        intro v' w1 hown1 zaq
        have hb1:Below w0.heap.size w0 w1:=(hnx.alloc hsz _).grown zaq (by simp;omega) (fun k hk=>(hown.lt k hk).1)
        clear hown;go_wp2
        go_roundw
        case rel =>
         exact⟨k+1,zs++[(x+4294967296-cy-y)%4294967296],1-(x+4294967296-cy-y)/4294967296,by omega,by go_num,zk7 (by simp only[zca];omega),by omega,by simp[HZ.out],lz.snoc (by omega),zez HZ.out HE.out HX.out HY.out (by omega) hcy byy bx,zat hown1,hb1⟩
        case measure=>simp[intOf];omega
      . have y0:y=0:=by rw[<-HY.out];exact za5 _ _ (by omega)
        subst y0
        go_wp2_with (at_builtin;refine zae rfl _ _ 94 rfl w0.heap.size 211 i0 Tryz.underlying94 hi hz0 hz1 hz2 _ k zs rfl (hown.alloc _) wr.heap.size ((x+4294967296-cy)%4294967296) rfl (zan _ _ _ _ (by simp only[zca];omega)) (by omega) (by simp;omega) ?_)
        intro v' w1 hown1 zaq
        have hb1:Below w0.heap.size w0 w1:=(hnx.alloc hsz _).grown zaq (by simp;omega) (fun k hk=>(hown.lt k hk).1)
        clear hown;go_wp2
        go_roundw
        case rel =>
         exact⟨k+1,zs++[(x+4294967296-cy)%4294967296],1-(x+4294967296-cy)/4294967296,by omega,by go_num,zk7 (by simp only[zca];omega),by omega,by simp[HZ.out],lz.snoc (by omega),zez HZ.out HE.out HX.out HY.out (by omega) hcy byy bx,zat hown1,hb1⟩
        case measure=>simp[intOf];omega
    . obtain rfl:k=X.length:=by omega
      obtain⟨a',cap',rfl,hres⟩:=Res.of lz hown
      clear hown
      go_wp2_with fail
      refine(zbz _ _ _ _ hres.rd (by rw[HZ.out];omega)).mono ?_
      rintro e w2 ⟨a2,c2,rfl,hr2,hb2⟩;go_wp2
      go_ret
      refine⟨a2,c2,_,rfl,?_,zak _,hr2.mono (Nat.le_trans hs0 hsz),hb0.trans ((hnx.trans (hb2.mono hsz)).mono hs0)⟩
      rw[zaj,<-HV.out.2.1,<-HV.out.2.2]
      exact zn8 lz HZ.out HE.out lL HV.out.1
def remN(x y:Nat):Nat:=if y=0 then 0 else x%y
theorem zii(x:Nat){y:Nat}(h:y=0):remN x y=0:=by unfold remN;rw[if_pos h]
theorem zbm(x:Nat){y:Nat}(h:0<y):remN x y=x%y:=by unfold remN;rw[if_neg (by omega)]
theorem V_one{ys:List Nat}(h:ys.length=1):V ys=ys.getD 0 0:=by
 match ys,h with
 | [y],_=>simp[V]
theorem zfy(a:Option Addr)(cap:Nat)(xs:List Nat)(b:Option Addr)(cbp:Nat)(ys:List Nat)(w:World)(ha:Rd w a cap xs)(hb:Rd w b cbp ys)(hla:xs.length<=400000000)(hlb:ys.length<=400000000) :
 Calls Tryz.prog 141 #[.slice a xs.length cap,.slice b ys.length cbp] w fun e w' =>
     ∃a1 c1 z1 a2 c2 z2,e=.returned (.tuple #[.slice a1 z1.length c1,.slice a2 z2.length c2])/\V z1=V xs/V ys/\V z2=remN (V xs) (V ys)/\Tr z1/\Tr z2/\Res 211 w.heap.size w' a1 c1 z1/\Res 211 w.heap.size w' a2 c2 z2/\Below w.heap.size w w':=by
 have Xr:=ha.strip
 have Yr:=hb.strip
 have lx:=zag xs
 have ly:=zag ys
 have tX:=zak xs
 have tY:=zak ys
 go_enter Tryz.func141,Tryz.ntmps141
 go_wp2_with fail
 refine(zby a cap xs _ ha).mono ?_
 rintro e w' ⟨rfl,rfl⟩
 go_wp2_with fail
 refine(zby b cbp ys _ hb).mono ?_
 rintro e w' ⟨rfl,rfl⟩
 clear ha hb
 have HV:Hid (V (strip xs)=V xs/\V (strip ys)=V ys):=⟨zaj xs,zaj ys⟩
 generalize strip xs=X at Xr lx HV tX ⊢
 generalize strip ys=Y at Yr ly HV tY ⊢
 have hx2:=Xr.cap
 have hx1:=Xr.le
 have hy2:=Yr.cap
 have hy1:=Yr.le
 unfold maxLen at hx2 hy2
 by_cases h0:Y.length=0
 . have hY0:V ys=0:=by rw[<-HV.out.2,List.length_eq_zero_iff.1 h0];rfl
   have HY0:Hid (V ys=0):=hY0
   have hq:((Y.length:Int)==0)=true:=beq_iff_eq.2 (by omega)
   have H0:Hid (Y.length=0):=h0
   clear hY0 h0;go_wp2
   go_ret2
   refine⟨some ⟨w.heap.size,0,none⟩,0,[],some ⟨w.heap.size+1,0,none⟩,0,[],rfl,by rw[HY0.out,Nat.div_zero];rfl,by rw[zii _ HY0.out];rfl,zcq,zcq,?_,?_,?_⟩
   . exact⟨Lim.nil,(World.ownsRow_made w #[] 0 (Nat.le_refl _) (Nat.zero_le _) rfl).alloc _⟩
   . have:=World.ownsRow_made (e:=211) (size:=1) (base:=w.heap.size) (w.alloc (.cells #[] 211)) #[] 0 (by simp) (Nat.zero_le _) rfl
     simp at this
     exact⟨Lim.nil,by simpa using this⟩
   . exact((Below.refl _ _).alloc (Nat.le_refl _) _).alloc (by simp) _
 . have hq:((Y.length:Int)==0)=false:=beq_eq_false_iff_ne.2 (by omega)
   have zy5:0<V ys:=by
    rw[<-HV.out.2]
    rcases Nat.eq_zero_or_pos (V Y)with h|h
    . exact absurd (by rw[zb7 tY h];rfl) h0
    . exact h
   have HYP:Hid (0<V ys):=zy5
   clear zy5
   go_wp2_with fail
   refine(zht _ _ _ _ _ _ _ Xr Yr).mono ?_
   rintro e w1 ⟨rfl,hb1⟩;rw[HV.out.1,HV.out.2]
   have Xr1:=Xr.below hb1
   have Yr1:=Yr.below hb1
   have hs1:=hb1.size
   clear Xr Yr
   by_cases hlt:V xs<V ys
   . have hc:cmpN (V xs) (V ys)=-1:=by simp[cmpN,hlt]
     rw[hc]
     have HL:Hid (V xs<V ys):=hlt
     clear hc hlt
     go_wp2_with fail
     refine(zbz _ _ X _ (Xr1.below ((Below.refl _ _).alloc (Nat.le_refl _) _)) (by omega)).mono ?_
     rintro e w2 ⟨a2,c2,rfl,hr2,hb2⟩
     have hba:Below w.heap.size w (w1.alloc (.cells #[] 211)):=hb1.alloc hs1 _
     have hbw:Below w.heap.size w w2:=hba.trans (hb2.mono hba.size)
     have hown:(w1.alloc (.cells #[] 211)).ownsRow w1.heap.size 211 1 (.slice (some ⟨w1.heap.size,0,none⟩) 0 0) 0 []:=World.ownsRow_made w1 #[] 0 (Nat.le_refl _) (Nat.zero_le _) rfl
     have hR1:Res 211 w1.heap.size (w1.alloc (.cells #[] 211)) (some ⟨w1.heap.size,0,none⟩) 0 []:=⟨Lim.nil,hown⟩
     have hR1':=hR1.below hb2
     go_wp2
     go_ret2
     refine⟨some ⟨w1.heap.size,0,none⟩,0,[],a2,c2,strip X,rfl,?_,?_,zcq,zak _,hR1'.mono hs1,hr2.mono hba.size,hbw⟩
     . rw[Nat.div_eq_of_lt HL.out];rfl
     . rw[zbm _ HYP.out,Nat.mod_eq_of_lt HL.out,zaj,HV.out.1]
   . have hc:0<=cmpN (V xs) (V ys):=by unfold cmpN;rw[if_neg hlt];split <;> omega
     have HL:Hid (V ys<=V xs):=Nat.le_of_not_lt hlt
     generalize cmpN (V xs) (V ys)=cc at hc ⊢
     clear hlt
     by_cases zni:Y.length=1
     . have hone':((Y.length:Int)==1)=true:=beq_iff_eq.2 (by omega)
       obtain⟨y,hy⟩:∃y,Y.getD 0 0=y:=⟨_,rfl⟩
       have hVy:V Y=y:=by rw[V_one zni,hy]
       have hyb:y<4294967296:=by rw[<-hy];exact Yr1.lim.getD 0
       have hyp:1<=y:=by have:=HYP.out;rw[<-HV.out.2,hVy]at this;exact this
       obtain⟨b1,o1,rfl,hb1lt,hcy⟩:=Yr1.fm.at (Below.refl _ _) 0 (by omega)
       rw[hy]at hcy
       have HVY:Hid (V ys=y):=by show _=_;rw[<-HV.out.2,hVy]
       have H1:Hid (Y.length=1):=zni
       have hYl1:(0:Int)<(Y.length:Int):=by omega
       clear zni hy hVy h0
       go_wp2_with fail
       refine(zbz _ _ X _ Xr1 (by omega)).mono ?_
       rintro e w2 ⟨a2,c2,rfl,hr2,hb2⟩
       have hbw2:Below w.heap.size w w2:=hb1.trans (hb2.mono hs1)
       have hcy2:w2.cell? ⟨b1,o1+0,none⟩=some (.int .u32 (y:Int)):=(hb2.cell (p:=⟨b1,o1+0,none⟩) hb1lt).trans hcy
       have hXs:strip X=X:=tX
       rw[hXs]at hr2 ⊢
       have hs2:=hbw2.size
       rcases hr2.blk with h|⟨g,rfl,hg1,hB2⟩
       . exfalso
         have h1:=HL.out
         rw[<-HV.out.1,h]at h1
         have h2:=HYP.out
         have h3:V []=0:=rfl
         omega
       . have zs9:b1≠g:=by omega
         clear hcy
         simp only[Nat.add_zero]at hcy2
         go_wp2_with fail
         refine(ztj g _ X y _ hB2 hr2.lim hyp hyb (by omega)).mono ?_
         rintro e w3 ⟨cs,r,rfl,hr,hcl,lc,heq,hB3,hg3⟩
         have hbw3:Below w.heap.size w w3:=hbw2.grown hg3 hs2 (fun k hk=>by cases hk;omega)
         have hs3:=hbw3.size
         have hcc1:=hr2.rd.cap
         have hcc2:=hr2.rd.le
         have hrd:=hB3.rd lc 0 X.length c2 (by omega) hcc2 hcc1
         rw[List.drop_zero,List.take_of_length_le (by omega)]at hrd
         have hdm:V cs=V xs/y/\r=V xs%y:=by
          rw[<-HV.out.1,<-heq]
          exact⟨by rw[Nat.mul_comm,Nat.add_comm,Nat.add_mul_div_left _ _ (by omega),Nat.div_eq_of_lt hr,Nat.zero_add],by rw[Nat.mul_comm,Nat.add_comm,Nat.add_mul_mod_self_left,Nat.mod_eq_of_lt hr]⟩
         have HDM:Hid (V cs=V xs/y/\r=V xs%y):=hdm
         have HCL:Hid (cs.length=X.length):=hcl
         clear hdm heq hcl hcc1 hcc2 hr2
         unfold maxLen at *
         go_wp2_with fail
         refine(zk8 _ _ X.length cs _ HCL.out.symm hrd (by rw[HCL.out];omega)).mono ?_
         rintro e w4 ⟨a4,c4,rfl,hr4,hb4⟩
         have hbw4:Below w.heap.size w w4:=hbw3.trans (hb4.mono hs3)
         have hs4:=hbw4.size
         go_wp2_with fail
         refine(zdu r _ (by omega)).mono ?_
         rintro e w5 ⟨a5,c5,z5,rfl,hv5,ht5,hr5,hb5⟩
         have hbw5:Below w.heap.size w w5:=hbw4.trans (hb5.mono hs4)
         have hr4':=hr4.below hb5
         go_wp2
         go_ret2
         refine⟨a4,c4,strip cs,a5,c5,z5,rfl,?_,?_,zak _,ht5,hr4'.mono hs3,hr5.mono hs4,hbw5⟩
         . rw[zaj,HDM.out.1,HVY.out]
         . rw[zbm _ HYP.out,hv5,HDM.out.2,HVY.out]
     . have hone':((Y.length:Int)==1)=false:=beq_eq_false_iff_ne.2 (by omega)
       go_wp2_with fail
       refine(zkk _ _ X _ _ Y _ Xr1 Yr1 tX tY (by omega) (by rw[HV.out.1,HV.out.2];exact HL.out) (by omega) (by omega)).mono ?_
       rintro e w2 ⟨a1,c1,z1,a2,c2,z2,rfl,hv1,hv2,ht1,ht2,hr1,hr2,hb2⟩;go_wp2
       go_ret2
       refine⟨a1,c1,z1,a2,c2,z2,rfl,?_,?_,ht1,ht2,hr1.mono hs1,hr2.mono hs1,hb1.trans (hb2.mono hs1)⟩
       . rw[hv1,HV.out.1,HV.out.2]
       . rw[zbm _ HYP.out,hv2,HV.out.1,HV.out.2]
