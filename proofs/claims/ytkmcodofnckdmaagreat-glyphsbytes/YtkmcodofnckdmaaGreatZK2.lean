import Derived.Test.YtkmcodofnckdmaaGreatZK1
import Derived.Laws.BitsAllLaws
import Derived.Lib.BitFns
import Derived.Lib.Strings
import Derived.Lib.Walk
set_option maxHeartbeats 1600000
set_option maxRecDepth 100000
set_option linter.unusedSimpArgs false
set_option linter.unusedVariables false
namespace Go.Proofs.YtkmcodofnckdmaaGreat
open Tryz Go.RowKit
theorem zq8{a b:Int}(h:a=b):Ending.returned (.int .u32 a)=.returned (.int .u32 b):=by rw[h]
theorem zwm(g off co:Nat)(zs:LN)(b:OA)(cb:Nat)(ys:LN)(f:Nat)(w:World)(hblk:Blk 250 w g zs)(lz:Lim zs)(hb:Rd w b cb ys)
    (hsep:∀k o,b=some ⟨k,o,none⟩->ys≠[]->k≠g) (hf:f<4294967296) (hlen:off+ys.length<=zs.length) (zpk:zs.length<=4000000000) :
    Calls Tryz.prog 257 #[.slice (some ⟨g,off,none⟩) ys.length co,.slice b ys.length cb,.int .u32 (f:Int)] w fun e w' =>
     ∃(cs:LN) (c:Nat),e=.returned (.int .u32 (c:Int))/\c<4294967296/\cs.length=zs.length/\Lim cs/\(∀i,i<off\/off+ys.length<=i->cs.getD i 0=zs.getD i 0) /\
      Sv (fun i=>cs.getD (off+i) 0) ys.length+4294967296 ^ ys.length*c=Sv (fun i=>zs.getD (off+i) 0) ys.length+V ys*f/\Blk 250 w' g cs/\w.grownBy w' (some g):=by
 have fb:=hb.fm;have lb:=hb.lim;clear hb;go_enter func257,ntmps257;go_wp2
 go_loopw [7,13] (fun c i wr=>∃(k:Nat) (cs:LN) (cy:Nat),k<=ys.length/\i=.int .i64 k/\c=.int .u64 cy/\cy<4294967296/\cs.length=zs.length/\Lim cs/\(∀i,i<off\/off+k<=i->cs.getD i 0=zs.getD i 0) /\
     Sv (fun i=>cs.getD (off+i) 0) k+4294967296 ^ k*cy=Sv (fun i=>zs.getD (off+i) 0) k+V (ys.take k)*f/\Blk 250 wr g cs/\w.grownBy wr (some g)) (fun _ i _=>ys.length-(intOf i).toNat)
 case atStart=>exact⟨0,zs,0,qD _,rfl,rfl,by decide,rfl,lz,fun _ _=>rfl,by simp[V,Sv],hblk,World.grownBy.refl _ _⟩
 case round =>
  obtain⟨k,cs,cy,hk,rfl,rfl,hcy,hcl,lc,zf8,heq,hB,hg⟩:=hrel;have HE:Hid (Sv (fun i=>cs.getD (off+i) 0) k+4294967296 ^ k*cy=Sv (fun i=>zs.getD (off+i) 0) k+V (ys.take k)*f):=heq;have HC:Hid (cs.length=zs.length):=hcl;have HS:Hid (∀i,i<off\/off+k<=i->cs.getD i 0=zs.getD i 0):=zf8;clear heq zf8;by_cases hkn:k<ys.length
  . obtain⟨b1,o1,rfl,hne,c1⟩:=fb.other hg hsep k hkn
    have c2:=hB.cell (off+k) (by omega);have c3:=hB.frozen (off+k);obtain⟨y,hy⟩:∃y,ys.getD k 0=y:=⟨_,rfl⟩;obtain⟨o,ho⟩:∃o,cs.getD (off+k) 0=o:=⟨_,rfl⟩;rw[hy]at c1;rw[ho]at c2;have by1:y<4294967296:=(by rw[<-hy];exact lb.getD k);have bo1:o<4294967296:=(by rw[<-ho];exact lc.getD _);obtain⟨p,hp⟩:∃p,y*f=p:=⟨_,rfl⟩;have bp:p<=18446744065119617025:=(by rw[<-hp];exact zr7 by1 hf);have hpi:(y:Int)*(f:Int)=(p:Int):=(by rw[<-hp];simp);have HY:Hid (ys.getD k 0=y):=hy;have HO:Hid (zs.getD (off+k) 0=o):=(by show _=_;rw[<-HS.out (off+k) (by omega)];exact ho);have HP:Hid (y*f=p):=hp;clear hy ho hp hcl;go_wp2;go_roundw
    case rel =>
     refine⟨k+1,cs.set (off+k) ((p+o+cy)%4294967296),(p+o+cy)/4294967296,by omega,by go_num,by go_num,by omega,by rw[List.length_set];exact HC.out,lc.set _ (by omega),fun i hi=>?_,ztz HY.out HP.out HO.out rfl (by rw[HC.out];omega) HE.out,hB.set _ _ _ (by rw[HC.out];omega) (by omega),zdq hg _ _⟩;rw[zc7 _ _ _ _ (by omega)];exact HS.out i (by omega)
    case measure=>simp[intOf];omega
  . obtain rfl:k=ys.length:=by omega
    go_wp2;go_ret;refine⟨cs,cy,zq8 (by omega),hcy,HC.out,lc,fun i hi=>HS.out i hi,?_,hB,hg⟩;have:=HE.out;rw[List.take_length]at this;exact this
theorem z1k(l x:Nat)(hl:l<4294967296)(hx:x<4294967296):bits BinOp.or IntKind.u64 ((l:Int)*4294967296) (x:Int)=(l:Int)*4294967296+(x:Int):=by
 have h:=u64_or_nat (l*4294967296) x (by omega) (by omega);have e:l*4294967296 ||| x=l*4294967296+x:=by
  have:=Nat.shiftLeft_add_eq_or_of_lt (show x<2 ^ 32 by omega) l;rw[Nat.shiftLeft_eq]at this;exact this.symm
 rw[e]at h;have c1:((l*4294967296:Nat):Int)=(l:Int)*4294967296:=by simp
 rw[c1]at h;rw[h];simp
theorem zxp(xs:LN)(j:Nat):V (xs.drop j)=xs.getD j 0+4294967296*V (xs.drop (j+1)):=by
 rw[zcd (xs.drop j),List.tail_drop];simp[List.getD]
theorem ztg{C Z d r x p qq rr:Nat}(he:C*d+r=Z)(hq:d*qq+rr=p)(hp:r*4294967296+x=p):(qq+4294967296*C)*d+rr=x+4294967296*Z:=by
 subst he;subst hp
 grind
theorem zv2(g co:Nat)(zs:LN)(d:Nat)(w:World)(hblk:Blk 250 w g zs)(lz:Lim zs)(hd0:1<=d)(hd:d<4294967296)(zpk:zs.length<=4000000000) :
 Calls Tryz.prog 255 #[.slice (some ⟨g,0,none⟩) zs.length co,.int .u32 (d:Int)] w fun e w' =>
     ∃(cs:LN) (r:Nat),e=.returned (.int .u32 (r:Int))/\r<d/\cs.length=zs.length/\Lim cs/\V cs*d+r=V zs/\Blk 250 w' g cs/\w.grownBy w' (some g):=by
 go_enter func255,ntmps255;go_wp2
 go_loopw [5,6] (fun l i wr=>∃(k:Nat) (q:Int) (cs:LN) (r:Nat),k<=zs.length/\q=(k:Int)-1/\i=.int .i64 q/\l=.int .u64 r/\r<d/\cs.length=zs.length/\Lim cs/\(∀j,j<k->cs.getD j 0=zs.getD j 0)/\V (cs.drop k)*d+r=V (zs.drop k)/\Blk 250 wr g cs/\w.grownBy wr (some g)) (fun _ i _=>(intOf i+1).toNat)
 case atStart=>exact⟨zs.length,_,zs,0,qE _,rfl,rfl,rfl,by omega,rfl,lz,fun _ _=>rfl,by simp[V],hblk,World.grownBy.refl _ _⟩
 case round =>
  obtain⟨k,q,cs,r,hk,hq,rfl,rfl,hr,hcl,lc,zf8,heq,hB,hg⟩:=hrel;have HE:Hid (V (cs.drop k)*d+r=V (zs.drop k)):=heq;have HC:Hid (cs.length=zs.length):=hcl;have HS:Hid (∀j,j<k->cs.getD j 0=zs.getD j 0):=zf8;clear heq zf8 hcl;by_cases hk0:k=0
  . subst hk0
    obtain rfl:q=-1:=by omega
    clear hq;go_wp2;go_ret;exact⟨cs,r,zq8 (by omega),hr,HC.out,lc,by simpa using HE.out,hB,hg⟩
  . obtain⟨j,rfl⟩:∃j,k=j+1:=⟨k-1,by omega⟩
    obtain rfl:q=(j:Int):=by omega
    clear hq;have c2:=hB.cell j (by rw[HC.out];omega);have c3:=hB.frozen j;obtain⟨x,hx⟩:∃x,cs.getD j 0=x:=⟨_,rfl⟩;rw[hx]at c2;have bx:x<4294967296:=(by rw[<-hx];exact lc.getD _);have HX:Hid (cs.getD j 0=x):=hx;have hor:=z1k r x (by omega) bx;obtain⟨p,hp⟩:∃p,r*4294967296+x=p:=⟨_,rfl⟩;have hpi:(r:Int)*4294967296+(x:Int)=(p:Int):=(by omega);have bp:p<d*4294967296:=(by omega);have HP:Hid (r*4294967296+x=p):=hp;have qlt:p/d<4294967296:=Nat.div_lt_of_lt_mul bp;have rlt:p%d<d:=Nat.mod_lt _ (by omega);have hqd:(p:Int)/(d:Int)=((p/d:Nat):Int):=(by simp);have hrd:(p:Int)%(d:Int)=((p%d:Nat):Int):=(by simp);have HQ:Hid (d*(p/d)+p%d=p):=Nat.div_add_mod p d;generalize p/d=qq at *;generalize p%d=rr at *;clear hx hp;go_wp2;go_roundw
    case rel =>
     refine⟨j,_,cs.set j qq,rr,by omega,rfl,by go_num,congrArg (Value.int .u64) hrd,rlt,by rw[List.length_set];exact HC.out,lc.set _ qlt,fun i hi=>?_,?_,hB.set _ _ _ (by rw[HC.out];omega) rfl,zdq hg _ _⟩
     . rw[zc7 _ _ _ _ (by omega)];exact HS.out i (by omega)
     . rw[zxp,zxp zs j,zen _ _ _ (by rw[HC.out];omega),List.drop_set_of_lt (by omega),<-HS.out j (by omega),HX.out]
       exact ztg HE.out HQ.out HP.out
    case measure=>simp[intOf]
theorem zpm(n i:Nat):(List.replicate n 0).getD i 0=0:=by
 by_cases h:i<n <;> simp[List.getD,h]
theorem zva{cs ds a b:LN}{i x c:Nat}(hx:a.getD i 0=x)(hl:cs.length=ds.length)(hlen:i+b.length<ds.length)(hinv:Sv (fun j=>cs.getD j 0) (i+b.length)=V (a.take i)*V b)
    (zf8:∀j,j<i\/i+b.length<=j->ds.getD j 0=cs.getD j 0)
    (he:Sv (fun j=>ds.getD (i+j) 0) b.length+4294967296 ^ b.length*c=Sv (fun j=>cs.getD (i+j) 0) b.length+V b*x) :
    Sv (fun j=>(ds.set (i+b.length) c).getD j 0) (i+1+b.length)=V (a.take (i+1))*V b:=by
 rw[show i+1+b.length=i+b.length+1 by omega,Sv,zen _ _ _ hlen];rw[zkf (g:=fun j=>ds.getD j 0) (fun j hj=>zc7 _ _ _ _ (by omega))];rw[z3x]at hinv ⊢;rw[zkf (f:=fun j=>ds.getD j 0) (g:=fun j=>cs.getD j 0) (fun j hj=>zf8 j (by omega)),zbh,hx,Nat.pow_add];generalize 4294967296 ^ i=p at hinv ⊢;generalize 4294967296 ^ b.length=q at he ⊢;generalize Sv (fun j=>cs.getD j 0) i=A at hinv ⊢;generalize Sv (fun j=>cs.getD (i+j) 0) b.length=C at he hinv ⊢;generalize Sv (fun j=>ds.getD (i+j) 0) b.length=D at he ⊢;generalize V (a.take i)=E at hinv ⊢;generalize V b=F at he hinv ⊢;have h1:p*(D+q*c)=p*(C+F*x):=by rw[he]
 grind
theorem zwq(a:OA)(cap n:Nat)(xs:LN)(w:World)(hn:n=xs.length)(h:Rd w a cap xs)(hl:xs.length<=1000000000) :
 Calls Tryz.prog 201 #[.slice a n cap] w fun e w'=>∃a' cap',e=.returned (.slice a' (strip xs).length cap')/\Res 250 w.heap.size w' a' cap' (strip xs)/\Below w.heap.size w w':=by
 subst hn;exact zdx a cap xs w h hl
theorem zl4(a:OA)(cap:Nat)(xs:LN)(b:OA)(cbp:Nat)(ys:LN)(w:World)(ha:Rd w a cap xs)(hb:Rd w b cbp ys)(hla:xs.length<=400000000)(hlb:ys.length<=400000000) :
 Calls Tryz.prog 205 #[.slice a xs.length cap,.slice b ys.length cbp] w fun e w' =>
     ∃a' cap' zs,e=.returned (.slice a' zs.length cap')/\V zs=V xs*V ys/\Tr zs/\Res 250 w.heap.size w' a' cap' zs/\Below w.heap.size w w':=by
 obtain⟨i0,hi,hz0,hz1,hz2⟩:=info_parts zhu;have Xr:=ha.strip;have Yr:=hb.strip;have lx:=zao xs;have ly:=zao ys;go_enter func205,ntmps205;go_wp2_with fail
 refine(zcl a cap xs _ ha).mono ?_;rintro e w' ⟨rfl,rfl⟩;go_wp2_with fail
 refine(zcl b cbp ys _ hb).mono ?_;rintro e w' ⟨rfl,rfl⟩;clear ha hb;have HV:Hid (V (strip xs)=V xs/\V (strip ys)=V ys):=⟨zbd xs,zbd ys⟩;generalize strip xs=X at Xr lx HV ⊢;generalize strip ys=Y at Yr ly HV ⊢;have fX:=Xr.fm;have lX:=Xr.lim;clear Xr;go_wp2_with (at_make;refine wpList_make_full _ rfl _ _ 123 rfl w.heap.size 250 i0 (.int .u32 0) 1 underlying123 hi hz0 hz1 _ _ _ _ (X.length+Y.length) rfl rfl (by omega) (by omega) (by rw[hz2];omega) (by unfold maxLen;omega) (qE _) ?_)
 intro u0 zpf ze6;have hb0:Below w.heap.size w u0:=(Below.refl _ _).grown ze6 (qE _) (fun k h=>by cases h);have hB0:=zwh zpf;clear zpf ze6;go_wp2
 go_loopw [20] (fun i wr=>∃(k:Nat) (cs:LN),k<=X.length/\i=.int .i64 k/\cs.length=X.length+Y.length/\Lim cs/\Sv (fun j=>cs.getD j 0) (k+Y.length)=V (X.take k)*V Y/\Blk 250 wr w.heap.size cs/\Below w.heap.size w wr) (fun i _=>X.length-(intOf i).toNat)
 case atStart=>exact⟨0,_,qD _,rfl,List.length_replicate,fun x hx=>by rw[List.eq_of_mem_replicate hx];decide,by rw[z0s (fun i hi=>zpm _ _)];simp[V],hB0,hb0⟩
 case round =>
  obtain⟨k,cs,hk,rfl,hcl,lc,hinv,hB,hnx⟩:=hrel;have HC:Hid (cs.length=X.length+Y.length):=hcl;have HI:Hid (Sv (fun j=>cs.getD j 0) (k+Y.length)=V (X.take k)*V Y):=hinv;have hsz:=hnx.size;clear hinv hcl;by_cases hkn:k<X.length
  . obtain⟨b1,o1,rfl,hlt,c1⟩:=fX.at hnx k hkn
    obtain⟨x,hx⟩:∃x,X.getD k 0=x:=⟨_,rfl⟩;rw[hx]at c1;have bx:x<4294967296:=(by rw[<-hx];exact lX.getD k);have HX:Hid (X.getD k 0=x):=hx;clear hx;have hsep:∀k o,b=some ⟨k,o,none⟩->Y≠[]->k≠w.heap.size:=fun k o e hne=>by
     subst e;have:=Yr.lt hne;omega
    go_wp2_with fail
    refine(zwm w.heap.size k _ cs b cbp Y x wr hB lc (Yr.below hnx) hsep bx (by rw[HC.out];omega) (by rw[HC.out];omega)).mono ?_;rintro e w1 ⟨ds,c,rfl,hc,hdl,ld,zf8,heq,hB1,hg1⟩;have hb1:Below w.heap.size w w1:=hnx.grown hg1 hsz (fun k hk=>by cases hk;exact qE _);have HD:Hid (ds.length=cs.length):=hdl;have HS:Hid (∀j,j<k\/k+Y.length<=j->ds.getD j 0=cs.getD j 0):=zf8;have HQ:Hid (Sv (fun j=>ds.getD (k+j) 0) Y.length+4294967296 ^ Y.length*c=Sv (fun j=>cs.getD (k+j) 0) Y.length+V Y*x):=heq;have c2:=hB1.cell (k+Y.length) (by rw[HD.out,HC.out];omega);have c3:=hB1.frozen (k+Y.length);obtain⟨o,ho⟩:∃o,ds.getD (k+Y.length) 0=o:=⟨_,rfl⟩;rw[ho]at c2;clear hdl zf8 heq ho c1;go_wp2;go_roundw
    case rel =>
     exact⟨k+1,ds.set (k+Y.length) c,by omega,by go_num,by rw[List.length_set,HD.out];exact HC.out,ld.set _ hc,zva HX.out HD.out.symm (by rw[HD.out,HC.out];omega) HI.out HS.out HQ.out,hB1.set _ _ _ (by rw[HD.out,HC.out];omega) rfl,hb1.setCell (qE _) _⟩
    case measure=>simp[intOf];omega
  . obtain rfl:k=X.length:=by omega
    have hr:=hB.rd lc 0 (X.length+Y.length) (X.length+Y.length) (by rw[HC.out];omega) (qE _) (by unfold maxLen;omega);rw[List.drop_zero,List.take_of_length_le (by rw[HC.out];exact qE _)]at hr;go_wp2_with fail
    refine(zwq _ _ (X.length+Y.length) cs _ HC.out.symm hr (by rw[HC.out];omega)).mono ?_;rintro e w2 ⟨a2,c2,rfl,hr2,hb2⟩;go_wp2;go_ret;refine⟨a2,c2,_,rfl,?_,zbi _,hr2.mono hsz,hnx.trans (hb2.mono hsz)⟩;have h1:=HI.out;rw[List.take_length,HV.out.1,HV.out.2]at h1;rw[zbd,V_Sv,HC.out,h1]
def zkn(v:Nat):Nat:=if v<18446744073709551616 then v else 0
theorem zey{v:Nat}(h:v<18446744073709551616):zkn v=v:=by unfold zkn;rw[if_pos h]
theorem zqx{v:Nat}(h:¬v<18446744073709551616):zkn v=0:=by unfold zkn;rw[if_neg h]
def zht(v:Nat):Bool:=decide (v<18446744073709551616)
theorem zd4{v:Nat}(h:v<18446744073709551616):zht v=true:=by simp[zht,h]
theorem zpd{v:Nat}(h:¬v<18446744073709551616):zht v=false:=by simp[zht,h]
theorem zyz(x:Nat)(hx:x<4294967296):bits BinOp.or IntKind.u64 0 (x:Int)=(x:Int):=by
 have h:=u64_or_nat 0 x (by decide) (by omega);simpa using h
theorem zy0(n x:Nat)(hn:n<4294967296)(hx:x<4294967296):bits BinOp.or IntKind.u64 (n:Int) ((x:Int)*4294967296)=(n:Int)+(x:Int)*4294967296:=by
 have h:=u64_or_nat n (x*4294967296) (by omega) (by omega);have e:n ||| x*4294967296=n+x*4294967296:=by
  have:=Nat.shiftLeft_add_eq_or_of_lt (show n<2 ^ 32 by omega) x;rw[Nat.shiftLeft_eq]at this;rw[Nat.or_comm,Nat.add_comm];exact this.symm
 rw[e]at h;have c1:((x*4294967296:Nat):Int)=(x:Int)*4294967296:=by simp
 rw[c1]at h;rw[h];simp
theorem zwn{X:LN}(l:Lim X)(h:X.length<=2):V X<18446744073709551616:=by
 have h1:=V_lt l;have h2:4294967296 ^ X.length<=4294967296 ^ 2:=Nat.pow_le_pow_right (by decide) h;omega
theorem zp6{X:LN}(t:Tr X)(h:2<X.length):¬V X<18446744073709551616:=by
 intro hv;have:=zei t (k:=2) hv;omega
theorem zhh(a:OA)(cap:Nat)(xs:LN)(w:World)(h:Rd w a cap xs) :
 Calls Tryz.prog 203 #[.slice a xs.length cap] w fun e w'=>e=.returned (.tuple #[.int .u64 (zkn (V xs):Nat),.bool (zht (V xs))])/\w=w':=by
 have Xr:=h.strip;have tX:=zbi xs;go_enter func203,ntmps203;go_wp2_with fail
 refine(zcl a cap xs _ h).mono ?_;rintro e w' ⟨rfl,rfl⟩;clear h;have HV:Hid (V (strip xs)=V xs):=zbd xs;generalize strip xs=X at Xr tX HV ⊢;have k1:=Xr.le;have k2:=Xr.cap;unfold maxLen at k2;have fX:=Xr.fm;have lX:=Xr.lim;clear Xr;by_cases hl:2<X.length
 . have HG:Hid (¬V xs<18446744073709551616):=by show ¬_;rw[<-HV.out];exact zp6 tX hl
   go_wp2;go_ret2;exact⟨by rw[zqx HG.out,zpd HG.out];rfl,rfl⟩
 . have HG:Hid (V xs<18446744073709551616):=by show _<_;rw[<-HV.out];exact zwn lX (by omega)
   go_wp2
   go_loop [4,14] (fun n i=>∃(k m:Nat),k<=X.length/\i=.int .i64 k/\n=.int .u64 m/\m=V (X.take k)) (fun _ i=>X.length-(intOf i).toNat)
   case atStart=>exact⟨0,0,qD _,rfl,rfl,by simp[V]⟩
   case round =>
    obtain⟨k,m,hk,rfl,rfl,hm⟩:=hrel;have HM:Hid (m=V (X.take k)):=hm;clear hm;by_cases hkn:k<X.length
    . obtain⟨bl,ol,rfl,_,hcx⟩:=fX.at (Below.refl _ _) k hkn
      obtain⟨x,hx⟩:∃x,X.getD k 0=x:=⟨_,rfl⟩;have bx:x<4294967296:=(by rw[<-hx];exact lX.getD k);rw[hx]at hcx;have HX:Hid (X.getD k 0=x):=hx;clear hx;have HS:=zbh X k;rcases (show k=0\/k=1 by omega)with hk0|hk1
      . subst hk0
        rw[Nat.add_zero]at hcx;obtain rfl:m=0:=by rw[HM.out];simp[V]
        have ho:=zyz x bx;have HS2:Hid (x=V (X.take 1)):=(by show _=_;rw[HS,HX.out];simp[V]);clear HS;go_wp2
        go_round
        case rel=>exact⟨1,x,by omega,by go_num,by go_num,HS2.out⟩
        case measure=>simp[intOf];omega
      . subst hk1
        have hmb:m<4294967296:=by
         rw[HM.out,zlk,Sv,Sv];simp only[Nat.pow_zero,Nat.one_mul,Nat.zero_add];exact lX.getD 0
        have ho:=zy0 m x hmb bx;have HS2:Hid (m+x*4294967296=V (X.take 2)):=(by show _=_;rw[HS,HX.out,<-HM.out];omega);clear HS;go_wp2
        go_round
        case rel=>exact⟨2,m+x*4294967296,by omega,by go_num,by go_num,HS2.out⟩
        case measure=>simp[intOf];omega
    . obtain rfl:k=X.length:=by omega
      go_wp2;go_ret2;refine⟨?_,rfl⟩;rw[zey HG.out,zd4 HG.out,<-HV.out];have:=HM.out;rw[List.take_length]at this;rw[<-this];rfl
