import Derived.Test.YtkmcodofnckdmaaGreatZK1
import Derived.Laws.BitsAllLaws
import Derived.Lib.BitFns
import Derived.Lib.Strings
import Derived.Lib.Walk
set_option maxHeartbeats 2000000
set_option maxRecDepth 100000
set_option linter.unusedSimpArgs false
set_option linter.unusedVariables false
namespace Go.Proofs.YtkmcodofnckdmaaGreat
open Go.RowKit
theorem zdd{a b:Int}(h:a=b):Ending.returned (.int .u32 a)=.returned (.int .u32 b):=by rw[h]
theorem zoz(g off co:Nat)(zs:LN)(b:OA)(cb:Nat)(ys:LN)(f:Nat)(w:World)(hblk:Blk 250 w g zs)(lz:Lim zs)(hb:Rd w b cb ys)
    (zw7:∀k o,b=some ⟨k,o,none⟩->ys≠[]->k≠g) (hf:f<4294967296) (hlen:off+ys.length<=zs.length) (zlc:zs.length<=4000000000) :
    Calls Tryz.prog 257 #[.slice (some ⟨g,off,none⟩) ys.length co,.slice b ys.length cb,.int .u32 (f:Int)] w fun e w' =>
     ∃(cs:LN) (c:Nat),e=.returned (.int .u32 (c:Int))/\c<4294967296/\cs.length=zs.length/\Lim cs/\(∀i,i<off\/off+ys.length<=i->cs.getD i 0=zs.getD i 0) /\
      Sv (fun i=>cs.getD (off+i) 0) ys.length+4294967296 ^ ys.length*c=Sv (fun i=>zs.getD (off+i) 0) ys.length+V ys*f/\Blk 250 w' g cs/\w.grownBy w' (some g):=by
 have fb:=hb.fm
 have lb:=hb.lim
 clear hb
 go_enter Tryz.func257,Tryz.ntmps257
 go_wp2
 go_loopw [7,13] (fun c i wr=>∃(k:Nat) (cs:LN) (cy:Nat),k<=ys.length/\i=.int .i64 k/\c=.int .u64 cy/\cy<4294967296/\cs.length=zs.length/\Lim cs/\(∀i,i<off\/off+k<=i->cs.getD i 0=zs.getD i 0) /\
     Sv (fun i=>cs.getD (off+i) 0) k+4294967296 ^ k*cy=Sv (fun i=>zs.getD (off+i) 0) k+V (ys.take k)*f/\Blk 250 wr g cs/\w.grownBy wr (some g)) (fun _ i _=>ys.length-(intOf i).toNat)
 case atStart=>exact⟨0,zs,0,Nat.zero_le _,rfl,rfl,by decide,rfl,lz,fun _ _=>rfl,by simp[V,Sv],hblk,World.grownBy.refl _ _⟩
 case round =>
  obtain⟨k,cs,cy,hk,rfl,rfl,hcy,hcl,lc,zb4,heq,hB,hg⟩:=hrel
  have HE:Hid (Sv (fun i=>cs.getD (off+i) 0) k+4294967296 ^ k*cy=Sv (fun i=>zs.getD (off+i) 0) k+V (ys.take k)*f):=heq
  have HC:Hid (cs.length=zs.length):=hcl
  have HS:Hid (∀i,i<off\/off+k<=i->cs.getD i 0=zs.getD i 0):=zb4
  clear heq zb4
  by_cases hkn:k<ys.length
  . obtain⟨b1,o1,rfl,hne,c1⟩:=fb.other hg zw7 k hkn
    have c2:=hB.cell (off+k) (by omega)
    have c3:=hB.frozen (off+k)
    obtain⟨y,hy⟩:∃y,ys.getD k 0=y:=⟨_,rfl⟩
    obtain⟨o,ho⟩:∃o,cs.getD (off+k) 0=o:=⟨_,rfl⟩
    rw[hy]at c1;rw[ho]at c2
    have by1:y<4294967296:=by rw[<-hy];exact lb.getD k
    have bo1:o<4294967296:=by rw[<-ho];exact lc.getD _
    obtain⟨p,hp⟩:∃p,y*f=p:=⟨_,rfl⟩
    have bp:p<=18446744065119617025:=by rw[<-hp];exact zej by1 hf
    have hpi:(y:Int)*(f:Int)=(p:Int):=by rw[<-hp];simp
    have HY:Hid (ys.getD k 0=y):=hy
    have HO:Hid (zs.getD (off+k) 0=o):=by show _=_;rw[<-HS.out (off+k) (by omega)];exact ho
    have HP:Hid (y*f=p):=hp
    clear hy ho hp hcl;go_wp2
    go_roundw
    case rel =>
     refine⟨k+1,cs.set (off+k) ((p+o+cy)%4294967296),(p+o+cy)/4294967296,by omega,by go_num,by go_num,by omega,by rw[List.length_set];exact HC.out,lc.set _ (by omega),fun i hi=>?_,zun HY.out HP.out HO.out rfl (by rw[HC.out];omega) HE.out,hB.set _ _ _ (by rw[HC.out];omega) (by omega),zaw hg _ _⟩
     rw[zaq _ _ _ _ (by omega)];exact HS.out i (by omega)
    case measure=>simp[intOf];omega
  . obtain rfl:k=ys.length:=by omega
    go_wp2
    go_ret
    refine⟨cs,cy,zdd (by omega),hcy,HC.out,lc,fun i hi=>HS.out i hi,?_,hB,hg⟩
    have:=HE.out
    rw[List.take_length]at this;exact this
theorem znt(l x:Nat)(hl:l<4294967296)(hx:x<4294967296):bits BinOp.or IntKind.u64 ((l:Int)*4294967296) (x:Int)=(l:Int)*4294967296+(x:Int):=by
 have h:=u64_or_nat (l*4294967296) x (by omega) (by omega)
 have e:l*4294967296 ||| x=l*4294967296+x:=by
  have:=Nat.shiftLeft_add_eq_or_of_lt (show x<2 ^ 32 by omega) l
  rw[Nat.shiftLeft_eq]at this
  exact this.symm
 rw[e]at h
 have c1:((l*4294967296:Nat):Int)=(l:Int)*4294967296:=by simp
 rw[c1]at h
 rw[h];simp
theorem zjw(n:Int):IntKind.u32.wrap n=n%4294967296:=by simp[IntKind.wrap,IntKind.bits,IntKind.signed]
theorem zla(xs:LN)(j:Nat):V (xs.drop j)=xs.getD j 0+4294967296*V (xs.drop (j+1)):=by
 rw[zbv (xs.drop j),List.tail_drop]
 simp[List.getD]
theorem zt4{C Z d r x p qq rr:Nat}(he:C*d+r=Z)(hq:d*qq+rr=p)(hp:r*4294967296+x=p):(qq+4294967296*C)*d+rr=x+4294967296*Z:=by
 subst he;subst hp
 grind
theorem zxy(g co:Nat)(zs:LN)(d:Nat)(w:World)(hblk:Blk 250 w g zs)(lz:Lim zs)(hd0:1<=d)(hd:d<4294967296)(zlc:zs.length<=4000000000) :
 Calls Tryz.prog 255 #[.slice (some ⟨g,0,none⟩) zs.length co,.int .u32 (d:Int)] w fun e w' =>
     ∃(cs:LN) (r:Nat),e=.returned (.int .u32 (r:Int))/\r<d/\cs.length=zs.length/\Lim cs/\V cs*d+r=V zs/\Blk 250 w' g cs/\w.grownBy w' (some g):=by
 go_enter Tryz.func255,Tryz.ntmps255
 go_wp2
 go_loopw [5,6] (fun l i wr=>∃(k:Nat) (q:Int) (cs:LN) (r:Nat),k<=zs.length/\q=(k:Int)-1/\i=.int .i64 q/\l=.int .u64 r/\r<d/\cs.length=zs.length/\Lim cs/\(∀j,j<k->cs.getD j 0=zs.getD j 0)/\V (cs.drop k)*d+r=V (zs.drop k)/\Blk 250 wr g cs/\w.grownBy wr (some g)) (fun _ i _=>(intOf i+1).toNat)
 case atStart=>exact⟨zs.length,_,zs,0,Nat.le_refl _,rfl,rfl,rfl,by omega,rfl,lz,fun _ _=>rfl,by simp[V],hblk,World.grownBy.refl _ _⟩
 case round =>
  obtain⟨k,q,cs,r,hk,hq,rfl,rfl,hr,hcl,lc,zb4,heq,hB,hg⟩:=hrel
  have HE:Hid (V (cs.drop k)*d+r=V (zs.drop k)):=heq
  have HC:Hid (cs.length=zs.length):=hcl
  have HS:Hid (∀j,j<k->cs.getD j 0=zs.getD j 0):=zb4
  clear heq zb4 hcl
  by_cases hk0:k=0
  . subst hk0
    obtain rfl:q=-1:=by omega
    clear hq;go_wp2
    go_ret
    exact⟨cs,r,zdd (by omega),hr,HC.out,lc,by simpa using HE.out,hB,hg⟩
  . obtain⟨j,rfl⟩:∃j,k=j+1:=⟨k-1,by omega⟩
    obtain rfl:q=(j:Int):=by omega
    clear hq
    have c2:=hB.cell j (by rw[HC.out];omega)
    have c3:=hB.frozen j
    obtain⟨x,hx⟩:∃x,cs.getD j 0=x:=⟨_,rfl⟩
    rw[hx]at c2
    have bx:x<4294967296:=by rw[<-hx];exact lc.getD _
    have HX:Hid (cs.getD j 0=x):=hx
    have hor:=znt r x (by omega) bx
    obtain⟨p,hp⟩:∃p,r*4294967296+x=p:=⟨_,rfl⟩
    have hpi:(r:Int)*4294967296+(x:Int)=(p:Int):=by omega
    have bp:p<d*4294967296:=by omega
    have HP:Hid (r*4294967296+x=p):=hp
    have qlt:p/d<4294967296:=Nat.div_lt_of_lt_mul bp
    have rlt:p%d<d:=Nat.mod_lt _ (by omega)
    have hqd:(p:Int)/(d:Int)=((p/d:Nat):Int):=by simp
    have hrd:(p:Int)%(d:Int)=((p%d:Nat):Int):=by simp
    have HQ:Hid (d*(p/d)+p%d=p):=Nat.div_add_mod p d
    generalize p/d=qq at *
    generalize p%d=rr at *
    clear hx hp;go_wp2
    go_roundw
    case rel =>
     refine⟨j,_,cs.set j qq,rr,by omega,rfl,by go_num,congrArg (Value.int .u64) hrd,rlt,by rw[List.length_set];exact HC.out,lc.set _ qlt,fun i hi=>?_,?_,hB.set _ _ _ (by rw[HC.out];omega) rfl,zaw hg _ _⟩
     . rw[zaq _ _ _ _ (by omega)];exact HS.out i (by omega)
     . rw[zla,zla zs j,za7 _ _ _ (by rw[HC.out];omega),List.drop_set_of_lt (by omega),<-HS.out j (by omega),HX.out]
       exact zt4 HE.out HQ.out HP.out
    case measure=>simp[intOf]
theorem divl_nil(a:OA)(co d:Nat)(w:World) :
 Calls Tryz.prog 255 #[.slice a 0 co,.int .u32 (d:Int)] w fun e w'=>e=.returned (.int .u32 0)/\w=w':=by
 go_enter Tryz.func255,Tryz.ntmps255
 go_wp2
 go_loop [5,6] (fun l i=>l=.int .u64 0/\i=.int .i64 (-1)) (fun _ i=>(intOf i).toNat)
 case atStart=>exact⟨rfl,rfl⟩
 case round =>
  obtain⟨rfl,rfl⟩:=hrel;go_wp2
  go_ret
  exact⟨rfl,rfl⟩
theorem zj3{cs zs ys:LN}{off k cy f y o p z c2:Nat}(hy:ys.getD k 0=y)(hp:y*f=p)(ho:zs.getD (off+k) 0=o)(hz:z+p+cy=o+4294967296*c2)(hlen:off+k<cs.length)
    (he:Sv (fun i=>cs.getD (off+i) 0) k+V (ys.take k)*f=Sv (fun i=>zs.getD (off+i) 0) k+4294967296 ^ k*cy) :
    Sv (fun i=>(cs.set (off+k) z).getD (off+i) 0) (k+1)+V (ys.take (k+1))*f=Sv (fun i=>zs.getD (off+i) 0) (k+1)+4294967296 ^ (k+1)*c2:=by
 rw[Sv,Sv,zam,hy,ho,za7 _ _ _ hlen,Nat.pow_succ]
 rw[zb6 (g:=fun i=>cs.getD (off+i) 0) (fun i hi=>zaq _ _ _ _ (by omega))]
 subst hp
 generalize 4294967296 ^ k=q at he ⊢
 generalize Sv (fun i=>cs.getD (off+i) 0) k=A at he ⊢
 generalize Sv (fun i=>zs.getD (off+i) 0) k=C at he ⊢
 generalize V (ys.take k)=D at he ⊢
 have h1:q*(z+y*f+cy)=q*(o+4294967296*c2):=by rw[hz]
 grind
theorem zvg(g off co:Nat)(zs:LN)(b:OA)(cb:Nat)(ys:LN)(f:Nat)(w:World)(hblk:Blk 250 w g zs)(lz:Lim zs)(hb:Rd w b cb ys)
    (zw7:∀k o,b=some ⟨k,o,none⟩->ys≠[]->k≠g) (hf:f<4294967296) (hlen:off+ys.length<=zs.length) (zlc:zs.length<=4000000000) :
    Calls Tryz.prog 285 #[.slice (some ⟨g,off,none⟩) ys.length co,.slice b ys.length cb,.int .u32 (f:Int)] w fun e w' =>
     ∃(cs:LN) (c:Nat),e=.returned (.int .u32 (c:Int))/\c<4294967296/\cs.length=zs.length/\Lim cs/\(∀i,i<off\/off+ys.length<=i->cs.getD i 0=zs.getD i 0) /\
      Sv (fun i=>cs.getD (off+i) 0) ys.length+V ys*f=Sv (fun i=>zs.getD (off+i) 0) ys.length+4294967296 ^ ys.length*c/\Blk 250 w' g cs/\w.grownBy w' (some g):=by
 have fb:=hb.fm
 have lb:=hb.lim
 clear hb
 go_enter Tryz.func285,Tryz.ntmps285
 go_wp2
 go_loopw [7,13] (fun c i wr=>∃(k:Nat) (cs:LN) (cy:Nat),k<=ys.length/\i=.int .i64 k/\c=.int .u64 cy/\cy<4294967296/\cs.length=zs.length/\Lim cs/\(∀i,i<off\/off+k<=i->cs.getD i 0=zs.getD i 0) /\
     Sv (fun i=>cs.getD (off+i) 0) k+V (ys.take k)*f=Sv (fun i=>zs.getD (off+i) 0) k+4294967296 ^ k*cy/\Blk 250 wr g cs/\w.grownBy wr (some g)) (fun _ i _=>ys.length-(intOf i).toNat)
 case atStart=>exact⟨0,zs,0,Nat.zero_le _,rfl,rfl,by decide,rfl,lz,fun _ _=>rfl,by simp[V,Sv],hblk,World.grownBy.refl _ _⟩
 case round =>
  obtain⟨k,cs,cy,hk,rfl,rfl,hcy,hcl,lc,zb4,heq,hB,hg⟩:=hrel
  have HE:Hid (Sv (fun i=>cs.getD (off+i) 0) k+V (ys.take k)*f=Sv (fun i=>zs.getD (off+i) 0) k+4294967296 ^ k*cy):=heq
  have HC:Hid (cs.length=zs.length):=hcl
  have HS:Hid (∀i,i<off\/off+k<=i->cs.getD i 0=zs.getD i 0):=zb4
  clear heq zb4
  by_cases hkn:k<ys.length
  . obtain⟨b1,o1,rfl,hne,c1⟩:=fb.other hg zw7 k hkn
    have c2:=hB.cell (off+k) (by omega)
    have c3:=hB.frozen (off+k)
    obtain⟨y,hy⟩:∃y,ys.getD k 0=y:=⟨_,rfl⟩
    obtain⟨o,ho⟩:∃o,cs.getD (off+k) 0=o:=⟨_,rfl⟩
    rw[hy]at c1;rw[ho]at c2
    have by1:y<4294967296:=by rw[<-hy];exact lb.getD k
    have bo1:o<4294967296:=by rw[<-ho];exact lc.getD _
    obtain⟨p,hp⟩:∃p,y*f=p:=⟨_,rfl⟩
    have bp:p<=18446744065119617025:=by rw[<-hp];exact zej by1 hf
    have hpi:(y:Int)*(f:Int)=(p:Int):=by rw[<-hp];simp
    have HY:Hid (ys.getD k 0=y):=hy
    have HO:Hid (zs.getD (off+k) 0=o):=by show _=_;rw[<-HS.out (off+k) (by omega)];exact ho
    have HP:Hid (y*f=p):=hp
    clear hy ho hp hcl
    by_cases hlo:o<(p+cy)%4294967296
    . go_wp2
      go_roundw
      case rel =>
       refine⟨k+1,cs.set (off+k) (o+4294967296-(p+cy)%4294967296),(p+cy)/4294967296+1,by omega,by go_num,by go_num,by omega,by rw[List.length_set];exact HC.out,lc.set _ (by omega),fun i hi=>?_,zj3 HY.out HP.out HO.out (by omega) (by rw[HC.out];omega) HE.out,hB.set _ _ _ (by rw[HC.out];omega) (by first | omega | (simp only[zjw];omega)),zaw hg _ _⟩
       rw[zaq _ _ _ _ (by omega)];exact HS.out i (by omega)
      case measure=>simp[intOf];omega
    . go_wp2
      go_roundw
      case rel =>
       refine⟨k+1,cs.set (off+k) (o-(p+cy)%4294967296),(p+cy)/4294967296,by omega,by go_num,by go_num,by omega,by rw[List.length_set];exact HC.out,lc.set _ (by omega),fun i hi=>?_,zj3 HY.out HP.out HO.out (by omega) (by rw[HC.out];omega) HE.out,hB.set _ _ _ (by rw[HC.out];omega) (by omega),zaw hg _ _⟩
       rw[zaq _ _ _ _ (by omega)];exact HS.out i (by omega)
      case measure=>simp[intOf];omega
  . obtain rfl:k=ys.length:=by omega
    go_wp2
    go_ret
    refine⟨cs,cy,zdd (by omega),hcy,HC.out,lc,fun i hi=>HS.out i hi,?_,hB,hg⟩
    have:=HE.out
    rw[List.take_length]at this;exact this
theorem zpx(n i:Nat):(List.replicate n 0).getD i 0=0:=by
 by_cases h:i<n <;> simp[List.getD,h]
theorem zws{cs ds a b:LN}{i x c:Nat}(hx:a.getD i 0=x)(hl:cs.length=ds.length)(hlen:i+b.length<ds.length)(hinv:Sv (fun j=>cs.getD j 0) (i+b.length)=V (a.take i)*V b)
    (zb4:∀j,j<i\/i+b.length<=j->ds.getD j 0=cs.getD j 0)
    (he:Sv (fun j=>ds.getD (i+j) 0) b.length+4294967296 ^ b.length*c=Sv (fun j=>cs.getD (i+j) 0) b.length+V b*x) :
    Sv (fun j=>(ds.set (i+b.length) c).getD j 0) (i+1+b.length)=V (a.take (i+1))*V b:=by
 rw[show i+1+b.length=i+b.length+1 by omega,Sv,za7 _ _ _ hlen]
 rw[zb6 (g:=fun j=>ds.getD j 0) (fun j hj=>zaq _ _ _ _ (by omega))]
 rw[zh1]at hinv ⊢
 rw[zb6 (f:=fun j=>ds.getD j 0) (g:=fun j=>cs.getD j 0) (fun j hj=>zb4 j (by omega)),zam,hx,Nat.pow_add]
 generalize 4294967296 ^ i=p at hinv ⊢
 generalize 4294967296 ^ b.length=q at he ⊢
 generalize Sv (fun j=>cs.getD j 0) i=A at hinv ⊢
 generalize Sv (fun j=>cs.getD (i+j) 0) b.length=C at he hinv ⊢
 generalize Sv (fun j=>ds.getD (i+j) 0) b.length=D at he ⊢
 generalize V (a.take i)=E at hinv ⊢
 generalize V b=F at he hinv ⊢
 have h1:p*(D+q*c)=p*(C+F*x):=by rw[he]
 grind
theorem zm5(a:OA)(cap n:Nat)(xs:LN)(w:World)(hn:n=xs.length)(h:Rd w a cap xs)(hl:xs.length<=1000000000) :
 Calls Tryz.prog 201 #[.slice a n cap] w fun e w'=>∃a' cap',e=.returned (.slice a' (strip xs).length cap')/\Res 250 w.heap.size w' a' cap' (strip xs)/\Below w.heap.size w w':=by
 subst hn;exact zb2 a cap xs w h hl
theorem zgu(a:OA)(cap:Nat)(xs:LN)(b:OA)(cbp:Nat)(ys:LN)(w:World)(ha:Rd w a cap xs)(hb:Rd w b cbp ys)(hla:xs.length<=400000000)(hlb:ys.length<=400000000) :
 Calls Tryz.prog 205 #[.slice a xs.length cap,.slice b ys.length cbp] w fun e w' =>
     ∃a' cap' zs,e=.returned (.slice a' zs.length cap')/\V zs=V xs*V ys/\Tr zs/\Res 250 w.heap.size w' a' cap' zs/\Below w.heap.size w w':=by
 obtain⟨i0,hi,hz0,hz1,hz2⟩:=info_parts zcb
 have Xr:=ha.strip
 have Yr:=hb.strip
 have lx:=zah xs
 have ly:=zah ys
 go_enter Tryz.func205,Tryz.ntmps205
 go_wp2_with fail
 refine(zb0 a cap xs _ ha).mono ?_
 rintro e w' ⟨rfl,rfl⟩
 go_wp2_with fail
 refine(zb0 b cbp ys _ hb).mono ?_
 rintro e w' ⟨rfl,rfl⟩
 clear ha hb
 have HV:Hid (V (strip xs)=V xs/\V (strip ys)=V ys):=⟨zap xs,zap ys⟩
 generalize strip xs=X at Xr lx HV ⊢
 generalize strip ys=Y at Yr ly HV ⊢
 have fX:=Xr.fm
 have lX:=Xr.lim
 clear Xr
 go_wp2_with (at_make;refine wpList_make_full _ rfl _ _ 123 rfl w.heap.size 250 i0 (.int .u32 0) 1 Tryz.underlying123 hi hz0 hz1 _ _ _ _ (X.length+Y.length) rfl rfl (by omega) (by omega) (by rw[hz2];omega) (by unfold maxLen;omega) (Nat.le_refl _) ?_)
 intro u0 ze4 zcn
 have hb0:Below w.heap.size w u0:=(Below.refl _ _).grown zcn (Nat.le_refl _) (fun k h=>by cases h)
 have hB0:=zjo ze4
 clear ze4 zcn;go_wp2
 go_loopw [20] (fun i wr=>∃(k:Nat) (cs:LN),k<=X.length/\i=.int .i64 k/\cs.length=X.length+Y.length/\Lim cs/\Sv (fun j=>cs.getD j 0) (k+Y.length)=V (X.take k)*V Y/\Blk 250 wr w.heap.size cs/\Below w.heap.size w wr) (fun i _=>X.length-(intOf i).toNat)
 case atStart=>exact⟨0,_,Nat.zero_le _,rfl,List.length_replicate,fun x hx=>by rw[List.eq_of_mem_replicate hx];decide,by rw[zut (fun i hi=>zpx _ _)];simp[V],hB0,hb0⟩
 case round =>
  obtain⟨k,cs,hk,rfl,hcl,lc,hinv,hB,hnx⟩:=hrel
  have HC:Hid (cs.length=X.length+Y.length):=hcl
  have HI:Hid (Sv (fun j=>cs.getD j 0) (k+Y.length)=V (X.take k)*V Y):=hinv
  have hsz:=hnx.size
  clear hinv hcl
  by_cases hkn:k<X.length
  . obtain⟨b1,o1,rfl,hlt,c1⟩:=fX.at hnx k hkn
    obtain⟨x,hx⟩:∃x,X.getD k 0=x:=⟨_,rfl⟩
    rw[hx]at c1
    have bx:x<4294967296:=by rw[<-hx];exact lX.getD k
    have HX:Hid (X.getD k 0=x):=hx
    clear hx
    have zw7:∀k o,b=some ⟨k,o,none⟩->Y≠[]->k≠w.heap.size:=fun k o e hne=>by
     subst e
     have:=Yr.lt hne
     omega
    go_wp2_with fail
    refine(zoz w.heap.size k _ cs b cbp Y x wr hB lc (Yr.below hnx) zw7 bx (by rw[HC.out];omega) (by rw[HC.out];omega)).mono ?_
    rintro e w1 ⟨ds,c,rfl,hc,hdl,ld,zb4,heq,hB1,hg1⟩
    have hb1:Below w.heap.size w w1:=hnx.grown hg1 hsz (fun k hk=>by cases hk;exact Nat.le_refl _)
    have HD:Hid (ds.length=cs.length):=hdl
    have HS:Hid (∀j,j<k\/k+Y.length<=j->ds.getD j 0=cs.getD j 0):=zb4
    have HQ:Hid (Sv (fun j=>ds.getD (k+j) 0) Y.length+4294967296 ^ Y.length*c=Sv (fun j=>cs.getD (k+j) 0) Y.length+V Y*x):=heq
    have c2:=hB1.cell (k+Y.length) (by rw[HD.out,HC.out];omega)
    have c3:=hB1.frozen (k+Y.length)
    obtain⟨o,ho⟩:∃o,ds.getD (k+Y.length) 0=o:=⟨_,rfl⟩
    rw[ho]at c2;clear hdl zb4 heq ho c1;go_wp2
    go_roundw
    case rel =>
     exact⟨k+1,ds.set (k+Y.length) c,by omega,by go_num,by rw[List.length_set,HD.out];exact HC.out,ld.set _ hc,zws HX.out HD.out.symm (by rw[HD.out,HC.out];omega) HI.out HS.out HQ.out,hB1.set _ _ _ (by rw[HD.out,HC.out];omega) rfl,hb1.setCell (Nat.le_refl _) _⟩
    case measure=>simp[intOf];omega
  . obtain rfl:k=X.length:=by omega
    have hr:=hB.rd lc 0 (X.length+Y.length) (X.length+Y.length) (by rw[HC.out];omega) (Nat.le_refl _) (by unfold maxLen;omega)
    rw[List.drop_zero,List.take_of_length_le (by rw[HC.out];exact Nat.le_refl _)]at hr
    go_wp2_with fail
    refine(zm5 _ _ (X.length+Y.length) cs _ HC.out.symm hr (by rw[HC.out];omega)).mono ?_
    rintro e w2 ⟨a2,c2,rfl,hr2,hb2⟩;go_wp2
    go_ret
    refine⟨a2,c2,_,rfl,?_,zav _,hr2.mono hsz,hnx.trans (hb2.mono hsz)⟩
    have h1:=HI.out
    rw[List.take_length,HV.out.1,HV.out.2]at h1;rw[zap,V_Sv,HC.out,h1]
theorem zs3(x:Int)(w:World)(h0:0<=x)(h1:x<=4294967295) :
 Calls Tryz.prog 283 #[.int .u32 x] w fun e w'=>e=.returned (.int .i64 (Lib.bitLen x.toNat))/\w=w':=by
 rcases (show 16777216<=x\/(65536<=x/\x<16777216)\/(256<=x/\x<65536)\/x<256 from by omega)with h|⟨h,h'⟩|⟨h,h'⟩|h
 . skip
   have q0:0<=x/65536/256:=by omega
   have q1:x/65536/256<=255:=by omega
   have e8:=Lib.len8_of (x/65536/256) q0 q1
   have hb:=Lib.bitLen_le8' (x/65536/256) q0 q1
   have s:=Lib.bitLen_shift24 x.toNat (by omega) (by omega)
   have et:(x/65536/256).toNat=x.toNat/16777216:=by omega
   rw[et]at e8 hb
   have HB:Hid (Lib.bitLen x.toNat=24+Lib.bitLen (x.toNat/16777216)):=s
   clear s
   generalize Lib.bitLen (x.toNat/16777216)=n at e8 hb HB
   clear et
   go_enter Tryz.func283,Tryz.ntmps283
   go_wp2
   go_ret
   exact⟨za6 (by have:=HB.out;omega),rfl⟩
 . skip
   have q0:0<=x/65536:=by omega
   have q1:x/65536<=255:=by omega
   have e8:=Lib.len8_of (x/65536) q0 q1
   have hb:=Lib.bitLen_le8' (x/65536) q0 q1
   have s:=Lib.bitLen_shift16 x.toNat (by omega) (by omega)
   have et:(x/65536).toNat=x.toNat/65536:=by omega
   rw[et]at e8 hb
   have HB:Hid (Lib.bitLen x.toNat=16+Lib.bitLen (x.toNat/65536)):=s
   clear s
   generalize Lib.bitLen (x.toNat/65536)=n at e8 hb HB
   clear et
   go_enter Tryz.func283,Tryz.ntmps283
   go_wp2
   go_ret
   exact⟨za6 (by have:=HB.out;omega),rfl⟩
 . skip
   have q0:0<=x/256:=by omega
   have q1:x/256<=255:=by omega
   have e8:=Lib.len8_of (x/256) q0 q1
   have hb:=Lib.bitLen_le8' (x/256) q0 q1
   have s:=Lib.bitLen_shift8 x.toNat (by omega) (by omega)
   have et:(x/256).toNat=x.toNat/256:=by omega
   rw[et]at e8 hb
   have HB:Hid (Lib.bitLen x.toNat=8+Lib.bitLen (x.toNat/256)):=s
   clear s
   generalize Lib.bitLen (x.toNat/256)=n at e8 hb HB
   clear et
   go_enter Tryz.func283,Tryz.ntmps283
   go_wp2
   go_ret
   exact⟨za6 (by have:=HB.out;omega),rfl⟩
 . skip
   have q0:0<=x:=by omega
   have q1:x<=255:=by omega
   have e8:=Lib.len8_of (x) q0 q1
   have hb:=Lib.bitLen_le8' (x) q0 q1
   have et:(x).toNat=x.toNat:=by omega
   rw[et]at e8 hb
   have HB:Hid (Lib.bitLen x.toNat=0+Lib.bitLen (x.toNat)):=by show _=_;rw[Nat.zero_add]
   skip
   generalize Lib.bitLen (x.toNat)=n at e8 hb HB
   clear et
   go_enter Tryz.func283,Tryz.ntmps283
   go_wp2
   go_ret
   exact⟨za6 (by have:=HB.out;omega),rfl⟩
theorem zwv(x:Nat)(w:World)(h1:x<4294967296) :
 Calls Tryz.prog 272 #[.int .u32 (x:Int)] w fun e w'=>e=.returned (.int .i64 (32-(Lib.bitLen x:Int)))/\w=w':=by
 have hl:=Lib.bitLen_le x 32 (by decide) h1
 go_enter Tryz.func272,Tryz.ntmps272
 go_wp2_with fail
 refine(zs3 (x:Int) _ (by omega) (by omega)).mono ?_
 rintro e w' ⟨rfl,rfl⟩
 rw[Int.toNat_natCast]
 obtain⟨n,hn⟩:∃n,Lib.bitLen x=n:=⟨_,rfl⟩
 have HN:Hid (Lib.bitLen x=n):=hn
 rw[hn]at hl ⊢;clear hn;go_wp2
 go_ret
 exact⟨za6 (by rw[HN.out]),rfl⟩
theorem zjv(n:Int):IntKind.u64.wrap n=n%18446744073709551616:=by simp[IntKind.wrap,IntKind.bits,IntKind.signed]
theorem zwe{x p cy s:Nat}(hp:x*2 ^ s=p)(hc:cy<2 ^ s)(hb:p+cy<18446744073709551616):bits BinOp.or IntKind.u64 (p:Int) (cy:Int)=(p:Int)+(cy:Int):=by
 have h:=u64_or_nat p cy (by omega) (by omega)
 have e:p ||| cy=p+cy:=by
  have:=Nat.shiftLeft_add_eq_or_of_lt hc x
  rw[Nat.shiftLeft_eq,hp]at this
  exact this.symm
 rw[h,e];simp
theorem zre{zs xs:LN}{k cy x p s:Nat}(hz:zs.length=k)(he:V zs+4294967296 ^ k*cy=V (xs.take k)*2 ^ s)(hx:xs.getD k 0=x)(hp:x*2 ^ s=p) :
 V (zs++[(p+cy)%4294967296])+4294967296 ^ (k+1)*((p+cy)/4294967296)=V (xs.take (k+1))*2 ^ s:=by
 rw[zhz,hz,zam,hx,Nat.pow_succ]
 have hd:=Nat.mod_add_div (p+cy) 4294967296
 generalize (p+cy)%4294967296=r at hd ⊢
 generalize (p+cy)/4294967296=d at hd ⊢
 subst hp
 generalize 4294967296 ^ k=q at he ⊢
 generalize V zs=o at he ⊢
 generalize V (xs.take k)=A at he ⊢
 generalize 2 ^ s=S at he hd ⊢
 have h1:q*(r+4294967296*d)=q*(x*S+cy):=by rw[hd]
 grind
theorem znb(a:OA)(cap:Nat)(xs:LN)(s:Nat)(w:World)(h:Rd w a cap xs)(hl:xs.length<=500000000)(hs:s<32) :
 Calls Tryz.prog 273 #[.slice a xs.length cap,.int .i64 (s:Int)] w fun e w' =>
     ∃a' cap' zs,e=.returned (.slice a' zs.length cap')/\zs.length=xs.length+1/\V zs=V xs*2 ^ s/\Res 250 w.heap.size w' a' cap' zs/\Below w.heap.size w w':=by
 obtain⟨i0,hi,hz0,hz1,hz2⟩:=info_parts zcb
 have fL:=h.fm
 have lL:=h.lim
 clear h
 go_enter Tryz.func273,Tryz.ntmps273
 go_wp2_with (at_make;refine wpList_make_own _ rfl _ _ 123 rfl w.heap.size 250 i0 (.int .u32 0) 1 Tryz.underlying123 hi hz0 hz1 _ _ _ (xs.length+1) rfl rfl (by omega) (by rw[hz2];omega) (by unfold maxLen;omega) (Nat.le_refl _) ?_)
 intro u0 ze4 zcn
 have hb0:Below w.heap.size w u0:=(Below.refl _ _).grown zcn (Nat.le_refl _) (fun k h=>by cases h)
 go_wp2
 go_loopw [5,6,16] (fun out c i wr=>∃(k:Nat) (zs:LN) (cy:Nat),k<=xs.length/\i=.int .i64 k/\c=.int .u64 cy/\cy<2 ^ s/\zs.length=k/\Lim zs/\V zs+4294967296 ^ k*cy=V (xs.take k)*2 ^ s/\wr.ownsRow w.heap.size 250 1 out k (zs.map U)/\Below w.heap.size w wr) (fun _ _ i _=>xs.length-(intOf i).toNat)
 case atStart=>exact⟨0,[],0,Nat.zero_le _,rfl,rfl,Nat.pow_pos (by decide),rfl,Lim.nil,by simp[V],ze4,hb0⟩
 case round =>
  obtain⟨k,zs,cy,hk,rfl,rfl,hcy,hzl,lz,heq,hown,hnx⟩:=hrel
  have HE:Hid (V zs+4294967296 ^ k*cy=V (xs.take k)*2 ^ s):=heq
  have HZ:Hid (zs.length=k):=hzl
  have hsz:=hnx.size
  clear heq hzl
  by_cases hkn:k<xs.length
  . obtain⟨bl,ol,rfl,_,hcl⟩:=fL.at hnx k hkn
    obtain⟨x,hx⟩:∃x,xs.getD k 0=x:=⟨_,rfl⟩
    have bx:x<4294967296:=by rw[<-hx];exact lL.getD k
    rw[hx]at hcl
    have HX:Hid (xs.getD k 0=x):=hx
    clear hx
    obtain⟨p,hp⟩:∃p,x*2 ^ s=p:=⟨_,rfl⟩
    have hP1:2 ^ s<=2 ^ 31:=Nat.pow_le_pow_right (by decide) (by omega)
    have bp0:p<=4294967295*2 ^ s:=by rw[<-hp];exact Nat.mul_le_mul_right _ (by omega)
    have bp:p<=9223372034707292160:=by omega
    have hpi:(x:Int)*2 ^ s=(p:Int):=by rw[<-hp];simp
    have hw1:IntKind.u64.wrap (p:Int)=(p:Int):=by rw[zjv];omega
    have hor:bits BinOp.or IntKind.u64 (p:Int) (cy:Int)=(p:Int)+(cy:Int):=zwe hp hcy (by omega)
    have hcy':(p+cy)/4294967296<2 ^ s:=Nat.div_lt_of_lt_mul (by omega)
    have HP:Hid (x*2 ^ s=p):=hp
    have bcy:cy<2147483648:=by omega
    have HCY:Hid ((p+cy)/4294967296<2 ^ s):=hcy'
    clear hp hP1 bp0 hcy hcy'
    go_wp2_with (at_builtin;refine zag rfl _ _ 123 rfl w.heap.size 250 i0 Tryz.underlying123 hi hz0 hz1 hz2 _ k zs rfl (hown.alloc _) wr.heap.size ((p+cy)%4294967296) rfl (zbe _ _ _ _ (by omega)) (by omega) (by simp;omega) ?_)
    intro v' w1 hown1 zbn
    have hb1:Below w.heap.size w w1:=(hnx.alloc hsz _).grown zbn (by simp;omega) (fun k hk=>(hown.lt k hk).1)
    clear hown;go_wp2
    go_roundw
    case rel =>
     refine⟨k+1,zs++[(p+cy)%4294967296],(p+cy)/4294967296,by omega,by go_num,by go_num,HCY.out,by simp[HZ.out],lz.snoc (by omega),?_,zbw hown1,hb1⟩
     exact zre HZ.out HE.out HX.out HP.out
    case measure=>simp[intOf];omega
  . obtain rfl:k=xs.length:=by omega
    have hP1:2 ^ s<=2 ^ 31:=Nat.pow_le_pow_right (by decide) (by omega)
    have bcy:cy<4294967296:=by omega
    clear hcy hP1
    go_wp2_with (at_builtin;refine zag rfl _ _ 123 rfl w.heap.size 250 i0 Tryz.underlying123 hi hz0 hz1 hz2 _ _ zs rfl (hown.alloc _) wr.heap.size cy rfl (zbe _ _ _ _ (by omega)) (by omega) (by simp;omega) ?_)
    intro v' w1 hown1 zbn
    have hb1:Below w.heap.size w w1:=(hnx.alloc hsz _).grown zbn (by simp;omega) (fun k hk=>(hown.lt k hk).1)
    obtain⟨a',cap',rfl,hres⟩:=Res.of (lz.snoc bcy) (zbw hown1)
    clear hown1 hown;go_wp2
    go_ret
    refine⟨a',cap',zs++[cy],by simp,by simp[HZ.out],?_,hres,hb1⟩
    have h1:=HE.out
    rw[List.take_length]at h1;rw[zhz,HZ.out,h1]
theorem zmv:∀(k x:Nat),x<2 ^ k->k<=64->x≠0->1<=Lib.bitLen x/\2 ^ (Lib.bitLen x-1)<=x/\x<2 ^ Lib.bitLen x:=by
 intro k
 induction k with
 | zero=>intro x h _ h0;simp at h;omega
 | succ k ih =>
  intro x h hk h0
  have hx64:x<2 ^ 64:=Nat.lt_of_lt_of_le h (Nat.pow_le_pow_right (by decide) hk)
  have hh:=Lib.bitLen_half x h0 hx64
  by_cases h1:x=1
  . subst h1
    have e:Lib.bitLen 1=1:=by decide
    rw[e];decide
  . obtain⟨i1,i2,i3⟩:=ih (x/2) (by rw[Nat.pow_succ]at h;omega) (by omega) (by omega)
    rw[hh]
    refine⟨by omega,?_,?_⟩
    . rw[show 1+Lib.bitLen (x/2)-1=(Lib.bitLen (x/2)-1)+1 by omega,Nat.pow_succ];omega
    . rw[Nat.add_comm,Nat.pow_succ];omega
theorem z1m{x:Nat}(h0:x≠0)(h:x<4294967296):∃s:Nat,s<32/\(32-(Lib.bitLen x:Int))=(s:Int)/\2147483648<=x*2 ^ s/\x*2 ^ s<4294967296:=by
 obtain⟨h1,h2,h3⟩:=zmv 32 x h (by decide) h0
 have hl:=Lib.bitLen_le x 32 (by decide) h
 generalize Lib.bitLen x=n at *
 refine⟨32-n,by omega,by omega,?_,?_⟩
 . have:2 ^ (n-1)*2 ^ (32-n)<=x*2 ^ (32-n):=Nat.mul_le_mul_right _ h2
   rw[<-Nat.pow_add,show n-1+(32-n)=31 by omega]at this
   exact this
 . have:x*2 ^ (32-n)<2 ^ n*2 ^ (32-n):=Nat.mul_lt_mul_of_pos_right h3 (Nat.pow_pos (by decide))
   rw[<-Nat.pow_add,show n+(32-n)=32 by omega]at this
   exact this
theorem zrf{T ab x S:Nat}(s:Nat)(hs:s<32)(hS:S=2 ^ s)(hab:ab%S=T%S)(hx:x<4294967296) :
 (x+4294967296*T)/S=(ab*4294967296+x)/S%4294967296+4294967296*(T/S):=by
 have hp:0<S:=by rw[hS];exact Nat.pow_pos (by decide)
 have hT:=Nat.div_add_mod T S
 have hA:=Nat.div_add_mod ab S
 have hr:=Nat.mod_lt T hp
 rw[hab]at hA
 generalize T/S=q at hT ⊢
 generalize ab/S=qa at hA
 generalize T%S=r at hT hA hr
 have e1:x+4294967296*T=(x+r*4294967296)+S*(4294967296*q):=by rw[<-hT];grind
 have e2:ab*4294967296+x=(x+r*4294967296)+S*(qa*4294967296):=by rw[<-hA];grind
 rw[e1,e2,Nat.add_mul_div_left _ _ hp,Nat.add_mul_div_left _ _ hp,Nat.add_mul_mod_self_right]
 have hlt:(x+r*4294967296)/S<4294967296:=by
  refine Nat.div_lt_of_lt_mul ?_
  have h1:(r+1)*4294967296<=S*4294967296:=Nat.mul_le_mul_right _ (by omega)
  omega
 rw[Nat.mod_eq_of_lt hlt]
theorem V_mod{xs:LN}{s S:Nat}(hs:s<32)(hS:S=2 ^ s):V xs%S=xs.getD 0 0%S:=by
 rw[zbv]
 have e:(4294967296:Nat)=S*2 ^ (32-s):=by
  rw[hS,<-Nat.pow_add,show s+(32-s)=32 by omega]
 rw[e,Nat.mul_assoc,Nat.add_mul_mod_self_left]
theorem zvn(a:OA)(cap:Nat)(xs:LN)(s:Nat)(w:World)(h:Rd w a cap xs)(hl:xs.length<=500000000)(hs:s<32) :
 Calls Tryz.prog 275 #[.slice a xs.length cap,.int .i64 (s:Int)] w fun e w' =>
     ∃g zs,e=.returned (.slice (some ⟨g,0,none⟩) xs.length xs.length)/\zs.length=xs.length/\V zs=V xs/2 ^ s/\Rd w' (some ⟨g,0,none⟩) xs.length zs/\Below w.heap.size w w':=by
 obtain⟨i0,hi,hz0,hz1,hz2⟩:=info_parts zcb
 have fL:=h.fm
 have lL:=h.lim
 clear h
 obtain⟨S,hS⟩:∃S,S=2 ^ s:=⟨_,rfl⟩
 have HSS:Hid (S=2 ^ s):=hS
 clear hS
 go_enter Tryz.func275,Tryz.ntmps275
 go_wp2_with (at_make;refine wpList_make_full _ rfl _ _ 123 rfl w.heap.size 250 i0 (.int .u32 0) 1 Tryz.underlying123 hi hz0 hz1 _ _ _ _ xs.length rfl rfl (by omega) (by omega) (by rw[hz2];omega) (by unfold maxLen;omega) (Nat.le_refl _) ?_)
 intro u0 ze4 zcn
 have hb0:Below w.heap.size w u0:=(Below.refl _ _).grown zcn (Nat.le_refl _) (fun k h=>by cases h)
 have hB0:=zjo ze4
 clear ze4 zcn;go_wp2
 go_loopw [6,7] (fun v i wr=>∃(k:Nat) (q:Int) (cs:LN) (ab:Nat),k<=xs.length/\q=(k:Int)-1/\i=.int .i64 q/\v=.int .u64 ab/\ab<4294967296/\ab%S=V (xs.drop k)%S/\cs.length=xs.length/\Lim cs/\V (cs.drop k)=V (xs.drop k)/S/\Blk 250 wr w.heap.size cs/\Below w.heap.size w wr) (fun _ i _=>(intOf i+1).toNat)
 case atStart=>exact⟨xs.length,_,_,0,Nat.le_refl _,rfl,rfl,rfl,by decide,by simp[V],List.length_replicate,fun x hx=>by rw[List.eq_of_mem_replicate hx];decide,by simp[V],hB0,hb0⟩
 case round =>
  obtain⟨k,q,cs,ab,hk,hq,rfl,rfl,hab,habm,hcl,lc,heq,hB,hnx⟩:=hrel
  have HE:Hid (V (cs.drop k)=V (xs.drop k)/S):=heq
  have HC:Hid (cs.length=xs.length):=hcl
  have HA:Hid (ab%S=V (xs.drop k)%S):=habm
  have hsz:=hnx.size
  clear heq hcl habm
  by_cases hk0:k=0
  . subst hk0
    obtain rfl:q=-1:=by omega
    clear hq;go_wp2
    go_ret
    refine⟨w.heap.size,cs,rfl,HC.out,?_,?_,hnx⟩
    . rw[<-HSS.out];simpa using HE.out
    . have hr:=hB.rd lc 0 xs.length xs.length (by rw[HC.out];omega) (Nat.le_refl _) (by unfold maxLen;omega)
      rw[List.drop_zero,List.take_of_length_le (by rw[HC.out];exact Nat.le_refl _)]at hr
      exact hr
  . obtain⟨j,rfl⟩:∃j,k=j+1:=⟨k-1,by omega⟩
    obtain rfl:q=(j:Int):=by omega
    clear hq
    obtain⟨bl,ol,rfl,hblt,hcx⟩:=fL.at hnx j (by omega)
    obtain⟨x,hx⟩:∃x,xs.getD j 0=x:=⟨_,rfl⟩
    rw[hx]at hcx
    have bx:x<4294967296:=by rw[<-hx];exact lL.getD _
    have HX:Hid (xs.getD j 0=x):=hx
    have c2:=hB.cell j (by rw[HC.out];omega)
    have c3:=hB.frozen j
    obtain⟨o,ho⟩:∃o,cs.getD j 0=o:=⟨_,rfl⟩
    rw[ho]at c2
    have hor:=znt ab x hab bx
    obtain⟨p,hp⟩:∃p,ab*4294967296+x=p:=⟨_,rfl⟩
    have hpi:(ab:Int)*4294967296+(x:Int)=(p:Int):=by omega
    have HP:Hid (ab*4294967296+x=p):=hp
    have bp:p<18446744073709551616:=by omega
    obtain⟨t,ht⟩:∃t,p/2 ^ s=t:=⟨_,rfl⟩
    have hti:(p:Int)/2 ^ s=(t:Int):=by rw[<-ht];simp
    have bt:t<18446744073709551616:=by rw[<-ht];exact Nat.lt_of_le_of_lt (Nat.div_le_self _ _) bp
    have HT:Hid (p/S=t):=by show _=_;rw[HSS.out];exact ht
    have hne:bl≠w.heap.size:=by omega
    clear hx ho hp ht;go_wp2
    go_roundw
    case rel =>
     refine⟨j,_,cs.set j (t%4294967296),x,by omega,rfl,by go_num,rfl,bx,?_,by rw[List.length_set];exact HC.out,lc.set _ (by omega),?_,hB.set _ _ _ (by rw[HC.out];omega) (by omega),hnx.setCell (Nat.le_refl _) _⟩
     . rw[V_mod hs HSS.out,<-HX.out];simp[List.getD]
     . rw[zla,zla xs j,za7 _ _ _ (by rw[HC.out];omega),List.drop_set_of_lt (by omega),HE.out,HX.out,zrf s hs HSS.out HA.out bx,HP.out,HT.out]
    case measure=>simp[intOf]
def zho(v:Nat):Nat:=if v<18446744073709551616 then v else 0
theorem zbk{v:Nat}(h:v<18446744073709551616):zho v=v:=by unfold zho;rw[if_pos h]
theorem zcl{v:Nat}(h:¬v<18446744073709551616):zho v=0:=by unfold zho;rw[if_neg h]
def ze3(v:Nat):Bool:=decide (v<18446744073709551616)
theorem za9{v:Nat}(h:v<18446744073709551616):ze3 v=true:=by simp[ze3,h]
theorem zb9{v:Nat}(h:¬v<18446744073709551616):ze3 v=false:=by simp[ze3,h]
theorem z05(x:Nat)(hx:x<4294967296):bits BinOp.or IntKind.u64 0 (x:Int)=(x:Int):=by
 have h:=u64_or_nat 0 x (by decide) (by omega)
 simpa using h
theorem z06(n x:Nat)(hn:n<4294967296)(hx:x<4294967296):bits BinOp.or IntKind.u64 (n:Int) ((x:Int)*4294967296)=(n:Int)+(x:Int)*4294967296:=by
 have h:=u64_or_nat n (x*4294967296) (by omega) (by omega)
 have e:n ||| x*4294967296=n+x*4294967296:=by
  have:=Nat.shiftLeft_add_eq_or_of_lt (show n<2 ^ 32 by omega) x
  rw[Nat.shiftLeft_eq]at this;rw[Nat.or_comm,Nat.add_comm]
  exact this.symm
 rw[e]at h
 have c1:((x*4294967296:Nat):Int)=(x:Int)*4294967296:=by simp
 rw[c1]at h
 rw[h];simp
theorem zyf{X:LN}(l:Lim X)(h:X.length<=2):V X<18446744073709551616:=by
 have h1:=V_lt l
 have h2:4294967296 ^ X.length<=4294967296 ^ 2:=Nat.pow_le_pow_right (by decide) h
 omega
theorem zqh{X:LN}(t:Tr X)(h:2<X.length):¬V X<18446744073709551616:=by
 intro hv
 have:=zas t (k:=2) hv
 omega
theorem zc9(a:OA)(cap:Nat)(xs:LN)(w:World)(h:Rd w a cap xs) :
 Calls Tryz.prog 203 #[.slice a xs.length cap] w fun e w'=>e=.returned (.tuple #[.int .u64 (zho (V xs):Nat),.bool (ze3 (V xs))])/\w=w':=by
 have Xr:=h.strip
 have tX:=zav xs
 go_enter Tryz.func203,Tryz.ntmps203
 go_wp2_with fail
 refine(zb0 a cap xs _ h).mono ?_
 rintro e w' ⟨rfl,rfl⟩
 clear h
 have HV:Hid (V (strip xs)=V xs):=zap xs
 generalize strip xs=X at Xr tX HV ⊢
 have k1:=Xr.le
 have k2:=Xr.cap
 unfold maxLen at k2
 have fX:=Xr.fm
 have lX:=Xr.lim
 clear Xr
 by_cases hl:2<X.length
 . have HG:Hid (¬V xs<18446744073709551616):=by show ¬_;rw[<-HV.out];exact zqh tX hl
   go_wp2
   go_ret2
   exact⟨by rw[zcl HG.out,zb9 HG.out];rfl,rfl⟩
 . have HG:Hid (V xs<18446744073709551616):=by show _<_;rw[<-HV.out];exact zyf lX (by omega)
   go_wp2
   go_loop [4,14] (fun n i=>∃(k m:Nat),k<=X.length/\i=.int .i64 k/\n=.int .u64 m/\m=V (X.take k)) (fun _ i=>X.length-(intOf i).toNat)
   case atStart=>exact⟨0,0,Nat.zero_le _,rfl,rfl,by simp[V]⟩
   case round =>
    obtain⟨k,m,hk,rfl,rfl,hm⟩:=hrel
    have HM:Hid (m=V (X.take k)):=hm
    clear hm
    by_cases hkn:k<X.length
    . obtain⟨bl,ol,rfl,_,hcx⟩:=fX.at (Below.refl _ _) k hkn
      obtain⟨x,hx⟩:∃x,X.getD k 0=x:=⟨_,rfl⟩
      have bx:x<4294967296:=by rw[<-hx];exact lX.getD k
      rw[hx]at hcx
      have HX:Hid (X.getD k 0=x):=hx
      clear hx
      have HS:=zam X k
      rcases (show k=0\/k=1 by omega)with hk0|hk1
      . subst hk0
        rw[Nat.add_zero]at hcx
        obtain rfl:m=0:=by rw[HM.out];simp[V]
        have ho:=z05 x bx
        have HS2:Hid (x=V (X.take 1)):=by show _=_;rw[HS,HX.out];simp[V]
        clear HS;go_wp2
        go_round
        case rel=>exact⟨1,x,by omega,by go_num,by go_num,HS2.out⟩
        case measure=>simp[intOf];omega
      . subst hk1
        have hmb:m<4294967296:=by
         rw[HM.out,zev,Sv,Sv];simp only[Nat.pow_zero,Nat.one_mul,Nat.zero_add];exact lX.getD 0
        have ho:=z06 m x hmb bx
        have HS2:Hid (m+x*4294967296=V (X.take 2)):=by show _=_;rw[HS,HX.out,<-HM.out];omega
        clear HS;go_wp2
        go_round
        case rel=>exact⟨2,m+x*4294967296,by omega,by go_num,by go_num,HS2.out⟩
        case measure=>simp[intOf];omega
    . obtain rfl:k=X.length:=by omega
      go_wp2
      go_ret2
      refine⟨?_,rfl⟩
      rw[zbk HG.out,za9 HG.out,<-HV.out]
      have:=HM.out
      rw[List.take_length]at this;rw[<-this]
      rfl
theorem zta{q t W U P VL VB:Nat}(hP:0<P)(hq:q*VB<=VL)(hB:W*P<=VB)(hL:VL<(U+1)*P)(ht:U<t*W):q<t:=by
 rcases Nat.lt_or_ge q t with h|h
 . exact h
 . exfalso
   have h1:t*(W*P)<=q*VB:=Nat.mul_le_mul h hB
   have h2:(U+1)*P<=t*W*P:=Nat.mul_le_mul_right P ht
   have h3:t*(W*P)=t*W*P:=(Nat.mul_assoc _ _ _).symm
   omega
theorem zpv{q t W U P VL VB:Nat}(hP:0<P)(hq:VL<(q+1)*VB)(hB:VB<(W+1)*P)(hL:U*P<=VL)(ht:t*W<=U)(hW:q+1<=W):t<=q+1:=by
 rcases Nat.lt_or_ge (q+1) t with h|h
 . exfalso
   have h1:(q+2)*W<=t*W:=Nat.mul_le_mul_right W h
   have h2:(q+2)*W*P<=U*P:=Nat.mul_le_mul_right P (Nat.le_trans h1 ht)
   have h3:(q+1)*VB<=(q+1)*((W+1)*P):=Nat.mul_le_mul_left _ (Nat.le_of_lt hB)
   have h4:(q+1)*((W+1)*P)<=(q+2)*W*P:=by
    have:(q+1)*(W+1)<=(q+2)*W:=by
     have e1:(q+1)*(W+1)=(q+1)*W+(q+1):=by rw[Nat.mul_add,Nat.mul_one]
     have e2:(q+2)*W=(q+1)*W+W:=by rw[show q+2=(q+1)+1 by omega,Nat.add_mul (q+1) 1 W,Nat.one_mul]
     omega
    rw[<-Nat.mul_assoc]
    exact Nat.mul_le_mul_right P this
   omega
 . exact h
theorem z3g(f:Nat->Nat)(m:Nat):Sv f (m+3)=Sv f m+4294967296 ^ m*(f m+4294967296*f (m+1)+18446744073709551616*f (m+2)):=by
 simp only[Sv,Nat.pow_succ]
 generalize 4294967296 ^ m=p
 grind
theorem z3h(f:Nat->Nat)(m:Nat):Sv f (m+2)=Sv f m+4294967296 ^ m*(f m+4294967296*f (m+1)):=by
 simp only[Sv,Nat.pow_succ]
 generalize 4294967296 ^ m=p
 grind
theorem zg5(w:World)(a b:Nat):(w.drewN a).drewN b=w.drewN (a+b):=by simp[World.drewN,Nat.add_assoc]
theorem zl4{q v0 v1 u0 u1 u2 tp t0 r0:Nat}(hq:q*(v0+4294967296*v1)<=u0+4294967296*u1+18446744073709551616*u2)(htp:u2*4294967296+u1=tp)(hd:v1*t0+r0=tp)(hr:r0<v1)(hu:u0<4294967296):q<=t0:=by
 rcases Nat.lt_or_ge t0 q with h|h
 . exfalso
   have h1:v1*(t0+1)<=v1*q:=Nat.mul_le_mul_left _ h
   rw[Nat.mul_add,Nat.mul_one]at h1
   have e:q*(v0+4294967296*v1)=q*v0+4294967296*(v1*q):=by grind
   omega
 . exact h
theorem zl5{v1 u1 u2 tp t0 r0:Nat}(htp:u2*4294967296+u1=tp)(hd:v1*t0+r0=tp)(hv1:2147483648<=v1)(hu2:u2<=v1)(k1:u1<4294967296):t0<=4294967297:=by
 rcases Nat.lt_or_ge 4294967297 t0 with h|h
 . exfalso
   have h1:v1*4294967298<=v1*t0:=Nat.mul_le_mul_left _ h
   omega
 . exact h
theorem zl6{v1 u1 u2 tp t r:Nat}(htp:u2*4294967296+u1=tp)(hd:v1*t+(r+v1)=tp)(hu2:u2<=v1)(k1:u1<4294967296)(hb:4294967296<=r+v1):t<4294967296:=by
 rcases Nat.lt_or_ge t 4294967296 with h|h
 . exact h
 . exfalso
   have h1:v1*4294967296<=v1*t:=Nat.mul_le_mul_left _ h
   omega
theorem zgz{t v0 u0 r:Nat}(ht:t<4294967296)(hv:v0<4294967296)(hb:4294967296<=r):t*v0<=r*4294967296+u0:=by
 have:=zej ht hv
 omega
theorem zg0{v0 v1 u0 u1 u2 tp t r:Nat}(htp:u2*4294967296+u1=tp)(hd:v1*t+r=tp)(h:t*v0<=r*4294967296+u0):t*(v0+4294967296*v1)<=u0+4294967296*u1+18446744073709551616*u2:=by
 have e:t*(v0+4294967296*v1)=t*v0+4294967296*(v1*t):=by grind
 omega
theorem zpu{v0 v1 u0 u1 u2 tp t r:Nat}(htp:u2*4294967296+u1=tp)(hd:v1*t+r=tp)(h:r*4294967296+u0<t*v0):u0+4294967296*u1+18446744073709551616*u2<t*(v0+4294967296*v1):=by
 have e:t*(v0+4294967296*v1)=t*v0+4294967296*(v1*t):=by grind
 omega
theorem ztb(g off co n:Nat)(zs:LN)(b1 o1 cb:Nat)(ys:LN)(q:Nat)(w:World)(hblk:Blk 250 w g zs)(lz:Lim zs)(hb:Rd w (some ⟨b1,o1,none⟩) cb ys)
    (hn:ys.length=n) (hn2:2<=n) (hlen:off+n+1<=zs.length) (zlc:zs.length<=4000000000) (hv1:2147483648<=ys.getD (n-1) 0) (hu2:zs.getD (off+n) 0<=ys.getD (n-1) 0) (hq:q<4294967296)
    (zuv:∀t,zs.getD (off+n-2) 0+4294967296*zs.getD (off+n-1) 0+18446744073709551616*zs.getD (off+n) 0<t*(ys.getD (n-2) 0+4294967296*ys.getD (n-1) 0)->q<t)
    (hq0:q*(ys.getD (n-2) 0+4294967296*ys.getD (n-1) 0)<=zs.getD (off+n-2) 0+4294967296*zs.getD (off+n-1) 0+18446744073709551616*zs.getD (off+n) 0) :
    Calls Tryz.prog 284 #[.slice (some ⟨g,off,none⟩) (n+1) co,.slice (some ⟨b1,o1,none⟩) n cb] w fun e w' =>
     ∃t:Nat,e=.returned (.int .u32 (t:Int))/\t<4294967296/\q<=t/\t*(ys.getD (n-2) 0+4294967296*ys.getD (n-1) 0)<=zs.getD (off+n-2) 0+4294967296*zs.getD (off+n-1) 0+18446744073709551616*zs.getD (off+n) 0/\∃k,w'=w.drewN k:=by
 obtain⟨m,rfl⟩:∃m,n=m+2:=⟨n-2,by omega⟩
 have c1:=hb.at (m+1) (by omega)
 have c0:=hb.at m (by omega)
 have d2:=hblk.cell (off+(m+2)) (by omega)
 have d1:=hblk.cell (off+(m+1)) (by omega)
 have d0:=hblk.cell (off+m) (by omega)
 rw[show m+2-1=m+1 by omega]at hv1 hu2 zuv hq0 ⊢
 rw[show m+2-2=m by omega]at zuv hq0 ⊢
 rw[show off+(m+2)-1=off+(m+1) by omega]at zuv hq0 ⊢
 rw[show off+(m+2)-2=off+m by omega]at zuv hq0 ⊢
 have l1:=hb.lim.getD (m+1)
 have l0:=hb.lim.getD m
 have k2:=lz.getD (off+(m+2))
 have k1:=lz.getD (off+(m+1))
 have k0:=lz.getD (off+m)
 generalize ys.getD (m+1) 0=v1 at *
 generalize ys.getD m 0=v0 at *
 generalize zs.getD (off+(m+2)) 0=u2 at *
 generalize zs.getD (off+(m+1)) 0=u1 at *
 generalize zs.getD (off+m) 0=u0 at *
 clear hb hblk
 have HLO:Hid (∀t,u0+4294967296*u1+18446744073709551616*u2<t*(v0+4294967296*v1)->q<t):=zuv
 have HQ0:Hid (q*(v0+4294967296*v1)<=u0+4294967296*u1+18446744073709551616*u2):=hq0
 clear zuv hq0
 have i1:(0:Int)<=(m:Int)+2-1:=by omega
 have i2:(m:Int)+2-1<(m:Int)+2:=by omega
 have hor1:=znt u2 u1 k2 k1
 obtain⟨tp,htp⟩:∃tp,u2*4294967296+u1=tp:=⟨_,rfl⟩
 have htpi:(u2:Int)*4294967296+(u1:Int)=(tp:Int):=by omega
 have HTP:Hid (u2*4294967296+u1=tp):=htp
 have btp:tp<18446744073709551616:=by omega
 obtain⟨t0,ht0⟩:∃t0,tp/v1=t0:=⟨_,rfl⟩
 obtain⟨r0,hr0⟩:∃r0,tp%v1=r0:=⟨_,rfl⟩
 have ht0i:(tp:Int)/(v1:Int)=(t0:Int):=by rw[<-ht0];simp
 have hr0i:(tp:Int)%(v1:Int)=(r0:Int):=by rw[<-hr0];simp
 have hdm:v1*t0+r0=tp:=by rw[<-ht0,<-hr0];exact Nat.div_add_mod tp v1
 have hr0b:r0<v1:=by rw[<-hr0];exact Nat.mod_lt _ (by omega)
 have HDM:Hid (v1*t0+r0=tp):=hdm
 clear htp ht0 hr0 hdm
 have hq1:q<=t0:=zl4 HQ0.out HTP.out HDM.out hr0b k0
 have ht1:t0<=4294967297:=zl5 HTP.out HDM.out hv1 hu2 k1
 go_enter Tryz.func284,Tryz.ntmps284
 go_wp2_with fail
 go_quiet (fail)
 go_wp2_with fail
 have e2:(w.drewN nq).cell? ⟨g,off+(m+2),none⟩=some (.int .u32 (u2:Int)):=d2
 have e1:(w.drewN nq).cell? ⟨g,off+(m+1),none⟩=some (.int .u32 (u1:Int)):=d1
 have e0:(w.drewN nq).cell? ⟨g,off+m,none⟩=some (.int .u32 (u0:Int)):=d0
 have HW1:Hid (∃k,w.drewN nq=w.drewN k):=⟨_,rfl⟩
 clear d2 d1 d0 c1 c0
 generalize w.drewN nq=wq at e2 e1 e0 HW1 ⊢
 go_quiet (fail)
 go_wp2_with fail
 have f0:(wq.drewN nq).cell? ⟨g,off+m,none⟩=some (.int .u32 (u0:Int)):=e0
 have HW2:Hid (∃k,wq.drewN nq=w.drewN k):=by obtain⟨k,hk⟩:=HW1.out;exact⟨k+nq,by rw[hk];exact zg5 _ _ _⟩
 clear e2 e1 e0 HW1
 generalize wq.drewN nq=wq2 at f0 HW2 ⊢
 go_quiet (fail)
 go_wp2_with fail
 have g0:(wq2.drewN nq).cell? ⟨g,off+m,none⟩=some (.int .u32 (u0:Int)):=f0
 have HW3:Hid (∃k,wq2.drewN nq=w.drewN k):=by obtain⟨k,hk⟩:=HW2.out;exact⟨k+nq,by rw[hk];exact zg5 _ _ _⟩
 clear f0 HW2
 generalize wq2.drewN nq=wq3 at g0 HW3 ⊢
 have HR0:Hid (Value.int .u64 ((tp:Int)%(v1:Int))=Value.int .u64 (r0:Int)):=congrArg (Value.int .u64) hr0i
 clear hor1 htpi ht0i hr0i
 go_loop [9,10] (fun a b=>∃t r:Nat,a=.int .u64 t/\b=.int .u64 r/\v1*t+r=tp/\q<=t/\r<4294967296/\t<=4294967297) (fun a _=>(intOf a).toNat)
 case atStart=>exact⟨t0,r0,rfl,HR0.out,HDM.out,hq1,by omega,ht1⟩
 case round =>
  obtain⟨t,r,rfl,rfl,hinv,hqt,hr,ht⟩:=hrel
  have HI:Hid (v1*t+r=tp):=hinv
  clear hinv
  have hor2:=znt r u0 hr k0
  by_cases hA:4294967296<=t
  . have hA':((t:Int)/4294967296 != 0)=true:=by rw[bne_iff_ne];omega
    have z4l:q<t:=by omega
    obtain⟨t',ht'⟩:∃t',t'+1=t:=⟨t-1,by omega⟩
    have HI2:Hid (v1*t'+(r+v1)=tp):=by have:=HI.out;show _=_;rw[<-this,<-ht',Nat.mul_add];omega
    by_cases hbr:4294967296<=r+v1
    . have hB':(((r:Int)+(v1:Int))/4294967296 != 0)=true:=by rw[bne_iff_ne];omega
      have hlt:t'<4294967296:=zl6 HTP.out HI2.out hu2 k1 hbr
      go_wp2
      go_ret
      exact⟨t',zdd (by omega),hlt,by omega,zg0 HTP.out HI2.out (zgz hlt l0 hbr),HW3.out⟩
    . have hB':(((r:Int)+(v1:Int))/4294967296 != 0)=false:=by rw[bne_eq_false_iff_eq];omega
      go_wp2
      go_round
      case rel=>exact⟨t',r+v1,congrArg (Value.int .u64) (by omega),congrArg (Value.int .u64) (by omega),HI2.out,by omega,by omega,by omega⟩
      case measure=>simp[intOf];omega
  . have hA':((t:Int)/4294967296 != 0)=false:=by rw[bne_eq_false_iff_eq];omega
    obtain⟨p,hp⟩:∃p,t*v0=p:=⟨_,rfl⟩
    have bp:p<=18446744065119617025:=by rw[<-hp];exact zej (by omega) l0
    have hpi:(t:Int)*(v0:Int)=(p:Int):=by rw[<-hp];simp
    have HP:Hid (t*v0=p):=hp
    clear hp
    by_cases hC:r*4294967296+u0<p
    . have z4l:q<t:=HLO.out t (zpu HTP.out HI.out (by rw[HP.out];exact hC))
      obtain⟨t',ht'⟩:∃t',t'+1=t:=⟨t-1,by omega⟩
      have HI2:Hid (v1*t'+(r+v1)=tp):=by have:=HI.out;show _=_;rw[<-this,<-ht',Nat.mul_add];omega
      by_cases hbr:4294967296<=r+v1
      . have hB':(((r:Int)+(v1:Int))/4294967296 != 0)=true:=by rw[bne_iff_ne];omega
        have hlt:t'<4294967296:=by omega
        go_wp2
        go_ret
        exact⟨t',zdd (by omega),hlt,by omega,zg0 HTP.out HI2.out (zgz hlt l0 hbr),HW3.out⟩
      . have hB':(((r:Int)+(v1:Int))/4294967296 != 0)=false:=by rw[bne_eq_false_iff_eq];omega
        go_wp2
        go_round
        case rel=>exact⟨t',r+v1,congrArg (Value.int .u64) (by omega),congrArg (Value.int .u64) (by omega),HI2.out,by omega,by omega,by omega⟩
        case measure=>simp[intOf];omega
    . go_wp2
      go_ret
      exact⟨t,zdd (by omega),by omega,hqt,zg0 HTP.out HI.out (by rw[HP.out];omega),HW3.out⟩
theorem zdg{a b P:Nat}(h:a*P<b*P):a<b:=by
 rcases Nat.lt_or_ge a b with h1|h1
 . exact h1
 . have:=Nat.mul_le_mul_right P h1;omega
theorem zpc{f y:Nat->Nat}{m:Nat}(hf:∀i,f i<4294967296)(hy:∀i,y i<4294967296)(hv:2147483648<=y (m+1))(hlt:Sv f (m+3)<4294967296*Sv y (m+2)) :
 f (m+2)<=y (m+1)/\Sv f (m+3)/Sv y (m+2)<4294967296 /\
    (∀t,f m+4294967296*f (m+1)+18446744073709551616*f (m+2)<t*(y m+4294967296*y (m+1))->Sv f (m+3)/Sv y (m+2)<t) /\
    Sv f (m+3)/Sv y (m+2)*(y m+4294967296*y (m+1))<=f m+4294967296*f (m+1)+18446744073709551616*f (m+2) /\
    (∀t,t*(y m+4294967296*y (m+1))<=f m+4294967296*f (m+1)+18446744073709551616*f (m+2)->t<=Sv f (m+3)/Sv y (m+2)+1):=by
 have eF:=z3g f m
 have eY:=z3h y m
 have bF:=Sv_lt (f:=f) (k:=m) (fun i _=>hf i)
 have bY:=Sv_lt (f:=y) (k:=m) (fun i _=>hy i)
 have hP:0<4294967296 ^ m:=Nat.pow_pos (by decide)
 have h0:=hf m;have h1:=hf (m+1);have h2:=hf (m+2);have g0:=hy m;have g1:=hy (m+1)
 generalize Sv f (m+3)=VL at *
 generalize Sv y (m+2)=VB at *
 generalize Sv f m=F at *
 generalize Sv y m=Y at *
 generalize 4294967296 ^ m=P at *
 generalize f m=u0 at *
 generalize f (m+1)=u1 at *
 generalize f (m+2)=u2 at *
 generalize y m=v0 at *
 generalize y (m+1)=v1 at *
 obtain⟨W,hW⟩:∃W,v0+4294967296*v1=W:=⟨_,rfl⟩
 obtain⟨U,hU⟩:∃U,u0+4294967296*u1+18446744073709551616*u2=U:=⟨_,rfl⟩
 rw[hW]at eY ⊢;rw[hU]at eF ⊢
 have hVB:0<VB:=by
  have:P*1<=P*W:=Nat.mul_le_mul_left P (by omega)
  omega
 have hq1:VL/VB*VB<=VL:=Nat.div_mul_le_self VL VB
 have hq2:VL<(VL/VB+1)*VB:=by
  have:=Nat.lt_div_mul_add (a:=VL) hVB
  rw[Nat.add_mul,Nat.one_mul];exact this
 have a1:W*P<=VB:=by rw[eY,Nat.mul_comm];omega
 have a2:VB<(W+1)*P:=by rw[eY,Nat.add_mul,Nat.one_mul,Nat.mul_comm];omega
 have a3:U*P<=VL:=by rw[eF,Nat.mul_comm];omega
 have a4:VL<(U+1)*P:=by rw[eF,Nat.add_mul,Nat.one_mul,Nat.mul_comm];omega
 have z4l:VL/VB<4294967296:=Nat.div_lt_of_lt_mul (by rw[Nat.mul_comm];exact hlt)
 refine⟨?_,z4l,fun t ht=>zta hP hq1 a1 a4 ht,?_,fun t ht=>zpv hP hq2 a2 a3 ht (by omega)⟩
 . have h3:U*P<(4294967296*(W+1))*P:=by
     have:4294967296*VB<=4294967296*((W+1)*P):=Nat.mul_le_mul_left _ (Nat.le_of_lt a2)
     rw[Nat.mul_assoc];omega
   have:=zdg h3
   omega
 . have h4:VL/VB*W*P<(U+1)*P:=by
     have:VL/VB*(W*P)<=VL/VB*VB:=Nat.mul_le_mul_left _ a1
     rw[Nat.mul_assoc];omega
   have:=zdg h4
   omega
theorem zpb{VL VB S0 S1 p u2 c t:Nat}(hVB:0<VB)(hL:VL=S0+p*u2)(hs:S1+VB*t=S0+p*c)(hc:c<=u2)(hq:VL/VB<=t):t=VL/VB/\S1+p*(u2-c)=VL%VB:=by
 obtain⟨k,rfl⟩:∃k,u2=c+k:=⟨u2-c,by omega⟩
 rw[show c+k-c=k by omega]
 have e:VB*t+(S1+p*k)=VL:=by rw[hL,Nat.mul_add];omega
 have ht:t<=VL/VB:=(Nat.le_div_iff_mul_le hVB).2 (by rw[Nat.mul_comm];omega)
 have htq:t=VL/VB:=by omega
 refine⟨htq,?_⟩
 have:=Nat.div_add_mod VL VB
 rw[<-htq]at this
 omega
theorem zrb{VL VB S0 S1 S2 p u2 c d t:Nat}(hVB:0<VB)(hp:VB<p)(h1:S1<p)(h2:S2<p)(hL:VL=S0+p*u2)(hs:S1+VB*t=S0+p*c)(ha:S2+p*d=S1+VB)(hc:u2<c)(ht:t<=VL/VB+1) :
 t=VL/VB+1/\u2+d=c/\S2=VL%VB:=by
 have hpc:p*(u2+1)<=p*c:=Nat.mul_le_mul_left p hc
 rw[Nat.mul_add,Nat.mul_one]at hpc
 have hgt:VL<VB*t:=by omega
 have htq:VL/VB<t:=(Nat.div_lt_iff_lt_mul hVB).2 (by rw[Nat.mul_comm];exact hgt)
 have htt:t=VL/VB+1:=by omega
 have hdm:=Nat.div_add_mod VL VB
 have hr:=Nat.mod_lt VL hVB
 have e:S2+p*(u2+d)=VL%VB+p*c:=by
  rw[htt,Nat.mul_add,Nat.mul_one]at hs
  rw[Nat.mul_add];omega
 generalize VL%VB=r at *
 have hud:u2+d=c:=by
  rcases Nat.lt_trichotomy (u2+d) c with h|h|h
  . have:=Nat.mul_le_mul_left p h
    rw[Nat.mul_succ]at this;omega
  . exact h
  . have:=Nat.mul_le_mul_left p h
    rw[Nat.mul_succ]at this;omega
 refine⟨htt,hud,?_⟩
 rw[hud]at e;omega
theorem zem{a b c:World}{row:Option Nat}(h:a.grownBy b row)(k:b.grownBy c row):a.grownBy c row :=
 ⟨k.os.trans h.os,k.tape.trans h.tape,k.output.trans h.output,Nat.le_trans h.size k.size,fun i hi hne=>(k.block i (Nat.lt_of_lt_of_le hi h.size) hne).trans (h.block i hi hne)⟩
theorem zi5(w:World)(k:Nat)(row:Option Nat):w.grownBy (w.drewN k) row:=⟨rfl,rfl,rfl,Nat.le_refl _,fun _ _ _=>rfl⟩
theorem zmc(g off co:Nat)(zs:LN)(b1 o1 cb:Nat)(ys:LN)(w:World)(hblk:Blk 250 w g zs)(lz:Lim zs)(hb:Rd w (some ⟨b1,o1,none⟩) cb ys)(zw7:b1≠g)
    (hn2:2<=ys.length) (hlen:off+ys.length+1<=zs.length) (zlc:zs.length<=2000000000) (hco:ys.length+1<=co) (hco2:co<=9223372036854775807) (hv1:2147483648<=ys.getD (ys.length-1) 0)
    (hlt:Sv (fun i=>zs.getD (off+i) 0) (ys.length+1)<4294967296*V ys) :
    Calls Tryz.prog 274 #[.slice (some ⟨g,off,none⟩) (ys.length+1) co,.slice (some ⟨b1,o1,none⟩) ys.length cb] w fun e w' =>
     ∃(cs:LN) (q:Nat),e=.returned (.int .u32 (q:Int))/\q=Sv (fun i=>zs.getD (off+i) 0) (ys.length+1)/V ys/\q<4294967296/\cs.length=zs.length/\Lim cs/\(∀i,i<off\/off+ys.length+1<=i->cs.getD i 0=zs.getD i 0) /\
      Sv (fun i=>cs.getD (off+i) 0) (ys.length+1)=Sv (fun i=>zs.getD (off+i) 0) (ys.length+1)%V ys/\Blk 250 w' g cs/\w.grownBy w' (some g):=by
 have ly:=hb.lim
 obtain⟨n,hn⟩:∃n,ys.length=n:=⟨_,rfl⟩
 obtain⟨m,hm⟩:∃m,n=m+2:=⟨n-2,by omega⟩
 have hV:V ys=Sv (fun i=>ys.getD i 0) (m+2):=by rw[V_Sv,hn,hm]
 have hVlt:V ys<4294967296 ^ n:=by rw[<-hn];exact V_lt ly
 obtain⟨VL,hVL⟩:∃VL,Sv (fun i=>zs.getD (off+i) 0) (ys.length+1)=VL:=⟨_,rfl⟩
 rw[hVL]at hlt ⊢
 have hVL2:VL=Sv (fun i=>zs.getD (off+i) 0) n+4294967296 ^ n*zs.getD (off+n) 0:=by rw[<-hVL,hn,Sv]
 have hVL3:Sv (fun i=>zs.getD (off+i) 0) (m+3)=VL:=by rw[<-hVL,hn,hm]
 have zfy:0<V ys:=by omega
 have facts:=zpc (f:=fun i=>zs.getD (off+i) 0) (y:=fun i=>ys.getD i 0) (m:=m) (fun i=>lz.getD _) (fun i=>ly.getD _) (by rw[hn,hm]at hv1;exact hv1) (by rw[hVL3,<-hV];exact hlt)
 rw[hVL3,<-hV]at facts;obtain⟨f1,f2,f3,f4,f5⟩:=facts
 obtain⟨q,hq⟩:∃q,VL/V ys=q:=⟨_,rfl⟩
 rw[hq]at f2 f3 f4 f5
 have hrd:=hb
 have z1v:∀k o,some (⟨b1,o1,none⟩:Addr)=some ⟨k,o,none⟩->ys≠[]->k≠g:=fun k o e _=>by simp at e;rw[<-e.1];exact zw7
 have hg:=ztb g off co n zs b1 o1 cb ys q w hblk lz hb hn (by omega) (by omega) (by omega) (by rw[<-hn];exact hv1) (by rw[hm];exact f1) f2 (by rw[hm,show m+2-1=m+1 by omega,show m+2-2=m by omega,show off+(m+2)-1=off+(m+1) by omega,show off+(m+2)-2=off+m by omega];exact f3) (by rw[hm,show m+2-1=m+1 by omega,show m+2-2=m by omega,show off+(m+2)-1=off+(m+1) by omega,show off+(m+2)-2=off+m by omega];exact f4)
 rw[hm,show m+2-1=m+1 by omega,show m+2-2=m by omega,show off+(m+2)-1=off+(m+1) by omega,show off+(m+2)-2=off+m by omega,<-hm]at hg
 have HF5:Hid (∀t,t*(ys.getD m 0+4294967296*ys.getD (m+1) 0)<=zs.getD (off+m) 0+4294967296*zs.getD (off+(m+1)) 0+18446744073709551616*zs.getD (off+(m+2)) 0->t<=q+1):=f5
 have HQ:Hid (VL/V ys=q):=hq
 have HN:Hid (ys.length=n):=hn
 have HVL2:Hid (VL=Sv (fun i=>zs.getD (off+i) 0) n+4294967296 ^ n*zs.getD (off+n) 0):=hVL2
 have HVlt:Hid (V ys<4294967296 ^ n):=hVlt
 have HPos:Hid (0<V ys):=zfy
 have hsm:=fun(t:Nat) (w':World) (hB:Blk 250 w' g zs) (hr:Rd w' (some ⟨b1,o1,none⟩) cb ys) (ht:t<4294967296)=>zvg g off co zs (some ⟨b1,o1,none⟩) cb ys t w' hB lz hr z1v ht (by omega) (by omega)
 have ham:=fun(cs:LN) (w':World) (hB:Blk 250 w' g cs) (lc:Lim cs) (hr:Rd w' (some ⟨b1,o1,none⟩) cb ys) (hl:cs.length=zs.length)=>zoz g off co cs (some ⟨b1,o1,none⟩) cb ys 1 w' hB lc hr z1v (by decide) (by omega) (by omega)
 rw[hn]at hsm ham hlen hco hn2 ⊢
 have HM:Hid (n=m+2):=hm
 clear f1 f2 f3 f4 f5 hq hn hVL2 hVlt zfy hVL3 hVL hV hm z1v hv1 hlt
 go_enter Tryz.func274,Tryz.ntmps274
 go_wp2_with fail
 refine hg.mono ?_
 rintro e w1 ⟨t,rfl,ht,hqt,z3o,k,hk⟩
 have hth:t<=q+1:=HF5.out t (by rw[<-HM.out];exact z3o)
 have hB1:Blk 250 w1 g zs:=by rw[hk];exact hblk
 have hr1:Rd w1 (some ⟨b1,o1,none⟩) cb ys:=by rw[hk];exact hb.below (below_drewN (Below.refl _ _) k)
 have hg1:w.grownBy w1 (some g):=by rw[hk];exact zi5 w k _
 clear hk z3o HF5 hg hb hrd hblk
 go_wp2_with fail
 refine(hsm t w1 hB1 hr1 ht).mono ?_
 rintro e w2 ⟨cs,c,rfl,hc,hcl,lc,zb4,heq,hB2,hg2⟩
 have hr2:Rd w2 (some ⟨b1,o1,none⟩) cb ys:=hr1.other hg2 (fun k o e _=>by simp at e;rw[<-e.1];exact zw7)
 have hg12:=zem hg1 hg2
 have HEQ:Hid (Sv (fun i=>cs.getD (off+i) 0) n+V ys*t=Sv (fun i=>zs.getD (off+i) 0) n+4294967296 ^ n*c):=heq
 have HSA:Hid (∀i,i<off\/off+n<=i->cs.getD i 0=zs.getD i 0):=zb4
 have HCL:Hid (cs.length=zs.length):=hcl
 obtain⟨u2,hu2⟩:∃u2,zs.getD (off+n) 0=u2:=⟨_,rfl⟩
 have bu2:u2<4294967296:=by rw[<-hu2];exact lz.getD _
 have hcu:cs.getD (off+n) 0=u2:=by rw[HSA.out (off+n) (by omega),hu2]
 have c2:=hB2.cell (off+n) (by omega)
 have c3:=hB2.frozen (off+n)
 rw[hcu]at c2
 have HU:Hid (zs.getD (off+n) 0=u2):=hu2
 have HVLu:Hid (VL=Sv (fun i=>zs.getD (off+i) 0) n+4294967296 ^ n*u2):=by have:=HVL2.out;rw[hu2]at this;exact this
 clear heq zb4 hu2 hcu hB1 hr1 hg1 hg2 HVL2
 by_cases hcc:u2<c
 . go_wp2_with fail
   refine(ham cs w2 hB2 lc hr2 HCL.out).mono ?_
   rintro e w3 ⟨ds,d,rfl,hd,hdl,ld,zs7,heq2,hB3,hg3⟩
   have hg13:=zem hg12 hg3
   have HDL:Hid (ds.length=cs.length):=hdl
   have hdu:ds.getD (off+n) 0=u2:=by rw[zs7 (off+n) (by omega),HSA.out (off+n) (by omega),HU.out]
   have d2:=hB3.cell (off+n) (by omega)
   have d3:=hB3.frozen (off+n)
   rw[hdu]at d2
   have hS1:Sv (fun i=>cs.getD (off+i) 0) n<4294967296 ^ n:=Sv_lt (fun i _=>lc.getD _)
   have hS2:Sv (fun i=>ds.getD (off+i) 0) n<4294967296 ^ n:=Sv_lt (fun i _=>ld.getD _)
   obtain⟨r1,r2,r3⟩:=zrb (S2:=Sv (fun i=>ds.getD (off+i) 0) n) (d:=d) HPos.out HVlt.out hS1 hS2 HVLu.out HEQ.out (by rw[heq2,Nat.mul_one]) hcc (by rw[HQ.out];exact hth)
   rw[HQ.out]at r1
   have HR1:Hid (t=q+1):=r1
   have HR3:Hid (Sv (fun i=>ds.getD (off+i) 0) n=VL%V ys):=r3
   have q1:d<=c:=by omega
   have q2:c<=u2+d:=by omega
   have q3:u2+d<=c:=by omega
   have q4:1<=t:=by omega
   have HSD:Hid (∀i,i<off\/off+n<=i->ds.getD i 0=cs.getD i 0):=zs7
   clear r1 r2 r3 hS1 hS2 heq2 zs7 hdl hcl hdu c2 c3 ham hsm hth hqt;go_wp2
   go_ret
   refine⟨ds.set (off+n) 0,q,zdd (by have:=HR1.out;omega),HQ.out.symm,by have:=HR1.out;omega,by rw[List.length_set,HDL.out];exact HCL.out,ld.set _ (by decide),fun i hi=>?_,?_,hB3.set _ _ _ (by rw[HDL.out,HCL.out];omega) (by omega),zaw hg13 _ _⟩
   . rw[zaq _ _ _ _ (by omega),HSD.out i (by omega),HSA.out i (by omega)]
   . rw[Sv,za7 _ _ _ (by rw[HDL.out,HCL.out];omega),zb6 (g:=fun i=>ds.getD (off+i) 0) (fun i hi=>zaq _ _ _ _ (by omega)),HR3.out];simp
 . obtain⟨r1,r2⟩:=zpb HPos.out HVLu.out HEQ.out (by omega) (by rw[HQ.out];exact hqt)
   rw[HQ.out]at r1
   have HR1:Hid (t=q):=r1
   have HR2:Hid (Sv (fun i=>cs.getD (off+i) 0) n+4294967296 ^ n*(u2-c)=VL%V ys):=r2
   clear r1 r2 hcl ham hsm hth hqt;go_wp2
   go_ret
   refine⟨cs.set (off+n) (u2-c),q,zdd (by have:=HR1.out;omega),HQ.out.symm,by have:=HR1.out;omega,by rw[List.length_set];exact HCL.out,lc.set _ (by omega),fun i hi=>?_,?_,hB2.set _ _ _ (by rw[HCL.out];omega) (by omega),zaw hg12 _ _⟩
   . rw[zaq _ _ _ _ (by omega),HSA.out i (by omega)]
   . rw[Sv,za7 _ _ _ (by rw[HCL.out];omega),zb6 (g:=fun i=>cs.getD (off+i) 0) (fun i hi=>zaq _ _ _ _ (by omega)),HR2.out]
