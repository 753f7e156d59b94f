import Derived.Test.YtkmcodofnckdmaaGreatZK5
import Derived.Lib.SliceRun
import Derived.Laws.BytesArg
set_option maxHeartbeats 1000000
set_option maxRecDepth 100000
set_option linter.unusedSimpArgs false
set_option linter.unusedVariables false
namespace Go.Proofs.YtkmcodofnckdmaaGreat
open Tryz Go.RowKit Go.Maps
def inB(l:Nat)(p n:Int):Bool:=decide (0<=n/\0<=p/\p+n<=l)
def V8(xs:LN):Nat:=xs.foldl (fun s x=>256*s+x) 0
theorem zmt(xs:LN)(x:Nat):V8 (xs++[x])=256*V8 xs+x:=by simp[V8]
theorem V8_lt{xs:LN}(h:Byt xs):V8 xs<256 ^ xs.length:=by
 obtain⟨n,hn⟩:∃n,xs.length=n:=⟨_,rfl⟩
 induction n generalizing xs with
 | zero=>rw[List.length_eq_zero_iff.1 hn];decide
 | succ n ih =>
  have hne:xs≠[]:=by intro e;rw[e]at hn;cases hn
  rw[<-List.dropLast_concat_getLast hne]at h hn ⊢;have hl:xs.dropLast.length=n:=by simpa using hn
  have h1:=ih (fun y hy=>h y (by simp[hy])) hl;have h2:=h (xs.getLast hne) (by simp);rw[zmt,qA,List.length_singleton,Nat.pow_succ];omega
theorem zpe(a b:Nat)(ha:a<4611686018427387904)(hb:b<4611686018427387904):bits .or .i64 (a:Int) (b:Int)=((a ||| b:Nat):Int):=by
 have hx:a ||| b<2 ^ 62:=Nat.or_lt_two_pow (by omega) (by omega);show IntKind.i64.wrap ((BitVec.ofInt 64 (a:Int) ||| BitVec.ofInt 64 (b:Int)).toNat:Int)=_;rw[BitVec.toNat_or,ofInt_u64 a (by omega),ofInt_u64 b (by omega)];unfold IntKind.wrap;simp[IntKind.bits,IntKind.signed];omega
theorem zy1(s x:Nat)(hs:s<4294967296)(hx:x<256):bits BinOp.or IntKind.i64 ((s:Int)*256) (x:Int)=256*(s:Int)+(x:Int):=by
 have h:=zpe (s*256) x (by omega) (by omega);have e:s*256 ||| x=s*256+x:=by
  have:=Nat.shiftLeft_add_eq_or_of_lt (show x<2 ^ 8 by omega) s;rw[Nat.shiftLeft_eq]at this;exact this.symm
 rw[e]at h;have c1:((s*256:Nat):Int)=(s:Int)*256:=by simp
 rw[c1]at h;rw[h,Int.natCast_add,c1,Int.mul_comm]
theorem zbk{a b a' b':Value}(h1:a=a')(h2:b=b'):Ending.returned (.tuple #[a,b])=.returned (.tuple #[a',b']):=by rw[h1,h2]
theorem zec(xs:LN)(q k:Nat)(h:q+k<xs.length):(xs.drop q).take (k+1)=(xs.drop q).take k++[xs.getD (q+k) 0]:=by
 rw[List.take_succ_eq_append_getElem (by simp;omega)];simp[List.getD,h]
def nmV(xs:LN)(p:Int)(n:Nat):Nat:=if inB xs.length p n then V8 ((xs.drop p.toNat).take n)else 0
theorem zdw(a:OA)(l cap:Nat)(p n:Int)(w:World)(hl:l<=9223372036854775807)(hp:I64 p)(hn:I64 n) :
 Calls Tryz.prog 144 #[.slice a l cap,.int .i64 p,.int .i64 n] w fun e w'=>e=.returned (.bool (inB l p n))/\w=w':=by
 obtain⟨p1,p2⟩:=hp;obtain⟨n1,n2⟩:=hn;by_cases h1:0<=n
 . by_cases h2:0<=p
   . go_enter func144,ntmps144
     go_wp2;go_ret;exact⟨zaa (by simp[inB,h1,h2];try omega),rfl⟩
   . go_enter func144,ntmps144
     go_wp2;go_ret;exact⟨zaa (by simp[inB,h1,h2];try omega),rfl⟩
 . go_enter func144,ntmps144
   go_wp2;go_ret;exact⟨zaa (by simp[inB,h1];try omega),rfl⟩
theorem zd3(a:OA)(cap:Nat)(xs:LN)(p:Int)(n:Nat)(w:World)(h:Rb w a cap xs)(hp:I64 p)(hn:1<=n)(hn4:n<=4) :
 Calls Tryz.prog 86 #[.slice a xs.length cap,.int .i64 p,.int .i64 (n:Int)] w fun e w'=>e=.returned (.tuple #[.int .i64 (nmV xs p n:Int),.bool (inB xs.length p n)])/\w=w':=by
 have k1:=h.le;have k2:=h.cap;unfold maxLen at k2;have hp':=hp;obtain⟨p1,p2⟩:=hp';by_cases hi:inB xs.length p n=true
 . have hi':=hi
   simp[inB]at hi';obtain⟨q1,q2⟩:=hi';obtain⟨q,rfl⟩:∃q:Nat,p=(q:Int):=⟨p.toNat,by omega⟩;rcases h.fm with rfl|⟨b,off,rfl,hb,hc⟩
   . simp at q2;omega
   have hV:Hid (nmV xs (q:Int) n=V8 ((xs.drop q).take n)):=by
    show nmV xs (q:Int) n=_;simp[nmV,hi]
   have hb3:=h.lim;clear h;go_enter func86,ntmps86;go_wp2_with fail
   refine(zdw _ _ _ _ _ _ (by omega) hp ⟨by omega,by omega⟩).mono ?_;rintro e u ⟨rfl,rfl⟩;rw[hi];have HI:Hid (inB xs.length (q:Int) n=true):=hi;clear hi;go_wp2
   go_loop [8,23] (fun s i=>∃k:Nat,k<=n/\i=.int .i64 k/\s=.int .i64 (V8 ((xs.drop q).take k):Int)) (fun _ i=>((n:Int)-intOf i).toNat)
   case atStart=>exact⟨0,by omega,rfl,rfl⟩
   case round =>
    obtain⟨k,hk,rfl,rfl⟩:=hrel;by_cases hkn:k=n
    . subst hkn
      go_wp2;go_ret2;exact⟨zbk (by rw[hV.out];rfl) (by rw[HI.out];rfl),rfl⟩
    . have hcx:=hc (q+k) (by omega)
      rw[<-Nat.add_assoc]at hcx;have hts:=zec xs q k (by omega);have hx:=hb3.getD (q+k);generalize xs.getD (q+k) 0=x at hcx hts hx;have hv:=V8_lt ((hb3.drop q).take k);have hvk:256 ^ ((xs.drop q).take k).length<=256 ^ 3:=Nat.pow_le_pow_right (by decide) (by simp;omega);have zze:V8 ((xs.drop q).take (k+1))=256*V8 ((xs.drop q).take k)+x:=(by rw[hts,zmt]);generalize V8 ((xs.drop q).take k)=v at zze hv ⊢;have HT:Hid (V8 ((xs.drop q).take (k+1))=256*v+x):=zze;have hv3:v<16777216:=(by omega);clear hts zze hv hvk hc;have hor:=zy1 v x (by omega) hx;go_wp2
      go_round
      case rel=>exact⟨k+1,by omega,by simp,by rw[HT.out];simp⟩
      case measure=>simp[intOf];omega
 . have hi:inB xs.length p n=false:=by simpa using hi
   have hV:Hid (nmV xs p n=0):=by
    show nmV xs p n=_;simp[nmV,hi]
   go_enter func86,ntmps86;go_wp2_with fail
   refine(zdw _ _ _ _ _ _ (by omega) hp ⟨by omega,by omega⟩).mono ?_;rintro e u ⟨rfl,rfl⟩;rw[hi];have HI:Hid (inB xs.length p n=false):=hi;clear hi;go_wp2;go_ret2;exact⟨zbk (by rw[hV.out];rfl) (by rw[HI.out];rfl),rfl⟩
def sx16(v:Nat):Int:=if 32768<=v then (v:Int)-65536 else v
theorem w16{v:Nat}(h:32768<=v)(h2:v<65536):wrap64 (IntKind.i16.wrap (v:Int))=(v:Int)-65536:=by
 have e:IntKind.i16.wrap (v:Int)=(v:Int)-65536:=by
  unfold IntKind.wrap;simp[IntKind.bits,IntKind.signed];omega
 rw[e];unfold wrap64;omega
theorem zam{xs:LN}(h:Byt xs)(p:Int)(n:Nat):nmV xs p n<256 ^ n:=by
 unfold nmV;split
 . have h1:=V8_lt ((h.drop p.toNat).take n)
   have h2:256 ^ ((xs.drop p.toNat).take n).length<=256 ^ n:=Nat.pow_le_pow_right (by decide) (by simp;omega);omega
 . exact Nat.pow_pos (by decide)
theorem zc2(a:OA)(cap:Nat)(xs:LN)(p:Int)(n:Nat)(w:World)(h:Rb w a cap xs)(hp:I64 p)(hn:1<=n)(hn4:n<=4) :
 Calls Tryz.prog 92 #[.slice a xs.length cap,.int .i64 p,.int .i64 (n:Int)] w fun e w'=>e=.returned (.tuple #[.int .i64 (nmV xs p n:Int),.bool (inB xs.length p n)])/\w=w':=by
 have k1:=h.le;have k2:=h.cap;unfold maxLen at k2;obtain⟨p1,p2⟩:=hp;by_cases hi:inB xs.length p n=true
 . have hi':=hi
   simp[inB]at hi';obtain⟨q1,q2⟩:=hi';obtain⟨q,rfl⟩:∃q:Nat,p=(q:Int):=⟨p.toNat,by omega⟩;rcases h.fm with rfl|⟨b,off,rfl,hb,hc⟩
   . simp at q2;omega
   have hV:Hid (nmV xs (q:Int) n=V8 ((xs.drop q).take n)):=by
    show nmV xs (q:Int) n=_;simp[nmV,hi]
   have hb3:=h.lim;clear h;have HI:Hid (inB xs.length (q:Int) n=true):=hi;clear hi;have g1:¬((xs.length:Int)<(n:Int)):=(by omega);have g2:¬((xs.length:Int)-(n:Int)<(q:Int)):=(by omega);go_enter func92,ntmps92;go_wp2
   go_loop [8,9] (fun s i=>∃k:Nat,k<=n/\i=.int .i64 k/\s=.int .i64 (V8 ((xs.drop q).take k):Int)) (fun _ i=>((n:Int)-intOf i).toNat)
   case atStart=>exact⟨0,by omega,rfl,rfl⟩
   case round =>
    obtain⟨k,hk,rfl,rfl⟩:=hrel;by_cases hkn:k=n
    . subst hkn
      go_wp2;go_ret2;exact⟨zbk (by rw[hV.out];rfl) (by rw[HI.out];rfl),rfl⟩
    . have hcx:=hc (q+k) (by omega)
      have hts:=zec xs q k (by omega);have hx:=hb3.getD (q+k);generalize xs.getD (q+k) 0=x at hcx hts hx;have hv:=V8_lt ((hb3.drop q).take k);have hvk:256 ^ ((xs.drop q).take k).length<=256 ^ 3:=Nat.pow_le_pow_right (by decide) (by simp;omega);have zze:V8 ((xs.drop q).take (k+1))=256*V8 ((xs.drop q).take k)+x:=(by rw[hts,zmt]);generalize V8 ((xs.drop q).take k)=v at zze hv ⊢;have HT:Hid (V8 ((xs.drop q).take (k+1))=256*v+x):=zze;have hv3:v<16777216:=(by omega);clear hts zze hv hvk hc;go_wp2
      go_round
      case rel=>exact⟨k+1,by omega,by simp,by rw[HT.out];simp⟩
      case measure=>simp[intOf];omega
 . have hi:inB xs.length p n=false:=by simpa using hi
   have hV:Hid (nmV xs p n=0):=by
    show nmV xs p n=_;simp[nmV,hi]
   have HI:Hid (inB xs.length p n=false):=hi;have hor:p<0\/(0<=p/\((xs.length:Int)<(n:Int)\/(¬(xs.length:Int)<(n:Int)/\(xs.length:Int)-(n:Int)<p))):=by
    simp[inB]at hi;omega
   clear hi;rcases hor with g1|⟨g0,g1|⟨g1,g2⟩⟩
   all_goals
    go_enter func92,ntmps92;go_wp2;go_ret2;exact⟨zbk (by rw[hV.out];rfl) (by first | (rw[HI.out];rfl) | rfl),rfl⟩
theorem zg2(a:OA)(cap:Nat)(xs:LN)(p:Int)(w:World)(h:Rb w a cap xs)(hp:I64 p) :
 Calls Tryz.prog 91 #[.slice a xs.length cap,.int .i64 p] w fun e w'=>e=.returned (.tuple #[.int .i64 (nmV xs p 1:Int),.bool (inB xs.length p 1)])/\w=w':=by
 go_enter func91,ntmps91;go_wp2_with fail
 refine(zd3 a cap xs p 1 _ h hp (by decide) (by decide)).mono ?_;rintro e u ⟨rfl,rfl⟩;go_wp2;go_ret2;exact⟨rfl,rfl⟩
theorem zg3(a:OA)(cap:Nat)(xs:LN)(p:Int)(w:World)(h:Rb w a cap xs)(hp:I64 p) :
 Calls Tryz.prog 47 #[.slice a xs.length cap,.int .i64 p] w fun e w'=>e=.returned (.tuple #[.int .i64 (nmV xs p 2:Int),.bool (inB xs.length p 2)])/\w=w':=by
 go_enter func47,ntmps47;go_wp2_with fail
 refine(zd3 a cap xs p 2 _ h hp (by decide) (by decide)).mono ?_;rintro e u ⟨rfl,rfl⟩;go_wp2;go_ret2;exact⟨rfl,rfl⟩
theorem zxw(a:OA)(cap:Nat)(xs:LN)(p:Int)(w:World)(h:Rb w a cap xs)(hp:I64 p) :
 Calls Tryz.prog 147 #[.slice a xs.length cap,.int .i64 p] w fun e w'=>e=.returned (.tuple #[.int .i64 (nmV xs p 4:Int),.bool (inB xs.length p 4)])/\w=w':=by
 go_enter func147,ntmps147;go_wp2_with fail
 refine(zd3 a cap xs p 4 _ h hp (by decide) (by decide)).mono ?_;rintro e u ⟨rfl,rfl⟩;go_wp2;go_ret2;exact⟨rfl,rfl⟩
theorem zhw(a:OA)(cap:Nat)(xs:LN)(p:Int)(w:World)(h:Rb w a cap xs)(hp:I64 p) :
 Calls Tryz.prog 90 #[.slice a xs.length cap,.int .i64 p] w fun e w'=>e=.returned (.tuple #[.int .i64 (sx16 (nmV xs p 2)),.bool (inB xs.length p 2)])/\w=w':=by
 have hlt:=zam h.lim p 2;obtain⟨v,hv⟩:∃v,nmV xs p 2=v:=⟨_,rfl⟩;have HV:Hid (nmV xs p 2=v):=hv;have z19:v<65536:=by rw[hv]at hlt;simpa using hlt
 clear hlt;go_enter func90,ntmps90;go_wp2_with fail
 refine(zd3 a cap xs p 2 _ h hp (by decide) (by decide)).mono ?_;rintro e u ⟨rfl,rfl⟩;rw[hv];clear hv;by_cases zpk:32768<=v
 . have hs:Hid (sx16 (nmV xs p 2)=(v:Int)-65536):=by show sx16 _=_;rw[HV.out];simp[sx16,zpk]
   have HB:Hid (32768<=v):=zpk;have hb':(32768:Int)<=(v:Int):=(by omega);clear zpk;go_wp2;go_ret2;exact⟨zbk (by rw[hs.out];first | rfl | exact congrArg _ (w16 HB.out z19)) rfl,rfl⟩
 . have hs:Hid (sx16 (nmV xs p 2)=(v:Int)):=by show sx16 _=_;rw[HV.out];simp[sx16,zpk]
   have hb':¬(32768:Int)<=(v:Int):=(by omega);clear zpk z19;go_wp2;go_ret2;exact⟨zbk (by rw[hs.out];rfl) rfl,rfl⟩
theorem zc1(a:OA)(cap:Nat)(xs:LN)(p:Int)(w:World)(h:Rb w a cap xs)(hp:I64 p) :
 Calls Tryz.prog 55 #[.slice a xs.length cap,.int .i64 p] w fun e w'=>e=.returned (.tuple #[.int .i64 (nmV xs p 1:Int),.bool (inB xs.length p 1)])/\w=w':=by
 go_enter func55,ntmps55;go_wp2_with fail
 refine(zc2 a cap xs p 1 _ h hp (by decide) (by decide)).mono ?_;rintro e u ⟨rfl,rfl⟩;go_wp2;go_ret2;exact⟨rfl,rfl⟩
theorem zgc(a:OA)(cap:Nat)(xs:LN)(p:Int)(w:World)(h:Rb w a cap xs)(hp:I64 p) :
 Calls Tryz.prog 49 #[.slice a xs.length cap,.int .i64 p] w fun e w'=>e=.returned (.tuple #[.int .i64 (nmV xs p 2:Int),.bool (inB xs.length p 2)])/\w=w':=by
 go_enter func49,ntmps49;go_wp2_with fail
 refine(zc2 a cap xs p 2 _ h hp (by decide) (by decide)).mono ?_;rintro e u ⟨rfl,rfl⟩;go_wp2;go_ret2;exact⟨rfl,rfl⟩
theorem zm9(a:OA)(cap:Nat)(xs:LN)(p:Int)(w:World)(h:Rb w a cap xs)(hp:I64 p) :
 Calls Tryz.prog 50 #[.slice a xs.length cap,.int .i64 p] w fun e w'=>e=.returned (.tuple #[.int .i64 (nmV xs p 4:Int),.bool (inB xs.length p 4)])/\w=w':=by
 go_enter func50,ntmps50;go_wp2_with fail
 refine(zc2 a cap xs p 4 _ h hp (by decide) (by decide)).mono ?_;rintro e u ⟨rfl,rfl⟩;go_wp2;go_ret2;exact⟨rfl,rfl⟩
theorem zc3(a:OA)(cap:Nat)(xs:LN)(p:Int)(w:World)(h:Rb w a cap xs)(hp:I64 p) :
 Calls Tryz.prog 54 #[.slice a xs.length cap,.int .i64 p] w fun e w'=>e=.returned (.tuple #[.int .i64 (sx16 (nmV xs p 2)),.bool (inB xs.length p 2)])/\w=w':=by
 have hlt:=zam h.lim p 2;obtain⟨v,hv⟩:∃v,nmV xs p 2=v:=⟨_,rfl⟩;have HV:Hid (nmV xs p 2=v):=hv;have z19:v<65536:=by rw[hv]at hlt;simpa using hlt
 clear hlt;go_enter func54,ntmps54;go_wp2_with fail
 refine(zc2 a cap xs p 2 _ h hp (by decide) (by decide)).mono ?_;rintro e u ⟨rfl,rfl⟩;rw[hv];clear hv;obtain⟨z,hz⟩:∃z:Int,(v:Int)=z:=⟨_,rfl⟩;rw[hz];have HZ:Hid ((v:Int)=z):=hz;have z1:0<=z:=by omega
 have z2:z<65536:=by omega
 have HL:Hid (v<65536):=z19;clear hz z19;go_wp2
 all_goals
  go_ret2;refine⟨zbk ?_ rfl,rfl⟩;rw[HV.out];have hz:=HZ.out;have hl:=HL.out;first
   | (have e:sx16 v=z-65536:=(by unfold sx16;split <;> omega)
      rw[e]
      rfl)
   | (have e:sx16 v=z:=(by unfold sx16;split <;> omega)
      rw[e]
      rfl)
theorem Rw.nil(base:Nat)(w:World):Rw 5 base w none 0 []:=⟨Byt.nil,World.ownsRow_nil w base _ 1⟩
theorem zh6(a:OA)(cap:Nat)(xs:LN)(w:World)(h:Rb w a cap xs)(hl:xs.length<=1000000000) :
 Calls Tryz.prog 81 #[.slice a xs.length cap] w fun e w'=>∃a' cap',e=.returned (.slice a' xs.length cap')/\Rw 5 w.heap.size w' a' cap' xs/\Below w.heap.size w w':=by
 obtain⟨i0,hi,hz0,hz1,hz2⟩:=info_parts zca;have q22:∀(w:World) (a:OA) (n c n' c':Nat),(binOp .eql 42 (.slice a n c) (.slice none n' c')).run Tryz.prog w=.ok (.bool a.isNone) w:=fun w a n c n' c'=>Lib.run_eql_slice_nil w _ _ a n c n' c' underlying42;cases a with
 | none =>
  have hc:cap=0:=h.2.2.2.1 rfl;have hx:xs=[]:=by
   rcases h.fm with h0|⟨b,off,e,_⟩
   . exact h0
   . cases e
  subst hc;subst hx;go_enter func81,ntmps81;go_wp2;go_ret;exact⟨none,0,rfl,Rw.nil _ _,Below.refl _ _⟩
 | some ad =>
  go_enter func81,ntmps81;go_wp2_with (at_builtin;refine zas rfl _ _ 42 rfl w.heap.size 5 i0 underlying42 hi hz0 hz1 hz2 _ 0 [] rfl ?_ (some ad) cap _ xs rfl rfl ?_ ?_ ?_ ?_)
  . exact World.ownsRow_made w #[] 0 (qE _) (qD _) rfl
  . exact h.below (bl1 _)
  . omega
  . simp
  . intro v' w1 hown hgrow hat
    obtain⟨a',cap',rfl,hres⟩:=Rw.of h.lim hown;go_wp2;go_ret;exact⟨a',cap',rfl,hres,(bl1 _).grown hgrow (by simp) (fun k hk=>by simp[Value.ownBlock]at hk;omega)⟩
def cutV(xs:LN)(p n:Int):LN:=if inB xs.length p n then (xs.drop p.toNat).take n.toNat else []
theorem zh4{xs:LN}{p n:Int}(h:inB xs.length p n=false):cutV xs p n=[]:=by simp[cutV,h]
theorem zd7{xs:LN}{p n:Int}(h:inB xs.length p n=true):cutV xs p n=(xs.drop p.toNat).take n.toNat:=by simp[cutV,h]
theorem Rb.cut{w:World}{a:OA}{cap:Nat}{xs:LN}(h:Rb w a cap xs)(q n:Nat)(hq:q+n<=xs.length):Rb w (a.map (fun x=>x.add q)) (cap-q) ((xs.drop q).take n):=by
 obtain⟨h1,h2,h3,h5,h4⟩:=h;refine⟨(h1.drop q).take n,by simp;omega,by omega,(by simp;intro h;have:=h5 h;omega),?_⟩;rcases h4 with rfl|⟨b,off,rfl,hb1,hc⟩
 . exact .inl (by simp)
 . have zdp:(⟨b,off,none⟩:Addr).add q=⟨b,off+q,none⟩:=by unfold Addr.add;split <;> simp_all
   refine .inr ⟨b,off+q,by simp[zdp],hb1,fun i hi=>?_⟩;simp at hi;rw[Nat.add_assoc,hc (q+i) (by omega)];simp[List.getD,show i<n by omega]
theorem z0k(a:OA)(cap:Nat)(xs:LN)(p n:Int)(w:World)(h:Rb w a cap xs)(hp:I64 p)(hn:I64 n)(hl:xs.length<=1000000000) :
 Calls Tryz.prog 148 #[.slice a xs.length cap,.int .i64 p,.int .i64 n] w fun e w'=>∃a' cap',e=.returned (.tuple #[.slice a' (cutV xs p n).length cap',.bool (inB xs.length p n)])/\Rw 5 w.heap.size w' a' cap' (cutV xs p n)/\Below w.heap.size w w':=by
 have hr:=h;have k1:=h.le;have k2:=h.cap;unfold maxLen at k2;by_cases hi:inB xs.length p n=true
 . have HI:Hid (inB xs.length p n=true):=hi
   have hi':=hi;simp[inB]at hi';obtain⟨q0,q1,q2⟩:=hi';obtain⟨q,rfl⟩:∃q:Nat,p=(q:Int):=⟨p.toNat,by omega⟩;obtain⟨m,rfl⟩:∃m:Nat,n=(m:Int):=⟨n.toNat,by omega⟩;have HC:Hid (cutV xs q m=(xs.drop q).take m):=zd7 hi;go_enter func148,ntmps148;go_wp2_with fail
   refine(zdw _ _ _ _ _ _ (by omega) hp hn).mono ?_;rintro e u ⟨rfl,rfl⟩;rw[hi];clear hi;go_wp2_with fail
   . have hm:m=0:=by omega
     have hv:(xs.drop q).take m=[]:=(by rw[hm];simp);have hm':m=([]:LN).length:=hm;rw[hm'];refine(zh6 a 0 [] _ (Rb.nil w a 0 (qD _) (fun _=>rfl)) (by simp)).mono ?_;rintro e u ⟨a',cap',rfl,hR,hb⟩;go_wp2;go_ret2;refine⟨a',cap',zbk (by rw[HC.out,hv];rfl) (by rw[HI.out];rfl),?_,hb⟩;rw[HC.out,hv];exact hR
   . have hl2:((xs.drop q).take m).length=m:=by simp;omega
     have hcl:=zh6 _ _ _ _ (hr.cut q m (by omega)) (by rw[hl2];omega);rw[hl2]at hcl;refine hcl.mono ?_;rintro e u ⟨a',cap',rfl,hR,hb⟩;go_wp2;go_ret2;refine⟨a',cap',zbk (by rw[HC.out,hl2];rfl) (by rw[HI.out];rfl),?_,hb⟩;rw[HC.out];exact hR
 . have hi:inB xs.length p n=false:=by simpa using hi
   have HI:Hid (inB xs.length p n=false):=hi;have HC:Hid (cutV xs p n=[]):=zh4 hi;go_enter func148,ntmps148;go_wp2_with fail
   refine(zdw _ _ _ _ _ _ (by omega) hp hn).mono ?_;rintro e u ⟨rfl,rfl⟩;rw[hi];clear hi;go_wp2;go_ret2;refine⟨none,0,zbk (by rw[HC.out];rfl) (by rw[HI.out];rfl),?_,Below.refl _ _⟩;rw[HC.out];exact Rw.nil _ _
theorem zna(a:OA)(cap:Nat)(xs:LN)(p n:Int)(w:World)(h:Rb w a cap xs)(hp:I64 p)(hn:I64 n)(hl:xs.length<=1000000000) :
 Calls Tryz.prog 51 #[.slice a xs.length cap,.int .i64 p,.int .i64 n] w fun e w'=>∃a' cap',e=.returned (.tuple #[.slice a' (cutV xs p n).length cap',.bool (inB xs.length p n)])/\Rw 5 w.heap.size w' a' cap' (cutV xs p n)/\Below w.heap.size w w':=by
 obtain⟨i0,hi0,hz0,hz1,hz2⟩:=info_parts zca;have hr:=h;have k1:=h.le;have k2:=h.cap;unfold maxLen at k2;obtain⟨p1,p2⟩:=hp;obtain⟨n1,n2⟩:=hn;by_cases hi:inB xs.length p n=true
 . have HI:Hid (inB xs.length p n=true):=hi
   have hi':=hi;simp[inB]at hi';obtain⟨q0,q1,q2⟩:=hi';obtain⟨q,rfl⟩:∃q:Nat,p=(q:Int):=⟨p.toNat,by omega⟩;obtain⟨m,rfl⟩:∃m:Nat,n=(m:Int):=⟨n.toNat,by omega⟩;have HC:Hid (cutV xs q m=(xs.drop q).take m):=zd7 hi;clear hi;have g1:¬((xs.length:Int)<(m:Int)):=(by omega);have g2:¬((xs.length:Int)-(m:Int)<(q:Int)):=(by omega);have hl2:((xs.drop q).take m).length=m:=(by simp;omega);have HL2:Hid (((xs.drop q).take m).length=m):=hl2;clear hl2;by_cases hcq:cap=q
   . have hm:m=0:=by omega
     subst hm;subst hcq;have HZ:Hid ((xs.drop cap).take 0=[]):=(by show(xs.drop cap).take 0=[];simp);clear HL2;go_enter func51,ntmps51;go_wp2_with (at_builtin;refine zas rfl _ _ 42 rfl w.heap.size 5 i0 underlying42 hi0 hz0 hz1 hz2 _ 0 [] rfl (World.ownsRow_nil w _ _ 1) a 0 _ [] rfl rfl (Rb.nil w a 0 (qD _) (fun _=>rfl)) (by simp) (qE _) ?_)
     intro v' w1 hown hgrow hat;obtain⟨a',cap',rfl,hres⟩:=Rw.of (xs:=[]) Byt.nil hown;go_wp2;go_ret2;refine⟨a',cap',zbk (by rw[HC.out,HZ.out];rfl) (by first | (rw[HI.out];rfl) | rfl),?_,(Below.refl _ _).grown hgrow (qE _) (fun k hk=>by simp[Value.ownBlock]at hk)⟩;rw[HC.out,HZ.out];exact hres
   . have hcut:=hr.cut q m (by omega)
     obtain⟨zs,hzs⟩:∃zs,(xs.drop q).take m=zs:=⟨_,rfl⟩;rw[hzs]at hcut;have HZ:Hid ((xs.drop q).take m=zs):=hzs;have HL:Hid (m=zs.length):=(by show m=zs.length;rw[<-hzs];exact HL2.out.symm);clear hzs HL2;go_enter func51,ntmps51;go_wp2_with (at_builtin;refine zas rfl _ _ 42 rfl w.heap.size 5 i0 underlying42 hi0 hz0 hz1 hz2 _ 0 [] rfl (World.ownsRow_nil w _ _ 1) (a.map (fun x=>x.add q)) (cap-q) _ zs rfl (by have:=HL.out;omega) hcut (by rw[<-HL.out];omega) (qE _) ?_)
     intro v' w1 hown hgrow hat;obtain⟨a',cap',rfl,hres⟩:=Rw.of hcut.lim hown;go_wp2;go_ret2;refine⟨a',cap',zbk (by rw[HC.out,HZ.out];rfl) (by first | (rw[HI.out];rfl) | (rw[HI.out];simp;omega)),?_,(Below.refl _ _).grown hgrow (qE _) (fun k hk=>by simp[Value.ownBlock]at hk)⟩;rw[HC.out,HZ.out];exact hres
 . have hi:inB xs.length p n=false:=by simpa using hi
   have HI:Hid (inB xs.length p n=false):=hi;have HC:Hid (cutV xs p n=[]):=zh4 hi;have hor:p<0\/(0<=p/\(n<0\/(0<=n/\((xs.length:Int)<n\/(¬(xs.length:Int)<n/\(xs.length:Int)-n<p))))):=by
    simp[inB]at hi;omega
   clear hi;rcases hor with g1|⟨g0,g1|⟨g1,g2|⟨g2,g3⟩⟩⟩
   all_goals
    go_enter func51,ntmps51;go_wp2;go_ret2;refine⟨none,0,zbk (by rw[HC.out];rfl) (by first | (rw[HI.out];rfl) | rfl),?_,Below.refl _ _⟩;rw[HC.out];exact Rw.nil _ _
def str8(xs:LN):ByteArray:=strOfNums (xs.map (fun x:Nat=>(x:Int)))
theorem zq3{xs:LN}(h:Byt xs):sb (str8 xs)=xs:=by
 rw[sb,str8,strOfNums_data];simp only[List.map_map];have:∀x∈xs,(UInt8.toNat ∘ (fun n:Int=>UInt8.ofNat n.toNat) ∘ fun x:Nat=>(x:Int)) x=x:=by
  intro x hx;have:=h x hx;simp;omega
 rw[List.map_congr_left this,List.map_id']
theorem Rb.str{w:World}{a:OA}{cap:Nat}{xs:LN}(h:Rb w a cap xs)(hx:xs≠[]) :
 (convert 42 9 (.slice a xs.length cap)).run Tryz.prog w=.ok (.string (str8 xs)) w:=by
 rcases h.fm with h0|⟨b,off,rfl,hb,hc⟩
 . exact absurd h0 hx
 . exact run_convert_bytes_arg (P:=Tryz.prog) w 42 5 underlying42 underlying5 b off xs.length cap (xs.map (fun x:Nat=>(x:Int))) (by simp) (fun i hi=>by
     rw[hc i hi];simp[List.getD,hi]) 9 underlying9
def allE(s:St):Int:=if s.no then 4 else if s.ws=[]then 0 else 1
def allB(s:St):LN:=if s.no then []else if s.ws=[]then s.bs else []
theorem Row.rb{w:World}{G:Nat->Prop}{a:OA}{c:Nat}{xs:LN}(h:Row w G (.slice a xs.length c) xs)(hB:Byt xs):Rb w a c xs:=Rw.rd (e:=5) (base:=0) ⟨hB,h.1⟩
theorem zfn(B:Nat)(G:Nat->Prop)(s:St)(w:World)(h:Pc w B G s)(hl:s.bs.length<=1048576) :
 Calls Tryz.prog 43 #[pg B] w fun e w'=>∃a' cap',e=.returned (.tuple #[.slice a' (allB s).length cap',.int .i64 (allE s)])/\Rw 5 w.heap.size w' a' cap' (allB s)/\Below w.heap.size w w':=by
 obtain⟨h1,h2,h3,vb,vm,h4,h6,h5⟩:=h;obtain⟨c0,c1,c2,c3,f0,f1,f2,f3⟩:=h4.cells;by_cases hno:s.no=true
 . have HE:Hid (allE s=4):=by show allE s=4;simp[allE,hno]
   have HB:Hid (allB s=[]):=(by show allB s=[];simp[allB,hno]);rw[hno]at c3;clear h1 h2 h3 h4 h5 h6 hno;go_enter func43,ntmps43;go_wp2;go_ret2;refine⟨none,0,zbk (by rw[HB.out];rfl) (by rw[HE.out];rfl),?_,Below.refl _ _⟩;rw[HB.out];exact Rw.nil _ _
 . have hno:s.no=false:=by simpa using hno
   obtain⟨hR,hM⟩:=h5 hno;rw[hno]at c3;by_cases hws:s.ws=[]
   . have HE:Hid (allE s=0):=by show allE s=0;simp[allE,hno,hws]
     have HB:Hid (allB s=s.bs):=(by show allB s=s.bs;simp[allB,hno,hws]);obtain⟨a,c,rfl⟩:=hR.slice;have hrb:=hR.rb h3.1;have fin:∀(W:World),W=w->Calls Tryz.prog 81 #[.slice a s.bs.length c] W fun e w'=>∃a' cap',e=.returned (.slice a' s.bs.length cap')/\Rw 5 w.heap.size w' a' cap' s.bs/\Below w.heap.size w w':=by
      rintro W rfl;exact zh6 a c s.bs _ hrb (by omega)
     obtain⟨l,hll⟩:∃l,s.bs.length=l:=⟨_,rfl⟩;rw[hll]at c0 c1 hl fin;have HL:Hid (s.bs.length=l):=hll;clear hll;rcases hM with ⟨rfl,_⟩|⟨m,D,rfl,hmG,hown,hhas,hsize⟩
     . clear h1 h2 h3 h4 h5 h6 hno hws hR hrb
       have hlen:=fun(w:World) ty=>Maps.len_nil (w:=w) underlying88 ty;go_enter func43,ntmps43;go_wp2_with fail
       refine(fin _ rfl).mono ?_;rintro e u ⟨a',cap',rfl,hR,hb⟩;go_wp2;go_ret2;refine⟨a',cap',zbk (by rw[HB.out,HL.out];rfl) (by rw[HE.out];rfl),?_,hb⟩;rw[HB.out];exact hR
     . rw[hws]at hsize
       have hs0:Maps.size D=0:=(by simpa using hsize);have hown':=hown;clear h1 h2 h3 h4 h5 h6 hno hR hrb hhas hsize;go_enter func43,ntmps43;go_wp2_with (first | (at_len;refine wpList_len_own _ rfl _ 88 rfl 3 331 underlying88 _ m _ D rfl hown ?_;rw[hs0]) | fail)
       refine(fin _ rfl).mono ?_;rintro e u ⟨a',cap',rfl,hR,hb⟩;go_wp2;go_ret2;refine⟨a',cap',zbk (by rw[HB.out,HL.out];rfl) (by rw[HE.out];rfl),?_,hb⟩;rw[HB.out];exact hR
   . have HE:Hid (allE s=1):=by show allE s=1;simp[allE,hno,hws]
     have HB:Hid (allB s=[]):=(by show allB s=[];simp[allB,hno,hws]);rcases hM with ⟨rfl,h0⟩|⟨m,D,rfl,hmG,hown,hhas,hsize⟩
     . exact absurd h0 hws
     . obtain⟨z,hz⟩:∃z,Maps.size D=z:=⟨_,rfl⟩
       have hz1:0<(z:Int):=by
        have:=List.length_pos_iff.2 hws;omega
       clear h1 h2 h3 h4 h5 h6 hno hR hhas hsize hws;go_enter func43,ntmps43;go_wp2_with (first | (at_len;refine wpList_len_own _ rfl _ 88 rfl 3 331 underlying88 _ m _ D rfl hown ?_;rw[hz]) | go_in)
       go_ret2;refine⟨none,0,zbk (by rw[HB.out];rfl) (by rw[HE.out];rfl),?_,Below.refl _ _⟩;rw[HB.out];exact Rw.nil _ _
def padN(l n:Nat):Nat:=(n-l%n)%n
def fil(bs:LN):LN:=bs++List.replicate (padN bs.length 4) 0
def sum4:LN->Nat
 | a::b::c::d::r=>V8 [a,b,c,d]+sum4 r
 | _=>0
def sm(bs:LN):Nat:=sum4 (fil bs)%4294967296
structure Tb where
 tx:ByteArray
 bs:LN
theorem toList_inj{a b:ByteArray}(h:a.toList=b.toList):a=b:=by
 rw[ByteArray.toList_eq,ByteArray.toList_eq]at h;cases a;cases b;simp only at h;rw[Array.toList_inj.1 h]
def pw(n:Nat):Nat:=if n<2 then 1 else if n<4 then 2 else if n<8 then 4 else if n<16 then 8 else if n<32 then 16 else 32
def lg(n:Nat):Nat:=if n<2 then 0 else if n<4 then 1 else if n<8 then 2 else if n<16 then 3 else if n<32 then 4 else 5
def hdr(n:Nat):LN:=be4 65536++(be2 n++(be2 ((16*pw n:Nat):Int)++(be2 ((lg n:Nat):Int)++be2 ((16*n-16*pw n:Nat):Int))))
theorem zrx{b A X Z:LN}{q n:Nat}(hb:b=A++(X++Z))(hq:A.length=q)(hn:X.length=n):(b.drop q).take n=X:=by
 subst hb;subst hq;subst hn;rw[List.drop_left,List.take_left]
theorem zwx{b A X Z:LN}{q n:Nat}(hb:b=A++(X++Z))(hq:A.length=q)(hn:X.length=n):inB b.length (q:Int) (n:Int)=true:=by
 have:b.length=q+n+Z.length:=by rw[hb];simp[hq,hn];omega
 simp[inB];omega
theorem zbl{b A X Z:LN}{q n:Nat}(hb:b=A++(X++Z))(hq:A.length=q)(hn:X.length=n):nmV b (q:Int) n=V8 X:=by
 rw[nmV,zwx hb hq hn,if_pos rfl,Int.toNat_natCast,zrx hb hq hn]
theorem zth{b A X Z:LN}{q n:Nat}(hb:b=A++(X++Z))(hq:A.length=q)(hn:X.length=n):cutV b (q:Int) (n:Int)=X:=by
 rw[zd7 (zwx hb hq hn),Int.toNat_natCast,Int.toNat_natCast,zrx hb hq hn]
theorem zxq{n:Nat}(h:n<4294967296):V8 (be4 (n:Int))=n:=by
 simp only[be4,V8,List.foldl_cons,List.foldl_nil];omega
theorem z3v{n:Nat}(h:n<65536):V8 (be2 (n:Int))=n:=by
 simp only[be2,V8,List.foldl_cons,List.foldl_nil];omega
