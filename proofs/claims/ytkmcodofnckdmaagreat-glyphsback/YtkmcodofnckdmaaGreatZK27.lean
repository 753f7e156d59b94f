import Derived.Test.YtkmcodofnckdmaaGreatZK26
set_option maxHeartbeats 1000000
set_option maxRecDepth 100000
set_option linter.unusedSimpArgs false
set_option linter.unusedVariables false
namespace Go.Proofs.YtkmcodofnckdmaaGreat
open Go.RowKit Go.Maps
theorem zte(l:LI)(i j:Nat):(l.drop i).getD j 0=l.getD (i+j) 0:=by simp[List.getD]
theorem zsa{P:Pk}(hM:0<P.M){l:LI}{i e c0 h:Nat}{ys tot:LN}(hi:i<l.length)(hr:rn P.c P.M (l.drop i)=e-i)(hie:i<e)(hc:P.c (l.getD i 0)=c0)(hh:h=P.M*c0+(e-i)-1)(ht:ys++pk P (l.drop i)=tot) :
 ys++[h]++((l.drop i).take (e-i)).flatMap (P.en c0)++pk P (l.drop e)=tot:=by
 have hne:l.drop i≠[]:=by intro e;have:=congrArg List.length e;rw[List.length_drop]at this;simp at this;omega
 rw[<-ht,ziu P hM hne,hr,zte,Nat.add_zero,hc,<-hh,List.drop_drop,show i+(e-i)=e by omega]
 simp only[List.append_assoc]
theorem zq3{z m:Int}(h:0<=z):z.tmod m=z%m:=Int.tmod_eq_emod_of_nonneg h
theorem zhb(a:OA)(cap:Nat)(l:LI)(w:World)(h:Ri w a cap l) :
 Calls Tryz.prog 236 #[.slice a l.length cap] w fun e w'=>e=.returned (.bool (ptB l))/\w=w':=by
 have k2:=h.lenB
 by_cases hl:l.length<=2000
 rotate_left
 . have HE:Hid (ptB l=false):=by show _=_;unfold ptB;rw[decide_eq_false hl,Bool.and_false]
   have g1:(2000:Int)<(l.length:Int):=by omega
   clear h hl
   go_enter Tryz.func236,Tryz.ntmps236
   go_wp2
   go_ret
   exact⟨zaa HE.out.symm,rfl⟩
 have HH:Hid (Ri w a cap l):=h
 have g0:¬(2000:Int)<(l.length:Int):=by omega
 clear h
 go_enter Tryz.func236,Tryz.ntmps236
 go_wp2
 go_loopw [3,11] (fun ah i wr=>∃(k:Nat) (z:Int),k<=l.length/\i=.int .i64 k/\ah=.int .i64 z/\z=(if k=0 then -1 else l.getD (k-1) 0)/\(∀i,i<k->(if i=0 then -1 else l.getD (i-1) 0)<l.getD i 0/\l.getD i 0<=65535)/\w=wr) (fun _ i _=>l.length-(intOf i).toNat)
 case atStart=>exact⟨0,-1,Nat.zero_le _,rfl,rfl,rfl,(fun j hj=>by omega),rfl⟩
 case round =>
  obtain⟨k,z,hk,rfl,rfl,hz,hok,rfl⟩:=hrel
  have HZ:Hid (z=(if k=0 then -1 else l.getD (k-1) 0)):=hz
  have HOK:Hid (∀i,i<k->(if i=0 then -1 else l.getD (i-1) 0)<l.getD i 0/\l.getD i 0<=65535):=hok
  clear hz hok
  by_cases hkn:k<l.length
  rotate_left
  . obtain rfl:k=l.length:=by omega
    have HE:Hid (ptB l=true):=by show _=_;unfold ptB;rw[(zis l (-1)).2 HOK.out,decide_eq_true hl,Bool.and_true]
    have g1:¬(l.length:Int)<(l.length:Int):=by omega
    clear HOK HZ;go_wp2
    go_ret
    exact⟨zaa HE.out.symm,rfl⟩
  obtain⟨b,off,ea,hb,d0⟩:=HH.out.at (Below.refl _ _) k hkn
  obtain⟨x,hx⟩:∃x,l.getD k 0=x:=⟨_,rfl⟩
  have HNO:Hid (x<=z\/65535<x->ptB l=false):=fun h=>by
   rw[Bool.eq_false_iff]
   intro e
   unfold ptB at e
   rw[Bool.and_eq_true]at e
   have:=(zis l (-1)).1 e.1 k hkn
   rw[<-HZ.out,hx]at this
   omega
  have HX:Hid (l.getD k 0=x):=hx
  rw[hx]at d0;subst ea;clear hx
  have i1:(0:Int)<=(k:Int):=by omega
  have i2:(k:Int)<(l.length:Int):=by omega
  by_cases h1:x<=z
  . have g1:decide (x<=z)=true:=decide_eq_true h1
    have HE:Hid (ptB l=false):=HNO.out (.inl h1)
    clear HOK HZ HNO HX h1;go_wp2
    go_ret
    exact⟨zaa HE.out.symm,rfl⟩
  have g1:decide (x<=z)=false:=decide_eq_false h1
  by_cases h2:65535<x
  . have g2:decide (65535<x)=true:=decide_eq_true h2
    have HE:Hid (ptB l=false):=HNO.out (.inr h2)
    clear HOK HZ HNO HX h1 h2;go_wp2
    go_ret
    exact⟨zaa HE.out.symm,rfl⟩
  have g2:decide (65535<x)=false:=decide_eq_false h2
  have zea:Hid (∀i,i<k+1->(if i=0 then -1 else l.getD (i-1) 0)<l.getD i 0/\l.getD i 0<=65535):=fun i hi=>by
   rcases Nat.lt_or_ge i k with h3|h3
   . exact HOK.out i h3
   . rw[show i=k by omega,HX.out,<-HZ.out];omega
  have HZ2:Hid (x=(if k+1=0 then -1 else l.getD (k+1-1) 0)):=by show _=_;rw[if_neg (by omega),Nat.add_sub_cancel,HX.out]
  clear HOK HZ HNO HX h1 h2;go_wp2
  go_roundw
  case rel=>exact⟨k+1,x,by omega,by go_num,rfl,HZ2.out,zea.out,trivial⟩
  case measure=>simp[intOf];omega
theorem z3s{x:Int}(h1:-32768<=x)(h2:x<=32767):IntKind.i16.wrap x=x:=by
 simp only[IntKind.wrap,IntKind.bits,IntKind.signed]
 simp
 omega
theorem zzz{x:Int}(h:x < -32768\/32767<x):IntKind.i16.wrap x≠x/\-32768<=IntKind.i16.wrap x/\IntKind.i16.wrap x<=32767:=by
 simp only[IntKind.wrap,IntKind.bits,IntKind.signed]
 simp
 omega
theorem zmr(a:OA)(cap:Nat)(l:LI)(w:World)(h:Ri w a cap l) :
 Calls Tryz.prog 243 #[.slice a l.length cap] w fun e w'=>e=.returned (.bool (chB l))/\w=w':=by
 have k2:=h.lenB
 by_cases hl:l.length<=2000
 rotate_left
 . have HE:Hid (chB l=false):=by show _=_;unfold chB;rw[decide_eq_false hl,Bool.and_false]
   have g1:(2000:Int)<(l.length:Int):=by omega
   clear h hl
   go_enter Tryz.func243,Tryz.ntmps243
   go_wp2
   go_ret
   exact⟨zaa HE.out.symm,rfl⟩
 have HH:Hid (Ri w a cap l):=h
 have g0:¬(2000:Int)<(l.length:Int):=by omega
 clear h
 go_enter Tryz.func243,Tryz.ntmps243
 go_wp2
 go_loopw [10] (fun i wr=>∃k:Nat,k<=l.length/\i=.int .i64 k/\(∀i,i<k->-32768<=l.getD i 0/\l.getD i 0<=32767)/\w=wr) (fun i _=>l.length-(intOf i).toNat)
 case atStart=>exact⟨0,Nat.zero_le _,rfl,(fun j hj=>by omega),rfl⟩
 case round =>
  obtain⟨k,hk,rfl,hok,rfl⟩:=hrel
  have HOK:Hid (∀i,i<k->-32768<=l.getD i 0/\l.getD i 0<=32767):=hok
  clear hok
  by_cases hkn:k<l.length
  rotate_left
  . obtain rfl:k=l.length:=by omega
    have HE:Hid (chB l=true):=by show _=_;rw[z3b HOK.out,decide_eq_true hl]
    have g1:¬(l.length:Int)<(l.length:Int):=by omega
    clear HOK;go_wp2
    go_ret
    exact⟨zaa HE.out.symm,rfl⟩
  obtain⟨b,off,ea,hb,d0⟩:=HH.out.at (Below.refl _ _) k hkn
  have hxi:=HH.out.i64 hkn
  obtain⟨x,hx⟩:∃x,l.getD k 0=x:=⟨_,rfl⟩
  have HX:Hid (l.getD k 0=x):=hx
  rw[hx]at d0 hxi;subst ea;clear hx
  have i1:(0:Int)<=(k:Int):=by omega
  have i2:(k:Int)<(l.length:Int):=by omega
  by_cases h1:-32768<=x/\x<=32767
  . have e1:=z3s h1.1 h1.2
    have zea:Hid (∀i,i<k+1->-32768<=l.getD i 0/\l.getD i 0<=32767):=fun i hi=>by
     rcases Nat.lt_or_ge i k with h3|h3
     . exact HOK.out i h3
     . rw[show i=k by omega,HX.out];exact h1
    have n1:=h1.1
    have n2:=h1.2
    clear HOK HX h1;go_wp2
    go_roundw
    case rel=>exact⟨k+1,by omega,by go_num,zea.out,trivial⟩
    case measure=>simp[intOf];omega
  . obtain⟨e0,e2,e3⟩:=zzz (x:=x) (by omega)
    have HE:Hid (chB l=false):=z5l hkn (by rw[HX.out];omega)
    obtain⟨y,hy⟩:∃y,IntKind.i16.wrap x=y:=⟨_,rfl⟩
    rw[hy]at e0 e2 e3
    have g1:(y != x)=true:=by simp[e0]
    clear HOK HX h1 e0;go_wp2
    go_ret
    exact⟨zaa HE.out.symm,rfl⟩
theorem zor(z:Int)(w:World):Calls Tryz.prog 240 #[.int .i64 z] w fun e w'=>e=.returned (.int .i64 (128*((kdP z:Nat):Int)))/\w=w':=by
 rcases zby z with ⟨h1,h2⟩|⟨h1,h2⟩
 . have HE:Hid (128*((kdP z:Nat):Int)=128):=by show _=_;rw[h2];rfl
   clear h2
   go_enter Tryz.func240,Tryz.ntmps240
   go_wp2
   go_ret
   exact⟨by rw[HE.out];rfl,rfl⟩
 . have HE:Hid (128*((kdP z:Nat):Int)=0):=by show _=_;rw[h2];rfl
   have g1:¬255<z:=by omega
   clear h2
   go_enter Tryz.func240,Tryz.ntmps240
   go_wp2
   go_ret
   exact⟨by rw[HE.out];rfl,rfl⟩
theorem zos(z:Int)(w:World):Calls Tryz.prog 244 #[.int .i64 z] w fun e w'=>e=.returned (.int .i64 (64*((kdC z:Nat):Int)))/\w=w':=by
 rcases zbz z with ⟨h1,h2⟩|⟨h0,h1,h2⟩|⟨h0,h1,h2⟩
 . have HE:Hid (64*((kdC z:Nat):Int)=128):=by show _=_;rw[h2];rfl
   have g1:(z==0)=true:=by simp[h1]
   clear h2 h1
   go_enter Tryz.func244,Tryz.ntmps244
   go_wp2
   go_ret
   exact⟨by rw[HE.out];rfl,rfl⟩
 . have HE:Hid (64*((kdC z:Nat):Int)=64):=by show _=_;rw[h2];rfl
   have g1:(z==0)=false:=by simp[h0]
   clear h2
   by_cases h3:z < -128
   . have g2:decide (z < -128)=true:=decide_eq_true h3
     clear h0 h1
     go_enter Tryz.func244,Tryz.ntmps244
     go_wp2
     go_ret
     exact⟨by rw[HE.out];rfl,rfl⟩
   . have g2:decide (z < -128)=false:=decide_eq_false h3
     have g3:decide (127<z)=true:=decide_eq_true (by omega)
     clear h0 h1
     go_enter Tryz.func244,Tryz.ntmps244
     go_wp2
     go_ret
     exact⟨by rw[HE.out];rfl,rfl⟩
 . have HE:Hid (64*((kdC z:Nat):Int)=0):=by show _=_;rw[h2];rfl
   have g1:(z==0)=false:=by simp[h0]
   have g2:decide (z < -128)=false:=decide_eq_false (by omega)
   have g3:decide (127<z)=false:=decide_eq_false (by omega)
   clear h0 h2
   go_enter Tryz.func244,Tryz.ntmps244
   go_wp2
   go_ret
   exact⟨by rw[HE.out];rfl,rfl⟩
theorem w8_hi{v:Nat}(h:128<=v)(h2:v<256):IntKind.i8.wrap (v:Int)=(v:Int)-256:=by
 simp only[IntKind.wrap,IntKind.bits,IntKind.signed]
 simp
 omega
theorem w8_lo{v:Nat}(h:v<128):IntKind.i8.wrap (v:Int)=(v:Int):=by
 simp only[IntKind.wrap,IntKind.bits,IntKind.signed]
 simp
 omega
theorem zmh(a:OA)(cap:Nat)(xs:LN)(p:Int)(w:World)(h:Rb w a cap xs)(hp:I64 p) :
 Calls Tryz.prog 281 #[.slice a xs.length cap,.int .i64 p] w fun e w'=>e=.returned (.tuple #[.int .i64 (sx8 (nmV xs p 1)),.bool (inB xs.length p 1)])/\w=w':=by
 have hlt:=zbd h.lim p 1
 have hu:=zgc a cap xs p w h hp
 obtain⟨v,hv⟩:∃v,nmV xs p 1=v:=⟨_,rfl⟩
 rw[hv]at hu hlt ⊢
 simp only[Nat.pow_one]at hlt
 clear hv h
 by_cases zlc:128<=v
 . have HS:Hid (sx8 v=(v:Int)-256):=if_pos zlc
   have e1:=w8_hi zlc hlt
   obtain⟨z,hz⟩:∃z:Int,(v:Int)=z:=⟨_,rfl⟩
   have z1:128<=z:=by omega
   have z2:z<256:=by omega
   rw[hz]at hu e1
   have HZ:Hid ((v:Int)=z):=hz
   clear hz zlc hlt
   go_enter Tryz.func281,Tryz.ntmps281
   go_wp2_with fail
   refine hu.mono ?_
   rintro e u ⟨rfl,rfl⟩;go_wp2
   go_ret2
   exact⟨zca (by rw[HS.out,HZ.out];rfl) rfl,rfl⟩
 . have HS:Hid (sx8 v=(v:Int)):=if_neg zlc
   have e1:=w8_lo (v:=v) (by omega)
   obtain⟨z,hz⟩:∃z:Int,(v:Int)=z:=⟨_,rfl⟩
   have z1:0<=z:=by omega
   have z2:z<128:=by omega
   rw[hz]at hu e1
   have HZ:Hid ((v:Int)=z):=hz
   clear hz zlc hlt
   go_enter Tryz.func281,Tryz.ntmps281
   go_wp2_with fail
   refine hu.mono ?_
   rintro e u ⟨rfl,rfl⟩;go_wp2
   go_ret2
   exact⟨zca (by rw[HS.out,HZ.out];rfl) rfl,rfl⟩
theorem zmo(v:Value)(p:Int)(w:World) :
 Calls Tryz.prog 282 #[v,.int .i64 p] w fun e w'=>e=.returned (.tuple #[.int .i64 0,.bool true])/\w=w':=by
 go_enter Tryz.func282,Tryz.ntmps282
 go_wp2
 go_ret2
 exact⟨rfl,rfl⟩
