import Derived.Test.YtgbhidcokobmmaaGreatDoorZL11
import Derived.Deep.LoopGhost
set_option maxHeartbeats 2000000
set_option maxRecDepth 100000
set_option linter.unusedSimpArgs false
set_option linter.unusedVariables false
namespace Go.Proofs.YtgbhidcokobmmaaGreatDoor
open Go.RowKit
theorem ze4(x y:Nat):Nat.gcd y (x%y)=Nat.gcd x y:=by
 rw[Nat.gcd_comm x y,Nat.gcd_rec y x,Nat.gcd_comm]
theorem zvm{a b:Int}(h:a=b):Ending.returned (.int .u64 a)=.returned (.int .u64 b):=by rw[h]
theorem ztd(x y:Nat)(w:World)(hx:x<18446744073709551616)(hy:y<18446744073709551616) :
 Calls Tryz.prog 190 #[.int .u64 (x:Int),.int .u64 (y:Int)] w fun e w'=>e=.returned (.int .u64 (Nat.gcd x y:Nat))/\Below w.heap.size w w':=by
 go_enter Tryz.func190,Tryz.ntmps190
 go_wp2
 go_loopw [0,1] (fun a b wr=>∃p q:Nat,a=.int .u64 p/\b=.int .u64 q/\p<18446744073709551616/\q<18446744073709551616/\Nat.gcd p q=Nat.gcd x y/\Below w.heap.size w wr) (fun _ b _=>(intOf b).toNat)
 case atStart=>exact⟨x,y,rfl,rfl,hx,hy,rfl,Below.refl _ _⟩
 case round =>
  obtain⟨p,q,rfl,rfl,hp,hq,hg,hnx⟩:=hrel
  have HG:Hid (Nat.gcd p q=Nat.gcd x y):=hg
  clear hg
  by_cases hq0:q=0
  . subst hq0
    go_wp2
    go_ret
    refine⟨zvm ?_,hnx⟩
    rw[<-HG.out,Nat.gcd_zero_right]
  . have hne:((q:Int) != 0)=true:=by rw[bne_iff_ne];omega
    have hq1:(1:Int)<=(q:Int):=by omega
    have hq2:(0:Int)<=(p:Int):=by omega
    obtain⟨r,hr⟩:∃r,p%q=r:=⟨_,rfl⟩
    have hri:(p:Int)%(q:Int)=(r:Int):=by rw[<-hr];simp
    have hrb:r<q:=by rw[<-hr];exact Nat.mod_lt _ (by omega)
    have HG2:Hid (Nat.gcd q r=Nat.gcd x y):=by show _=_;rw[<-hr,ze4];exact HG.out
    have HRI:Hid ((p:Int)%(q:Int)=(r:Int)):=hri
    clear hr
    go_wp2_with fail
    go_quiet (fail)
    go_wp2
    go_roundw
    case rel=>exact⟨q,r,rfl,congrArg (Value.int .u64) (by first | rfl | exact HRI.out),hq,by omega,HG2.out,below_drewN hnx _⟩
    case measure=>first | (simp[intOf];omega) | (have:=HRI.out;simp[intOf];omega)
theorem zki(a:Option Addr)(cap:Nat)(xs:List Nat)(b:Option Addr)(cbp:Nat)(ys:List Nat)(w:World)(ha:Rd w a cap xs)(hb:Rd w b cbp ys)(hla:xs.length<=400000000)(hlb:ys.length<=400000000) :
 Calls Tryz.prog 148 #[.slice a xs.length cap,.slice b ys.length cbp] w fun e w' =>
     ∃a' cap' zs,e=.returned (.slice a' zs.length cap')/\V zs=Nat.gcd (V xs) (V ys)/\Tr zs/\Res 211 w.heap.size w' a' cap' zs/\Below w.heap.size w w':=by
 go_enter Tryz.func148,Tryz.ntmps148
 go_wp2
 go_loopg [0,1] (V ys) (fun k p q wr=>∃(aA:Option Addr) (cA:Nat) (X:List Nat) (aB:Option Addr) (cB:Nat) (Y:List Nat),p=.slice aA X.length cA/\q=.slice aB Y.length cB/\X.length<=400000000/\Y.length<=400000000/\V Y=k/\Rd wr aA cA X/\Rd wr aB cB Y/\Nat.gcd (V X) (V Y)=Nat.gcd (V xs) (V ys)/\Below w.heap.size w wr)
 case atStart=>exact⟨a,cap,xs,b,cbp,ys,rfl,rfl,hla,hlb,rfl,ha,hb,rfl,Below.refl _ _⟩
 case round =>
  obtain⟨aA,cA,X,aB,cB,Y,rfl,rfl,hX,hY,hk,rX,rY,hg,hnx⟩:=hrel
  have HG:Hid (Nat.gcd (V X) (V Y)=Nat.gcd (V xs) (V ys)):=hg
  have HK:Hid (V Y=gk):=hk
  have hsz:=hnx.size
  clear hg hk
  go_wp2_with fail
  refine(zct _ _ _ _ rX).mono ?_
  rintro e w' ⟨rfl,rfl⟩
  go_wp2_with fail
  refine(zct _ _ _ _ rY).mono ?_
  rintro e w' ⟨rfl,rfl⟩
  by_cases hsY:V Y<18446744073709551616
  . rw[zar hsY,zap hsY]
    by_cases hsX:V X<18446744073709551616
    . rw[zar hsX,zap hsX]
      obtain⟨vx,hvx⟩:∃vx,V X=vx:=⟨_,rfl⟩
      obtain⟨vy,hvy⟩:∃vy,V Y=vy:=⟨_,rfl⟩
      rw[hvx,hvy];rw[hvx]at hsX;rw[hvy]at hsY
      have HG2:Hid (Nat.gcd vx vy=Nat.gcd (V xs) (V ys)):=by show _=_;rw[<-hvx,<-hvy];exact HG.out
      clear hvx hvy HG
      go_wp2_with fail
      refine(ztd vx vy _ hsX hsY).mono ?_
      rintro e v1 ⟨rfl,hv1⟩
      have hgb:Nat.gcd vx vy<18446744073709551616:=by
       rcases Nat.eq_zero_or_pos vx with h0|h0
       . rw[h0,Nat.gcd_zero_left];exact hsY
       . exact Nat.lt_of_le_of_lt (Nat.gcd_le_left _ h0) hsX
      have hb1:Below w.heap.size w v1:=hnx.trans (hv1.mono hsz)
      obtain⟨gg,hgg⟩:∃gg,Nat.gcd vx vy=gg:=⟨_,rfl⟩
      rw[hgg]at hgb ⊢
      have HGG:Hid (gg=Nat.gcd (V xs) (V ys)):=by show _=_;rw[<-hgg];exact HG2.out
      clear hgg HG2
      go_wp2_with fail
      refine(zdu gg _ hgb).mono ?_
      rintro e v2 ⟨a2,c2,z2,rfl,hz2,ht2,hr2,hb2⟩;go_wp2
      go_ret
      exact⟨a2,c2,z2,rfl,by rw[hz2];exact HGG.out,ht2,hr2.mono hb1.size,hb1.trans (hb2.mono hb1.size)⟩
    . rw[zbe hsX,za8 hsX]
      by_cases hy0:V Y=0
      . rw[hy0]
        have HY0:Hid (V Y=0):=hy0
        clear hy0 hsY hsX
        go_wp2_with fail
        refine(zbz _ _ _ _ rX (by omega)).mono ?_
        rintro e v1 ⟨a1,c1,rfl,hr1,hb1⟩;go_wp2
        go_ret
        refine⟨a1,c1,strip X,rfl,?_,zak _,hr1.mono hsz,hnx.trans (hb1.mono hsz)⟩
        rw[zaj,<-HG.out,HY0.out,Nat.gcd_zero_right]
      . obtain⟨vy,hvy⟩:∃vy,V Y=vy:=⟨_,rfl⟩
        rw[hvy]at hy0 hsY ⊢
        have hyb:((vy:Int)==0)=false:=beq_eq_false_iff_ne.2 (by omega)
        have HVY:Hid (V Y=vy):=hvy
        clear hvy hsX
        go_wp2_with fail
        refine(zfy _ _ _ _ _ _ _ rX rY hX hY).mono ?_
        rintro e v1 ⟨a1,c1,z1,a2,c2,z2,rfl,hv1,hv2,ht1,ht2,hr1,hr2,hb1⟩
        have zdf:0<V Y:=by rw[HVY.out];omega
        rw[zbm _ zdf]at hv2
        have hlt:V z2<V Y:=by rw[hv2];exact Nat.mod_lt _ zdf
        have HLT:Hid (V z2<gk):=by show _<_;rw[<-HK.out];exact hlt
        have hl2:z2.length<=Y.length:=by
         rcases Nat.lt_or_ge Y.length z2.length with h|h
         . have:=zau rY.lim ht2 h;omega
         . exact h
        have HG2:Hid (Nat.gcd (V Y) (V z2)=Nat.gcd (V xs) (V ys)):=by show _=_;rw[hv2,ze4];exact HG.out
        have rY':=rY.below hb1
        have r2:=hr2.rd
        have hbw:Below w.heap.size w v1:=hnx.trans (hb1.mono hsz)
        clear hv1 hv2 zdf hlt hr1 hr2;go_wp2
        go_roundg (V z2)
        case measure=>exact HLT.out
        case rel=>exact⟨aB,cB,Y,a2,c2,z2,rfl,rfl,hY,by omega,rfl,rY',r2,HG2.out,hbw⟩
  . rw[zbe hsY,za8 hsY]
    have HB:Hid (¬V Y<18446744073709551616):=hsY
    clear hsY
    have fin:∀(vx:Nat) (bx:Bool),True:=fun _ _=>trivial
    generalize zff (V X)=sx
    generalize zde (V X)=ix
    cases ix
    all_goals
     go_wp2_with fail
     refine(zfy _ _ _ _ _ _ _ rX rY hX hY).mono ?_
     rintro e v1 ⟨a1,c1,z1,a2,c2,z2,rfl,hv1,hv2,ht1,ht2,hr1,hr2,hb1⟩
     have zdf:0<V Y:=by have:=HB.out;omega
     rw[zbm _ zdf]at hv2
     have hlt:V z2<V Y:=by rw[hv2];exact Nat.mod_lt _ zdf
     have HLT:Hid (V z2<gk):=by show _<_;rw[<-HK.out];exact hlt
     have hl2:z2.length<=Y.length:=by
      rcases Nat.lt_or_ge Y.length z2.length with h|h
      . have:=zau rY.lim ht2 h;omega
      . exact h
     have HG2:Hid (Nat.gcd (V Y) (V z2)=Nat.gcd (V xs) (V ys)):=by show _=_;rw[hv2,ze4];exact HG.out
     have rY':=rY.below hb1
     have r2:=hr2.rd
     have hbw:Below w.heap.size w v1:=hnx.trans (hb1.mono hsz)
     clear hv1 hv2 zdf hlt hr1 hr2;go_wp2
     go_roundg (V z2)
     case measure=>exact HLT.out
     case rel=>exact⟨aB,cB,Y,a2,c2,z2,rfl,rfl,hY,by omega,rfl,rY',r2,HG2.out,hbw⟩
open Classical
def Fmd(n:Bool)(xs ys:List Nat):Prop:=Tr xs/\Tr ys/\ys≠[]/\¬(n=true/\xs=[])/\Nat.gcd (V xs) (V ys)=1
theorem zn2{xs:List Nat}(h:xs≠[]):Tr xs↔xs.getD (xs.length-1) 0≠0:=by
 refine⟨fun t=>t.last h,fun h0=>?_⟩
 have hl:0<xs.length:=List.length_pos_iff.2 h
 have e:=zb5 xs (xs.length-1) (by omega) h0
 rw[show xs.length-1+1=xs.length by omega,List.take_length]at e
 exact e
theorem ztt{xs:List Nat}(l:Lim xs)(t:Tr xs):V xs=1↔xs=[1]:=by
 refine⟨fun h=>uniq l (by intro x hx;simp at hx;omega) t (by unfold Tr;rfl) (by rw[h];rfl),fun h=>by rw[h];rfl⟩
theorem ze9(a:Option Addr)(cap:Nat)(xs:List Nat)(w:World)(h:Rd w a cap xs) :
 Calls Tryz.prog 188 #[.slice a xs.length cap] w fun e w'=>e=.returned (.bool (decide (Tr xs)))/\w=w':=by
 have k1:=h.le
 have k2:=h.cap
 unfold maxLen at k2
 by_cases h0:xs=[]
 . subst h0
   go_enter Tryz.func188,Tryz.ntmps188
   go_wp2
   go_ret
   exact⟨zaz (by simp[zcq]),rfl⟩
 . have hl:0<xs.length:=List.length_pos_iff.2 h0
   obtain⟨b,off,rfl,hb,hc⟩:=h.fm.at (Below.refl _ _) (xs.length-1) (by omega)
   obtain⟨m,hm⟩:∃m,xs.length=m+1:=⟨xs.length-1,by omega⟩
   have ht:=zn2 h0
   rw[hm]at ht hc k1 ⊢
   simp only[Nat.add_sub_cancel]at ht hc
   generalize xs.getD m 0=z at ht hc
   clear h hl hm
   have g1:((m:Int)+1==0)=false:=beq_eq_false_iff_ne.2 (by omega)
   have g2:((z:Int) != 0)=decide (Tr xs):=by
    by_cases hz:z=0
    . subst hz;simp[ht]
    . simp[ht,hz]
   go_enter Tryz.func188,Tryz.ntmps188
   go_wp2
   go_ret
   exact⟨zaz (by simp[g1,ht];try omega),rfl⟩
theorem zqb(a:Option Addr)(cap:Nat)(xs:List Nat)(w:World)(h:Rd w a cap xs) :
 Calls Tryz.prog 189 #[.slice a xs.length cap] w fun e w'=>e=.returned (.bool (decide (xs=[1])))/\w=w':=by
 have k1:=h.le
 have k2:=h.cap
 unfold maxLen at k2
 by_cases h0:xs.length=1
 . match xs,h0 with
   | [z],_ =>
    obtain⟨b,off,rfl,hb,hc⟩:=h.fm.at (Below.refl _ _) 0 (by simp)
    simp at hc
    clear h h0
    simp only[List.length_cons,List.length_nil]
    go_enter Tryz.func189,Tryz.ntmps189
    go_wp2
    go_ret
    exact⟨zaz (by by_cases hz:z=1 <;> simp[hz];omega),rfl⟩
 . have hx:xs≠[1]:=by intro e;rw[e]at h0;simp at h0
   have g1:((xs.length:Int)==1)=false:=beq_eq_false_iff_ne.2 (by omega)
   generalize xs.length=m at *
   go_enter Tryz.func189,Tryz.ntmps189
   go_wp2
   go_ret
   exact⟨zaz (by simp[hx,h0];try omega),rfl⟩
theorem znp(n:Bool)(a:Option Addr)(c:Nat)(xs:List Nat)(a':Option Addr)(c':Nat)(ys:List Nat)(w:World)(hx:Rd w a c xs)(hy:Rd w a' c' ys)(lx:xs.length<=400000000)(ly:ys.length<=400000000) :
 Calls Tryz.prog 147 #[.agg #[.bool n,.slice a xs.length c,.slice a' ys.length c']] w fun e w'=>e=.returned (.bool (decide (Fmd n xs ys)))/\Below w.heap.size w w':=by
 go_enter Tryz.func147,Tryz.ntmps147
 go_wp2_with fail
 refine(ze9 _ _ _ _ (hx.below ((Below.refl _ _).alloc (Nat.le_refl _) _))).mono ?_
 rintro e u ⟨rfl,rfl⟩
 by_cases tx:Tr xs
 . have e1:decide (Tr xs)=true:=decide_eq_true tx
   rw[e1];clear e1
   go_wp2_with fail
   refine(ze9 _ _ _ _ (hy.below ((Below.refl _ _).alloc (Nat.le_refl _) _))).mono ?_
   rintro e u ⟨rfl,rfl⟩
   by_cases ty:Tr ys
   . have e1:decide (Tr ys)=true:=decide_eq_true ty
     rw[e1];clear e1
     by_cases hy0:ys=[]
     . subst hy0
       go_wp2
       go_ret
       exact⟨zaz (by simp[Fmd]),(Below.refl _ _).alloc (Nat.le_refl _) _⟩
     . have hyl:0<ys.length:=List.length_pos_iff.2 hy0
       have g1:((ys.length:Int)==0)=false:=beq_eq_false_iff_ne.2 (by omega)
       have key:(n=true/\xs=[])\/((n=true->xs.length≠0)):=by
        by_cases h1:n=true/\xs=[]
        . exact .inl h1
        . exact .inr fun hn h2=>h1 ⟨hn,List.length_eq_zero_iff.1 h2⟩
       rcases key with ⟨rfl,rfl⟩|h1
       . go_wp2
         go_ret
         exact⟨zaz (by simp[Fmd]),(Below.refl _ _).alloc (Nat.le_refl _) _⟩
       . have fin:∀(W:World),Below w.heap.size w W->∀a1 c1 (zs:List Nat),Rd W a1 c1 zs->V zs=Nat.gcd (V xs) (V ys)->Tr zs ->
             Calls Tryz.prog 189 #[.slice a1 zs.length c1] W fun e w'=>e=.returned (.bool (decide (Fmd n xs ys)))/\Below w.heap.size w w':=by
          intro W hb a1 c1 zs hr hv ht
          refine(zqb _ _ _ _ hr).mono ?_
          rintro e u ⟨rfl,rfl⟩
          refine⟨zaz ?_,hb⟩
          have hiff:zs=[1]↔Fmd n xs ys:=by
           rw[<-ztt hr.lim ht,hv]
           refine⟨fun h=>⟨tx,ty,hy0,fun⟨hn,hx0⟩=>h1 hn (by rw[hx0];rfl),h⟩,fun h=>h.2.2.2.2⟩
          by_cases hz:zs=[1] <;> simp[hz,<-hiff]
         cases n with
         | false =>
          go_wp2_with fail
          refine(zki _ _ _ _ _ _ _ (hx.below ((Below.refl _ _).alloc (Nat.le_refl _) _)) (hy.below ((Below.refl _ _).alloc (Nat.le_refl _) _)) lx ly).mono ?_
          rintro e u ⟨a1,c1,zs,rfl,hv,ht,hr,hb⟩
          have hb':Below w.heap.size w u:=((Below.refl _ _).alloc (Nat.le_refl _) _).trans (hb.mono (by simp))
          go_wp2_with fail
          refine(fin _ hb' _ _ _ hr.rd hv ht).mono ?_
          rintro e u2 ⟨rfl,hb2⟩;go_wp2
          go_ret
          exact⟨rfl,hb2⟩
         | true =>
          have g2:((xs.length:Int)==0)=false:=beq_eq_false_iff_ne.2 (by have:=h1 rfl;omega)
          go_wp2_with fail
          refine(zki _ _ _ _ _ _ _ (hx.below ((Below.refl _ _).alloc (Nat.le_refl _) _)) (hy.below ((Below.refl _ _).alloc (Nat.le_refl _) _)) lx ly).mono ?_
          rintro e u ⟨a1,c1,zs,rfl,hv,ht,hr,hb⟩
          have hb':Below w.heap.size w u:=((Below.refl _ _).alloc (Nat.le_refl _) _).trans (hb.mono (by simp))
          go_wp2_with fail
          refine(fin _ hb' _ _ _ hr.rd hv ht).mono ?_
          rintro e u2 ⟨rfl,hb2⟩;go_wp2
          go_ret
          exact⟨rfl,hb2⟩
   . have e1:decide (Tr ys)=false:=decide_eq_false ty
     rw[e1];go_wp2
     go_ret
     exact⟨zaz (by simp[Fmd,ty]),(Below.refl _ _).alloc (Nat.le_refl _) _⟩
 . have e1:decide (Tr xs)=false:=decide_eq_false tx
   rw[e1];go_wp2
   go_ret
   exact⟨zaz (by simp[Fmd,tx]),(Below.refl _ _).alloc (Nat.le_refl _) _⟩
def sg(n:Bool)(k:Nat):Int:=if n=true then -(k:Int)else (k:Int)
def qv(n:Bool)(xs ys:List Nat):Rat:=mkRat (sg n (V xs)) (V ys)
def Rt(w:World)(v:Value)(n:Bool)(xs ys:List Nat):Prop :=
 ∃a c a' c',v=.agg #[.bool n,.slice a xs.length c,.slice a' ys.length c']/\Rd w a c xs/\Rd w a' c' ys
def Fr(w:World)(v:Value)(k:Nat)(q:Rat):Prop:=∃n xs ys,Rt w v n xs ys/\Fmd n xs ys/\xs.length<=k/\ys.length<=k/\qv n xs ys=q
def Ct(w:World)(v:Value)(k:Nat)(q:Rat):Prop:=∃n xs ys,Rt w v n xs ys/\xs.length<=k/\ys.length<=k/\q=if Fmd n xs ys then qv n xs ys else 0
def Lo(w:World)(v:Value)(k:Nat)(q:Rat):Prop:=∃n xs ys,Rt w v n xs ys/\Tr xs/\Tr ys/\V ys≠0/\xs.length<=k/\ys.length<=k/\qv n xs ys=q
theorem Rt.below{w w':World}{v:Value}{n:Bool}{xs ys:List Nat}(h:Rt w v n xs ys)(hb:Below w.heap.size w w'):Rt w' v n xs ys:=by
 obtain⟨a,c,a',c',rfl,h1,h2⟩:=h
 exact⟨a,c,a',c',rfl,h1.below hb,h2.below hb⟩
theorem Fr.below{w w':World}{v:Value}{k:Nat}{q:Rat}(h:Fr w v k q)(hb:Below w.heap.size w w'):Fr w' v k q:=by
 obtain⟨n,xs,ys,h1,h2⟩:=h
 exact⟨n,xs,ys,h1.below hb,h2⟩
theorem Ct.below{w w':World}{v:Value}{k:Nat}{q:Rat}(h:Ct w v k q)(hb:Below w.heap.size w w'):Ct w' v k q:=by
 obtain⟨n,xs,ys,h1,h2⟩:=h
 exact⟨n,xs,ys,h1.below hb,h2⟩
theorem Lo.below{w w':World}{v:Value}{k:Nat}{q:Rat}(h:Lo w v k q)(hb:Below w.heap.size w w'):Lo w' v k q:=by
 obtain⟨n,xs,ys,h1,h2⟩:=h
 exact⟨n,xs,ys,h1.below hb,h2⟩
theorem zh0{ys:List Nat}(t:Tr ys)(h:ys≠[]):V ys≠0:=fun h0=>h (zb7 t h0)
theorem Fmd.den{n:Bool}{xs ys:List Nat}(h:Fmd n xs ys):V ys≠0:=zh0 h.2.1 h.2.2.1
theorem Fr.lo{w:World}{v:Value}{k:Nat}{q:Rat}(h:Fr w v k q):Lo w v k q:=by
 obtain⟨n,xs,ys,h1,h2,h3⟩:=h
 exact⟨n,xs,ys,h1,h2.1,h2.2.1,h2.den,h3⟩
theorem Fr.ct{w:World}{v:Value}{k:Nat}{q:Rat}(h:Fr w v k q):Ct w v k q:=by
 obtain⟨n,xs,ys,h1,h2,h3,h4,h5⟩:=h
 exact⟨n,xs,ys,h1,h3,h4,by rw[if_pos h2,h5]⟩
theorem Fr.le{w:World}{v:Value}{k k':Nat}{q:Rat}(h:Fr w v k q)(hk:k<=k'):Fr w v k' q:=by
 obtain⟨n,xs,ys,h1,h2,h3,h4,h5⟩:=h
 exact⟨n,xs,ys,h1,h2,by omega,by omega,h5⟩
theorem zoi(n:Bool)(k:Nat):(sg n k).natAbs=k:=by unfold sg;split <;> simp
theorem zoh(n:Bool):sg n 0=0:=by unfold sg;split <;> rfl
theorem zfw{n:Bool}{xs ys ps qs:List Nat}(hy:V ys≠0)(tp:Tr ps)(tq:Tr qs)(hp:V ps=V xs/Nat.gcd (V xs) (V ys))(hq:V qs=V ys/Nat.gcd (V xs) (V ys)) :
 Fmd (n&&decide (0<ps.length)) ps qs/\qv (n&&decide (0<ps.length)) ps qs=qv n xs ys:=by
 have g0:0<Nat.gcd (V xs) (V ys):=Nat.gcd_pos_of_pos_right _ (by omega)
 generalize hg:Nat.gcd (V xs) (V ys)=g at *
 have d1:g ∣ V xs:=hg ▸ Nat.gcd_dvd_left _ _
 have d2:g ∣ V ys:=hg ▸ Nat.gcd_dvd_right _ _
 obtain⟨x,hx⟩:=d1;obtain⟨y,hyy⟩:=d2;rw[hx,Nat.mul_div_cancel_left _ g0]at hp;rw[hyy,Nat.mul_div_cancel_left _ g0]at hq
 have hy0:y≠0:=by rintro rfl;simp at hyy;exact hy hyy
 have hco:Nat.gcd x y=1:=by
  have h1:=hg
  rw[hx,hyy,Nat.gcd_mul_left]at h1
  exact Nat.eq_of_mul_eq_mul_left g0 (by omega)
 have hq0:qs≠[]:=by rintro rfl;simp[V]at hq;omega
 have hpl:decide (0<ps.length)=decide (x≠0):=by
  by_cases h0:x=0
  . have:ps=[]:=zb7 tp (by omega)
    simp[this,h0]
  . have:ps≠[]:=by rintro rfl;simp[V]at hp;omega
    simp[h0,List.length_pos_iff,this]
 refine⟨⟨tp,tq,hq0,?_,by rw[hp,hq];exact hco⟩,?_⟩
 . rintro ⟨h1,rfl⟩
   simp at h1
 . rw[hpl]
   unfold qv
   rw[hp,hq,hx,hyy,Rat.mkRat_eq_iff hy0 (by have:=Nat.mul_pos g0 (show 0<y by omega);omega)]
   by_cases h0:x=0
   . subst h0;simp[zoh]
   . cases n <;> simp[sg,h0] <;> grind
def Box(t:TypeId)(w:World)(b:Nat)(x y z:Value):Prop:=w.heap[b]?=some (.cells #[x,y,z] t (0,0))
theorem Box.lt{t:TypeId}{w:World}{b:Nat}{x y z:Value}(h:Box t w b x y z):b<w.heap.size:=(Array.getElem?_eq_some_iff.1 h).1
theorem Box.below{t:TypeId}{w w':World}{b:Nat}{x y z:Value}(h:Box t w b x y z)(hb:Below w.heap.size w w'):Box t w' b x y z:=(hb.block b h.lt).trans h
theorem Box.cells{t:TypeId}{w:World}{b:Nat}{x y z:Value}(h:Box t w b x y z) :
 w.cell? ⟨b,0,none⟩=some x/\w.cell? ⟨b,1,none⟩=some y/\w.cell? ⟨b,2,none⟩=some z/\w.frozen? ⟨b,0,none⟩=false/\w.frozen? ⟨b,1,none⟩=false/\w.frozen? ⟨b,2,none⟩=false:=by
 refine⟨cell_of_row w b 0 _ t (0,0) h,cell_of_row w b 1 _ t (0,0) h,cell_of_row w b 2 _ t (0,0) h,frozen_of_row w b 0 _ t h,frozen_of_row w b 1 _ t h,frozen_of_row w b 2 _ t h⟩
theorem Box.new(t:TypeId)(w:World)(x y z:Value):Box t (w.alloc (.cells #[x,y,z] t)) w.heap.size x y z:=heap_alloc_new w (.cells #[x,y,z] t)
theorem Box.alloc{t:TypeId}{w:World}{b:Nat}{x y z:Value}(h:Box t w b x y z)(o:Obj):Box t (w.alloc o) b x y z:=h.below ((Below.refl _ _).alloc (Nat.le_refl _) o)
theorem al1{w:World}(o:Obj):Below w.heap.size w (w.alloc o):=(Below.refl _ _).alloc (Nat.le_refl _) o
theorem al2{w:World}(o o':Obj):Below w.heap.size w ((w.alloc o).alloc o'):=(al1 o).alloc (by simp) o'
theorem al3{w:World}(o o' o'':Obj):Below w.heap.size w (((w.alloc o).alloc o').alloc o''):=(al2 o o').alloc (by simp;omega) o''
theorem Box.new1(t:TypeId)(w:World)(o:Obj)(x y z:Value):Box t ((w.alloc o).alloc (.cells #[x,y,z] t)) (w.heap.size+1) x y z:=by
 have h:=Box.new t (w.alloc o) x y z
 simpa using h
theorem Box.new2(t:TypeId)(w:World)(o o':Obj)(x y z:Value):Box t (((w.alloc o).alloc o').alloc (.cells #[x,y,z] t)) (w.heap.size+1+1) x y z:=by
 have h:=Box.new t ((w.alloc o).alloc o') x y z
 simpa using h
theorem zbr{t:TypeId}{w u:World}{x y z:Value}(hb:Below (w.alloc (.cells #[x,y,z] t)).heap.size (w.alloc (.cells #[x,y,z] t)) u) :
 Box t u w.heap.size x y z/\Below w.heap.size w u :=
 ⟨(Box.new _ _ _ _ _).below hb,(al1 _).trans (hb.mono (by simp))⟩
theorem zmj{t s:TypeId}{w u:World}{x y z x' y' z':Value}(hb:Below ((w.alloc (.cells #[x,y,z] t)).alloc (.cells #[x',y',z'] s)).heap.size ((w.alloc (.cells #[x,y,z] t)).alloc (.cells #[x',y',z'] s)) u) :
 Box t u w.heap.size x y z/\Box s u (w.heap.size+1) x' y' z'/\Below w.heap.size w u :=
 ⟨((Box.new _ _ _ _ _).alloc _).below hb,(Box.new1 _ _ _ _ _ _).below hb,(al2 _ _).trans (hb.mono (by simp;omega))⟩
theorem zrn{t s r:TypeId}{w u:World}{x y z x' y' z' x'' y'' z'':Value}(hb:Below (((w.alloc (.cells #[x,y,z] t)).alloc (.cells #[x',y',z'] s)).alloc (.cells #[x'',y'',z''] r)).heap.size (((w.alloc (.cells #[x,y,z] t)).alloc (.cells #[x',y',z'] s)).alloc (.cells #[x'',y'',z''] r)) u) :
 Box t u w.heap.size x y z/\Box s u (w.heap.size+1) x' y' z'/\Box r u (w.heap.size+1+1) x'' y'' z''/\Below w.heap.size w u :=
 ⟨(((Box.new _ _ _ _ _).alloc _).alloc _).below hb,((Box.new1 _ _ _ _ _ _).alloc _).below hb,(Box.new2 _ _ _ _ _ _ _).below hb,(al3 _ _ _).trans (hb.mono (by simp;omega))⟩
theorem zmb(t s r:TypeId)(w:World)(x y z x' y' z' x'' y'' z'':Value) :
 ∃W,W=(((w.alloc (.cells #[x,y,z] t)).alloc (.cells #[x',y',z'] s)).alloc (.cells #[x'',y'',z''] r))/\Box t W w.heap.size x y z/\Box s W (w.heap.size+1) x' y' z'/\Box r W (w.heap.size+1+1) x'' y'' z''/\Below w.heap.size w W :=
 ⟨_,rfl,zrn (Below.refl _ _)⟩
theorem zuy(t s:TypeId)(w:World)(x y z x' y' z':Value) :
 ∃W,W=((w.alloc (.cells #[x,y,z] t)).alloc (.cells #[x',y',z'] s))/\Box t W w.heap.size x y z/\Box s W (w.heap.size+1) x' y' z'/\Below w.heap.size w W :=
 ⟨_,rfl,zmj (Below.refl _ _)⟩
theorem Box.set3{t:TypeId}{w:World}{b:Nat}{x y z:Value}(h:Box t w b x y z)(x' y' z':Value) :
 Box t (((w.setCell ⟨b,0,none⟩ x').setCell ⟨b,1,none⟩ y').setCell ⟨b,2,none⟩ z') b x' y' z':=by
 have h1:=heap_setCell_same w b 0 _ t x' h
 have h2:=heap_setCell_same _ b 1 _ t y' h1
 have h3:=heap_setCell_same _ b 2 _ t z' h2
 exact h3
theorem zgr{B b:Nat}{w u:World}(h:Below B w u)(hb:B<=b)(x' y' z':Value):Below B w (((u.setCell ⟨b,0,none⟩ x').setCell ⟨b,1,none⟩ y').setCell ⟨b,2,none⟩ z') :=
 ((h.setCell (p:=⟨b,0,none⟩) hb x').setCell (p:=⟨b,1,none⟩) hb y').setCell (p:=⟨b,2,none⟩) hb z'
theorem Rd.apart{t:TypeId}{u U:World}{b:Nat}{n:Bool}{a a':Option Addr}{l c l' c':Nat}(B:Box t u b (.bool n) (.slice a l c) (.slice a' l' c'))(hs:u.heap.size<=U.heap.size)
    (hU:∀k,k≠b->U.heap[k]?=u.heap[k]?) {r:Option Addr} {cp:Nat} {xs:List Nat} (h:Rd u r cp xs):Rd U r cp xs:=by
 obtain⟨h1,h2,h3,h5,h4⟩:=h
 refine⟨h1,h2,h3,h5,?_⟩
 rcases h4 with h4|⟨g,off,e,hg,hc⟩
 . exact .inl h4
 . by_cases hx:xs=[]
   . exact .inl hx
   refine .inr ⟨g,off,e,Nat.lt_of_lt_of_le hg hs,fun i hi=>?_⟩
   have hne:g≠b:=by
    rintro rfl
    have hc0:=hc 0 (List.length_pos_iff.2 hx)
    have hb:=cell_of_row u g (off+0) _ t (0,0) B
    rw[hc0]at hb
    match off,hb with
    | 0,hb=>simp at hb
    | 1,hb=>simp at hb
    | 2,hb=>simp at hb
    | (k+3),hb=>simp at hb
   exact(World.cell?_of_block (w:=u) (a:=⟨g,off+i,none⟩) (hU g hne)).trans (hc i hi)
theorem zc2(u:World)(b:Nat)(x y z:Value)(k:Nat)(hk:k≠b):(((u.setCell ⟨b,0,none⟩ x).setCell ⟨b,1,none⟩ y).setCell ⟨b,2,none⟩ z).heap[k]?=u.heap[k]?:=by
 rw[Below.heap_setCell _ ⟨b,2,none⟩ z k hk,Below.heap_setCell _ ⟨b,1,none⟩ y k hk,Below.heap_setCell _ ⟨b,0,none⟩ x k hk]
theorem zad{u:World}{b:Nat}{x y z:Value}{k i:Nat}(hk:k≠b):(((u.setCell ⟨b,0,none⟩ x).setCell ⟨b,1,none⟩ y).setCell ⟨b,2,none⟩ z).cell? ⟨k,i,none⟩=u.cell? ⟨k,i,none⟩ :=
 World.cell?_of_block (w:=u) (a:=⟨k,i,none⟩) (zc2 u b x y z k hk)
theorem ret3{P:Program}{fn:Func}{R:Ending->World->Prop}{ac:Act}{t:TypeId}{u:World}{b:Nat}{n:Bool}{a a':Option Addr}{l c l' c':Nat}{x' y' z' v:Value}(B:Box t u b (.bool n) (.slice a l c) (.slice a' l' c'))
    (hd:ac.defers=[]) (hr:∀U,Box t U b x' y' z'->(results fn ac.tmps).run P U=.ok v U)
    (hR:∀U,(∀B w,Below B w u->B<=b->Below B w U)->(∀a c xs,Rd u a c xs->Rd U a c xs)->R (.returned v) U) :
    bodyPost P fn R .ret ac (((u.setCell ⟨b,0,none⟩ x').setCell ⟨b,1,none⟩ y').setCell ⟨b,2,none⟩ z') :=
 bodyPost_ret (hr _ (B.set3 x' y' z')) hd (hR _ (fun _ _ h hb=>zgr h hb x' y' z') fun _ _ _ h=>Rd.apart B (by simp[World.setCell]) (zc2 u b x' y' z') h)
theorem zgx(z:Int):IntKind.u64.wrap z=z%18446744073709551616:=by
 unfold IntKind.wrap;simp[IntKind.bits,IntKind.signed]
theorem zj5(z:Int)(w:World)(h1:-9223372036854775808<=z)(h2:z<9223372036854775808) :
 Calls Tryz.prog 113 #[.int .i64 z] w fun e w'=>e=.returned (.int .u64 (z.natAbs:Nat))/\w=w':=by
 by_cases hz:z<0
 . go_enter Tryz.func113,Tryz.ntmps113
   go_wp2
   go_ret
   exact⟨by simp[zgx];omega,rfl⟩
 . go_enter Tryz.func113,Tryz.ntmps113
   go_wp2
   go_ret
   exact⟨by simp[zgx];omega,rfl⟩
theorem zdb(k:Nat)(q:Rat)(v:Value)(w:World)(h:Lo w v k q)(hk:k<=400000000) :
 Calls Tryz.prog 112 #[v] w fun e w'=>∃v',e=.returned v'/\Fr w' v' k q/\Below w.heap.size w w':=by
 obtain⟨n,xs,ys,⟨a,c,a',c',rfl,hx,hy⟩,tx,ty,y0,lx,ly,rfl⟩:=h
 have hx0:=hx.lim
 have hy0:=hy.lim
 go_enter Tryz.func112,Tryz.ntmps112
 go_wp2_with fail
 refine(zki _ _ _ _ _ _ _ (hx.below (al2 _ _)) (hy.below (al2 _ _)) (by omega) (by omega)).mono ?_
 rintro e u1 ⟨a1,c1,gs,rfl,hv1,ht1,hr1,hb1⟩
 replace hx:=(hx.below (al2 _ _)).below hb1
 replace hy:=(hy.below (al2 _ _)).below hb1
 obtain⟨B1,B2,hbW⟩:=zmj hb1
 have rg:=hr1.rd
 have g0:V gs≠0:=by rw[hv1];exact fun h=>y0 (Nat.gcd_eq_zero_iff.1 h).2
 have lg:gs.length<=k:=by
  refine zah ht1 ?_
  have h1:=V_lt hy.lim
  have h2:V gs<=V ys:=by rw[hv1];exact Nat.gcd_le_right _ (by omega)
  have h3:4294967296 ^ ys.length<=4294967296 ^ k:=Nat.pow_le_pow_right (by decide) ly
  omega
 clear hr1 hb1;obtain⟨p1,p2,p3,_⟩:=B1.cells
 go_wp2_with fail
 refine(zfy _ _ _ _ _ _ _ hx rg (by omega) (by omega)).mono ?_
 rintro e u2 ⟨a2,c2,ps,a3,c3,rs,rfl,hv2,hv3,ht2,ht3,hr2,hr3,hb2⟩
 have rp:=hr2.rd
 replace hy:=hy.below hb2;replace rg:=rg.below hb2;replace B1:=B1.below hb2;replace B2:=B2.below hb2
 replace hbW:Below w.heap.size w u2:=hbW.trans (hb2.mono hbW.size)
 clear hb2 hr2 hr3 hv3 ht3 p1 p2 p3 hx;obtain⟨p1,p2,p3,_⟩:=B1.cells
 go_wp2_with fail
 refine(zfy _ _ _ _ _ _ _ hy rg (by omega) (by omega)).mono ?_
 rintro e u3 ⟨a4,c4,qs,a5,c5,rs',rfl,hv4,hv5,ht4,ht5,hr4,hr5,hb3⟩
 have rq:=hr4.rd
 replace rp:=rp.below hb3;replace B1:=B1.below hb3;replace B2:=B2.below hb3
 replace hbW:Below w.heap.size w u3:=hbW.trans (hb3.mono hbW.size)
 clear hb3 hr4 hr5 hv5 ht5 p1 p2 p3 hy rg;obtain⟨p1,p2,p3,_⟩:=B1.cells;obtain⟨q1,q2,q3,q4,q5,q6⟩:=B2.cells
 have hs:=B2.lt
 have hF:=zfw (n:=n) (xs:=xs) (ys:=ys) y0 ht2 ht4 (by rw[hv2,hv1]) (by rw[hv4,hv1])
 have lp:ps.length<=k:=by
  refine zah ht2 ?_
  have h1:=V_lt hx0
  have h2:V ps<=V xs:=by rw[hv2];exact Nat.div_le_self _ _
  have h3:4294967296 ^ xs.length<=4294967296 ^ k:=Nat.pow_le_pow_right (by decide) lx
  omega
 have lq:qs.length<=k:=by
  refine zah ht4 ?_
  have h1:=V_lt hy0
  have h2:V qs<=V ys:=by rw[hv4];exact Nat.div_le_self _ _
  have h3:4294967296 ^ ys.length<=4294967296 ^ k:=Nat.pow_le_pow_right (by decide) ly
  omega
 have fin:∀(m:Bool),m=(n&&decide (0<ps.length))->∀(U:World),(∀a c xs,Rd u3 a c xs->Rd U a c xs)->Fr U (.agg #[.bool m,.slice a2 ps.length c2,.slice a4 qs.length c4]) k (qv n xs ys):=by
  rintro m rfl U hU
  exact⟨_,ps,qs,⟨_,_,_,_,rfl,hU _ _ _ rp,hU _ _ _ rq⟩,hF.1,lp,lq,hF.2⟩
 clear hF
 cases n with
 | false =>
  go_wp2
  refine ret3 (v:=.agg #[.bool false,.slice a2 ps.length c2,.slice a4 qs.length c4]) B2 rfl (fun U hU=>by obtain⟨r1,r2,r3,_⟩:=hU.cells;simp[results,Tryz.results112,go_sem,r1,r2,r3]) (fun U hU hK=>⟨_,rfl,fin _ rfl U hK,hU _ _ hbW (by omega)⟩)
 | true =>
  go_wp2
  refine ret3 (v:=.agg #[.bool (decide (0<ps.length)),.slice a2 ps.length c2,.slice a4 qs.length c4]) B2 rfl (fun U hU=>by obtain⟨r1,r2,r3,_⟩:=hU.cells;simp[results,Tryz.results112,go_sem,r1,r2,r3]) (fun U hU hK=>⟨_,rfl,fin _ (by simp) U hK,hU _ _ hbW (by omega)⟩)
theorem zoj(z:Int):sg (decide (z<0)) z.natAbs=z:=by
 unfold sg
 by_cases h:z<0
 . rw[if_pos (by simpa using h)];omega
 . rw[if_neg (by simpa using h)];omega
theorem zqx{z:Int}{xs ys:List Nat}(hx:V xs=z.natAbs)(hy:V ys=1)(tx:Tr xs)(ty:Tr ys):Fmd (decide (z<0)) xs ys/\qv (decide (z<0)) xs ys=(z:Rat):=by
 refine⟨⟨tx,ty,?_,?_,by rw[hy];simp⟩,?_⟩
 . rintro rfl;simp[V]at hy
 . rintro ⟨h1,rfl⟩;simp[V]at h1 hx;omega
 . unfold qv;rw[hx,hy,zoj];exact Rat.mkRat_one z
theorem zbh{xs:List Nat}(t:Tr xs)(h:V xs<18446744073709551616):xs.length<=2:=zah t h
theorem zay(z:Int)(w:World)(h1:-9223372036854775808<=z)(h2:z<9223372036854775808) :
 Calls Tryz.prog 80 #[.int .i64 z] w fun e w'=>∃v',e=.returned v'/\Fr w' v' 2 (z:Rat)/\Below w.heap.size w w':=by
 go_enter Tryz.func80,Tryz.ntmps80
 go_wp2_with fail
 refine(zj5 z _ h1 h2).mono ?_
 rintro e u ⟨rfl,rfl⟩
 go_wp2_with fail
 refine(zdu z.natAbs _ (by omega)).mono ?_
 rintro e u1 ⟨a1,c1,xs,rfl,hv1,ht1,hr1,hb1⟩
 obtain⟨B1,hbW⟩:=zbr hb1
 have rx:=hr1.rd
 clear hr1 hb1
 go_wp2_with fail
 refine(zdu 1 _ (by omega)).mono ?_
 rintro e u2 ⟨a2,c2,ys,rfl,hv2,ht2,hr2,hb2⟩
 have ry:=hr2.rd
 replace rx:=rx.below hb2;replace B1:=B1.below hb2
 replace hbW:Below w.heap.size w u2:=hbW.trans (hb2.mono hbW.size)
 clear hr2 hb2;obtain⟨q1,q2,q3,q4,q5,q6⟩:=B1.cells
 have hs:=B1.lt
 go_wp2
 have hF:=zqx hv1 hv2 ht1 ht2
 refine ret3 (v:=.agg #[.bool (decide (z<0)),.slice a1 xs.length c1,.slice a2 ys.length c2]) B1 rfl (fun U hU=>by obtain⟨r1,r2,r3,_⟩:=hU.cells;simp[results,Tryz.results80,go_sem,r1,r2,r3]) (fun U hU hK=>⟨_,rfl,⟨_,_,_,⟨_,_,_,_,rfl,hK _ _ _ rx,hK _ _ _ ry⟩,hF.1,zbh ht1 (by omega),zbh ht2 (by omega),hF.2⟩,hU _ _ hbW (by omega)⟩)
theorem zbt(k:Nat)(q:Rat)(v:Value)(w:World)(h:Ct w v k q)(hk:k<=400000000)(hk2:2<=k) :
 Calls Tryz.prog 111 #[v] w fun e w'=>∃v',e=.returned v'/\Fr w' v' k q/\Below w.heap.size w w':=by
 obtain⟨n,xs,ys,⟨a,c,a',c',rfl,hx,hy⟩,lx,ly,hq⟩:=h
 have HQ:Hid (q=if Fmd n xs ys then qv n xs ys else 0):=hq
 clear hq
 go_enter Tryz.func111,Tryz.ntmps111
 go_wp2_with fail
 refine(znp _ _ _ _ _ _ _ _ (hx.below (al2 _ _)) (hy.below (al2 _ _)) (by omega) (by omega)).mono ?_
 rintro e u1 ⟨rfl,hb1⟩
 replace hx:=(hx.below (al2 _ _)).below hb1
 replace hy:=(hy.below (al2 _ _)).below hb1
 obtain⟨B1,B2,hbW⟩:=zmj hb1
 obtain⟨p1,p2,p3,_⟩:=B1.cells;obtain⟨q1,q2,q3,q4,q5,q6⟩:=B2.cells
 have hs:=B2.lt
 clear hb1
 by_cases hf:Fmd n xs ys
 . have e1:decide (Fmd n xs ys)=true:=decide_eq_true hf
   rw[e1];clear e1;go_wp2
   refine ret3 (v:=.agg #[.bool n,.slice a xs.length c,.slice a' ys.length c']) B2 rfl (fun U hU=>by obtain⟨r1,r2,r3,_⟩:=hU.cells;simp[results,Tryz.results111,go_sem,r1,r2,r3]) (fun U hU hK=>⟨_,rfl,⟨_,_,_,⟨_,_,_,_,rfl,hK _ _ _ hx,hK _ _ _ hy⟩,hf,lx,ly,by rw[HQ.out,if_pos hf]⟩,hU _ _ hbW (by omega)⟩)
 . have e1:decide (Fmd n xs ys)=false:=decide_eq_false hf
   rw[e1];clear e1
   go_wp2_with fail
   refine(zay 0 _ (by decide) (by decide)).mono ?_
   rintro e u2 ⟨v2,rfl,hF,hb2⟩;replace B2:=B2.below hb2
   replace hbW:Below w.heap.size w u2:=hbW.trans (hb2.mono hbW.size)
   clear q1 q2 q3 q4 q5 q6;obtain⟨q1,q2,q3,q4,q5,q6⟩:=B2.cells
   have hs':=B2.lt
   obtain⟨n',xs',ys',⟨b,d,b',d',rfl,hx',hy'⟩,hf',lx',ly',he⟩:=hF;go_wp2
   refine ret3 (v:=.agg #[.bool n',.slice b xs'.length d,.slice b' ys'.length d']) B2 rfl (fun U hU=>by obtain⟨r1,r2,r3,_⟩:=hU.cells;simp[results,Tryz.results111,go_sem,r1,r2,r3]) (fun U hU hK=>⟨_,rfl,⟨_,_,_,⟨_,_,_,_,rfl,hK _ _ _ hx',hK _ _ _ hy'⟩,hf',by omega,by omega,by rw[HQ.out,if_neg hf,he];rfl⟩,hU _ _ hbW (by omega)⟩)
theorem zt2(n m:Bool)(a b:Nat):sg n a*sg m b=sg (!(n==m)) (a*b):=by
 cases n <;> cases m <;> simp[sg] <;> grind
theorem zo3{z d:Int}{xs ys:List Nat}(hx:V xs=z.natAbs)(hy:V ys=d.natAbs)(hd:d≠0):qv (!(decide (z<0)==decide (d<0))) xs ys=(z:Rat)/(d:Rat):=by
 unfold qv
 rw[hx,hy,<-Rat.divInt_ofNat,<-Rat.divInt_eq_div,Rat.divInt_eq_divInt_iff (by omega) hd]
 have e:sg (!(decide (z<0)==decide (d<0))) z.natAbs=sg (decide (z<0)) z.natAbs*sg (decide (d<0)) 1:=by rw[zt2,Nat.mul_one]
 rw[e,zoj,Int.mul_assoc]
 congr 1
 unfold sg
 by_cases h:d<0
 . simp[h];omega
 . simp[h];omega
theorem zlg{n m:Bool}{xs ys ps qs rs ts:List Nat}(hr:V rs=V xs*V ps)(ht:V ts=V ys*V qs):qv (!(n==m)) rs ts=qv n xs ys*qv m ps qs:=by
 unfold qv
 rw[Rat.mkRat_mul_mkRat,zt2,hr,ht]
theorem zik{n:Bool}{xs ys ps qs rs ts:List Nat}(hy:V ys≠0)(hq:V qs≠0)(hr:V rs=V xs*V qs+V ps*V ys)(ht:V ts=V ys*V qs):qv n rs ts=qv n xs ys+qv n ps qs:=by
 unfold qv
 rw[Rat.mkRat_add_mkRat _ _ hy hq,hr,ht]
 congr 1
 cases n <;> simp[sg] <;> grind
theorem zim{n m:Bool}(hnm:n≠m){xs ys ps qs rs ts:List Nat}(hy:V ys≠0)(hq:V qs≠0)(hl:V xs*V qs<V ps*V ys)(hr:V rs=V ps*V ys-V xs*V qs)(ht:V ts=V ys*V qs):qv m rs ts=qv n xs ys+qv m ps qs:=by
 unfold qv
 rw[Rat.mkRat_add_mkRat _ _ hy hq,hr,ht]
 congr 1
 cases n <;> cases m <;> simp[sg]at hnm ⊢ <;> grind
theorem zil{n m:Bool}(hnm:n≠m){xs ys ps qs rs ts:List Nat}(hy:V ys≠0)(hq:V qs≠0)(hl:¬V xs*V qs<V ps*V ys)(hr:V rs=V xs*V qs-V ps*V ys)(ht:V ts=V ys*V qs):qv n rs ts=qv n xs ys+qv m ps qs:=by
 unfold qv
 rw[Rat.mkRat_add_mkRat _ _ hy hq,hr,ht]
 congr 1
 cases n <;> cases m <;> simp[sg]at hnm ⊢ <;> grind
theorem zbv{xs:List Nat}(l:Lim xs){k:Nat}(h:xs.length<=k):V xs<4294967296 ^ k :=
 Nat.lt_of_lt_of_le (V_lt l) (Nat.pow_le_pow_right (by decide) h)
theorem zbu{xs ys zs:List Nat}(lx:Lim xs)(ly:Lim ys)(t:Tr zs){k l:Nat}(hx:xs.length<=k)(hy:ys.length<=l)(h:V zs=V xs*V ys):zs.length<=k+l:=by
 refine zah t ?_
 rw[h,Nat.pow_add]
 exact Nat.mul_lt_mul'' (zbv lx hx) (zbv ly hy)
theorem zc9{xs ys zs:List Nat}(lx:Lim xs)(ly:Lim ys)(t:Tr zs){k:Nat}(hx:xs.length<=k)(hy:ys.length<=k)(h:V zs<=V xs+V ys):zs.length<=k+1:=by
 refine zah t ?_
 have h1:=zbv lx hx
 have h2:=zbv ly hy
 rw[Nat.pow_succ]
 omega
theorem zls(z d:Int)(w:World)(h1:-9223372036854775808<=z)(h2:z<9223372036854775808)(h3:-9223372036854775808<=d)(h4:d<9223372036854775808) :
 Calls Tryz.prog 193 #[.int .i64 z,.int .i64 d] w fun e w'=>∃v',e=.returned v'/\Fr w' v' 2 ((z:Rat)/(d:Rat))/\Below w.heap.size w w':=by
 by_cases hd:d=0
 . subst hd
   go_enter Tryz.func193,Tryz.ntmps193
   go_wp2_with fail
   refine(zay 0 _ (by decide) (by decide)).mono ?_
   rintro e u2 ⟨v2,rfl,hF,hb2⟩
   obtain⟨B2,hbW⟩:=zbr hb2
   obtain⟨q1,q2,q3,q4,q5,q6⟩:=B2.cells
   have hs':=B2.lt
   obtain⟨n',xs',ys',⟨b,d,b',d',rfl,hx',hy'⟩,hf',lx',ly',he⟩:=hF;clear hb2;go_wp2
   refine ret3 (v:=.agg #[.bool n',.slice b xs'.length d,.slice b' ys'.length d']) B2 rfl (fun U hU=>by obtain⟨r1,r2,r3,_⟩:=hU.cells;simp[results,Tryz.results193,go_sem,r1,r2,r3]) (fun U hU hK=>⟨_,rfl,⟨_,_,_,⟨_,_,_,_,rfl,hK _ _ _ hx',hK _ _ _ hy'⟩,hf',by omega,by omega,by rw[he];simp[Rat.div_def]⟩,hU _ _ hbW (by omega)⟩)
 . have hd0:(d==0)=false:=beq_eq_false_iff_ne.2 hd
   go_enter Tryz.func193,Tryz.ntmps193
   go_wp2_with fail
   refine(zj5 z _ h1 h2).mono ?_
   rintro e u ⟨rfl,rfl⟩
   go_wp2_with fail
   refine(zdu z.natAbs _ (by omega)).mono ?_
   rintro e u1 ⟨a1,c1,xs,rfl,hv1,ht1,hr1,hb1⟩
   obtain⟨B1,hbW⟩:=zbr hb1
   have rx:=hr1.rd
   clear hr1 hb1
   go_wp2_with fail
   refine(zj5 d _ h3 h4).mono ?_
   rintro e u ⟨rfl,rfl⟩
   go_wp2_with fail
   refine(zdu d.natAbs _ (by omega)).mono ?_
   rintro e u2 ⟨a2,c2,ys,rfl,hv2,ht2,hr2,hb2⟩
   have ry:=hr2.rd
   replace rx:=rx.below hb2;replace B1:=B1.below hb2
   replace hbW:Below w.heap.size w u2:=hbW.trans (hb2.mono hbW.size)
   clear hr2 hb2
   have hL:Lo u2 (.agg #[.bool (!(decide (z<0)==decide (d<0))),.slice a1 xs.length c1,.slice a2 ys.length c2]) 2 ((z:Rat)/(d:Rat)) :=
    ⟨_,_,_,⟨_,_,_,_,rfl,rx,ry⟩,ht1,ht2,by omega,zbh ht1 (by omega),zbh ht2 (by omega),zo3 hv1 hv2 hd⟩
   go_wp2_with fail
   refine(zdb 2 _ _ _ hL (by decide)).mono ?_
   rintro e u3 ⟨v3,rfl,hF,hb3⟩;replace B1:=B1.below hb3
   replace hbW:Below w.heap.size w u3:=hbW.trans (hb3.mono hbW.size)
   obtain⟨q1,q2,q3,q4,q5,q6⟩:=B1.cells
   have hs':=B1.lt
   obtain⟨n',xs',ys',⟨b,d,b',d',rfl,hx',hy'⟩,hf',lx',ly',he⟩:=hF;clear hb3 hL rx ry;go_wp2
   refine ret3 (v:=.agg #[.bool n',.slice b xs'.length d,.slice b' ys'.length d']) B1 rfl (fun U hU=>by obtain⟨r1,r2,r3,_⟩:=hU.cells;simp[results,Tryz.results193,go_sem,r1,r2,r3]) (fun U hU hK=>⟨_,rfl,⟨_,_,_,⟨_,_,_,_,rfl,hK _ _ _ hx',hK _ _ _ hy'⟩,hf',by omega,by omega,he⟩,hU _ _ hbW (by omega)⟩)
theorem zn5(k l:Nat)(q r:Rat)(v v':Value)(w:World)(h:Lo w v k q)(h':Lo w v' l r)(hk:k<=100000000)(hl:l<=100000000) :
 Calls Tryz.prog 152 #[v,v'] w fun e w'=>∃v',e=.returned v'/\Lo w' v' (k+l) (q*r)/\Below w.heap.size w w':=by
 obtain⟨n,xs,ys,⟨a,c,a',c',rfl,hx,hy⟩,tx,ty,y0,lx,ly,rfl⟩:=h;obtain⟨m,ps,qs,⟨b,d,b',d',rfl,hp,hq⟩,tp,tq,q0,lp,lq,rfl⟩:=h'
 have lx0:=hx.lim
 have ly0:=hy.lim
 have lp0:=hp.lim
 have lq0:=hq.lim
 go_enter Tryz.func152,Tryz.ntmps152
 go_wp2_with fail
 obtain⟨W,hW,B1,B2,B3,hbW⟩:=zmb 96 96 96 w (.bool n) (.slice a xs.length c) (.slice a' ys.length c') (.bool m) (.slice b ps.length d) (.slice b' qs.length d') (.bool false) (.slice none 0 0) (.slice none 0 0)
 rw[<-hW];clear hW;replace hx:=hx.below hbW;replace hy:=hy.below hbW;replace hp:=hp.below hbW;replace hq:=hq.below hbW;obtain⟨p1,p2,p3,_⟩:=B1.cells;obtain⟨p4,p5,p6,_⟩:=B2.cells
 go_region_held3 (fun u=>u.cell? ⟨w.heap.size,0,none⟩=some (.bool n)/\u.cell? ⟨w.heap.size,1,none⟩=some (.slice a xs.length c)/\u.cell? ⟨w.heap.size,2,none⟩=some (.slice a' ys.length c')/\u.cell? ⟨w.heap.size+1,0,none⟩=some (.bool m)/\u.cell? ⟨w.heap.size+1,1,none⟩=some (.slice b ps.length d)/\u.cell? ⟨w.heap.size+1,2,none⟩=some (.slice b' qs.length d')) (first | (go_keep;done) | (refine⟨(zad (by omega)).trans p1,(zad (by omega)).trans p2,(zad (by omega)).trans p3,(zad (by omega)).trans p4,(zad (by omega)).trans p5,(zad (by omega)).trans p6⟩))
  (first
   | (go_at_call_of 144 (Value.slice a xs.length c)
      refine(zfn _ _ _ _ _ _ _ (hx.below Below.drew1) (hp.below Below.drew1) ?_ ?_).mono ?_
      . omega
      . omega
      rintro e u1 ⟨a1,c1,rs,rfl,hv1,ht1,hr1,hb1⟩
      have zcf:Below W.heap.size W u1:=Below.drew1.trans hb1
      replace hy:=hy.below zcf
      replace hq:=hq.below zcf
      replace B1:=B1.below zcf
      replace B2:=B2.below zcf
      replace B3:=B3.below zcf
      replace hbW:Below w.heap.size w u1:=hbW.trans (zcf.mono hbW.size)
      have rr:=hr1.rd
      clear hr1 hb1 zcf hx hp p1 p2 p3 p4 p5 p6;obtain⟨p1,p2,p3,_⟩:=B1.cells
      obtain⟨p4,p5,p6,_⟩:=B2.cells)
   | (go_at_call_of 144 (Value.slice a' ys.length c')
      refine(zfn _ _ _ _ _ _ _ hy hq ?_ ?_).mono ?_
      . omega
      . omega
      rintro e u2 ⟨a2,c2,ts,rfl,hv2,ht2,hr2,hb2⟩
      have rt:=hr2.rd
      replace rr:=rr.below hb2;replace B1:=B1.below hb2;replace B2:=B2.below hb2;replace B3:=B3.below hb2
      replace hbW:Below w.heap.size w u2:=hbW.trans (hb2.mono hbW.size)
      clear hr2 hb2 hy hq p1 p2 p3 p4 p5 p6;obtain⟨p1,p2,p3,_⟩:=B1.cells;obtain⟨p4,p5,p6,_⟩:=B2.cells;obtain⟨q1,q2,q3,q4,q5,q6⟩:=B3.cells
      have hs:=B3.lt))
 go_wp2
 refine ret3 (v:=.agg #[.bool (!(n==m)),.slice a1 rs.length c1,.slice a2 ts.length c2]) B3 rfl (fun U hU=>by obtain⟨r1,r2,r3,_⟩:=hU.cells;simp[results,Tryz.results152,go_sem,r1,r2,r3]) (fun U hU hK=>⟨_,rfl,⟨_,_,_,⟨_,_,_,_,rfl,hK _ _ _ rr,hK _ _ _ rt⟩,ht1,ht2,?_,?_,?_,?_⟩,hU _ _ hbW (by omega)⟩)
 . rw[hv2];exact Nat.mul_ne_zero y0 q0
 . exact zbu lx0 lp0 ht1 lx lp hv1
 . exact zbu ly0 lq0 ht2 ly lq hv2
 . exact zlg hv1 hv2
theorem zll(k l:Nat)(q r:Rat)(v v':Value)(w:World)(h:Lo w v k q)(h':Lo w v' l r)(hk:k<=100000000)(hl:l<=100000000) :
 Calls Tryz.prog 110 #[v,v'] w fun e w'=>∃v',e=.returned v'/\Lo w' v' (k+l+1) (q+r)/\Below w.heap.size w w':=by
 obtain⟨n,xs,ys,⟨a,c,a',c',rfl,hx,hy⟩,tx,ty,y0,lx,ly,rfl⟩:=h;obtain⟨m,ps,qs,⟨b,d,b',d',rfl,hp,hq⟩,tp,tq,q0,lp,lq,rfl⟩:=h'
 have lx0:=hx.lim
 have ly0:=hy.lim
 have lp0:=hp.lim
 have lq0:=hq.lim
 go_enter Tryz.func110,Tryz.ntmps110
 go_wp2_with fail
 obtain⟨W,hW,B1,B2,B3,hbW⟩:=zmb 96 96 96 w (.bool n) (.slice a xs.length c) (.slice a' ys.length c') (.bool m) (.slice b ps.length d) (.slice b' qs.length d') (.bool false) (.slice none 0 0) (.slice none 0 0)
 rw[<-hW];clear hW;replace hx:=hx.below hbW;replace hy:=hy.below hbW;replace hp:=hp.below hbW;replace hq:=hq.below hbW;obtain⟨p1,p2,p3,_⟩:=B1.cells;obtain⟨p4,p5,p6,_⟩:=B2.cells
 go_region_held3 (fun u=>u.cell? ⟨w.heap.size,0,none⟩=some (.bool n)/\u.cell? ⟨w.heap.size,1,none⟩=some (.slice a xs.length c)/\u.cell? ⟨w.heap.size,2,none⟩=some (.slice a' ys.length c')/\u.cell? ⟨w.heap.size+1,0,none⟩=some (.bool m)/\u.cell? ⟨w.heap.size+1,1,none⟩=some (.slice b ps.length d)/\u.cell? ⟨w.heap.size+1,2,none⟩=some (.slice b' qs.length d')) (first | (go_keep;done) | (refine⟨(zad (by omega)).trans p1,(zad (by omega)).trans p2,(zad (by omega)).trans p3,(zad (by omega)).trans p4,(zad (by omega)).trans p5,(zad (by omega)).trans p6⟩))
  (first
   | (go_at_call_of 144 (Value.slice a xs.length c)
      refine(zfn _ _ _ _ _ _ _ (hx.below Below.drew1) (hq.below Below.drew1) ?_ ?_).mono ?_
      . omega
      . omega
      rintro e u1 ⟨a1,c1,zs,rfl,hv1,ht1,hr1,hb1⟩
      have zcf:Below W.heap.size W u1:=Below.drew1.trans hb1
      replace hy:=hy.below zcf
      replace hq:=hq.below zcf
      replace hp:=hp.below zcf
      replace B1:=B1.below zcf
      replace B2:=B2.below zcf
      replace B3:=B3.below zcf
      replace hbW:Below w.heap.size w u1:=hbW.trans (zcf.mono hbW.size)
      have ra:=hr1.rd
      clear hr1 hb1 zcf hx p1 p2 p3 p4 p5 p6;obtain⟨p1,p2,p3,_⟩:=B1.cells
      obtain⟨p4,p5,p6,_⟩:=B2.cells)
   | (go_at_call_of 144 (Value.slice b ps.length d)
      refine(zfn _ _ _ _ _ _ _ hp hy ?_ ?_).mono ?_
      . omega
      . omega
      rintro e u2 ⟨a2,c2,bs,rfl,hv2,ht2,hr2,hb2⟩
      have rb:=hr2.rd
      replace ra:=ra.below hb2;replace hy:=hy.below hb2;replace hq:=hq.below hb2;replace B1:=B1.below hb2;replace B2:=B2.below hb2;replace B3:=B3.below hb2
      replace hbW:Below w.heap.size w u2:=hbW.trans (hb2.mono hbW.size)
      clear hr2 hb2 hp p1 p2 p3 p4 p5 p6;obtain⟨p1,p2,p3,_⟩:=B1.cells
      obtain⟨p4,p5,p6,_⟩:=B2.cells))
 go_wp2_with fail
 refine(zfn _ _ _ _ _ _ _ hy hq (by omega) (by omega)).mono ?_
 rintro e u3 ⟨a3,c3,ds,rfl,hv3,ht3,hr3,hb3⟩
 have rd:=hr3.rd
 replace ra:=ra.below hb3;replace rb:=rb.below hb3;replace B1:=B1.below hb3;replace B2:=B2.below hb3;replace B3:=B3.below hb3
 replace hbW:Below w.heap.size w u3:=hbW.trans (hb3.mono hbW.size)
 clear hr3 hb3 hy hq p1 p2 p3 p4 p5 p6;obtain⟨p1,p2,p3,_⟩:=B1.cells;obtain⟨p4,p5,p6,_⟩:=B2.cells
 have d0:V ds≠0:=by rw[hv3];exact Nat.mul_ne_zero y0 q0
 have ld:ds.length<=k+l:=zbu ly0 lq0 ht3 ly lq hv3
 have la:zs.length<=k+l:=zbu lx0 lq0 ht1 lx lq hv1
 have lb:bs.length<=k+l:=by have:=zbu lp0 ly0 ht2 lp ly hv2;omega
 by_cases hnm:n=m
 . subst hnm
   have e0:(n==n)=true:=by simp
   go_wp2_with fail
   go_region_held3 (fun u=>u.cell? ⟨w.heap.size,0,none⟩=some (.bool n)/\u.cell? ⟨w.heap.size,1,none⟩=some (.slice a xs.length c)/\u.cell? ⟨w.heap.size,2,none⟩=some (.slice a' ys.length c')/\u.cell? ⟨w.heap.size+1,0,none⟩=some (.bool n)/\u.cell? ⟨w.heap.size+1,1,none⟩=some (.slice b ps.length d)/\u.cell? ⟨w.heap.size+1,2,none⟩=some (.slice b' qs.length d')) (first | (go_keep;done) | (refine⟨(zad (by omega)).trans p1,(zad (by omega)).trans p2,(zad (by omega)).trans p3,(zad (by omega)).trans p4,(zad (by omega)).trans p5,(zad (by omega)).trans p6⟩))
    (first
     | (go_at_call 143
        refine(zrp _ _ _ _ _ _ _ (ra.below Below.drew1) (rb.below Below.drew1) ?_ ?_).mono ?_
        . omega
        . omega
        rintro e u5 ⟨a4,c4,rs,rfl,hv4,ht4,hr4,hb4⟩
        have rr:=hr4.rd
        have lr:rs.length<=k+l+1:=zc9 ra.lim rb.lim ht4 la lb (by omega)
        replace hb4:Below u3.heap.size u3 u5:=Below.drew1.trans hb4
        replace rd:=rd.below hb4;replace B1:=B1.below hb4;replace B2:=B2.below hb4;replace B3:=B3.below hb4
        replace hbW:Below w.heap.size w u5:=hbW.trans (hb4.mono hbW.size)
        clear hr4 hb4 p1 p2 p3 p4 p5 p6;obtain⟨p1,p2,p3,_⟩:=B1.cells;obtain⟨p4,p5,p6,_⟩:=B2.cells;obtain⟨q1,q2,q3,q4,q5,q6⟩:=B3.cells
        have hs:=B3.lt))
   go_wp2
   refine ret3 (v:=.agg #[.bool n,.slice a4 rs.length c4,.slice a3 ds.length c3]) B3 rfl (fun U hU=>by obtain⟨r1,r2,r3,_⟩:=hU.cells;simp[results,Tryz.results110,go_sem,r1,r2,r3]) (fun U hU hK=>⟨_,rfl,⟨_,_,_,⟨_,_,_,_,rfl,hK _ _ _ rr,hK _ _ _ rd⟩,ht4,ht3,d0,lr,by omega,?_⟩,hU _ _ hbW (by omega)⟩)
   exact zik y0 q0 (by rw[hv4,hv1,hv2]) hv3
 . have e0:(n==m)=false:=by simpa using hnm
   go_wp2_with fail
   refine(zht _ _ _ _ _ _ _ ra rb).mono ?_
   rintro e u4 ⟨rfl,hb4⟩;replace rd:=rd.below hb4;replace ra:=ra.below hb4;replace rb:=rb.below hb4;replace B1:=B1.below hb4;replace B2:=B2.below hb4;replace B3:=B3.below hb4
   replace hbW:Below w.heap.size w u4:=hbW.trans (hb4.mono hbW.size)
   clear hb4 p1 p2 p3 p4 p5 p6;obtain⟨p1,p2,p3,_⟩:=B1.cells;obtain⟨p4,p5,p6,_⟩:=B2.cells
   by_cases hlt:V zs<V bs
   . have ec:cmpN (V zs) (V bs)=-1:=by unfold cmpN;rw[if_pos hlt]
     rw[ec];clear ec
     go_wp2_with fail
     go_region_held3 (fun u=>u.cell? ⟨w.heap.size,0,none⟩=some (.bool n)/\u.cell? ⟨w.heap.size,1,none⟩=some (.slice a xs.length c)/\u.cell? ⟨w.heap.size,2,none⟩=some (.slice a' ys.length c')/\u.cell? ⟨w.heap.size+1,0,none⟩=some (.bool m)/\u.cell? ⟨w.heap.size+1,1,none⟩=some (.slice b ps.length d)/\u.cell? ⟨w.heap.size+1,2,none⟩=some (.slice b' qs.length d')) (first | (go_keep;done) | (refine⟨(zad (by omega)).trans p1,(zad (by omega)).trans p2,(zad (by omega)).trans p3,(zad (by omega)).trans p4,(zad (by omega)).trans p5,(zad (by omega)).trans p6⟩))
      (first
       | (go_at_call 146
          refine(zn9 _ _ _ _ _ _ _ (rb.below Below.drew1) (ra.below Below.drew1) ?_ ?_).mono ?_
          . omega
          . omega
          rintro e u5 ⟨a4,c4,rs,rfl,hv4,ht4,hr4,hb4⟩
          have rr:=hr4.rd
          have lr:rs.length<=k+l+1:=zc9 ra.lim rb.lim ht4 la lb (by omega)
          replace hb4:Below u4.heap.size u4 u5:=Below.drew1.trans hb4
          replace rd:=rd.below hb4;replace B1:=B1.below hb4;replace B2:=B2.below hb4;replace B3:=B3.below hb4
          replace hbW:Below w.heap.size w u5:=hbW.trans (hb4.mono hbW.size)
          clear hr4 hb4 p1 p2 p3 p4 p5 p6;obtain⟨p1,p2,p3,_⟩:=B1.cells;obtain⟨p4,p5,p6,_⟩:=B2.cells;obtain⟨q1,q2,q3,q4,q5,q6⟩:=B3.cells
          have hs:=B3.lt))
     go_wp2
     refine ret3 (v:=.agg #[.bool m,.slice a4 rs.length c4,.slice a3 ds.length c3]) B3 rfl (fun U hU=>by obtain⟨r1,r2,r3,_⟩:=hU.cells;simp[results,Tryz.results110,go_sem,r1,r2,r3]) (fun U hU hK=>⟨_,rfl,⟨_,_,_,⟨_,_,_,_,rfl,hK _ _ _ rr,hK _ _ _ rd⟩,ht4,ht3,d0,lr,by omega,?_⟩,hU _ _ hbW (by omega)⟩)
     exact zim hnm y0 q0 (by rw[<-hv1,<-hv2];exact hlt) (by rw[hv4,hv1,hv2]) hv3
   . have ec:¬cmpN (V zs) (V bs)<0:=by unfold cmpN;rw[if_neg hlt];split <;> decide
     generalize cmpN (V zs) (V bs)=cc at ec ⊢
     go_wp2_with fail
     go_region_held3 (fun u=>u.cell? ⟨w.heap.size,0,none⟩=some (.bool n)/\u.cell? ⟨w.heap.size,1,none⟩=some (.slice a xs.length c)/\u.cell? ⟨w.heap.size,2,none⟩=some (.slice a' ys.length c')/\u.cell? ⟨w.heap.size+1,0,none⟩=some (.bool m)/\u.cell? ⟨w.heap.size+1,1,none⟩=some (.slice b ps.length d)/\u.cell? ⟨w.heap.size+1,2,none⟩=some (.slice b' qs.length d')) (first | (go_keep;done) | (refine⟨(zad (by omega)).trans p1,(zad (by omega)).trans p2,(zad (by omega)).trans p3,(zad (by omega)).trans p4,(zad (by omega)).trans p5,(zad (by omega)).trans p6⟩))
      (first
       | (go_at_call 146
          refine(zn9 _ _ _ _ _ _ _ (ra.below Below.drew1) (rb.below Below.drew1) ?_ ?_).mono ?_
          . omega
          . omega
          rintro e u5 ⟨a4,c4,rs,rfl,hv4,ht4,hr4,hb4⟩
          have rr:=hr4.rd
          have lr:rs.length<=k+l+1:=zc9 ra.lim rb.lim ht4 la lb (by omega)
          replace hb4:Below u4.heap.size u4 u5:=Below.drew1.trans hb4
          replace rd:=rd.below hb4;replace B1:=B1.below hb4;replace B2:=B2.below hb4;replace B3:=B3.below hb4
          replace hbW:Below w.heap.size w u5:=hbW.trans (hb4.mono hbW.size)
          clear hr4 hb4 p1 p2 p3 p4 p5 p6;obtain⟨p1,p2,p3,_⟩:=B1.cells;obtain⟨p4,p5,p6,_⟩:=B2.cells;obtain⟨q1,q2,q3,q4,q5,q6⟩:=B3.cells
          have hs:=B3.lt))
     go_wp2
     refine ret3 (v:=.agg #[.bool n,.slice a4 rs.length c4,.slice a3 ds.length c3]) B3 rfl (fun U hU=>by obtain⟨r1,r2,r3,_⟩:=hU.cells;simp[results,Tryz.results110,go_sem,r1,r2,r3]) (fun U hU hK=>⟨_,rfl,⟨_,_,_,⟨_,_,_,_,rfl,hK _ _ _ rr,hK _ _ _ rd⟩,ht4,ht3,d0,lr,by omega,?_⟩,hU _ _ hbW (by omega)⟩)
     exact zil hnm y0 q0 (by rw[<-hv1,<-hv2];exact hlt) (by rw[hv4,hv1,hv2]) hv3
def sgnQ(q:Rat):Int:=if q=0 then 0 else if q<0 then -1 else 1
theorem zxx{n:Bool}{xs ys:List Nat}(tx:Tr xs)(hy:V ys≠0):sgnQ (qv n xs ys)=if xs.length=0 then 0 else if n=true then -1 else 1:=by
 have h0:qv n xs ys=0↔xs.length=0:=by
  unfold qv
  rw[Rat.mkRat_eq_zero hy]
  refine⟨fun h=>?_,fun h=>?_⟩
  . have:=congrArg Int.natAbs h
    rw[zoi]at this
    rw[zb7 tx this];rfl
  . rw[List.length_eq_zero_iff.1 h];exact zoh n
 have h1:xs.length≠0->(qv n xs ys<0↔n=true):=by
  intro hx
  have hv:V xs≠0:=zh0 tx fun h=>hx (by rw[h];rfl)
  have key:0<=qv n xs ys↔0<=sg n (V xs):=by
   unfold qv
   rw[<-Rat.divInt_ofNat]
   exact Rat.divInt_nonneg_iff_of_pos_right (by omega)
  rw[<-Rat.not_le,key]
  cases n <;> simp[sg] <;> omega
 unfold sgnQ
 by_cases hx:xs.length=0
 . rw[if_pos (h0.2 hx),if_pos hx]
 . rw[if_neg (fun h=>hx (h0.1 h)),if_neg hx]
   by_cases hn:n=true
   . rw[if_pos ((h1 hx).2 hn),if_pos hn]
   . rw[if_neg (fun h=>hn ((h1 hx).1 h)),if_neg hn]
theorem zr6(k:Nat)(q:Rat)(v:Value)(w:World)(h:Lo w v k q)(hk:k<=400000000) :
 Calls Tryz.prog 151 #[v] w fun e w'=>e=.returned (.int .i64 (sgnQ q))/\Below w.heap.size w w':=by
 obtain⟨n,xs,ys,⟨a,c,a',c',rfl,hx,hy⟩,tx,ty,y0,lx,ly,rfl⟩:=h
 have e:=zxx (n:=n) tx y0
 have k1:xs.length<=400000000:=by omega
 generalize sgnQ (qv n xs ys)=sq at e
 by_cases h0:xs.length=0
 . rw[if_pos h0]at e
   subst e;rw[h0]
   go_enter Tryz.func151,Tryz.ntmps151
   go_wp2
   go_ret
   exact⟨rfl,al1 _⟩
 . rw[if_neg h0]at e
   have g1:((xs.length:Int)==0)=false:=beq_eq_false_iff_ne.2 (by omega)
   cases n with
   | true =>
    simp at e
    subst e
    go_enter Tryz.func151,Tryz.ntmps151
    go_wp2
    go_ret
    exact⟨rfl,al1 _⟩
   | false =>
    simp at e
    subst e
    go_enter Tryz.func151,Tryz.ntmps151
    go_wp2
    go_ret
    exact⟨rfl,al1 _⟩
