import Derived.Test.YtkmcodofnckdmaaGreatZK2
import Derived.Deep.LoopGhost
import Derived.LoopN
set_option maxHeartbeats 2000000
set_option maxRecDepth 100000
set_option linter.unusedSimpArgs false
set_option linter.unusedVariables false
namespace Go.Proofs.YtkmcodofnckdmaaGreat
open Tryz Go.RowKit
def remN(x y:Nat):Nat:=if y=0 then 0 else x%y
theorem zng(x:Nat){y:Nat}(h:0<y):remN x y=x%y:=by unfold remN;rw[if_neg (by omega)]
theorem V_one{ys:LN}(h:ys.length=1):V ys=ys.getD 0 0:=by
 match ys,h with
 | [y],_=>simp[V]
theorem zvr(x y:Nat):Nat.gcd y (x%y)=Nat.gcd x y:=by
 rw[Nat.gcd_comm x y,Nat.gcd_rec y x,Nat.gcd_comm]
theorem zyo{a b:Int}(h:a=b):Ending.returned (.int .u64 a)=.returned (.int .u64 b):=by rw[h]
theorem zvq(x y:Nat)(w:World)(hx:x<18446744073709551616)(hy:y<18446744073709551616) :
 Calls Tryz.prog 262 #[.int .u64 (x:Int),.int .u64 (y:Int)] w fun e w'=>e=.returned (.int .u64 (Nat.gcd x y:Nat))/\Below w.heap.size w w':=by
 go_enter func262,ntmps262;go_wp2
 go_loopw [0,1] (fun a b wr=>∃p q:Nat,a=.int .u64 p/\b=.int .u64 q/\p<18446744073709551616/\q<18446744073709551616/\Nat.gcd p q=Nat.gcd x y/\Below w.heap.size w wr) (fun _ b _=>(intOf b).toNat)
 case atStart=>exact⟨x,y,rfl,rfl,hx,hy,rfl,Below.refl _ _⟩
 case round =>
  obtain⟨p,q,rfl,rfl,hp,hq,hg,hnx⟩:=hrel;have HG:Hid (Nat.gcd p q=Nat.gcd x y):=hg;clear hg;by_cases hq0:q=0
  . subst hq0
    go_wp2;go_ret;refine⟨zyo ?_,hnx⟩;rw[<-HG.out,Nat.gcd_zero_right]
  . have hne:((q:Int) != 0)=true:=by rw[bne_iff_ne];omega
    have hq1:(1:Int)<=(q:Int):=(by omega);have hq2:(0:Int)<=(p:Int):=(by omega);obtain⟨r,hr⟩:∃r,p%q=r:=⟨_,rfl⟩;have hri:(p:Int)%(q:Int)=(r:Int):=(by rw[<-hr];simp);have hrb:r<q:=(by rw[<-hr];exact Nat.mod_lt _ (by omega));have HG2:Hid (Nat.gcd q r=Nat.gcd x y):=(by show _=_;rw[<-hr,zvr];exact HG.out);have HRI:Hid ((p:Int)%(q:Int)=(r:Int)):=hri;clear hr;go_wp2_with fail
    go_quiet (fail)
    go_wp2;go_roundw
    case rel=>exact⟨q,r,rfl,congrArg (Value.int .u64) (by first | rfl | exact HRI.out),hq,by omega,HG2.out,below_drewN hnx _⟩
    case measure=>first | (simp[intOf];omega) | (have:=HRI.out;simp[intOf];omega)
theorem zvs(a:OA)(cap:Nat)(xs:LN)(b:OA)(cbp:Nat)(ys:LN)(w:World)(ha:Rd w a cap xs)(hb:Rd w b cbp ys)(hsX:V xs<18446744073709551616)(hsY:V ys<18446744073709551616) :
 Calls Tryz.prog 209 #[.slice a xs.length cap,.slice b ys.length cbp] w fun e w' =>
     ∃a' cap' zs,e=.returned (.slice a' zs.length cap')/\V zs=Nat.gcd (V xs) (V ys)/\Tr zs/\Rd w' a' cap' zs/\Below w.heap.size w w':=by
 go_enter func209,ntmps209;go_wp2;refine wp_loop_rounds 1 ?_;rw[rounds_succ];go_wp2_with fail
 refine(zhh _ _ _ _ ha).mono ?_;rintro e w' ⟨rfl,rfl⟩;go_wp2_with fail
 refine(zhh _ _ _ _ hb).mono ?_;rintro e w' ⟨rfl,rfl⟩;rw[zey hsY,zd4 hsY,zey hsX,zd4 hsX];have hgb:Nat.gcd (V xs) (V ys)<18446744073709551616:=by
  rcases Nat.eq_zero_or_pos (V xs)with h0|h0
  . rw[h0,Nat.gcd_zero_left];exact hsY
  . exact Nat.lt_of_le_of_lt (Nat.gcd_le_left _ h0) hsX
 have hgs:=zvq (V xs) (V ys) w hsX hsY;obtain⟨gg,hgg⟩:∃g,Nat.gcd (V xs) (V ys)=g:=⟨_,rfl⟩;have HGG:Hid (Nat.gcd (V xs) (V ys)=gg):=hgg;rw[hgg]at hgb hgs;clear hgg;go_wp2_with fail
 refine hgs.mono ?_;rintro e v1 ⟨rfl,hv1⟩;clear hgs;go_wp2_with fail
 refine(ziu gg _ hgb).mono ?_;rintro e v2 ⟨a2,c2,z2,rfl,hz2,ht2,hr2,hb2⟩;go_wp2;go_ret;exact⟨a2,c2,z2,rfl,hz2.trans HGG.out.symm,ht2,hr2.rd,hv1.trans (hb2.mono hv1.size)⟩
theorem zv3(a:OA)(cap:Nat)(xs:LN)(b:OA)(cbp:Nat)(ys:LN)(w:World)(ha:Rd w a cap xs)(hb:Rd w b cbp ys)(hla:xs.length<=400000000)(hlb:ys.length<=400000000)(hy1:(strip ys).length=1) :
 Calls Tryz.prog 202 #[.slice a xs.length cap,.slice b ys.length cbp] w fun e w' =>
     ∃a1 c1 z1 a2 c2 z2,e=.returned (.tuple #[.slice a1 z1.length c1,.slice a2 z2.length c2])/\V z1=V xs/V ys/\V z2=remN (V xs) (V ys)/\Tr z1/\Tr z2/\Res 250 w.heap.size w' a1 c1 z1/\Res 250 w.heap.size w' a2 c2 z2/\Below w.heap.size w w':=by
 have Xr:=ha.strip;have Yr:=hb.strip;have lx:=zao xs;have ly:=zao ys;have tX:=zbi xs;have tY:=zbi ys;go_enter func202,ntmps202;go_wp2_with fail
 refine(zcl a cap xs _ ha).mono ?_;rintro e w' ⟨rfl,rfl⟩;go_wp2_with fail
 refine(zcl b cbp ys _ hb).mono ?_;rintro e w' ⟨rfl,rfl⟩;clear ha hb;have HV:Hid (V (strip xs)=V xs/\V (strip ys)=V ys):=⟨zbd xs,zbd ys⟩;generalize strip xs=X at Xr lx HV tX ⊢;generalize strip ys=Y at Yr ly HV tY hy1 ⊢;have HY1:Hid (Y.length=1):=hy1;have hyl:1<=Y.length:=by omega
 clear hy1;have hx2:=Xr.cap;have hx1:=Xr.le;have hy2:=Yr.cap;have hy1:=Yr.le;unfold maxLen at hx2 hy2;have hq:((Y.length:Int)==0)=false:=beq_eq_false_iff_ne.2 (by omega);have z2s:0<V ys:=by
  rw[<-HV.out.2];rcases Nat.eq_zero_or_pos (V Y)with h|h
  . exact absurd (show Y.length=0 by rw[zmd tY h];rfl) (by omega)
  . exact h
 have HYP:Hid (0<V ys):=z2s;clear z2s;go_wp2_with fail
 refine(z0p _ _ _ _ _ _ _ Xr Yr).mono ?_;rintro e w1 ⟨rfl,hb1⟩;rw[HV.out.1,HV.out.2];have Xr1:=Xr.below hb1;have Yr1:=Yr.below hb1;have hs1:=hb1.size;clear Xr Yr;by_cases hlt:V xs<V ys
 . have hc:cmpN (V xs) (V ys)=-1:=by simp[cmpN,hlt]
   rw[hc];have HL:Hid (V xs<V ys):=hlt;clear hc hlt;go_wp2_with fail
   refine(zdx _ _ X _ (Xr1.below ((Below.refl _ _).alloc (qE _) _)) (by omega)).mono ?_;rintro e w2 ⟨a2,c2,rfl,hr2,hb2⟩;have hba:Below w.heap.size w (w1.alloc (.cells #[] 250)):=hb1.alloc hs1 _;have hbw:Below w.heap.size w w2:=hba.trans (hb2.mono hba.size);have hown:(w1.alloc (.cells #[] 250)).ownsRow w1.heap.size 250 1 (.slice (some ⟨w1.heap.size,0,none⟩) 0 0) 0 []:=World.ownsRow_made w1 #[] 0 (qE _) (qD _) rfl;have hR1:Res 250 w1.heap.size (w1.alloc (.cells #[] 250)) (some ⟨w1.heap.size,0,none⟩) 0 []:=⟨Lim.nil,hown⟩;have hR1':=hR1.below hb2;go_wp2;go_ret2;refine⟨some ⟨w1.heap.size,0,none⟩,0,[],a2,c2,strip X,rfl,?_,?_,zwr,zbi _,hR1'.mono hs1,hr2.mono hba.size,hbw⟩
   . rw[Nat.div_eq_of_lt HL.out];rfl
   . rw[zng _ HYP.out,Nat.mod_eq_of_lt HL.out,zbd,HV.out.1]
 . have hc:0<=cmpN (V xs) (V ys):=by unfold cmpN;rw[if_neg hlt];split <;> omega
   have HL:Hid (V ys<=V xs):=Nat.le_of_not_lt hlt;generalize cmpN (V xs) (V ys)=cc at hc ⊢;clear hlt;have zar:=HY1.out;have hone':((Y.length:Int)==1)=true:=beq_iff_eq.2 (by omega);obtain⟨y,hy⟩:∃y,Y.getD 0 0=y:=⟨_,rfl⟩;have hVy:V Y=y:=(by rw[V_one zar,hy]);have hyb:y<4294967296:=(by rw[<-hy];exact Yr1.lim.getD 0);have hyp:1<=y:=(by have:=HYP.out;rw[<-HV.out.2,hVy]at this;exact this);obtain⟨b1,o1,rfl,hb1lt,hcy⟩:=Yr1.fm.at (Below.refl _ _) 0 (by omega);rw[hy]at hcy;have HVY:Hid (V ys=y):=(by show _=_;rw[<-HV.out.2,hVy]);have H1:Hid (Y.length=1):=zar;have hYl1:(0:Int)<(Y.length:Int):=(by omega);clear zar hy hVy;go_wp2_with fail
   refine(zdx _ _ X _ Xr1 (by omega)).mono ?_;rintro e w2 ⟨a2,c2,rfl,hr2,hb2⟩;have hbw2:Below w.heap.size w w2:=hb1.trans (hb2.mono hs1);have hcy2:w2.cell? ⟨b1,o1+0,none⟩=some (.int .u32 (y:Int)):=(hb2.cell (p:=⟨b1,o1+0,none⟩) hb1lt).trans hcy;have hXs:strip X=X:=tX;rw[hXs]at hr2 ⊢;have hs2:=hbw2.size;rcases hr2.blk with h|⟨g,rfl,hg1,hB2⟩
   . exfalso
     have h1:=HL.out;rw[<-HV.out.1,h]at h1;have h2:=HYP.out;have h3:V []=0:=rfl;omega
   . have hsep:b1≠g:=by omega
     clear hcy;simp only[Nat.add_zero]at hcy2;go_wp2_with fail
     refine(zv2 g _ X y _ hB2 hr2.lim hyp hyb (by omega)).mono ?_;rintro e w3 ⟨cs,r,rfl,hr,hcl,lc,heq,hB3,hg3⟩;have hbw3:Below w.heap.size w w3:=hbw2.grown hg3 hs2 (fun k hk=>by cases hk;omega);have hs3:=hbw3.size;have hcc1:=hr2.rd.cap;have hcc2:=hr2.rd.le;have hrd:=hB3.rd lc 0 X.length c2 (by omega) hcc2 hcc1;rw[List.drop_zero,List.take_of_length_le (by omega)]at hrd;have hdm:V cs=V xs/y/\r=V xs%y:=by
      rw[<-HV.out.1,<-heq];exact⟨by rw[Nat.mul_comm,Nat.add_comm,Nat.add_mul_div_left _ _ (by omega),Nat.div_eq_of_lt hr,Nat.zero_add],by rw[Nat.mul_comm,Nat.add_comm,Nat.add_mul_mod_self_left,Nat.mod_eq_of_lt hr]⟩
     have HDM:Hid (V cs=V xs/y/\r=V xs%y):=hdm;have HCL:Hid (cs.length=X.length):=hcl;clear hdm heq hcl hcc1 hcc2 hr2;unfold maxLen at *;go_wp2_with fail
     refine(zwq _ _ X.length cs _ HCL.out.symm hrd (by rw[HCL.out];omega)).mono ?_;rintro e w4 ⟨a4,c4,rfl,hr4,hb4⟩;have hbw4:Below w.heap.size w w4:=hbw3.trans (hb4.mono hs3);have hs4:=hbw4.size;go_wp2_with fail
     refine(ziu r _ (by omega)).mono ?_;rintro e w5 ⟨a5,c5,z5,rfl,hv5,ht5,hr5,hb5⟩;have hbw5:Below w.heap.size w w5:=hbw4.trans (hb5.mono hs4);have hr4':=hr4.below hb5;go_wp2;go_ret2;refine⟨a4,c4,strip cs,a5,c5,z5,rfl,?_,?_,zbi _,ht5,hr4'.mono hs3,hr5.mono hs4,hbw5⟩
     . rw[zbd,HDM.out.1,HVY.out]
     . rw[zng _ HYP.out,hv5,HDM.out.2,HVY.out]
open Classical
def Fmd(n:Bool)(xs ys:LN):Prop:=Tr xs/\Tr ys/\ys≠[]/\¬(n=true/\xs=[])/\Nat.gcd (V xs) (V ys)=1
theorem z03{xs:LN}(h:xs≠[]):Tr xs↔xs.getD (xs.length-1) 0≠0:=by
 refine⟨fun t=>t.last h,fun h0=>?_⟩;have hl:0<xs.length:=List.length_pos_iff.2 h;have e:=zdi xs (xs.length-1) (by omega) h0;rw[show xs.length-1+1=xs.length by omega,List.take_length]at e;exact e
theorem zop{xs:LN}(l:Lim xs)(t:Tr xs):V xs=1↔xs=[1]:=by
 refine⟨fun h=>uniq l (by intro x hx;simp at hx;omega) t (by unfold Tr;rfl) (by rw[h];rfl),fun h=>by rw[h];rfl⟩
theorem zg4(a:OA)(cap:Nat)(xs:LN)(w:World)(h:Rd w a cap xs) :
 Calls Tryz.prog 260 #[.slice a xs.length cap] w fun e w'=>e=.returned (.bool (decide (Tr xs)))/\w=w':=by
 have k1:=h.le;have k2:=h.cap;unfold maxLen at k2;by_cases h0:xs=[]
 . subst h0
   go_enter func260,ntmps260;go_wp2;go_ret;exact⟨zch (by simp[zwr]),rfl⟩
 . have hl:0<xs.length:=List.length_pos_iff.2 h0
   obtain⟨b,off,rfl,hb,hc⟩:=h.fm.at (Below.refl _ _) (xs.length-1) (by omega);obtain⟨m,hm⟩:∃m,xs.length=m+1:=⟨xs.length-1,by omega⟩;have ht:=z03 h0;rw[hm]at ht hc k1 ⊢;simp only[Nat.add_sub_cancel]at ht hc;generalize xs.getD m 0=z at ht hc;clear h hl hm;have g1:((m:Int)+1==0)=false:=beq_eq_false_iff_ne.2 (by omega);have g2:((z:Int) != 0)=decide (Tr xs):=by
    by_cases hz:z=0
    . subst hz;simp[ht]
    . simp[ht,hz]
   go_enter func260,ntmps260;go_wp2;go_ret;exact⟨zch (by simp[g1,ht];try omega),rfl⟩
theorem zsd(a:OA)(cap:Nat)(xs:LN)(w:World)(h:Rd w a cap xs) :
 Calls Tryz.prog 261 #[.slice a xs.length cap] w fun e w'=>e=.returned (.bool (decide (xs=[1])))/\w=w':=by
 have k1:=h.le;have k2:=h.cap;unfold maxLen at k2;by_cases h0:xs.length=1
 . match xs,h0 with
   | [z],_ =>
    obtain⟨b,off,rfl,hb,hc⟩:=h.fm.at (Below.refl _ _) 0 (by simp);simp at hc;clear h h0;simp only[List.length_cons,List.length_nil];go_enter func261,ntmps261;go_wp2;go_ret;exact⟨zch (by by_cases hz:z=1 <;> simp[hz];omega),rfl⟩
 . have hx:xs≠[1]:=by intro e;rw[e]at h0;simp at h0
   have g1:((xs.length:Int)==1)=false:=beq_eq_false_iff_ne.2 (by omega);generalize xs.length=m at *;go_enter func261,ntmps261;go_wp2;go_ret;exact⟨zch (by simp[hx,h0];try omega),rfl⟩
def sg(n:Bool)(k:Nat):Int:=if n=true then -(k:Int)else (k:Int)
def qv(n:Bool)(xs ys:LN):Rat:=mkRat (sg n (V xs)) (V ys)
