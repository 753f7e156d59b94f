import Derived.Test.YtgbhidcokobmmaaGreatDoorZL30
set_option maxHeartbeats 4000000
set_option maxRecDepth 100000
set_option linter.unusedSimpArgs false
set_option linter.unusedVariables false
namespace Go.Proofs.YtgbhidcokobmmaaGreatDoor
open Go.RowKit
theorem zjs(a:Option Addr)(cap:Nat)(xs:List Nat)(w:World)(h:Rd w a cap xs)(hl:xs.length<=500000000) :
 Calls Tryz.prog 209 #[.slice a xs.length cap,.int .u32 0] w fun e w'=>∃a' cap' zs,e=.returned (.slice a' zs.length cap')/\V zs=2*V xs/\Tr zs/\Res 211 w.heap.size w' a' cap' zs/\Below w.heap.size w w':=by
 go_enter Tryz.func209,Tryz.ntmps209
 go_wp2_with fail
 refine(zds _ _ _ _ _ _ _ h h hl hl).mono ?_
 rintro e w1 ⟨a1,c1,z1,rfl,hv1,ht1,hr1,hb1⟩;go_wp2
 go_ret
 exact⟨a1,c1,z1,rfl,by omega,ht1,hr1,hb1⟩
theorem zgj{zs xs ys:List Nat}{q:Nat}(ht:Tr zs)(lx:Lim xs)(ly:Lim ys)(hv:V zs=V xs*q)(hq:q<=V ys):zs.length<=xs.length+ys.length:=by
 refine zah ht ?_
 rw[hv,Nat.pow_add]
 have h1:=V_lt lx
 have h2:=V_lt ly
 calc V xs*q<=V xs*V ys:=Nat.mul_le_mul_left _ hq
  _<4294967296 ^ xs.length*4294967296 ^ ys.length:=Nat.mul_lt_mul'' h1 h2
theorem zdq(a:Option Addr)(cap:Nat)(xs:List Nat)(b:Option Addr)(cbp:Nat)(ys:List Nat)(w:World)(ha:Rd w a cap xs)(hb:Rd w b cbp ys)(hla:xs.length<=100000000)(hlb:ys.length<=100000000) :
 Calls Tryz.prog 175 #[.slice a xs.length cap,.slice b ys.length cbp] w fun e w' =>
     ∃a' cap' zs,e=.returned (.slice a' zs.length cap')/\V zs=V xs*V ys/\Tr zs/\Res 211 w.heap.size w' a' cap' zs/\Below w.heap.size w w':=by
 go_enter Tryz.func175,Tryz.ntmps175
 go_wp2_with fail
 refine(zij _ _ _ _ (by omega)).mono ?_
 rintro e w' ⟨rfl,rfl⟩
 go_wp2
 go_loopw [5,6] (fun out i wr=>∃(k:Nat) (q:Int) (a':Option Addr) (cap':Nat) (zs:List Nat),k<=32*ys.length/\q=(k:Int)-1/\i=.int .i64 q/\out=.slice a' zs.length cap'/\Tr zs/\V zs=V xs*(V ys/2 ^ k)/\Res 211 w.heap.size wr a' cap' zs/\Below w.heap.size w wr) (fun _ i _=>(intOf i+1).toNat)
 case atStart =>
  refine⟨32*ys.length,_,none,0,[],Nat.le_refl _,?_,rfl,rfl,zcq,?_,⟨Lim.nil,World.ownsRow_nil _ _ _ _⟩,Below.refl _ _⟩
  . omega
  . rw[Nat.div_eq_of_lt (by rw[<-zgh];exact V_lt hb.lim)];rfl
 case round =>
  obtain⟨k,q,a',cap',zs,hk,hq,rfl,rfl,htr,hv,hres,hnx⟩:=hrel
  have HV:Hid (V zs=V xs*(V ys/2 ^ k)):=hv
  have hzl:=zgj htr ha.lim hb.lim hv (Nat.div_le_self _ _)
  have hsz:=hnx.size
  clear hv
  by_cases hk0:k=0
  . subst hk0
    obtain rfl:q=-1:=by omega
    clear hq;go_wp2
    go_ret
    refine⟨a',cap',zs,rfl,?_,htr,hres,hnx⟩
    rw[HV.out,Nat.pow_zero,Nat.div_one]
  . obtain⟨j,rfl⟩:∃j,k=j+1:=⟨k-1,by omega⟩
    obtain rfl:q=(j:Int):=by omega
    clear hq
    have hstep:V ys/2 ^ j=2*(V ys/2 ^ (j+1))+V ys/2 ^ j%2:=by
     rw[Nat.pow_succ,<-Nat.div_div_eq_div_mul];omega
    have HS:Hid (V ys/2 ^ j=2*(V ys/2 ^ (j+1))+V ys/2 ^ j%2):=hstep
    clear hstep
    go_wp2_with fail
    refine(zjs _ _ _ _ hres.rd (by omega)).mono ?_
    rintro e w1 ⟨a1,c1,z1,rfl,hv1,ht1,hr1,hb1⟩
    have zcf:Below w.heap.size w w1:=hnx.trans (hb1.mono hsz)
    have HV1:Hid (V z1=V xs*(2*(V ys/2 ^ (j+1)))):=by show _=_;rw[hv1,HV.out];exact Nat.mul_left_comm _ _ _
    have hz1:=zgj ht1 ha.lim hb.lim HV1.out (by have:=HS.out;have:=Nat.div_le_self (V ys) (2 ^ j);omega)
    clear hv1
    go_wp2_with fail
    refine(zlf _ _ _ _ _ (hb.below zcf) (by omega)).mono ?_
    rintro e w' ⟨rfl,rfl⟩
    rcases Nat.mod_two_eq_zero_or_one (V ys/2 ^ j)with hb0|hb0
    . rw[hb0]
      have HB:Hid (V ys/2 ^ j%2=0):=hb0
      clear hb0;go_wp2
      go_roundw
      case rel =>
       refine⟨j,_,a1,c1,z1,by omega,rfl,by go_num,rfl,ht1,?_,hr1.mono hsz,zcf⟩
       have:=HS.out;rw[HB.out,Nat.add_zero]at this
       rw[HV1.out,this]
      case measure=>simp[intOf]
    . rw[hb0]
      have HB:Hid (V ys/2 ^ j%2=1):=hb0
      clear hb0
      go_wp2_with fail
      refine(zds _ _ _ _ _ _ _ hr1.rd (ha.below zcf) (by omega) (by omega)).mono ?_
      rintro e w2 ⟨a2,c2,z2,rfl,hv2,ht2,hr2,hb2⟩
      have zwo:Below w.heap.size w w2:=zcf.trans (hb2.mono zcf.size)
      have HV2:Hid (V z2=V xs*(V ys/2 ^ j)):=by
       show _=_
       have:=HS.out;rw[HB.out]at this
       rw[hv2,HV1.out,this,Nat.mul_add];omega
      clear hv2;go_wp2
      go_roundw
      case rel=>exact⟨j,_,a2,c2,z2,by omega,rfl,by go_num,rfl,ht2,HV2.out,hr2.mono zcf.size,zwo⟩
      case measure=>simp[intOf]
theorem zcl(k l:Nat)(q r:Rat)(v v':Value)(w:World)(h:Ct w v k q)(h':Ct w v' l r)(hk:k<=1000000)(hl:l<=1000000)(hk2:2<=k)(hl2:2<=l) :
 Calls Tryz.prog 181 #[v,v'] w fun e w'=>∃v',e=.returned v'/\Fr w' v' (k+l) (q*r)/\Below w.heap.size w w':=by
 have hX:=h
 have hY:=h'
 obtain⟨n,xs,ys,⟨a,c,a',c',rfl,_,_⟩,_⟩:=h;obtain⟨m,ps,qs,⟨b,d,b',d',rfl,_,_⟩,_⟩:=h'
 go_enter Tryz.func181,Tryz.ntmps181
 go_wp2_with fail
 refine(zcu k q _ _ (hX.below (al3 _ _ _)) (by omega) hk2).mono ?_
 rintro e u1 ⟨v1,rfl,hF1,hb1⟩
 replace hY:=(hY.below (al3 _ _ _)).below hb1
 obtain⟨B1,B2,B3,hbW⟩:=zrn hb1
 clear hb1 hX;obtain⟨p1,p2,p3,p4,p5,p6⟩:=B1.cells;obtain⟨q1,q2,q3,_⟩:=B2.cells
 have hs1:=B1.lt
 obtain⟨n1,x1,y1,⟨a1,c1,b1,d1,rfl,hx1,hy1⟩,f1,l1,l1',e1⟩:=hF1
 go_wp2_with fail
 obtain⟨U,hU,B1',hbU,hK,ho⟩:=zai B1 (.bool n1) (.slice a1 x1.length c1) (.slice b1 y1.length d1)
 rw[<-hU]
 replace B2:=B2.other ho (by omega)
 replace B3:=B3.other ho (by omega)
 replace hbW:=hbU _ _ hbW (by omega)
 replace hx1:=hK _ _ _ hx1
 replace hy1:=hK _ _ _ hy1
 replace hY:=hY.keep hK
 clear hU hbU hK ho B1 p1 p2 p3 p4 p5 p6 q1 q2 q3 hs1
 refine(zcu l r _ _ hY (by omega) hl2).mono ?_
 rintro e u2 ⟨v2,rfl,hF2,hb2⟩;replace hx1:=hx1.below hb2;replace hy1:=hy1.below hb2
 replace B1':=B1'.below hb2
 replace B2:=B2.below hb2;replace B3:=B3.below hb2
 replace hbW:Below w.heap.size w u2:=hbW.trans (hb2.mono hbW.size)
 clear hb2 hY;obtain⟨n2,x2,y2,⟨a2,c2,b2,d2,rfl,hx2,hy2⟩,f2,l2,l2',e2⟩:=hF2
 have y10:=f1.den
 have y20:=f2.den
 obtain⟨p4,p5,p6,p7,p8,p9⟩:=B2.cells
 have hs2:=B2.lt
 go_wp2_with fail
 obtain⟨U,hU,B2',hbU,hK,ho⟩:=zai B2 (.bool n2) (.slice a2 x2.length c2) (.slice b2 y2.length d2)
 rw[<-hU]
 replace B1':=B1'.other ho (by omega)
 replace B3:=B3.other ho (by omega)
 replace hbW:=hbU _ _ hbW (by omega)
 replace hx1:=hK _ _ _ hx1
 replace hy1:=hK _ _ _ hy1
 replace hx2:=hK _ _ _ hx2
 replace hy2:=hK _ _ _ hy2
 clear hU hbU hK ho B2 p4 p5 p6 p7 p8 p9 hs2;obtain⟨p1,p2,p3,_⟩:=B1'.cells;obtain⟨p4,p5,p6,_⟩:=B2'.cells
 have lx1:=hx1.lim
 have ly1:=hy1.lim
 have lx2:=hx2.lim
 have ly2:=hy2.lim
 have st:Stg 0:=rfl
 go_region_held3 (fun u=>u.cell? ⟨w.heap.size,0,none⟩=some (.bool n1)/\u.cell? ⟨w.heap.size,1,none⟩=some (.slice a1 x1.length c1)/\u.cell? ⟨w.heap.size,2,none⟩=some (.slice b1 y1.length d1)/\u.cell? ⟨w.heap.size+1,0,none⟩=some (.bool n2)/\u.cell? ⟨w.heap.size+1,1,none⟩=some (.slice a2 x2.length c2)/\u.cell? ⟨w.heap.size+1,2,none⟩=some (.slice b2 y2.length d2)) (first | (go_keep;done) | (refine⟨(zad (by omega)).trans p1,(zad (by omega)).trans p2,(zad (by omega)).trans p3,(zad (by omega)).trans p4,(zad (by omega)).trans p5,(zad (by omega)).trans p6⟩))
  (first
   | (go_at_call 175
      have _sg:Stg 0:=st
      refine(zdq _ _ _ _ _ _ _ (hx1.below Below.drew1) (hx2.below Below.drew1) ?_ ?_).mono ?_
      . omega
      . omega
      rintro e um1 ⟨am1,cm1,zs1,rfl,zyn,htm1,zyq,zft⟩
      replace zft:Below U.heap.size U um1:=Below.drew1.trans zft
      replace hx1:=hx1.below zft;replace hy1:=hy1.below zft;replace hx2:=hx2.below zft;replace hy2:=hy2.below zft
      replace B1':=B1'.below zft
      replace B2':=B2'.below zft
      replace B3:=B3.below zft
      replace hbW:Below w.heap.size w um1:=hbW.trans (zft.mono hbW.size)
      have rm1:=zyq.rd
      clear zyq zft st _sg
      have st:Stg 1:=rfl
      clear p1 p2 p3 p4 p5 p6;obtain⟨p1,p2,p3,_⟩:=B1'.cells
      obtain⟨p4,p5,p6,_⟩:=B2'.cells)
   | (go_at_call 175
      have _sg:Stg 1:=st
      refine(zdq _ _ _ _ _ _ _ hy1 hy2 ?_ ?_).mono ?_
      . omega
      . omega
      rintro e um2 ⟨am2,cm2,zs2,rfl,zxl,htm2,zyp,zf6⟩;replace hx1:=hx1.below zf6;replace hy1:=hy1.below zf6;replace hx2:=hx2.below zf6;replace hy2:=hy2.below zf6
      replace B1':=B1'.below zf6
      replace B2':=B2'.below zf6
      replace B3:=B3.below zf6;replace rm1:=rm1.below zf6
      replace hbW:Below w.heap.size w um2:=hbW.trans (zf6.mono hbW.size)
      have rm2:=zyp.rd
      clear zyp zf6 st _sg
      have st:Stg 2:=rfl
      clear p1 p2 p3 p4 p5 p6;obtain⟨p1,p2,p3,_⟩:=B1'.cells
      obtain⟨p4,p5,p6,_⟩:=B2'.cells)
   | (go_at_call 176
      have _sg:Stg 2:=st
      refine(ze0 (k+l) _ _ _ _ _ _ _ _ rm1 rm2 (by rw[zxl];exact Nat.mul_ne_zero y10 y20) (zbu lx1 lx2 htm1 l1 l2 zyn) (zbu ly1 ly2 htm2 l1' l2' zxl) ?_).mono ?_
      . omega
      rintro e ul ⟨vl,rfl,hF,hbl⟩;replace hx1:=hx1.below hbl;replace hy1:=hy1.below hbl;replace hx2:=hx2.below hbl;replace hy2:=hy2.below hbl
      replace B1':=B1'.below hbl
      replace B2':=B2'.below hbl
      replace B3:=B3.below hbl
      replace hbW:Below w.heap.size w ul:=hbW.trans (hbl.mono hbW.size)
      clear hbl st _sg
      have st:Stg 3:=rfl
      clear p1 p2 p3 p4 p5 p6;obtain⟨p1,p2,p3,_⟩:=B1'.cells;obtain⟨p4,p5,p6,_⟩:=B2'.cells;obtain⟨q1,q2,q3,q4,q5,q6⟩:=B3.cells
      have hs:=B3.lt
      obtain⟨n3,x3,y3,⟨a3,c3,b3,d3,rfl,hx3,hy3⟩,hF⟩:=hF))
 rw[zlg zyn zxl,e1,e2]at hF;go_wp2
 exact ret3 (v:=.agg #[.bool n3,.slice a3 x3.length c3,.slice b3 y3.length d3]) B3 rfl (fun U hU=>by obtain⟨r1,r2,r3,_⟩:=hU.cells;simp[results,Tryz.results181,go_sem,r1,r2,r3]) (fun U hU hK=>⟨_,rfl,⟨_,_,_,⟨_,_,_,_,rfl,hK _ _ _ hx3,hK _ _ _ hy3⟩,hF⟩,hU _ _ hbW (by omega)⟩)
open Go.Maps
theorem zoq(a:Option Addr)(cap:Nat)(l:List Te)(pa:Option Addr)(pc:Nat)(cs:List Int)(w:World)(h:Tz w a cap l)(hp:Ri w pa pc cs)(hl:l.length<=1000) :
 Calls Tryz.prog 180 #[.slice a l.length cap,.slice pa cs.length pc] w fun e w'=>∃v',e=.returned v'/\Fr w' v' (2+2*l.length) (alQ l cs)/\Below w.heap.size w w':=by
 have k2:=h.lenB
 have k3:=hp.lenB
 have HH:Hid (Tz w a cap l):=h
 have HP:Hid (Ri w pa pc cs):=hp
 obtain⟨W0,hW0,B0,hbW⟩:∃W,W=w.alloc (.cells #[.bool false,.slice none 0 0,.slice none 0 0] 161)/\Box 161 W w.heap.size (.bool false) (.slice none 0 0) (.slice none 0 0)/\Below w.heap.size w W:=⟨_,rfl,Box.new _ _ _ _ _,al1 _⟩
 clear h hp
 go_enter Tryz.func180,Tryz.ntmps180
 go_wp2_with fail
 rw[<-hW0];clear hW0
 refine(zb2 1 _ (by decide) (by decide)).mono ?_
 rintro e U1 ⟨v5,rfl,hF5,hb5⟩;replace B0:=B0.below hb5
 replace hbW:=hbW.trans (hb5.mono hbW.size)
 clear hb5;obtain⟨n5,x5,y5,⟨a5,c5,b5,d5,rfl,hx5,hy5⟩,hF5⟩:=hF5
 have hlt:=B0.lt
 have P5:=Box.new 161 U1 (.bool n5) (.slice a5 x5.length c5) (.slice b5 y5.length d5)
 have hF5:Fr (U1.alloc (.cells #[.bool n5,.slice a5 x5.length c5,.slice b5 y5.length d5] 161)) (.agg #[.bool n5,.slice a5 x5.length c5,.slice b5 y5.length d5]) (2+2*0) (alK l cs 0):=Fr.below ⟨_,_,_,⟨_,_,_,_,rfl,hx5,hy5⟩,hF5⟩ (al1 _)
 replace B0:=B0.alloc (.cells #[.bool n5,.slice a5 x5.length c5,.slice b5 y5.length d5] 161)
 replace hbW:=hbW.alloc hbW.size (.cells #[.bool n5,.slice a5 x5.length c5,.slice b5 y5.length d5] 161)
 clear hx5 hy5;go_wp2
 go_loopw [6] (fun i wr=>∃(k:Nat) (n5:Bool) (a5:Option Addr) (x5 c5:Nat) (b5:Option Addr) (y5 d5:Nat),k<=l.length/\i=.int .i64 (k:Int)/\Box 161 wr U1.heap.size (.bool n5) (.slice a5 x5 c5) (.slice b5 y5 d5)/\Fr wr (.agg #[.bool n5,.slice a5 x5 c5,.slice b5 y5 d5]) (2+2*k) (alK l cs k)/\Box 161 wr w.heap.size (.bool false) (.slice none 0 0) (.slice none 0 0)/\Below w.heap.size w wr) (fun i _=>l.length-(intOf i).toNat)
 case atStart=>exact⟨0,_,_,_,_,_,_,_,Nat.zero_le _,rfl,P5,hF5,B0,hbW⟩
 case round =>
  clear P5 hF5 B0 hbW;obtain⟨k,n5,a5,x5,c5,b5,y5,d5,hk,rfl,P5,hF5,B0,hbW⟩:=hrel
  by_cases hkn:k<l.length
  . obtain⟨b0,off,ea,hb0,e0,e1,e2⟩:=HH.out.at hbW k hkn
    subst ea
    obtain⟨z,hz⟩:∃z,cs.getD k 0=z:=⟨_,rfl⟩
    have hzi:I64 z:=by
     by_cases h1:k<cs.length
     . rw[<-hz];exact HP.out.i64 h1
     . rw[<-hz,List.getD_eq_getElem?_getD,List.getElem?_eq_none (by omega)];exact⟨by decide,by decide⟩
    obtain⟨t,ht⟩:∃t,l.getD k Te.none=t:=⟨_,rfl⟩
    have HK:Hid (alK l cs (k+1)=alK l cs k*paQ t z):=by show _=_;rw[zhx,ht,hz]
    rw[ht]at e0 e1 e2;clear ht
    have hpa:=fun U=>zod t z U hzi
    obtain⟨q,hq⟩:∃q,paQ t z=q:=⟨_,rfl⟩
    simp only[hq]at hpa HK
    clear hq hzi;obtain⟨st,pk,en⟩:=t
    dsimp only at *
    have s1:=P5.lt
    have s2:=hbW.size
    have A0:Cl wr b0 (off+k*3) (.int .i64 st):=⟨Nat.lt_of_lt_of_le hb0 hbW.size,e0⟩
    have A1:Cl wr b0 (off+k*3+1) (.int .i64 pk):=⟨Nat.lt_of_lt_of_le hb0 hbW.size,e1⟩
    have A2:Cl wr b0 (off+k*3+2) (.int .i64 en):=⟨Nat.lt_of_lt_of_le hb0 hbW.size,e2⟩
    have hwr:IntKind.i64.wrap (k:Int)=k:=zbs (by omega) (by omega)
    have HCZ:Hid (¬k<cs.length->z=0):=fun h1=>by rw[<-hz,List.getD_eq_getElem?_getD,List.getElem?_eq_none (by omega)];rfl
    have HCY:Hid (cs.getD k 0=z):=hz
    clear hz
    by_cases hkc:k<cs.length
    . have gg:(k:Int)<(cs.length:Int):=by omega
      obtain⟨pb,poff,ep,hpb,dz⟩:=HP.out.at hbW k hkc
      subst ep;rw[HCY.out]at dz;clear HCY HCZ
      have HA:Hid (∀U,Below w.heap.size w U->Cl U b0 (off+k*3) (.int .i64 st)/\Cl U b0 (off+k*3+1) (.int .i64 pk)/\Cl U b0 (off+k*3+2) (.int .i64 en)):=fun U hU=>by
       have e:∀o,U.cell? ⟨b0,o,none⟩=wr.cell? ⟨b0,o,none⟩:=fun o=>(hU.cell (p:=⟨b0,o,none⟩) hb0).trans (hbW.cell (p:=⟨b0,o,none⟩) hb0).symm
       exact⟨⟨Nat.lt_of_lt_of_le hb0 hU.size,(e _).trans e0⟩,⟨Nat.lt_of_lt_of_le hb0 hU.size,(e _).trans e1⟩,⟨Nat.lt_of_lt_of_le hb0 hU.size,(e _).trans e2⟩⟩
      go_upto_region 8 with fail
      obtain⟨p00,p01,p02,_⟩:=P5.cells
      refine wp_region_held_drew (S:=(fun u=>u.cell? ⟨b0,off+k*3,none⟩=some (.int .i64 st)/\u.cell? ⟨b0,off+k*3+1,none⟩=some (.int .i64 pk)/\u.cell? ⟨b0,off+k*3+2,none⟩=some (.int .i64 en))) (by kernel_rfl) ?_ (fun hH=>?_)
      . (try dsimp only)
        go_keep
      have hdr:Below wr.heap.size wr wr.drew:=Below.drew1
      generalize wr.drew=ud2 at hdr hH ⊢
      replace A0:=A0.below hdr;replace A1:=A1.below hdr;replace A2:=A2.below hdr;replace hF5:=hF5.below hdr;replace B0:=B0.below hdr;replace P5:=P5.below hdr
      replace hbW:Below w.heap.size w ud2:=hbW.trans (hdr.mono hbW.size)
      clear hdr;clear p00 p01 p02;obtain⟨p00,p01,p02,_⟩:=P5.cells;refine hT 1 hH ?_;refine hT 2 hH ?_;refine hT 3 hH ?_;refine hT 4 hH ?_;refine hT 5 hH ?_
      refine wpAnyH_ready (rs:=[0,6]) (by kernel_rfl) (by simp) (hCons (i:=0) rfl (by rfl) (fun K hK=>?_) (hCons (i:=6) rfl (by rfl) (fun K hK=>?_) AllReadyH.nil))
      . go_simp
        refine hK.out _ _ ?_ (fun hH=>?_)
        . (try dsimp only)
          exact⟨A0.2,A1.2,A2.2⟩
        clear hK K
        try simp only[Act.put,pZ]
        refine hCall (i:=6) rfl (by kernel_rfl) (by rfl) (fun K hK=>?_)
        go_simp
        refine(hpa _).mono ?_
        rintro e u1 ⟨v8,rfl,hF8,hb1⟩;replace A0:=A0.below hb1;replace A1:=A1.below hb1;replace A2:=A2.below hb1;replace hF5:=hF5.below hb1;replace B0:=B0.below hb1;replace P5:=P5.below hb1
        replace hbW:Below w.heap.size w u1:=hbW.trans (hb1.mono hbW.size)
        clear hb1;clear p00 p01 p02;obtain⟨p00,p01,p02,_⟩:=P5.cells
        go_wp2_with fail
        refine hK.out _ _ ?_ (fun hH=>?_)
        . (try dsimp only)
          exact⟨A0.2,A1.2,A2.2⟩
        clear hK K
        try simp only[Act.put,pZ]
        refine hCall (i:=7) rfl (by kernel_rfl) (by rfl) (fun K hK=>?_)
        go_simp
        refine(zcl (2+2*k) 2 (alK l cs k) q _ _ _ hF5.ct hF8.ct (by omega) (by decide) (by omega) (by decide)).mono ?_
        rintro e u2 ⟨v9,rfl,hF9,hb2⟩;replace A0:=A0.below hb2;replace A1:=A1.below hb2;replace A2:=A2.below hb2;replace hF5:=hF5.below hb2;replace B0:=B0.below hb2;replace hF8:=hF8.below hb2;replace P5:=P5.below hb2
        replace hbW:Below w.heap.size w u2:=hbW.trans (hb2.mono hbW.size)
        clear hb2;rw[<-HK.out]at hF9;obtain⟨n9,x9,y9,⟨a9,c9,b9,d9,rfl,hx9,hy9⟩,hF9⟩:=hF9;clear p00 p01 p02;obtain⟨p00,p01,p02,_⟩:=P5.cells
        go_wp2_with fail
        refine hK.out _ _ ?_ (fun hH=>?_)
        . (try dsimp only)
          exact⟨A0.2,A1.2,A2.2⟩
        clear hK K
        try simp only[Act.put,pZ]
        refine hCall (i:=8) rfl (by kernel_rfl) (by rfl) (fun K hK=>?_)
        go_simp
        have hs:=P5.lt
        obtain⟨f1,f2,f3,f4,f5,f6⟩:=P5.cells
        try go_simp
        obtain⟨u63,hU,C5,hbU,hK9,ho⟩:=zai P5 (.bool n9) (.slice a9 x9.length c9) (.slice b9 y9.length d9)
        rw[<-hU];clear hU f1 f2 f3 f4 f5 f6
        replace B0:=B0.other ho (by omega)
        replace hbW:=hbU _ _ hbW (by omega)
        have hF9:Fr u63 (.agg #[.bool n9,.slice a9 x9.length c9,.slice b9 y9.length d9]) (2+2*(k+1)) (alK l cs (k+1)):=Fr.le (k:=2+2*k+2) ⟨_,_,_,⟨_,_,_,_,rfl,hK9 _ _ _ hx9,hK9 _ _ _ hy9⟩,hF9⟩ (by omega)
        clear hbU hK9 ho hx9 hy9 A0 A1 A2
        obtain⟨A0,A1,A2⟩:=HA.out _ hbW
        refine hK.out _ _ ?_ (fun hH=>?_)
        . (try dsimp only)
          exact⟨A0.2,A1.2,A2.2⟩
        clear hK K
        try simp only[Act.put,pZ]
        refine wpAnyH_done (by kernel_rfl) ?_ _
        clear hH;go_wp2
        go_roundw
        case rel=>exact⟨k+1,_,_,_,_,_,_,_,by omega,by go_num,C5,hF9,B0,hbW⟩
        case measure=>simp[intOf];omega
      . go_simp
        refine(hpa _).mono ?_
        rintro e u1 ⟨v8,rfl,hF8,hb1⟩;replace A0:=A0.below hb1;replace A1:=A1.below hb1;replace A2:=A2.below hb1;replace hF5:=hF5.below hb1;replace B0:=B0.below hb1;replace P5:=P5.below hb1
        replace hbW:Below w.heap.size w u1:=hbW.trans (hb1.mono hbW.size)
        clear hb1;clear p00 p01 p02;obtain⟨p00,p01,p02,_⟩:=P5.cells
        go_wp2_with fail
        refine hK.out _ _ ?_ (fun hH=>?_)
        . (try dsimp only)
          exact⟨A0.2,A1.2,A2.2⟩
        clear hK K
        try simp only[Act.put,pZ]
        refine hCall (i:=0) rfl (by kernel_rfl) (by rfl) (fun K hK=>?_)
        go_simp
        refine hK.out _ _ ?_ (fun hH=>?_)
        . (try dsimp only)
          exact⟨A0.2,A1.2,A2.2⟩
        clear hK K
        try simp only[Act.put,pZ]
        refine hCall (i:=7) rfl (by kernel_rfl) (by rfl) (fun K hK=>?_)
        go_simp
        refine(zcl (2+2*k) 2 (alK l cs k) q _ _ _ hF5.ct hF8.ct (by omega) (by decide) (by omega) (by decide)).mono ?_
        rintro e u2 ⟨v9,rfl,hF9,hb2⟩;replace A0:=A0.below hb2;replace A1:=A1.below hb2;replace A2:=A2.below hb2;replace hF5:=hF5.below hb2;replace B0:=B0.below hb2;replace hF8:=hF8.below hb2;replace P5:=P5.below hb2
        replace hbW:Below w.heap.size w u2:=hbW.trans (hb2.mono hbW.size)
        clear hb2;rw[<-HK.out]at hF9;obtain⟨n9,x9,y9,⟨a9,c9,b9,d9,rfl,hx9,hy9⟩,hF9⟩:=hF9;clear p00 p01 p02;obtain⟨p00,p01,p02,_⟩:=P5.cells
        go_wp2_with fail
        refine hK.out _ _ ?_ (fun hH=>?_)
        . (try dsimp only)
          exact⟨A0.2,A1.2,A2.2⟩
        clear hK K
        try simp only[Act.put,pZ]
        refine hCall (i:=8) rfl (by kernel_rfl) (by rfl) (fun K hK=>?_)
        go_simp
        have hs:=P5.lt
        obtain⟨f1,f2,f3,f4,f5,f6⟩:=P5.cells
        try go_simp
        obtain⟨u63,hU,C5,hbU,hK9,ho⟩:=zai P5 (.bool n9) (.slice a9 x9.length c9) (.slice b9 y9.length d9)
        rw[<-hU];clear hU f1 f2 f3 f4 f5 f6
        replace B0:=B0.other ho (by omega)
        replace hbW:=hbU _ _ hbW (by omega)
        have hF9:Fr u63 (.agg #[.bool n9,.slice a9 x9.length c9,.slice b9 y9.length d9]) (2+2*(k+1)) (alK l cs (k+1)):=Fr.le (k:=2+2*k+2) ⟨_,_,_,⟨_,_,_,_,rfl,hK9 _ _ _ hx9,hK9 _ _ _ hy9⟩,hF9⟩ (by omega)
        clear hbU hK9 ho hx9 hy9 A0 A1 A2
        obtain⟨A0,A1,A2⟩:=HA.out _ hbW
        refine hK.out _ _ ?_ (fun hH=>?_)
        . (try dsimp only)
          exact⟨A0.2,A1.2,A2.2⟩
        clear hK K
        try simp only[Act.put,pZ]
        refine wpAnyH_done (by kernel_rfl) ?_ _
        clear hH;go_wp2
        go_roundw
        case rel=>exact⟨k+1,_,_,_,_,_,_,_,by omega,by go_num,C5,hF9,B0,hbW⟩
        case measure=>simp[intOf];omega
    . have gg:¬(k:Int)<(cs.length:Int):=by omega
      obtain rfl:z=0:=HCZ.out hkc
      clear HCY HCZ
      have HA:Hid (∀U,Below w.heap.size w U->Cl U b0 (off+k*3) (.int .i64 st)/\Cl U b0 (off+k*3+1) (.int .i64 pk)/\Cl U b0 (off+k*3+2) (.int .i64 en)):=fun U hU=>by
       have e:∀o,U.cell? ⟨b0,o,none⟩=wr.cell? ⟨b0,o,none⟩:=fun o=>(hU.cell (p:=⟨b0,o,none⟩) hb0).trans (hbW.cell (p:=⟨b0,o,none⟩) hb0).symm
       exact⟨⟨Nat.lt_of_lt_of_le hb0 hU.size,(e _).trans e0⟩,⟨Nat.lt_of_lt_of_le hb0 hU.size,(e _).trans e1⟩,⟨Nat.lt_of_lt_of_le hb0 hU.size,(e _).trans e2⟩⟩
      go_upto_region 8 with fail
      obtain⟨p00,p01,p02,_⟩:=P5.cells
      refine wp_region_held_drew (S:=(fun u=>u.cell? ⟨b0,off+k*3,none⟩=some (.int .i64 st)/\u.cell? ⟨b0,off+k*3+1,none⟩=some (.int .i64 pk)/\u.cell? ⟨b0,off+k*3+2,none⟩=some (.int .i64 en))) (by kernel_rfl) ?_ (fun hH=>?_)
      . (try dsimp only)
        go_keep
      have hdr:Below wr.heap.size wr wr.drew:=Below.drew1
      generalize wr.drew=ud3 at hdr hH ⊢
      replace A0:=A0.below hdr;replace A1:=A1.below hdr;replace A2:=A2.below hdr;replace hF5:=hF5.below hdr;replace B0:=B0.below hdr;replace P5:=P5.below hdr
      replace hbW:Below w.heap.size w ud3:=hbW.trans (hdr.mono hbW.size)
      clear hdr;clear p00 p01 p02;obtain⟨p00,p01,p02,_⟩:=P5.cells;refine hT 1 hH ?_;refine hT 2 hH ?_;refine hT 3 hH ?_;refine hT 4 hH ?_;refine hT 5 hH ?_
      refine wpAnyH_ready (rs:=[0,6]) (by kernel_rfl) (by simp) (hCons (i:=0) rfl (by rfl) (fun K hK=>?_) (hCons (i:=6) rfl (by rfl) (fun K hK=>?_) AllReadyH.nil))
      . go_simp
        refine hK.out _ _ ?_ (fun hH=>?_)
        . (try dsimp only)
          exact⟨A0.2,A1.2,A2.2⟩
        clear hK K
        try simp only[Act.put,pZ]
        refine hCall (i:=6) rfl (by kernel_rfl) (by rfl) (fun K hK=>?_)
        go_simp
        refine(hpa _).mono ?_
        rintro e u1 ⟨v8,rfl,hF8,hb1⟩;replace A0:=A0.below hb1;replace A1:=A1.below hb1;replace A2:=A2.below hb1;replace hF5:=hF5.below hb1;replace B0:=B0.below hb1;replace P5:=P5.below hb1
        replace hbW:Below w.heap.size w u1:=hbW.trans (hb1.mono hbW.size)
        clear hb1;clear p00 p01 p02;obtain⟨p00,p01,p02,_⟩:=P5.cells
        go_wp2_with fail
        refine hK.out _ _ ?_ (fun hH=>?_)
        . (try dsimp only)
          exact⟨A0.2,A1.2,A2.2⟩
        clear hK K
        try simp only[Act.put,pZ]
        refine hCall (i:=7) rfl (by kernel_rfl) (by rfl) (fun K hK=>?_)
        go_simp
        refine(zcl (2+2*k) 2 (alK l cs k) q _ _ _ hF5.ct hF8.ct (by omega) (by decide) (by omega) (by decide)).mono ?_
        rintro e u2 ⟨v9,rfl,hF9,hb2⟩;replace A0:=A0.below hb2;replace A1:=A1.below hb2;replace A2:=A2.below hb2;replace hF5:=hF5.below hb2;replace B0:=B0.below hb2;replace hF8:=hF8.below hb2;replace P5:=P5.below hb2
        replace hbW:Below w.heap.size w u2:=hbW.trans (hb2.mono hbW.size)
        clear hb2;rw[<-HK.out]at hF9;obtain⟨n9,x9,y9,⟨a9,c9,b9,d9,rfl,hx9,hy9⟩,hF9⟩:=hF9;clear p00 p01 p02;obtain⟨p00,p01,p02,_⟩:=P5.cells
        go_wp2_with fail
        refine hK.out _ _ ?_ (fun hH=>?_)
        . (try dsimp only)
          exact⟨A0.2,A1.2,A2.2⟩
        clear hK K
        try simp only[Act.put,pZ]
        refine hCall (i:=8) rfl (by kernel_rfl) (by rfl) (fun K hK=>?_)
        go_simp
        have hs:=P5.lt
        obtain⟨f1,f2,f3,f4,f5,f6⟩:=P5.cells
        try go_simp
        obtain⟨u63,hU,C5,hbU,hK9,ho⟩:=zai P5 (.bool n9) (.slice a9 x9.length c9) (.slice b9 y9.length d9)
        rw[<-hU];clear hU f1 f2 f3 f4 f5 f6
        replace B0:=B0.other ho (by omega)
        replace hbW:=hbU _ _ hbW (by omega)
        have hF9:Fr u63 (.agg #[.bool n9,.slice a9 x9.length c9,.slice b9 y9.length d9]) (2+2*(k+1)) (alK l cs (k+1)):=Fr.le (k:=2+2*k+2) ⟨_,_,_,⟨_,_,_,_,rfl,hK9 _ _ _ hx9,hK9 _ _ _ hy9⟩,hF9⟩ (by omega)
        clear hbU hK9 ho hx9 hy9 A0 A1 A2
        obtain⟨A0,A1,A2⟩:=HA.out _ hbW
        refine hK.out _ _ ?_ (fun hH=>?_)
        . (try dsimp only)
          exact⟨A0.2,A1.2,A2.2⟩
        clear hK K
        try simp only[Act.put,pZ]
        refine wpAnyH_done (by kernel_rfl) ?_ _
        clear hH;go_wp2
        go_roundw
        case rel=>exact⟨k+1,_,_,_,_,_,_,_,by omega,by go_num,C5,hF9,B0,hbW⟩
        case measure=>simp[intOf];omega
      . go_simp
        refine(hpa _).mono ?_
        rintro e u1 ⟨v8,rfl,hF8,hb1⟩;replace A0:=A0.below hb1;replace A1:=A1.below hb1;replace A2:=A2.below hb1;replace hF5:=hF5.below hb1;replace B0:=B0.below hb1;replace P5:=P5.below hb1
        replace hbW:Below w.heap.size w u1:=hbW.trans (hb1.mono hbW.size)
        clear hb1;clear p00 p01 p02;obtain⟨p00,p01,p02,_⟩:=P5.cells
        go_wp2_with fail
        refine hK.out _ _ ?_ (fun hH=>?_)
        . (try dsimp only)
          exact⟨A0.2,A1.2,A2.2⟩
        clear hK K
        try simp only[Act.put,pZ]
        refine hCall (i:=0) rfl (by kernel_rfl) (by rfl) (fun K hK=>?_)
        go_simp
        refine hK.out _ _ ?_ (fun hH=>?_)
        . (try dsimp only)
          exact⟨A0.2,A1.2,A2.2⟩
        clear hK K
        try simp only[Act.put,pZ]
        refine hCall (i:=7) rfl (by kernel_rfl) (by rfl) (fun K hK=>?_)
        go_simp
        refine(zcl (2+2*k) 2 (alK l cs k) q _ _ _ hF5.ct hF8.ct (by omega) (by decide) (by omega) (by decide)).mono ?_
        rintro e u2 ⟨v9,rfl,hF9,hb2⟩;replace A0:=A0.below hb2;replace A1:=A1.below hb2;replace A2:=A2.below hb2;replace hF5:=hF5.below hb2;replace B0:=B0.below hb2;replace hF8:=hF8.below hb2;replace P5:=P5.below hb2
        replace hbW:Below w.heap.size w u2:=hbW.trans (hb2.mono hbW.size)
        clear hb2;rw[<-HK.out]at hF9;obtain⟨n9,x9,y9,⟨a9,c9,b9,d9,rfl,hx9,hy9⟩,hF9⟩:=hF9;clear p00 p01 p02;obtain⟨p00,p01,p02,_⟩:=P5.cells
        go_wp2_with fail
        refine hK.out _ _ ?_ (fun hH=>?_)
        . (try dsimp only)
          exact⟨A0.2,A1.2,A2.2⟩
        clear hK K
        try simp only[Act.put,pZ]
        refine hCall (i:=8) rfl (by kernel_rfl) (by rfl) (fun K hK=>?_)
        go_simp
        have hs:=P5.lt
        obtain⟨f1,f2,f3,f4,f5,f6⟩:=P5.cells
        try go_simp
        obtain⟨u63,hU,C5,hbU,hK9,ho⟩:=zai P5 (.bool n9) (.slice a9 x9.length c9) (.slice b9 y9.length d9)
        rw[<-hU];clear hU f1 f2 f3 f4 f5 f6
        replace B0:=B0.other ho (by omega)
        replace hbW:=hbU _ _ hbW (by omega)
        have hF9:Fr u63 (.agg #[.bool n9,.slice a9 x9.length c9,.slice b9 y9.length d9]) (2+2*(k+1)) (alK l cs (k+1)):=Fr.le (k:=2+2*k+2) ⟨_,_,_,⟨_,_,_,_,rfl,hK9 _ _ _ hx9,hK9 _ _ _ hy9⟩,hF9⟩ (by omega)
        clear hbU hK9 ho hx9 hy9 A0 A1 A2
        obtain⟨A0,A1,A2⟩:=HA.out _ hbW
        refine hK.out _ _ ?_ (fun hH=>?_)
        . (try dsimp only)
          exact⟨A0.2,A1.2,A2.2⟩
        clear hK K
        try simp only[Act.put,pZ]
        refine wpAnyH_done (by kernel_rfl) ?_ _
        clear hH;go_wp2
        go_roundw
        case rel=>exact⟨k+1,_,_,_,_,_,_,_,by omega,by go_num,C5,hF9,B0,hbW⟩
        case measure=>simp[intOf];omega
  . obtain rfl:k=l.length:=by omega
    obtain⟨p0,p1,p2,_⟩:=P5.cells;obtain⟨q1,q2,q3,q4,q5,q6⟩:=B0.cells
    have hs:=B0.lt
    go_wp2
    refine ret3 (v:=.agg #[.bool n5,.slice a5 x5 c5,.slice b5 y5 d5]) B0 rfl (fun U hU=>by obtain⟨r1,r2,r3,_⟩:=hU.cells;simp[results,Tryz.results180,go_sem,r1,r2,r3]) (fun U hU hK=>⟨_,rfl,hF5.moved hK,hU _ _ hbW (by omega)⟩)
open Classical
theorem zjl(n:Bool)(a b:Nat):sg n (a+b)=sg n a+sg n b:=by cases n <;> simp[sg];omega
theorem zjj{n m:Bool}(h:n≠m){a b:Nat}(hl:¬a<b):sg n (a-b)=sg n a+sg m b:=by
 cases n <;> cases m <;> simp[sg]at h ⊢ <;> omega
theorem zjk{n m:Bool}(h:n≠m){a b:Nat}(hl:a<b):sg m (b-a)=sg n a+sg m b:=by
 cases n <;> cases m <;> simp[sg]at h ⊢ <;> omega
theorem zr2(k:Nat)(n m:Bool)(a:Option Addr)(c:Nat)(xs:List Nat)(b:Option Addr)(d:Nat)(ps:List Nat)(w:World)(hx:Rd w a c xs)(hp:Rd w b d ps)(lx:xs.length<=k)(lp:ps.length<=k)(hk:k<=10000000) :
 Calls Tryz.prog 174 #[.bool n,.slice a xs.length c,.bool m,.slice b ps.length d] w fun e w'=>∃s a' c' zs,e=.returned (.tuple #[.bool s,.slice a' zs.length c'])/\sg s (V zs)=sg n (V xs)+sg m (V ps)/\Tr zs/\zs.length<=k+1/\Rd w' a' c' zs/\Below w.heap.size w w':=by
 have l1:=hx.lim
 have l2:=hp.lim
 by_cases hnm:n=m
 . subst hnm
   have e0:(n==n)=true:=by simp
   go_enter Tryz.func174,Tryz.ntmps174
   go_wp2_with fail
   refine(zds _ _ _ _ _ _ _ hx hp (by omega) (by omega)).mono ?_
   rintro e u ⟨a1,c1,zs,rfl,hv,ht,hr,hb⟩;go_wp2
   go_ret2
   exact⟨_,_,_,_,rfl,by rw[hv];exact zjl _ _ _,ht,zc9 l1 l2 ht lx lp (by omega),hr.rd,hb⟩
 . have e0:(n==m)=false:=by simpa using hnm
   go_enter Tryz.func174,Tryz.ntmps174
   go_wp2_with fail
   refine(zdr _ _ _ _ _ _ _ hx hp).mono ?_
   rintro e u ⟨rfl,rfl⟩
   by_cases hlt:V xs<V ps
   . have ec:cmpN (V xs) (V ps)=-1:=by unfold cmpN;rw[if_pos hlt]
     rw[ec];clear ec
     go_wp2_with fail
     refine(zg4 _ _ _ _ _ _ _ hp hx (by omega) (by omega)).mono ?_
     rintro e u ⟨a1,c1,zs,rfl,hv,ht,hr,hb⟩;go_wp2
     go_ret2
     exact⟨_,_,_,_,rfl,by rw[hv];exact zjk hnm hlt,ht,zc9 l1 l2 ht lx lp (by omega),hr.rd,hb⟩
   . have ec:0<=cmpN (V xs) (V ps):=by unfold cmpN;rw[if_neg hlt];split <;> decide
     generalize cmpN (V xs) (V ps)=cc at ec ⊢
     go_wp2_with fail
     refine(zg4 _ _ _ _ _ _ _ hx hp (by omega) (by omega)).mono ?_
     rintro e u ⟨a1,c1,zs,rfl,hv,ht,hr,hb⟩;go_wp2
     go_ret2
     exact⟨_,_,_,_,rfl,by rw[hv];exact zjj hnm hlt,ht,zc9 l1 l2 ht lx lp (by omega),hr.rd,hb⟩
theorem zgf(n:Bool)(a b:Nat):sg n (a*b)=sg n a*(b:Int):=by cases n <;> simp[sg];grind
theorem zx2{s n m:Bool}{zs ts xs ys ps qs:List Nat}(hy:V ys≠0)(hq:V qs≠0)(ht:V ts=V ys*V qs)(h:sg s (V zs)=sg n (V xs*V qs)+sg m (V ps*V ys)):qv s zs ts=qv n xs ys+qv m ps qs:=by
 unfold qv
 rw[Rat.mkRat_add_mkRat _ _ hy hq,ht,h,zgf,zgf]
theorem zdo(k l:Nat)(q r:Rat)(v v':Value)(w:World)(h:Ct w v k q)(h':Ct w v' l r)(hk:k<=1000000)(hl:l<=1000000)(hk2:2<=k)(hl2:2<=l) :
 Calls Tryz.prog 135 #[v,v'] w fun e w'=>∃v',e=.returned v'/\Fr w' v' (k+l+1) (q+r)/\Below w.heap.size w w':=by
 have hX:=h
 have hY:=h'
 obtain⟨n,xs,ys,⟨a,c,a',c',rfl,_,_⟩,_⟩:=h;obtain⟨m,ps,qs,⟨b,d,b',d',rfl,_,_⟩,_⟩:=h'
 go_enter Tryz.func135,Tryz.ntmps135
 go_wp2_with fail
 refine(zcu k q _ _ (hX.below (al3 _ _ _)) (by omega) hk2).mono ?_
 rintro e u1 ⟨v1,rfl,hF1,hb1⟩
 replace hY:=(hY.below (al3 _ _ _)).below hb1
 obtain⟨B1,B2,B3,hbW⟩:=zrn hb1
 clear hb1 hX;obtain⟨p1,p2,p3,p4,p5,p6⟩:=B1.cells;obtain⟨q1,q2,q3,_⟩:=B2.cells
 have hs1:=B1.lt
 obtain⟨n1,x1,y1,⟨a1,c1,b1,d1,rfl,hx1,hy1⟩,f1,l1,l1',e1⟩:=hF1
 go_wp2_with fail
 obtain⟨U,hU,B1',hbU,hK,ho⟩:=zai B1 (.bool n1) (.slice a1 x1.length c1) (.slice b1 y1.length d1)
 rw[<-hU]
 replace B2:=B2.other ho (by omega)
 replace B3:=B3.other ho (by omega)
 replace hbW:=hbU _ _ hbW (by omega)
 replace hx1:=hK _ _ _ hx1
 replace hy1:=hK _ _ _ hy1
 replace hY:=hY.keep hK
 clear hU hbU hK ho B1 p1 p2 p3 p4 p5 p6 q1 q2 q3 hs1
 refine(zcu l r _ _ hY (by omega) hl2).mono ?_
 rintro e u2 ⟨v2,rfl,hF2,hb2⟩;replace hx1:=hx1.below hb2;replace hy1:=hy1.below hb2
 replace B1':=B1'.below hb2
 replace B2:=B2.below hb2;replace B3:=B3.below hb2
 replace hbW:Below w.heap.size w u2:=hbW.trans (hb2.mono hbW.size)
 clear hb2 hY;obtain⟨n2,x2,y2,⟨a2,c2,b2,d2,rfl,hx2,hy2⟩,f2,l2,l2',e2⟩:=hF2
 have y10:=f1.den
 have y20:=f2.den
 obtain⟨p4,p5,p6,p7,p8,p9⟩:=B2.cells
 have hs2:=B2.lt
 go_wp2_with fail
 obtain⟨U,hU,B2',hbU,hK,ho⟩:=zai B2 (.bool n2) (.slice a2 x2.length c2) (.slice b2 y2.length d2)
 rw[<-hU]
 replace B1':=B1'.other ho (by omega)
 replace B3:=B3.other ho (by omega)
 replace hbW:=hbU _ _ hbW (by omega)
 replace hx1:=hK _ _ _ hx1
 replace hy1:=hK _ _ _ hy1
 replace hx2:=hK _ _ _ hx2
 replace hy2:=hK _ _ _ hy2
 clear hU hbU hK ho B2 p4 p5 p6 p7 p8 p9 hs2;obtain⟨p1,p2,p3,_⟩:=B1'.cells;obtain⟨p4,p5,p6,_⟩:=B2'.cells
 have lx1:=hx1.lim
 have ly1:=hy1.lim
 have lx2:=hx2.lim
 have ly2:=hy2.lim
 have st:Stg 0:=rfl
 go_region_held3 (fun u=>u.cell? ⟨w.heap.size,0,none⟩=some (.bool n1)/\u.cell? ⟨w.heap.size,1,none⟩=some (.slice a1 x1.length c1)/\u.cell? ⟨w.heap.size,2,none⟩=some (.slice b1 y1.length d1)/\u.cell? ⟨w.heap.size+1,0,none⟩=some (.bool n2)/\u.cell? ⟨w.heap.size+1,1,none⟩=some (.slice a2 x2.length c2)/\u.cell? ⟨w.heap.size+1,2,none⟩=some (.slice b2 y2.length d2)) (first | (go_keep;done) | (refine⟨(zad (by omega)).trans p1,(zad (by omega)).trans p2,(zad (by omega)).trans p3,(zad (by omega)).trans p4,(zad (by omega)).trans p5,(zad (by omega)).trans p6⟩))
  (first
   | (go_at_call 175
      have _sg:Stg 0:=st
      refine(zdq _ _ _ _ _ _ _ (hx1.below Below.drew1) (hy2.below Below.drew1) ?_ ?_).mono ?_
      . omega
      . omega
      rintro e um1 ⟨am1,cm1,zs1,rfl,zyn,htm1,zyq,zft⟩
      replace zft:Below U.heap.size U um1:=Below.drew1.trans zft
      replace hx1:=hx1.below zft;replace hy1:=hy1.below zft;replace hx2:=hx2.below zft;replace hy2:=hy2.below zft
      replace B1':=B1'.below zft
      replace B2':=B2'.below zft
      replace B3:=B3.below zft
      replace hbW:Below w.heap.size w um1:=hbW.trans (zft.mono hbW.size)
      have rm1:=zyq.rd
      clear zyq zft st _sg
      have st:Stg 1:=rfl
      clear p1 p2 p3 p4 p5 p6;obtain⟨p1,p2,p3,_⟩:=B1'.cells
      obtain⟨p4,p5,p6,_⟩:=B2'.cells)
   | (go_at_call 175
      have _sg:Stg 1:=st
      refine(zdq _ _ _ _ _ _ _ hx2 hy1 ?_ ?_).mono ?_
      . omega
      . omega
      rintro e um2 ⟨am2,cm2,zs2,rfl,zxl,htm2,zyp,zf6⟩;replace hx1:=hx1.below zf6;replace hy1:=hy1.below zf6;replace hx2:=hx2.below zf6;replace hy2:=hy2.below zf6
      replace B1':=B1'.below zf6
      replace B2':=B2'.below zf6
      replace B3:=B3.below zf6;replace rm1:=rm1.below zf6
      replace hbW:Below w.heap.size w um2:=hbW.trans (zf6.mono hbW.size)
      have rm2:=zyp.rd
      clear zyp zf6 st _sg
      have st:Stg 2:=rfl
      clear p1 p2 p3 p4 p5 p6;obtain⟨p1,p2,p3,_⟩:=B1'.cells
      obtain⟨p4,p5,p6,_⟩:=B2'.cells)
   | (go_at_call 174
      have _sg:Stg 2:=st
      refine(zr2 (k+l) _ _ _ _ _ _ _ _ _ rm1 rm2 (zbu lx1 ly2 htm1 l1 l2' zyn) ?_ ?_).mono ?_
      . have:=zbu lx2 ly1 htm2 l2 l1' zxl
        omega
      . omega
      rintro e us ⟨s3,a7,c7,ss,rfl,hvs,hts,lss,rs,hbs⟩;replace hx1:=hx1.below hbs;replace hy1:=hy1.below hbs;replace hx2:=hx2.below hbs;replace hy2:=hy2.below hbs
      replace B1':=B1'.below hbs
      replace B2':=B2'.below hbs
      replace B3:=B3.below hbs
      replace hbW:Below w.heap.size w us:=hbW.trans (hbs.mono hbW.size)
      clear hbs st _sg
      have st:Stg 3:=rfl
      clear p1 p2 p3 p4 p5 p6;obtain⟨p1,p2,p3,_⟩:=B1'.cells
      obtain⟨p4,p5,p6,_⟩:=B2'.cells))
 go_wp2_with fail
 refine(zdq _ _ _ _ _ _ _ hy1 hy2 (by omega) (by omega)).mono ?_
 rintro e u8 ⟨a8,c8,z8,rfl,hv8,ht8,hr8,hb8⟩;replace rs:=rs.below hb8;replace B3:=B3.below hb8
 replace hbW:Below w.heap.size w u8:=hbW.trans (hb8.mono hbW.size)
 have r8:=hr8.rd
 have l8:=zbu ly1 ly2 ht8 l1' l2' hv8
 clear hr8 hb8 p1 p2 p3 p4 p5 p6
 go_wp2_with fail
 refine(ze0 (k+l+1) _ _ _ _ _ _ _ _ rs r8 (by rw[hv8];exact Nat.mul_ne_zero y10 y20) lss (by omega) (by omega)).mono ?_
 rintro e u9 ⟨v9,rfl,hF,hb9⟩;replace B3:=B3.below hb9
 replace hbW:Below w.heap.size w u9:=hbW.trans (hb9.mono hbW.size)
 clear hb9;rw[zyn,zxl]at hvs;rw[zx2 y10 y20 hv8 hvs,e1,e2]at hF;obtain⟨q1,q2,q3,q4,q5,q6⟩:=B3.cells
 have hs:=B3.lt
 obtain⟨n3,x3,y3,⟨a3,c3,b3,d3,rfl,hx3,hy3⟩,hF⟩:=hF;go_wp2
 exact ret3 (v:=.agg #[.bool n3,.slice a3 x3.length c3,.slice b3 y3.length d3]) B3 rfl (fun U hU=>by obtain⟨r1,r2,r3,_⟩:=hU.cells;simp[results,Tryz.results135,go_sem,r1,r2,r3]) (fun U hU hK=>⟨_,rfl,⟨_,_,_,⟨_,_,_,_,rfl,hK _ _ _ hx3,hK _ _ _ hy3⟩,hF⟩,hU _ _ hbW (by omega)⟩)
