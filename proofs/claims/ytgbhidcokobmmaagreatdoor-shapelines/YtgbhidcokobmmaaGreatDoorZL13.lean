import Derived.Test.YtgbhidcokobmmaaGreatDoorZL12
set_option maxHeartbeats 2000000
set_option maxRecDepth 100000
set_option linter.unusedSimpArgs false
set_option linter.unusedVariables false
namespace Go.Proofs.YtgbhidcokobmmaaGreatDoor
open Go.RowKit
theorem zli(k l:Nat)(q r:Rat)(v v':Value)(w:World)(h:Ct w v k q)(h':Ct w v' l r)(hk:k<=100000000)(hl:l<=100000000)(hk2:2<=k)(hl2:2<=l) :
 Calls Tryz.prog 79 #[v,v'] w fun e w'=>∃v',e=.returned v'/\Fr w' v' (k+l+1) (q+r)/\Below w.heap.size w w':=by
 have hX:=h
 have hY:=h'
 obtain⟨n,xs,ys,⟨a,c,a',c',rfl,hx,hy⟩,lx,ly,hq⟩:=h;obtain⟨m,ps,qs,⟨b,d,b',d',rfl,hp,hqs⟩,lp,lq,hr⟩:=h';clear hq hr hx hy hp hqs lx ly lp lq
 go_enter Tryz.func79,Tryz.ntmps79
 go_wp2_with fail
 obtain⟨W,hW,B1,B2,B3,hbW⟩:=zmb 96 96 96 w (.bool n) (.slice a xs.length c) (.slice a' ys.length c') (.bool m) (.slice b ps.length d) (.slice b' qs.length d') (.bool false) (.slice none 0 0) (.slice none 0 0)
 rw[<-hW];clear hW;replace hX:=hX.below hbW;replace hY:=hY.below hbW;obtain⟨p1,p2,p3,_⟩:=B1.cells;obtain⟨p4,p5,p6,_⟩:=B2.cells
 go_region_held3 (fun u=>u.cell? ⟨w.heap.size,0,none⟩=some (.bool n)/\u.cell? ⟨w.heap.size,1,none⟩=some (.slice a xs.length c)/\u.cell? ⟨w.heap.size,2,none⟩=some (.slice a' ys.length c')/\u.cell? ⟨w.heap.size+1,0,none⟩=some (.bool m)/\u.cell? ⟨w.heap.size+1,1,none⟩=some (.slice b ps.length d)/\u.cell? ⟨w.heap.size+1,2,none⟩=some (.slice b' qs.length d')) (first | (go_keep;done) | (refine⟨(zad (by omega)).trans p1,(zad (by omega)).trans p2,(zad (by omega)).trans p3,(zad (by omega)).trans p4,(zad (by omega)).trans p5,(zad (by omega)).trans p6⟩))
  (first
   | (go_at_call_of 111 (Value.agg #[.bool n,.slice a xs.length c,.slice a' ys.length c'])
      refine(zbt k q _ _ (hX.below Below.drew1) ?_ ?_).mono ?_
      . omega
      . omega
      rintro e u1 ⟨v1,rfl,hF1,hb1⟩
      have zcf:Below W.heap.size W u1:=Below.drew1.trans hb1
      replace hY:=hY.below zcf
      replace B1:=B1.below zcf
      replace B2:=B2.below zcf
      replace B3:=B3.below zcf
      replace hbW:Below w.heap.size w u1:=hbW.trans (zcf.mono hbW.size)
      clear hb1 zcf hX;clear p1 p2 p3 p4 p5 p6;obtain⟨p1,p2,p3,_⟩:=B1.cells
      obtain⟨p4,p5,p6,_⟩:=B2.cells)
   | (go_at_call_of 111 (Value.agg #[.bool m,.slice b ps.length d,.slice b' qs.length d'])
      refine(zbt l r _ _ hY ?_ ?_).mono ?_
      . omega
      . omega
      rintro e u2 ⟨v2,rfl,hF2,hb2⟩;replace hF1:=hF1.below hb2;replace B1:=B1.below hb2;replace B2:=B2.below hb2;replace B3:=B3.below hb2
      replace hbW:Below w.heap.size w u2:=hbW.trans (hb2.mono hbW.size)
      clear hb2 hY;clear p1 p2 p3 p4 p5 p6;obtain⟨p1,p2,p3,_⟩:=B1.cells
      obtain⟨p4,p5,p6,_⟩:=B2.cells)
   | (go_at_call 110
      refine(zll k l q r _ _ _ hF1.lo hF2.lo ?_ ?_).mono ?_
      . omega
      . omega
      rintro e u3 ⟨v3,rfl,hL,hb3⟩;replace B1:=B1.below hb3;replace B2:=B2.below hb3;replace B3:=B3.below hb3
      replace hbW:Below w.heap.size w u3:=hbW.trans (hb3.mono hbW.size)
      clear hb3 hF1 hF2;clear p1 p2 p3 p4 p5 p6;obtain⟨p1,p2,p3,_⟩:=B1.cells
      obtain⟨p4,p5,p6,_⟩:=B2.cells)
   | (go_at_call 112
      refine(zdb (k+l+1) _ _ _ hL ?_).mono ?_
      . omega
      rintro e u4 ⟨v4,rfl,hF,hb4⟩;replace B1:=B1.below hb4;replace B2:=B2.below hb4;replace B3:=B3.below hb4
      replace hbW:Below w.heap.size w u4:=hbW.trans (hb4.mono hbW.size)
      clear hb4 hL;clear p1 p2 p3 p4 p5 p6;obtain⟨p1,p2,p3,_⟩:=B1.cells;obtain⟨p4,p5,p6,_⟩:=B2.cells;obtain⟨q1,q2,q3,q4,q5,q6⟩:=B3.cells
      have hs:=B3.lt
      obtain⟨n1,x1,y1,⟨b1,d1,b2,d2,rfl,hx',hy'⟩,hF⟩:=hF))
 go_wp2
 exact ret3 (v:=.agg #[.bool n1,.slice b1 x1.length d1,.slice b2 y1.length d2]) B3 rfl (fun U hU=>by obtain⟨r1,r2,r3,_⟩:=hU.cells;simp[results,Tryz.results79,go_sem,r1,r2,r3]) (fun U hU hK=>⟨_,rfl,⟨_,_,_,⟨_,_,_,_,rfl,hK _ _ _ hx',hK _ _ _ hy'⟩,hF⟩,hU _ _ hbW (by omega)⟩)
theorem zlh(k l:Nat)(q r:Rat)(v v':Value)(w:World)(h:Ct w v k q)(h':Ct w v' l r)(hk:k<=100000000)(hl:l<=100000000)(hk2:2<=k)(hl2:2<=l) :
 Calls Tryz.prog 116 #[v,v'] w fun e w'=>∃v',e=.returned v'/\Fr w' v' (k+l) (q*r)/\Below w.heap.size w w':=by
 have hX:=h
 have hY:=h'
 obtain⟨n,xs,ys,⟨a,c,a',c',rfl,hx,hy⟩,lx,ly,hq⟩:=h;obtain⟨m,ps,qs,⟨b,d,b',d',rfl,hp,hqs⟩,lp,lq,hr⟩:=h';clear hq hr hx hy hp hqs lx ly lp lq
 go_enter Tryz.func116,Tryz.ntmps116
 go_wp2_with fail
 obtain⟨W,hW,B1,B2,B3,hbW⟩:=zmb 96 96 96 w (.bool n) (.slice a xs.length c) (.slice a' ys.length c') (.bool m) (.slice b ps.length d) (.slice b' qs.length d') (.bool false) (.slice none 0 0) (.slice none 0 0)
 rw[<-hW];clear hW;replace hX:=hX.below hbW;replace hY:=hY.below hbW;obtain⟨p1,p2,p3,_⟩:=B1.cells;obtain⟨p4,p5,p6,_⟩:=B2.cells
 go_region_held3 (fun u=>u.cell? ⟨w.heap.size,0,none⟩=some (.bool n)/\u.cell? ⟨w.heap.size,1,none⟩=some (.slice a xs.length c)/\u.cell? ⟨w.heap.size,2,none⟩=some (.slice a' ys.length c')/\u.cell? ⟨w.heap.size+1,0,none⟩=some (.bool m)/\u.cell? ⟨w.heap.size+1,1,none⟩=some (.slice b ps.length d)/\u.cell? ⟨w.heap.size+1,2,none⟩=some (.slice b' qs.length d')) (first | (go_keep;done) | (refine⟨(zad (by omega)).trans p1,(zad (by omega)).trans p2,(zad (by omega)).trans p3,(zad (by omega)).trans p4,(zad (by omega)).trans p5,(zad (by omega)).trans p6⟩))
  (first
   | (go_at_call_of 111 (Value.agg #[.bool n,.slice a xs.length c,.slice a' ys.length c'])
      refine(zbt k q _ _ (hX.below Below.drew1) ?_ ?_).mono ?_
      . omega
      . omega
      rintro e u1 ⟨v1,rfl,hF1,hb1⟩
      have zcf:Below W.heap.size W u1:=Below.drew1.trans hb1
      replace hY:=hY.below zcf
      replace B1:=B1.below zcf
      replace B2:=B2.below zcf
      replace B3:=B3.below zcf
      replace hbW:Below w.heap.size w u1:=hbW.trans (zcf.mono hbW.size)
      clear hb1 zcf hX;clear p1 p2 p3 p4 p5 p6;obtain⟨p1,p2,p3,_⟩:=B1.cells
      obtain⟨p4,p5,p6,_⟩:=B2.cells)
   | (go_at_call_of 111 (Value.agg #[.bool m,.slice b ps.length d,.slice b' qs.length d'])
      refine(zbt l r _ _ hY ?_ ?_).mono ?_
      . omega
      . omega
      rintro e u2 ⟨v2,rfl,hF2,hb2⟩;replace hF1:=hF1.below hb2;replace B1:=B1.below hb2;replace B2:=B2.below hb2;replace B3:=B3.below hb2
      replace hbW:Below w.heap.size w u2:=hbW.trans (hb2.mono hbW.size)
      clear hb2 hY;clear p1 p2 p3 p4 p5 p6;obtain⟨p1,p2,p3,_⟩:=B1.cells
      obtain⟨p4,p5,p6,_⟩:=B2.cells)
   | (go_at_call 152
      refine(zn5 k l q r _ _ _ hF1.lo hF2.lo ?_ ?_).mono ?_
      . omega
      . omega
      rintro e u3 ⟨v3,rfl,hL,hb3⟩;replace B1:=B1.below hb3;replace B2:=B2.below hb3;replace B3:=B3.below hb3
      replace hbW:Below w.heap.size w u3:=hbW.trans (hb3.mono hbW.size)
      clear hb3 hF1 hF2;clear p1 p2 p3 p4 p5 p6;obtain⟨p1,p2,p3,_⟩:=B1.cells
      obtain⟨p4,p5,p6,_⟩:=B2.cells)
   | (go_at_call 112
      refine(zdb (k+l) _ _ _ hL ?_).mono ?_
      . omega
      rintro e u4 ⟨v4,rfl,hF,hb4⟩;replace B1:=B1.below hb4;replace B2:=B2.below hb4;replace B3:=B3.below hb4
      replace hbW:Below w.heap.size w u4:=hbW.trans (hb4.mono hbW.size)
      clear hb4 hL;clear p1 p2 p3 p4 p5 p6;obtain⟨p1,p2,p3,_⟩:=B1.cells;obtain⟨p4,p5,p6,_⟩:=B2.cells;obtain⟨q1,q2,q3,q4,q5,q6⟩:=B3.cells
      have hs:=B3.lt
      obtain⟨n1,x1,y1,⟨b1,d1,b2,d2,rfl,hx',hy'⟩,hF⟩:=hF))
 go_wp2
 exact ret3 (v:=.agg #[.bool n1,.slice b1 x1.length d1,.slice b2 y1.length d2]) B3 rfl (fun U hU=>by obtain⟨r1,r2,r3,_⟩:=hU.cells;simp[results,Tryz.results116,go_sem,r1,r2,r3]) (fun U hU hK=>⟨_,rfl,⟨_,_,_,⟨_,_,_,_,rfl,hK _ _ _ hx',hK _ _ _ hy'⟩,hF⟩,hU _ _ hbW (by omega)⟩)
theorem zin(k:Nat)(q:Rat)(v:Value)(w:World)(h:Ct w v k q)(hk:k<=100000000)(hk2:2<=k) :
 Calls Tryz.prog 115 #[v] w fun e w'=>e=.returned (.int .i64 (sgnQ q))/\Below w.heap.size w w':=by
 have hX:=h
 obtain⟨n,xs,ys,⟨a,c,a',c',rfl,hx,hy⟩,lx,ly,hq⟩:=h;clear hq hx hy lx ly
 go_enter Tryz.func115,Tryz.ntmps115
 go_wp2_with fail
 refine(zbt k q _ _ (hX.below (al1 _)) (by omega) hk2).mono ?_
 rintro e u1 ⟨v1,rfl,hF1,hb1⟩
 obtain⟨B1,hbW⟩:=zbr hb1
 clear hb1
 go_wp2_with fail
 refine(zr6 k q _ _ hF1.lo (by omega)).mono ?_
 rintro e u2 ⟨rfl,hb2⟩
 replace hbW:Below w.heap.size w u2:=hbW.trans (hb2.mono hbW.size)
 go_wp2
 go_ret
 exact⟨rfl,hbW⟩
open Classical
theorem Box.other{t:TypeId}{u U:World}{b k:Nat}{x y z:Value}(h:Box t u k x y z)(hU:∀j,j≠b->U.heap[j]?=u.heap[j]?)(hk:k≠b):Box t U k x y z:=(hU k hk).trans h
theorem zai{t:TypeId}{u:World}{b:Nat}{n:Bool}{a a':Option Addr}{l c l' c':Nat}(B:Box t u b (.bool n) (.slice a l c) (.slice a' l' c'))(x' y' z':Value) :
 ∃U,U=(((u.setCell ⟨b,0,none⟩ x').setCell ⟨b,1,none⟩ y').setCell ⟨b,2,none⟩ z')/\Box t U b x' y' z'/\(∀B w,Below B w u->B<=b->Below B w U)/\(∀a c xs,Rd u a c xs->Rd U a c xs)/\(∀j,j≠b->U.heap[j]?=u.heap[j]?) :=
 ⟨_,rfl,B.set3 x' y' z',fun _ _ h hb=>zgr h hb x' y' z',fun _ _ _ h=>Rd.apart B (by simp[World.setCell]) (zc2 u b x' y' z') h,zc2 u b x' y' z'⟩
theorem zdm{q:Rat}:sgnQ q=0↔q=0:=by
 unfold sgnQ
 refine⟨fun h=>?_,fun h=>by rw[if_pos h]⟩
 by_cases h0:q=0
 . exact h0
 . rw[if_neg h0]at h;split at h <;> cases h
theorem zl5(a:Int)(b:Nat)(hb:b≠0):(mkRat a b).floor=a/(b:Int):=by
 have key:∀x:Int,(mkRat a b).floor<x↔a/(b:Int)<x:=by
  intro x
  have hb':(0:Rat)<(b:Rat):=Rat.natCast_pos.2 (Nat.pos_of_ne_zero hb)
  rw[Rat.floor_lt_iff,Rat.mkRat_eq_div,Rat.div_lt_iff hb',Int.ediv_lt_iff_lt_mul (by omega)]
  rw[show((b:Rat))=(((b:Int)):Rat)from rfl,<-Rat.intCast_mul,Rat.intCast_lt_intCast]
 have h1:=(key (a/(b:Int)+1)).2 (by omega)
 have h2:=(key ((mkRat a b).floor+1)).1 (by omega)
 omega
theorem zsq(x y:Nat)(hy:y≠0):(-(x:Int))/(y:Int)=-((x/y+(if 0<x%y then 1 else 0):Nat):Int):=by
 have h:=Nat.div_add_mod x y
 have hl:=Nat.mod_lt x (Nat.pos_of_ne_zero hy)
 generalize x/y=q at *
 generalize x%y=r at *
 subst h
 have hy':(y:Int)≠0:=by omega
 split
 . have:(-((y*q+r:Nat):Int))=(y-r:Int)+(y:Int)*(-(q:Int)-1):=by push_cast;grind
   rw[this,Int.add_mul_ediv_left _ _ hy',Int.ediv_eq_zero_of_lt (by omega) (by omega)];push_cast;omega
 . have:r=0:=by omega
   subst this
   have:(-((y*q+0:Nat):Int))=(y:Int)*(-(q:Int)):=by push_cast;grind
   rw[this,Int.mul_ediv_cancel_left _ hy'];push_cast;omega
def flB(z:Int):Bool:=decide (-9223372036854775808<=z/\z<9223372036854775808)
def flN(z:Int):Int:=if flB z=true then z else 0
theorem zi5{xs ys:List Nat}(hy:V ys≠0):(qv false xs ys).floor=((V xs/V ys:Nat):Int):=by
 unfold qv;rw[zl5 _ _ hy];simp[sg]
theorem zd1{xs ys:List Nat}(hy:V ys≠0):(qv true xs ys).floor=-((V xs/V ys+(if 0<V xs%V ys then 1 else 0):Nat):Int):=by
 unfold qv;rw[zl5 _ _ hy,show sg true (V xs)=-(V xs:Int)from rfl,zsq _ _ hy]
theorem zcx(m:Nat):flB (m:Int)=decide (m<9223372036854775808):=by
 unfold flB;by_cases h:m<9223372036854775808 <;> simp[h] <;> omega
theorem zbi(m:Nat):flB (-(m:Int))=decide (m<=9223372036854775808):=by
 unfold flB;by_cases h:m<=9223372036854775808 <;> simp[h] <;> omega
theorem zdh(m:Nat):flN (m:Int)=if m<9223372036854775808 then (m:Int)else 0:=by unfold flN;rw[zcx];simp
theorem zbp(m:Nat):flN (-(m:Int))=if m<=9223372036854775808 then -(m:Int)else 0:=by unfold flN;rw[zbi];simp
theorem zhv{m:Nat}(h:m<9223372036854775808):wrap64 (m:Int)=(m:Int):=by
 unfold wrap64;omega
theorem zme{m:Nat}(h:m<=9223372036854775808):wrap64 (IntKind.u64.wrap (-(m:Int)))=-(m:Int):=by
 rw[zgx]
 unfold wrap64
 by_cases h0:m=0
 . subst h0;rfl
 . have e:(-(m:Int))%18446744073709551616=18446744073709551616-(m:Int):=by omega
   rw[e];omega
theorem za0{a b:Int}{c d:Bool}(h:a=b)(k:c=d):Ending.returned (.tuple #[.int .i64 a,.bool c])=.returned (.tuple #[.int .i64 b,.bool d]):=by rw[h,k]
theorem zqy(k:Nat)(q:Rat)(v:Value)(w:World)(h:Lo w v k q)(hk:k<=400000000) :
 Calls Tryz.prog 109 #[v] w fun e w'=>e=.returned (.tuple #[.int .i64 (flN q.floor),.bool (flB q.floor)])/\Below w.heap.size w w':=by
 obtain⟨n,xs,ys,⟨a,c,a',c',rfl,hx,hy⟩,tx,ty,y0,lx,ly,rfl⟩:=h
 go_enter Tryz.func109,Tryz.ntmps109
 go_wp2_with fail
 refine(zfy _ _ _ _ _ _ _ (hx.below (al1 _)) (hy.below (al1 _)) (by omega) (by omega)).mono ?_
 rintro e u1 ⟨a1,c1,zs,a2,c2,rs,rfl,hv1,hv2,ht1,ht2,hr1,hr2,hb1⟩
 obtain⟨B1,hbW⟩:=zbr hb1
 have lz:zs.length<=400000000:=by
  have h1:=zbv hx.lim lx
  have:zs.length<=k:=zah ht1 (by rw[hv1];exact Nat.lt_of_le_of_lt (Nat.div_le_self _ _) h1)
  omega
 have lr:rs.length<=400000000:=by
  have h1:=zbv hx.lim lx
  have:rs.length<=k:=zah ht2 (by rw[hv2,zbm _ (by omega)];exact Nat.lt_of_le_of_lt (Nat.mod_le _ _) h1)
  omega
 have rz:=hr1.rd
 rw[zbm _ (by omega)]at hv2
 clear hr1 hr2 hb1;obtain⟨p1,p2,p3,_⟩:=B1.cells
 cases n with
 | false =>
  have HF:Hid ((qv false xs ys).floor=((V zs:Nat):Int)):=by show _=_;rw[zi5 y0,hv1]
  clear hv1 hv2 hx hy
  go_wp2_with fail
  refine(zct _ _ _ _ rz).mono ?_
  rintro e u ⟨rfl,rfl⟩;clear rz
  generalize V zs=m at HF ⊢
  by_cases hm:m<9223372036854775808
  . rw[zar (by omega),zap (by omega)]
    have g1:(m:Int)<9223372036854775808:=by omega
    have HM:Hid (m<9223372036854775808):=hm
    clear hm
    obtain⟨z,hz⟩:∃z:Int,(m:Int)=z:=⟨_,rfl⟩
    rw[hz]at g1 ⊢
    have HZ:Hid ((m:Int)=z):=hz
    clear hz;go_wp2
    go_ret2
    exact⟨za0 (by rw[HF.out,zdh,if_pos HM.out,<-HZ.out];exact zhv HM.out) (by rw[HF.out,zcx];simp[HM.out]),hbW⟩
  . by_cases hm2:m<18446744073709551616
    . rw[zar hm2,zap hm2]
      have g1:(9223372036854775808:Int)<=(m:Int):=by omega
      go_wp2
      go_ret2
      exact⟨za0 (by rw[HF.out,zdh,if_neg hm]) (by rw[HF.out,zcx];simp[hm]),hbW⟩
    . rw[zbe hm2,za8 hm2]
      go_wp2
      go_ret2
      exact⟨za0 (by rw[HF.out,zdh,if_neg hm]) (by rw[HF.out,zcx];simp[hm]),hbW⟩
 | true =>
  by_cases hrs:rs.length=0
  . have hr0:V rs=0:=by rw[List.length_eq_zero_iff.1 hrs];rfl
    have HF:Hid ((qv true xs ys).floor=-((V zs:Nat):Int)):=by show _=_;rw[zd1 y0,hv1,<-hv2,hr0];simp
    clear hv1 hv2 hx hy hr0
    have g0:¬(0:Int)<(rs.length:Int):=by omega
    clear hrs
    go_wp2_with fail
    refine(zct _ _ _ _ rz).mono ?_
    rintro e u ⟨rfl,rfl⟩;clear rz
    generalize V zs=m at HF ⊢
    by_cases hm:m<=9223372036854775808
    . rw[zar (by omega),zap (by omega)]
      have g1:¬(9223372036854775808:Int)<(m:Int):=by omega
      go_wp2
      go_ret2
      exact⟨za0 (by rw[HF.out,zbp,if_pos hm];exact zme hm) (by rw[HF.out,zbi];simp[hm]),hbW⟩
    . by_cases hm2:m<18446744073709551616
      . rw[zar hm2,zap hm2]
        have g1:(9223372036854775808:Int)<(m:Int):=by omega
        go_wp2
        go_ret2
        exact⟨za0 (by rw[HF.out,zbp,if_neg hm]) (by rw[HF.out,zbi];simp[hm]),hbW⟩
      . rw[zbe hm2,za8 hm2]
        go_wp2
        go_ret2
        exact⟨za0 (by rw[HF.out,zbp,if_neg hm]) (by rw[HF.out,zbi];simp[hm]),hbW⟩
  . have hr0:0<V rs:=by
      have:=zh0 ht2 fun h=>hrs (by rw[h];rfl)
      omega
    have g0:(0:Int)<(rs.length:Int):=by omega
    go_wp2_with fail
    refine(zdu 1 _ (by decide)).mono ?_
    rintro e u2 ⟨a3,c3,os,rfl,hv3,ht3,hr3,hb3⟩
    have ro:=hr3.rd
    replace rz:=rz.below hb3
    replace hbW:Below w.heap.size w u2:=hbW.trans (hb3.mono hbW.size)
    have lo:os.length<=2:=zbh ht3 (by omega)
    clear hr3 hb3 p1 p2 p3
    go_wp2_with fail
    refine(zrp _ _ _ _ _ _ _ rz ro (by omega) (by omega)).mono ?_
    rintro e u3 ⟨a4,c4,ws,rfl,hv4,ht4,hr4,hb4⟩
    have rw4:=hr4.rd
    replace hbW:Below w.heap.size w u3:=hbW.trans (hb4.mono hbW.size)
    have HF:Hid ((qv true xs ys).floor=-((V ws:Nat):Int)):=by show _=_;rw[zd1 y0,hv4,hv1,hv3,<-hv2,if_pos hr0]
    clear hv1 hv2 hx hy hr0 hr4 hb4 rz ro hv4 hv3
    go_wp2_with fail
    refine(zct _ _ _ _ rw4).mono ?_
    rintro e u ⟨rfl,rfl⟩;clear rw4
    generalize V ws=m at HF ⊢
    by_cases hm:m<=9223372036854775808
    . rw[zar (by omega),zap (by omega)]
      have g1:¬(9223372036854775808:Int)<(m:Int):=by omega
      go_wp2
      go_ret2
      exact⟨za0 (by rw[HF.out,zbp,if_pos hm];exact zme hm) (by rw[HF.out,zbi];simp[hm]),hbW⟩
    . by_cases hm2:m<18446744073709551616
      . rw[zar hm2,zap hm2]
        have g1:(9223372036854775808:Int)<(m:Int):=by omega
        go_wp2
        go_ret2
        exact⟨za0 (by rw[HF.out,zbp,if_neg hm]) (by rw[HF.out,zbi];simp[hm]),hbW⟩
      . rw[zbe hm2,za8 hm2]
        go_wp2
        go_ret2
        exact⟨za0 (by rw[HF.out,zbp,if_neg hm]) (by rw[HF.out,zbi];simp[hm]),hbW⟩
theorem zv7{w:World}{a a':Option Addr}{c c':Nat}{xs ys:List Nat}(hx:Rd w a c xs)(hy:Rd w a' c' ys)(tx:Tr xs)(ty:Tr ys)(vx:V xs=1)(vy:V ys=2) :
 Lo w (.agg #[.bool false,.slice a xs.length c,.slice a' ys.length c']) 2 (1/2):=by
 refine⟨_,_,_,⟨_,_,_,_,rfl,hx,hy⟩,tx,ty,by omega,zbh tx (by omega),zbh ty (by omega),?_⟩
 unfold qv
 rw[vx,vy,Rat.mkRat_eq_div]
 rfl
theorem zea(k:Nat)(q:Rat)(v:Value)(w:World)(h:Ct w v k q)(hk:k<=100000000)(hk2:2<=k) :
 Calls Tryz.prog 78 #[v] w fun e w'=>e=.returned (.tuple #[.int .i64 (flN (q+1/2).floor),.bool (flB (q+1/2).floor)])/\Below w.heap.size w w':=by
 have hX:=h
 obtain⟨n,xs,ys,⟨a,c,a',c',rfl,hx,hy⟩,lx,ly,hq⟩:=h;clear hq hx hy lx ly
 go_enter Tryz.func78,Tryz.ntmps78
 go_wp2_with fail
 refine(zdu 1 _ (by decide)).mono ?_
 rintro e u1 ⟨a1,c1,os,rfl,hv1,ht1,hr1,hb1⟩
 obtain⟨B1,hbW⟩:=zbr hb1
 replace hX:=(hX.below (al1 _)).below hb1
 have ro:=hr1.rd
 clear hr1 hb1
 go_wp2_with fail
 refine(zdu 2 _ (by decide)).mono ?_
 rintro e u2 ⟨a2,c2,ts,rfl,hv2,ht2,hr2,hb2⟩;replace B1:=B1.below hb2;replace hX:=hX.below hb2;replace ro:=ro.below hb2
 replace hbW:Below w.heap.size w u2:=hbW.trans (hb2.mono hbW.size)
 have rt:=hr2.rd
 clear hr2 hb2
 go_wp2_with fail
 obtain⟨W,hW,B2,hW2⟩:∃W,W=u2.alloc (Obj.cells #[Value.bool false,Value.slice a1 os.length c1,Value.slice a2 ts.length c2] 96)/\Box 96 W u2.heap.size (.bool false) (.slice a1 os.length c1) (.slice a2 ts.length c2)/\Below u2.heap.size u2 W:=⟨_,rfl,Box.new _ _ _ _ _,al1 _⟩
 rw[<-hW];clear hW;replace B1:=B1.below hW2;replace hX:=hX.below hW2
 have hH:Lo W (.agg #[.bool false,.slice a1 os.length c1,.slice a2 ts.length c2]) 2 (1/2):=(zv7 ro rt ht1 ht2 hv1 hv2).below hW2
 replace hbW:Below w.heap.size w W:=hbW.trans (hW2.mono hbW.size)
 clear hW2 ro rt
 generalize u2.heap.size=bh at B2 ⊢
 obtain⟨p1,p2,p3,_⟩:=B1.cells;obtain⟨p4,p5,p6,_⟩:=B2.cells
 go_region_held3 (fun u=>u.cell? ⟨w.heap.size,0,none⟩=some (.bool n)/\u.cell? ⟨w.heap.size,1,none⟩=some (.slice a xs.length c)/\u.cell? ⟨w.heap.size,2,none⟩=some (.slice a' ys.length c')/\u.cell? ⟨bh,0,none⟩=some (.bool false)/\u.cell? ⟨bh,1,none⟩=some (.slice a1 os.length c1)/\u.cell? ⟨bh,2,none⟩=some (.slice a2 ts.length c2)) (go_keep)
  (first
   | (go_at_call 111
      refine(zbt k q _ _ (hX.below Below.drew1) ?_ ?_).mono ?_
      . omega
      . omega
      rintro e u3 ⟨v3,rfl,hF3,hb3⟩
      replace hb3:Below W.heap.size W u3:=Below.drew1.trans hb3
      replace hH:=hH.below hb3;replace B1:=B1.below hb3;replace B2:=B2.below hb3
      replace hbW:Below w.heap.size w u3:=hbW.trans (hb3.mono hbW.size)
      clear hb3 hX p1 p2 p3 p4 p5 p6;obtain⟨p1,p2,p3,_⟩:=B1.cells
      obtain⟨p4,p5,p6,_⟩:=B2.cells)
   | (go_at_call 110
      refine(zll k 2 q (1/2) _ _ _ hF3.lo hH ?_ ?_).mono ?_
      . omega
      . omega
      rintro e u4 ⟨v4,rfl,hL,hb4⟩;replace B1:=B1.below hb4;replace B2:=B2.below hb4
      replace hbW:Below w.heap.size w u4:=hbW.trans (hb4.mono hbW.size)
      clear hb4 hF3 hH p1 p2 p3 p4 p5 p6;obtain⟨p1,p2,p3,_⟩:=B1.cells
      obtain⟨p4,p5,p6,_⟩:=B2.cells)
   | (go_at_call 109
      refine(zqy (k+2+1) _ _ _ hL ?_).mono ?_
      . omega
      rintro e u5 ⟨rfl,hb5⟩;replace B1:=B1.below hb5;replace B2:=B2.below hb5
      replace hbW:Below w.heap.size w u5:=hbW.trans (hb5.mono hbW.size)
      clear hb5 hL p1 p2 p3 p4 p5 p6;obtain⟨p1,p2,p3,_⟩:=B1.cells
      obtain⟨p4,p5,p6,_⟩:=B2.cells))
 go_wp2
 go_ret2
 exact⟨rfl,hbW⟩
def Stg(n:Nat):Prop:=n=n
def crd(z:Int):Bool:=decide (-16384<=z/\z<=16384)
def fldN(z:Int):Int:=if -32768<=z/\z<=32767 then z else 0
def fldE(z:Int):Int:=if -32768<=z/\z<=32767 then 0 else 4
theorem zgy(z:Int):IntKind.i16.wrap z=if 32768<=z%65536 then z%65536-65536 else z%65536:=by
 simp[IntKind.wrap,IntKind.bits,IntKind.signed]
theorem zam(z:Int)(w:World):Calls Tryz.prog 192 #[.int .i64 z] w fun e w'=>e=.returned (.bool (crd z))/\w=w':=by
 by_cases h1:-16384<=z
 . go_enter Tryz.func192,Tryz.ntmps192
   go_wp2
   go_ret
   exact⟨zaz (by simp[crd,h1]),rfl⟩
 . go_enter Tryz.func192,Tryz.ntmps192
   go_wp2
   go_ret
   exact⟨zaz (by simp[crd];omega),rfl⟩
theorem zq0(k:Nat)(q:Rat)(v:Value)(w:World)(h:Ct w v k q)(hk:k<=100000000)(hk2:2<=k) :
 Calls Tryz.prog 45 #[v] w fun e w'=>e=.returned (.tuple #[.int .i64 (fldN (q+1/2).floor),.int .i64 (fldE (q+1/2).floor)])/\Below w.heap.size w w':=by
 have hX:=h
 obtain⟨n,xs,ys,⟨a,c,a',c',rfl,_,_⟩,hz1⟩:=h;clear hz1
 obtain⟨z,hz⟩:∃z,(q+1/2).floor=z:=⟨_,rfl⟩
 rw[hz]
 have HZ:Hid ((q+1/2).floor=z):=hz
 clear hz
 have e34:(-32768<=z/\z<=32767/\fldN z=z/\fldE z=0/\flB z=true/\flN z=z)\/(¬(-32768<=z/\z<=32767)/\fldN z=0/\fldE z=4):=by
  by_cases h1:-32768<=z/\z<=32767
  . have e1:flB z=true:=by unfold flB;exact decide_eq_true (by omega)
    exact .inl ⟨h1.1,h1.2,by unfold fldN;rw[if_pos h1],by unfold fldE;rw[if_pos h1],e1,by unfold flN;rw[if_pos e1]⟩
  . exact .inr ⟨h1,by unfold fldN;rw[if_neg h1],by unfold fldE;rw[if_neg h1]⟩
 rcases e34 with ⟨h1,h2,e3,e4,e1,e2⟩|⟨h1,e3,e4⟩
 . rw[e3,e4]
   have E1:Hid (flB z=true/\flN z=z):=⟨e1,e2⟩
   clear e1 e2 e3 e4
   go_enter Tryz.func45,Tryz.ntmps45
   go_wp2_with fail
   refine(zea k q _ _ (hX.below (al1 _)) hk hk2).mono ?_
   rintro e u1 ⟨rfl,hb1⟩
   obtain⟨B1,hbW⟩:=zbr hb1
   clear hb1 hX;rw[HZ.out,E1.out.1,E1.out.2];go_wp2
   go_ret2
   exact⟨rfl,hbW⟩
 rw[e3,e4];clear e3 e4
 have h3:z < -32768\/32767<z:=by omega
 clear h1
 by_cases h2:flB z=true
 . have e2:flN z=z:=by unfold flN;rw[if_pos h2]
   have e5:-9223372036854775808<=z/\z<9223372036854775808:=by unfold flB at h2;simpa using h2
   have E1:Hid (flB z=true/\flN z=z):=⟨h2,e2⟩
   have g1:(wrap64 (IntKind.i16.wrap z) != z)=true:=by
    rw[zgy z]
    simp
    unfold wrap64
    split <;> omega
   clear h2 e2
   go_enter Tryz.func45,Tryz.ntmps45
   go_wp2_with fail
   refine(zea k q _ _ (hX.below (al1 _)) hk hk2).mono ?_
   rintro e u1 ⟨rfl,hb1⟩
   obtain⟨B1,hbW⟩:=zbr hb1
   clear hb1 hX;rw[HZ.out,E1.out.1,E1.out.2];go_wp2
   go_ret2
   exact⟨rfl,hbW⟩
 . have e1:flB z=false:=by simpa using h2
   have E1:Hid (flB z=false):=e1
   clear h2 e1
   go_enter Tryz.func45,Tryz.ntmps45
   go_wp2_with fail
   refine(zea k q _ _ (hX.below (al1 _)) hk hk2).mono ?_
   rintro e u1 ⟨rfl,hb1⟩
   obtain⟨B1,hbW⟩:=zbr hb1
   clear hb1 hX;rw[HZ.out,E1.out]
   generalize flN z=y
   go_wp2
   go_ret2
   exact⟨rfl,hbW⟩
open Go.Lib
theorem Ct.keep{u U:World}{v:Value}{k:Nat}{q:Rat}(h:Ct u v k q)(hK:∀a c xs,Rd u a c xs->Rd U a c xs):Ct U v k q:=by
 obtain⟨n0,x0,y0,⟨e1,e2,e3,e4,e5,e6,e7⟩,e8⟩:=h
 exact⟨n0,x0,y0,⟨e1,e2,e3,e4,e5,hK _ _ _ e6,hK _ _ _ e7⟩,e8⟩
def Two(w:World)(n:Bool)(a:Option Addr)(c:Nat)(xs:List Nat)(a':Option Addr)(c':Nat)(ys:List Nat)(m:Bool)(b:Option Addr)(d:Nat)(ps:List Nat)(b':Option Addr)(d':Nat)(qs:List Nat)(q:Rat):Prop :=
 Rd w a c xs/\Rd w a' c' ys/\Rd w b d ps/\Rd w b' d' qs/\Fmd n xs ys/\xs.length<=9/\ys.length<=9/\qv n xs ys=q/\Fmd m ps qs/\ps.length<=9/\qs.length<=9/\qv m ps qs=q
