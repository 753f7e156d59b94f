import Derived.Test.YtkmcodofnckdmaaGreatZK3
import Derived.Deep.RegionHeld3
set_option maxHeartbeats 2000000
set_option maxRecDepth 100000
set_option linter.unusedSimpArgs false
set_option linter.unusedVariables false
namespace Go.Proofs.YtkmcodofnckdmaaGreat
open Go.RowKit Classical
def Box(t:TypeId)(w:World)(b:Nat)(x y z:Value):Prop:=w.heap[b]?=some (.cells #[x,y,z] t (0,0))
theorem Box.lt{t:TypeId}{w:World}{b:Nat}{x y z:Value}(h:Box t w b x y z):b<w.heap.size:=(Array.getElem?_eq_some_iff.1 h).1
theorem Box.below{t:TypeId}{w w':World}{b:Nat}{x y z:Value}(h:Box t w b x y z)(hb:Below w.heap.size w w'):Box t w' b x y z:=(hb.block b h.lt).trans h
theorem Box.cells{t:TypeId}{w:World}{b:Nat}{x y z:Value}(h:Box t w b x y z) :
 w.cell? ⟨b,0,none⟩=some x/\w.cell? ⟨b,1,none⟩=some y/\w.cell? ⟨b,2,none⟩=some z/\w.frozen? ⟨b,0,none⟩=false/\w.frozen? ⟨b,1,none⟩=false/\w.frozen? ⟨b,2,none⟩=false:=by
 refine⟨cell_of_row w b 0 _ t (0,0) h,cell_of_row w b 1 _ t (0,0) h,cell_of_row w b 2 _ t (0,0) h,frozen_of_row w b 0 _ t h,frozen_of_row w b 1 _ t h,frozen_of_row w b 2 _ t h⟩
theorem Box.new(t:TypeId)(w:World)(x y z:Value):Box t (w.alloc (.cells #[x,y,z] t)) w.heap.size x y z:=heap_alloc_new w (.cells #[x,y,z] t)
theorem Box.alloc{t:TypeId}{w:World}{b:Nat}{x y z:Value}(h:Box t w b x y z)(o:Obj):Box t (w.alloc o) b x y z:=h.below ((Below.refl _ _).alloc (Nat.le_refl _) o)
theorem al1{w:World}(o:Obj):Below w.heap.size w (w.alloc o):=(Below.refl _ _).alloc (Nat.le_refl _) o
theorem al2{w:World}(o o':Obj):Below w.heap.size w ((w.alloc o).alloc o'):=(al1 o).alloc (by simp) o'
theorem al3{w:World}(o o' o'':Obj):Below w.heap.size w (((w.alloc o).alloc o').alloc o''):=(al2 o o').alloc (by simp;omega) o''
theorem Box.new1(t:TypeId)(w:World)(o:Obj)(x y z:Value):Box t ((w.alloc o).alloc (.cells #[x,y,z] t)) (w.heap.size+1) x y z:=by
 have h:=Box.new t (w.alloc o) x y z
 simpa using h
theorem Box.new2(t:TypeId)(w:World)(o o':Obj)(x y z:Value):Box t (((w.alloc o).alloc o').alloc (.cells #[x,y,z] t)) (w.heap.size+1+1) x y z:=by
 have h:=Box.new t ((w.alloc o).alloc o') x y z
 simpa using h
theorem zeu{t:TypeId}{w u:World}{x y z:Value}(hb:Below (w.alloc (.cells #[x,y,z] t)).heap.size (w.alloc (.cells #[x,y,z] t)) u) :
 Box t u w.heap.size x y z/\Below w.heap.size w u :=
 ⟨(Box.new _ _ _ _ _).below hb,(al1 _).trans (hb.mono (by simp))⟩
theorem zum{t s:TypeId}{w u:World}{x y z x' y' z':Value}(hb:Below ((w.alloc (.cells #[x,y,z] t)).alloc (.cells #[x',y',z'] s)).heap.size ((w.alloc (.cells #[x,y,z] t)).alloc (.cells #[x',y',z'] s)) u) :
 Box t u w.heap.size x y z/\Box s u (w.heap.size+1) x' y' z'/\Below w.heap.size w u :=
 ⟨((Box.new _ _ _ _ _).alloc _).below hb,(Box.new1 _ _ _ _ _ _).below hb,(al2 _ _).trans (hb.mono (by simp;omega))⟩
theorem z5r{t s r:TypeId}{w u:World}{x y z x' y' z' x'' y'' z'':Value}(hb:Below (((w.alloc (.cells #[x,y,z] t)).alloc (.cells #[x',y',z'] s)).alloc (.cells #[x'',y'',z''] r)).heap.size (((w.alloc (.cells #[x,y,z] t)).alloc (.cells #[x',y',z'] s)).alloc (.cells #[x'',y'',z''] r)) u) :
 Box t u w.heap.size x y z/\Box s u (w.heap.size+1) x' y' z'/\Box r u (w.heap.size+1+1) x'' y'' z''/\Below w.heap.size w u :=
 ⟨(((Box.new _ _ _ _ _).alloc _).alloc _).below hb,((Box.new1 _ _ _ _ _ _).alloc _).below hb,(Box.new2 _ _ _ _ _ _ _).below hb,(al3 _ _ _).trans (hb.mono (by simp;omega))⟩
theorem zov(t s r:TypeId)(w:World)(x y z x' y' z' x'' y'' z'':Value) :
 ∃W,W=(((w.alloc (.cells #[x,y,z] t)).alloc (.cells #[x',y',z'] s)).alloc (.cells #[x'',y'',z''] r))/\Box t W w.heap.size x y z/\Box s W (w.heap.size+1) x' y' z'/\Box r W (w.heap.size+1+1) x'' y'' z''/\Below w.heap.size w W :=
 ⟨_,rfl,z5r (Below.refl _ _)⟩
theorem z5n(t s:TypeId)(w:World)(x y z x' y' z':Value) :
 ∃W,W=((w.alloc (.cells #[x,y,z] t)).alloc (.cells #[x',y',z'] s))/\Box t W w.heap.size x y z/\Box s W (w.heap.size+1) x' y' z'/\Below w.heap.size w W :=
 ⟨_,rfl,zum (Below.refl _ _)⟩
theorem Box.set3{t:TypeId}{w:World}{b:Nat}{x y z:Value}(h:Box t w b x y z)(x' y' z':Value) :
 Box t (((w.setCell ⟨b,0,none⟩ x').setCell ⟨b,1,none⟩ y').setCell ⟨b,2,none⟩ z') b x' y' z':=by
 have h1:=heap_setCell_same w b 0 _ t x' h
 have h2:=heap_setCell_same _ b 1 _ t y' h1
 have h3:=heap_setCell_same _ b 2 _ t z' h2
 exact h3
theorem zhy{B b:Nat}{w u:World}(h:Below B w u)(hb:B<=b)(x' y' z':Value):Below B w (((u.setCell ⟨b,0,none⟩ x').setCell ⟨b,1,none⟩ y').setCell ⟨b,2,none⟩ z') :=
 ((h.setCell (p:=⟨b,0,none⟩) hb x').setCell (p:=⟨b,1,none⟩) hb y').setCell (p:=⟨b,2,none⟩) hb z'
theorem Rd.apart{t:TypeId}{u U:World}{b:Nat}{n:Bool}{a a':OA}{l c l' c':Nat}(B:Box t u b (.bool n) (.slice a l c) (.slice a' l' c'))(hs:u.heap.size<=U.heap.size)
    (hU:∀k,k≠b->U.heap[k]?=u.heap[k]?) {r:OA} {cp:Nat} {xs:LN} (h:Rd u r cp xs):Rd U r cp xs:=by
 obtain⟨h1,h2,h3,h5,h4⟩:=h
 refine⟨h1,h2,h3,h5,?_⟩
 rcases h4 with h4|⟨g,off,e,hg,hc⟩
 . exact .inl h4
 . by_cases hx:xs=[]
   . exact .inl hx
   refine .inr ⟨g,off,e,Nat.lt_of_lt_of_le hg hs,fun i hi=>?_⟩
   have hne:g≠b:=by
    rintro rfl
    have hc0:=hc 0 (List.length_pos_iff.2 hx)
    have hb:=cell_of_row u g (off+0) _ t (0,0) B
    rw[hc0]at hb
    match off,hb with
    | 0,hb=>simp at hb
    | 1,hb=>simp at hb
    | 2,hb=>simp at hb
    | (k+3),hb=>simp at hb
   exact(World.cell?_of_block (w:=u) (a:=⟨g,off+i,none⟩) (hU g hne)).trans (hc i hi)
theorem zdn(u:World)(b:Nat)(x y z:Value)(k:Nat)(hk:k≠b):(((u.setCell ⟨b,0,none⟩ x).setCell ⟨b,1,none⟩ y).setCell ⟨b,2,none⟩ z).heap[k]?=u.heap[k]?:=by
 rw[Below.heap_setCell _ ⟨b,2,none⟩ z k hk,Below.heap_setCell _ ⟨b,1,none⟩ y k hk,Below.heap_setCell _ ⟨b,0,none⟩ x k hk]
theorem zab{u:World}{b:Nat}{x y z:Value}{k i:Nat}(hk:k≠b):(((u.setCell ⟨b,0,none⟩ x).setCell ⟨b,1,none⟩ y).setCell ⟨b,2,none⟩ z).cell? ⟨k,i,none⟩=u.cell? ⟨k,i,none⟩ :=
 World.cell?_of_block (w:=u) (a:=⟨k,i,none⟩) (zdn u b x y z k hk)
theorem ret3{P:Program}{fn:Func}{R:Ending->World->Prop}{ac:Act}{t:TypeId}{u:World}{b:Nat}{n:Bool}{a a':OA}{l c l' c':Nat}{x' y' z' v:Value}(B:Box t u b (.bool n) (.slice a l c) (.slice a' l' c'))
    (hd:ac.defers=[]) (hr:∀U,Box t U b x' y' z'->(results fn ac.tmps).run P U=.ok v U)
    (hR:∀U,(∀B w,Below B w u->B<=b->Below B w U)->(∀a c xs,Rd u a c xs->Rd U a c xs)->R (.returned v) U) :
    bodyPost P fn R .ret ac (((u.setCell ⟨b,0,none⟩ x').setCell ⟨b,1,none⟩ y').setCell ⟨b,2,none⟩ z') :=
 bodyPost_ret (hr _ (B.set3 x' y' z')) hd (hR _ (fun _ _ h hb=>zhy h hb x' y' z') fun _ _ _ h=>Rd.apart B (by simp[World.setCell]) (zdn u b x' y' z') h)
theorem zh3(z:Int):IntKind.u64.wrap z=z%18446744073709551616:=by
 unfold IntKind.wrap;simp[IntKind.bits,IntKind.signed]
theorem zlu(z:Int)(w:World)(h1:-9223372036854775808<=z)(h2:z<9223372036854775808) :
 Calls Tryz.prog 164 #[.int .i64 z] w fun e w'=>e=.returned (.int .u64 (z.natAbs:Nat))/\w=w':=by
 by_cases hz:z<0
 . go_enter Tryz.func164,Tryz.ntmps164
   go_wp2
   go_ret
   exact⟨by simp[zh3];omega,rfl⟩
 . go_enter Tryz.func164,Tryz.ntmps164
   go_wp2
   go_ret
   exact⟨by simp[zh3];omega,rfl⟩
theorem zd4(k:Nat)(q:Rat)(v:Value)(w:World)(h:Lo w v k q)(hk:k<=400000000) :
 Calls Tryz.prog 163 #[v] w fun e w'=>∃v',e=.returned v'/\Fr w' v' k q/\Below w.heap.size w w':=by
 obtain⟨n,xs,ys,⟨a,c,a',c',rfl,hx,hy⟩,tx,ty,y0,lx,ly,rfl⟩:=h
 have hx0:=hx.lim
 have hy0:=hy.lim
 go_enter Tryz.func163,Tryz.ntmps163
 go_wp2_with fail
 refine(zl8 _ _ _ _ _ _ _ (hx.below (al2 _ _)) (hy.below (al2 _ _)) (by omega) (by omega)).mono ?_
 rintro e u1 ⟨a1,c1,gs,rfl,hv1,ht1,hr1,hb1⟩
 replace hx:=(hx.below (al2 _ _)).below hb1
 replace hy:=(hy.below (al2 _ _)).below hb1
 obtain⟨B1,B2,hbW⟩:=zum hb1
 have rg:=hr1.rd
 have g0:V gs≠0:=by rw[hv1];exact fun h=>y0 (Nat.gcd_eq_zero_iff.1 h).2
 have lg:gs.length<=k:=by
  refine zas ht1 ?_
  have h1:=V_lt hy.lim
  have h2:V gs<=V ys:=by rw[hv1];exact Nat.gcd_le_right _ (by omega)
  have h3:4294967296 ^ ys.length<=4294967296 ^ k:=Nat.pow_le_pow_right (by decide) ly
  omega
 clear hr1 hb1;obtain⟨p1,p2,p3,_⟩:=B1.cells
 go_wp2_with fail
 refine(zg6 _ _ _ _ _ _ _ hx rg (by omega) (by omega)).mono ?_
 rintro e u2 ⟨a2,c2,ps,a3,c3,rs,rfl,hv2,hv3,ht2,ht3,hr2,hr3,hb2⟩
 have rp:=hr2.rd
 replace hy:=hy.below hb2;replace rg:=rg.below hb2;replace B1:=B1.below hb2;replace B2:=B2.below hb2
 replace hbW:Below w.heap.size w u2:=hbW.trans (hb2.mono hbW.size)
 clear hb2 hr2 hr3 hv3 ht3 p1 p2 p3 hx;obtain⟨p1,p2,p3,_⟩:=B1.cells
 go_wp2_with fail
 refine(zg6 _ _ _ _ _ _ _ hy rg (by omega) (by omega)).mono ?_
 rintro e u3 ⟨a4,c4,qs,a5,c5,rs',rfl,hv4,hv5,ht4,ht5,hr4,hr5,hb3⟩
 have rq:=hr4.rd
 replace rp:=rp.below hb3;replace B1:=B1.below hb3;replace B2:=B2.below hb3
 replace hbW:Below w.heap.size w u3:=hbW.trans (hb3.mono hbW.size)
 clear hb3 hr4 hr5 hv5 ht5 p1 p2 p3 hy rg;obtain⟨p1,p2,p3,_⟩:=B1.cells;obtain⟨q1,q2,q3,q4,q5,q6⟩:=B2.cells
 have hs:=B2.lt
 have hF:=zma (n:=n) (xs:=xs) (ys:=ys) y0 ht2 ht4 (by rw[hv2,hv1]) (by rw[hv4,hv1])
 have lp:ps.length<=k:=by
  refine zas ht2 ?_
  have h1:=V_lt hx0
  have h2:V ps<=V xs:=by rw[hv2];exact Nat.div_le_self _ _
  have h3:4294967296 ^ xs.length<=4294967296 ^ k:=Nat.pow_le_pow_right (by decide) lx
  omega
 have lq:qs.length<=k:=by
  refine zas ht4 ?_
  have h1:=V_lt hy0
  have h2:V qs<=V ys:=by rw[hv4];exact Nat.div_le_self _ _
  have h3:4294967296 ^ ys.length<=4294967296 ^ k:=Nat.pow_le_pow_right (by decide) ly
  omega
 have fin:∀(m:Bool),m=(n&&decide (0<ps.length))->∀(U:World),(∀a c xs,Rd u3 a c xs->Rd U a c xs)->Fr U (.agg #[.bool m,.slice a2 ps.length c2,.slice a4 qs.length c4]) k (qv n xs ys):=by
  rintro m rfl U hU
  exact⟨_,ps,qs,⟨_,_,_,_,rfl,hU _ _ _ rp,hU _ _ _ rq⟩,hF.1,lp,lq,hF.2⟩
 clear hF
 cases n with
 | false =>
  go_wp2
  refine ret3 (v:=.agg #[.bool false,.slice a2 ps.length c2,.slice a4 qs.length c4]) B2 rfl (fun U hU=>by obtain⟨r1,r2,r3,_⟩:=hU.cells;simp[results,Tryz.results163,go_sem,r1,r2,r3]) (fun U hU hK=>⟨_,rfl,fin _ rfl U hK,hU _ _ hbW (by omega)⟩)
 | true =>
  go_wp2
  refine ret3 (v:=.agg #[.bool (decide (0<ps.length)),.slice a2 ps.length c2,.slice a4 qs.length c4]) B2 rfl (fun U hU=>by obtain⟨r1,r2,r3,_⟩:=hU.cells;simp[results,Tryz.results163,go_sem,r1,r2,r3]) (fun U hU hK=>⟨_,rfl,fin _ (by simp) U hK,hU _ _ hbW (by omega)⟩)
theorem zyr(z:Int):sg (decide (z<0)) z.natAbs=z:=by
 unfold sg
 by_cases h:z<0
 . rw[if_pos (by simpa using h)];omega
 . rw[if_neg (by simpa using h)];omega
theorem zti{z:Int}{xs ys:LN}(hx:V xs=z.natAbs)(hy:V ys=1)(tx:Tr xs)(ty:Tr ys):Fmd (decide (z<0)) xs ys/\qv (decide (z<0)) xs ys=(z:Rat):=by
 refine⟨⟨tx,ty,?_,?_,by rw[hy];simp⟩,?_⟩
 . rintro rfl;simp[V]at hy
 . rintro ⟨h1,rfl⟩;simp[V]at h1 hx;omega
 . unfold qv;rw[hx,hy,zyr];exact Rat.mkRat_one z
theorem zd5{xs:LN}(t:Tr xs)(h:V xs<18446744073709551616):xs.length<=2:=zas t h
theorem zae(z:Int)(w:World)(h1:-9223372036854775808<=z)(h2:z<9223372036854775808) :
 Calls Tryz.prog 112 #[.int .i64 z] w fun e w'=>∃v',e=.returned v'/\Fr w' v' 2 (z:Rat)/\Below w.heap.size w w':=by
 go_enter Tryz.func112,Tryz.ntmps112
 go_wp2_with fail
 refine(zlu z _ h1 h2).mono ?_
 rintro e u ⟨rfl,rfl⟩
 go_wp2_with fail
 refine(zeh z.natAbs _ (by omega)).mono ?_
 rintro e u1 ⟨a1,c1,xs,rfl,hv1,ht1,hr1,hb1⟩
 obtain⟨B1,hbW⟩:=zeu hb1
 have rx:=hr1.rd
 clear hr1 hb1
 go_wp2_with fail
 refine(zeh 1 _ (by omega)).mono ?_
 rintro e u2 ⟨a2,c2,ys,rfl,hv2,ht2,hr2,hb2⟩
 have ry:=hr2.rd
 replace rx:=rx.below hb2;replace B1:=B1.below hb2
 replace hbW:Below w.heap.size w u2:=hbW.trans (hb2.mono hbW.size)
 clear hr2 hb2;obtain⟨q1,q2,q3,q4,q5,q6⟩:=B1.cells
 have hs:=B1.lt
 go_wp2
 have hF:=zti hv1 hv2 ht1 ht2
 refine ret3 (v:=.agg #[.bool (decide (z<0)),.slice a1 xs.length c1,.slice a2 ys.length c2]) B1 rfl (fun U hU=>by obtain⟨r1,r2,r3,_⟩:=hU.cells;simp[results,Tryz.results112,go_sem,r1,r2,r3]) (fun U hU hK=>⟨_,rfl,⟨_,_,_,⟨_,_,_,_,rfl,hK _ _ _ rx,hK _ _ _ ry⟩,hF.1,zd5 ht1 (by omega),zd5 ht2 (by omega),hF.2⟩,hU _ _ hbW (by omega)⟩)
theorem zbu(k:Nat)(q:Rat)(v:Value)(w:World)(h:Ct w v k q)(hk:k<=400000000)(hk2:2<=k) :
 Calls Tryz.prog 162 #[v] w fun e w'=>∃v',e=.returned v'/\Fr w' v' k q/\Below w.heap.size w w':=by
 obtain⟨n,xs,ys,⟨a,c,a',c',rfl,hx,hy⟩,lx,ly,hq⟩:=h
 have HQ:Hid (q=if Fmd n xs ys then qv n xs ys else 0):=hq
 clear hq
 go_enter Tryz.func162,Tryz.ntmps162
 go_wp2_with fail
 refine(zpy _ _ _ _ _ _ _ _ (hx.below (al2 _ _)) (hy.below (al2 _ _)) (by omega) (by omega)).mono ?_
 rintro e u1 ⟨rfl,hb1⟩
 replace hx:=(hx.below (al2 _ _)).below hb1
 replace hy:=(hy.below (al2 _ _)).below hb1
 obtain⟨B1,B2,hbW⟩:=zum hb1
 obtain⟨p1,p2,p3,_⟩:=B1.cells;obtain⟨q1,q2,q3,q4,q5,q6⟩:=B2.cells
 have hs:=B2.lt
 clear hb1
 by_cases hf:Fmd n xs ys
 . have e1:decide (Fmd n xs ys)=true:=decide_eq_true hf
   rw[e1];clear e1;go_wp2
   refine ret3 (v:=.agg #[.bool n,.slice a xs.length c,.slice a' ys.length c']) B2 rfl (fun U hU=>by obtain⟨r1,r2,r3,_⟩:=hU.cells;simp[results,Tryz.results162,go_sem,r1,r2,r3]) (fun U hU hK=>⟨_,rfl,⟨_,_,_,⟨_,_,_,_,rfl,hK _ _ _ hx,hK _ _ _ hy⟩,hf,lx,ly,by rw[HQ.out,if_pos hf]⟩,hU _ _ hbW (by omega)⟩)
 . have e1:decide (Fmd n xs ys)=false:=decide_eq_false hf
   rw[e1];clear e1
   go_wp2_with fail
   refine(zae 0 _ (by decide) (by decide)).mono ?_
   rintro e u2 ⟨v2,rfl,hF,hb2⟩;replace B2:=B2.below hb2
   replace hbW:Below w.heap.size w u2:=hbW.trans (hb2.mono hbW.size)
   clear q1 q2 q3 q4 q5 q6;obtain⟨q1,q2,q3,q4,q5,q6⟩:=B2.cells
   have hs':=B2.lt
   obtain⟨n',xs',ys',⟨b,d,b',d',rfl,hx',hy'⟩,hf',lx',ly',he⟩:=hF;go_wp2
   refine ret3 (v:=.agg #[.bool n',.slice b xs'.length d,.slice b' ys'.length d']) B2 rfl (fun U hU=>by obtain⟨r1,r2,r3,_⟩:=hU.cells;simp[results,Tryz.results162,go_sem,r1,r2,r3]) (fun U hU hK=>⟨_,rfl,⟨_,_,_,⟨_,_,_,_,rfl,hK _ _ _ hx',hK _ _ _ hy'⟩,hf',by omega,by omega,by rw[HQ.out,if_neg hf,he];rfl⟩,hU _ _ hbW (by omega)⟩)
theorem zyq(n m:Bool)(a b:Nat):sg n a*sg m b=sg (!(n==m)) (a*b):=by
 cases n <;> cases m <;> simp[sg] <;> grind
theorem z01{z d:Int}{xs ys:LN}(hx:V xs=z.natAbs)(hy:V ys=d.natAbs)(hd:d≠0):qv (!(decide (z<0)==decide (d<0))) xs ys=(z:Rat)/(d:Rat):=by
 unfold qv
 rw[hx,hy,<-Rat.divInt_ofNat,<-Rat.divInt_eq_div,Rat.divInt_eq_divInt_iff (by omega) hd]
 have e:sg (!(decide (z<0)==decide (d<0))) z.natAbs=sg (decide (z<0)) z.natAbs*sg (decide (d<0)) 1:=by rw[zyq,Nat.mul_one]
 rw[e,zyr,Int.mul_assoc]
 congr 1
 unfold sg
 by_cases h:d<0
 . simp[h];omega
 . simp[h];omega
theorem zv9{n m:Bool}{xs ys ps qs rs ts:LN}(hr:V rs=V xs*V ps)(ht:V ts=V ys*V qs):qv (!(n==m)) rs ts=qv n xs ys*qv m ps qs:=by
 unfold qv
 rw[Rat.mkRat_mul_mkRat,zyq,hr,ht]
theorem zkc{n:Bool}{xs ys ps qs rs ts:LN}(hy:V ys≠0)(hq:V qs≠0)(hr:V rs=V xs*V qs+V ps*V ys)(ht:V ts=V ys*V qs):qv n rs ts=qv n xs ys+qv n ps qs:=by
 unfold qv
 rw[Rat.mkRat_add_mkRat _ _ hy hq,hr,ht]
 congr 1
 cases n <;> simp[sg] <;> grind
theorem zke{n m:Bool}(hnm:n≠m){xs ys ps qs rs ts:LN}(hy:V ys≠0)(hq:V qs≠0)(hl:V xs*V qs<V ps*V ys)(hr:V rs=V ps*V ys-V xs*V qs)(ht:V ts=V ys*V qs):qv m rs ts=qv n xs ys+qv m ps qs:=by
 unfold qv
 rw[Rat.mkRat_add_mkRat _ _ hy hq,hr,ht]
 congr 1
 cases n <;> cases m <;> simp[sg]at hnm ⊢ <;> grind
theorem zkd{n m:Bool}(hnm:n≠m){xs ys ps qs rs ts:LN}(hy:V ys≠0)(hq:V qs≠0)(hl:¬V xs*V qs<V ps*V ys)(hr:V rs=V xs*V qs-V ps*V ys)(ht:V ts=V ys*V qs):qv n rs ts=qv n xs ys+qv m ps qs:=by
 unfold qv
 rw[Rat.mkRat_add_mkRat _ _ hy hq,hr,ht]
 congr 1
 cases n <;> cases m <;> simp[sg]at hnm ⊢ <;> grind
theorem zdw{xs:LN}(l:Lim xs){k:Nat}(h:xs.length<=k):V xs<4294967296 ^ k :=
 Nat.lt_of_lt_of_le (V_lt l) (Nat.pow_le_pow_right (by decide) h)
theorem zef{xs ys zs:LN}(lx:Lim xs)(ly:Lim ys)(t:Tr zs){k l:Nat}(hx:xs.length<=k)(hy:ys.length<=l)(h:V zs=V xs*V ys):zs.length<=k+l:=by
 refine zas t ?_
 rw[h,Nat.pow_add]
 exact Nat.mul_lt_mul'' (zdw lx hx) (zdw ly hy)
theorem zlj{xs ys zs:LN}(lx:Lim xs)(ly:Lim ys)(t:Tr zs){k:Nat}(hx:xs.length<=k)(hy:ys.length<=k)(h:V zs<=V xs+V ys):zs.length<=k+1:=by
 refine zas t ?_
 have h1:=zdw lx hx
 have h2:=zdw ly hy
 rw[Nat.pow_succ]
 omega
theorem zi2(z d:Int)(w:World)(h1:-9223372036854775808<=z)(h2:z<9223372036854775808)(h3:-9223372036854775808<=d)(h4:d<9223372036854775808) :
 Calls Tryz.prog 263 #[.int .i64 z,.int .i64 d] w fun e w'=>∃v',e=.returned v'/\Fr w' v' 2 ((z:Rat)/(d:Rat))/\Below w.heap.size w w':=by
 by_cases hd:d=0
 . subst hd
   go_enter Tryz.func263,Tryz.ntmps263
   go_wp2_with fail
   refine(zae 0 _ (by decide) (by decide)).mono ?_
   rintro e u2 ⟨v2,rfl,hF,hb2⟩
   obtain⟨B2,hbW⟩:=zeu hb2
   obtain⟨q1,q2,q3,q4,q5,q6⟩:=B2.cells
   have hs':=B2.lt
   obtain⟨n',xs',ys',⟨b,d,b',d',rfl,hx',hy'⟩,hf',lx',ly',he⟩:=hF;clear hb2;go_wp2
   refine ret3 (v:=.agg #[.bool n',.slice b xs'.length d,.slice b' ys'.length d']) B2 rfl (fun U hU=>by obtain⟨r1,r2,r3,_⟩:=hU.cells;simp[results,Tryz.results263,go_sem,r1,r2,r3]) (fun U hU hK=>⟨_,rfl,⟨_,_,_,⟨_,_,_,_,rfl,hK _ _ _ hx',hK _ _ _ hy'⟩,hf',by omega,by omega,by rw[he];simp[Rat.div_def]⟩,hU _ _ hbW (by omega)⟩)
 . have hd0:(d==0)=false:=beq_eq_false_iff_ne.2 hd
   go_enter Tryz.func263,Tryz.ntmps263
   go_wp2_with fail
   refine(zlu z _ h1 h2).mono ?_
   rintro e u ⟨rfl,rfl⟩
   go_wp2_with fail
   refine(zeh z.natAbs _ (by omega)).mono ?_
   rintro e u1 ⟨a1,c1,xs,rfl,hv1,ht1,hr1,hb1⟩
   obtain⟨B1,hbW⟩:=zeu hb1
   have rx:=hr1.rd
   clear hr1 hb1
   go_wp2_with fail
   refine(zlu d _ h3 h4).mono ?_
   rintro e u ⟨rfl,rfl⟩
   go_wp2_with fail
   refine(zeh d.natAbs _ (by omega)).mono ?_
   rintro e u2 ⟨a2,c2,ys,rfl,hv2,ht2,hr2,hb2⟩
   have ry:=hr2.rd
   replace rx:=rx.below hb2;replace B1:=B1.below hb2
   replace hbW:Below w.heap.size w u2:=hbW.trans (hb2.mono hbW.size)
   clear hr2 hb2
   have hL:Lo u2 (.agg #[.bool (!(decide (z<0)==decide (d<0))),.slice a1 xs.length c1,.slice a2 ys.length c2]) 2 ((z:Rat)/(d:Rat)) :=
    ⟨_,_,_,⟨_,_,_,_,rfl,rx,ry⟩,ht1,ht2,by omega,zd5 ht1 (by omega),zd5 ht2 (by omega),z01 hv1 hv2 hd⟩
   go_wp2_with fail
   refine(zd4 2 _ _ _ hL (by decide)).mono ?_
   rintro e u3 ⟨v3,rfl,hF,hb3⟩;replace B1:=B1.below hb3
   replace hbW:Below w.heap.size w u3:=hbW.trans (hb3.mono hbW.size)
   obtain⟨q1,q2,q3,q4,q5,q6⟩:=B1.cells
   have hs':=B1.lt
   obtain⟨n',xs',ys',⟨b,d,b',d',rfl,hx',hy'⟩,hf',lx',ly',he⟩:=hF;clear hb3 hL rx ry;go_wp2
   refine ret3 (v:=.agg #[.bool n',.slice b xs'.length d,.slice b' ys'.length d']) B1 rfl (fun U hU=>by obtain⟨r1,r2,r3,_⟩:=hU.cells;simp[results,Tryz.results263,go_sem,r1,r2,r3]) (fun U hU hK=>⟨_,rfl,⟨_,_,_,⟨_,_,_,_,rfl,hK _ _ _ hx',hK _ _ _ hy'⟩,hf',by omega,by omega,he⟩,hU _ _ hbW (by omega)⟩)
theorem zq4(k l:Nat)(q r:Rat)(v v':Value)(w:World)(h:Lo w v k q)(h':Lo w v' l r)(hk:k<=100000000)(hl:l<=100000000) :
 Calls Tryz.prog 213 #[v,v'] w fun e w'=>∃v',e=.returned v'/\Lo w' v' (k+l) (q*r)/\Below w.heap.size w w':=by
 obtain⟨n,xs,ys,⟨a,c,a',c',rfl,hx,hy⟩,tx,ty,y0,lx,ly,rfl⟩:=h;obtain⟨m,ps,qs,⟨b,d,b',d',rfl,hp,hq⟩,tp,tq,q0,lp,lq,rfl⟩:=h'
 have lx0:=hx.lim
 have ly0:=hy.lim
 have lp0:=hp.lim
 have lq0:=hq.lim
 go_enter Tryz.func213,Tryz.ntmps213
 go_wp2_with fail
 obtain⟨W,hW,B1,B2,B3,hbW⟩:=zov 125 125 125 w (.bool n) (.slice a xs.length c) (.slice a' ys.length c') (.bool m) (.slice b ps.length d) (.slice b' qs.length d') (.bool false) (.slice none 0 0) (.slice none 0 0)
 rw[<-hW];clear hW;replace hx:=hx.below hbW;replace hy:=hy.below hbW;replace hp:=hp.below hbW;replace hq:=hq.below hbW;obtain⟨p1,p2,p3,_⟩:=B1.cells;obtain⟨p4,p5,p6,_⟩:=B2.cells
 go_region_held3 (fun u=>u.cell? ⟨w.heap.size,0,none⟩=some (.bool n)/\u.cell? ⟨w.heap.size,1,none⟩=some (.slice a xs.length c)/\u.cell? ⟨w.heap.size,2,none⟩=some (.slice a' ys.length c')/\u.cell? ⟨w.heap.size+1,0,none⟩=some (.bool m)/\u.cell? ⟨w.heap.size+1,1,none⟩=some (.slice b ps.length d)/\u.cell? ⟨w.heap.size+1,2,none⟩=some (.slice b' qs.length d')) (first | (go_keep;done) | (refine⟨(zab (by omega)).trans p1,(zab (by omega)).trans p2,(zab (by omega)).trans p3,(zab (by omega)).trans p4,(zab (by omega)).trans p5,(zab (by omega)).trans p6⟩))
  (first
   | (go_at_call_of 205 (Value.slice a xs.length c)
      refine(zgu _ _ _ _ _ _ _ (hx.below Below.drew1) (hp.below Below.drew1) ?_ ?_).mono ?_
      . omega
      . omega
      rintro e u1 ⟨a1,c1,rs,rfl,hv1,ht1,hr1,hb1⟩
      have zc6:Below W.heap.size W u1:=Below.drew1.trans hb1
      replace hy:=hy.below zc6
      replace hq:=hq.below zc6
      replace B1:=B1.below zc6
      replace B2:=B2.below zc6
      replace B3:=B3.below zc6
      replace hbW:Below w.heap.size w u1:=hbW.trans (zc6.mono hbW.size)
      have rr:=hr1.rd
      clear hr1 hb1 zc6 hx hp p1 p2 p3 p4 p5 p6;obtain⟨p1,p2,p3,_⟩:=B1.cells
      obtain⟨p4,p5,p6,_⟩:=B2.cells)
   | (go_at_call_of 205 (Value.slice a' ys.length c')
      refine(zgu _ _ _ _ _ _ _ hy hq ?_ ?_).mono ?_
      . omega
      . omega
      rintro e u2 ⟨a2,c2,ts,rfl,hv2,ht2,hr2,hb2⟩
      have rt:=hr2.rd
      replace rr:=rr.below hb2;replace B1:=B1.below hb2;replace B2:=B2.below hb2;replace B3:=B3.below hb2
      replace hbW:Below w.heap.size w u2:=hbW.trans (hb2.mono hbW.size)
      clear hr2 hb2 hy hq p1 p2 p3 p4 p5 p6;obtain⟨p1,p2,p3,_⟩:=B1.cells;obtain⟨p4,p5,p6,_⟩:=B2.cells;obtain⟨q1,q2,q3,q4,q5,q6⟩:=B3.cells
      have hs:=B3.lt))
 go_wp2
 refine ret3 (v:=.agg #[.bool (!(n==m)),.slice a1 rs.length c1,.slice a2 ts.length c2]) B3 rfl (fun U hU=>by obtain⟨r1,r2,r3,_⟩:=hU.cells;simp[results,Tryz.results213,go_sem,r1,r2,r3]) (fun U hU hK=>⟨_,rfl,⟨_,_,_,⟨_,_,_,_,rfl,hK _ _ _ rr,hK _ _ _ rt⟩,ht1,ht2,?_,?_,?_,?_⟩,hU _ _ hbW (by omega)⟩)
 . rw[hv2];exact Nat.mul_ne_zero y0 q0
 . exact zef lx0 lp0 ht1 lx lp hv1
 . exact zef ly0 lq0 ht2 ly lq hv2
 . exact zv9 hv1 hv2
theorem zns(k l:Nat)(q r:Rat)(v v':Value)(w:World)(h:Lo w v k q)(h':Lo w v' l r)(hk:k<=100000000)(hl:l<=100000000) :
 Calls Tryz.prog 161 #[v,v'] w fun e w'=>∃v',e=.returned v'/\Lo w' v' (k+l+1) (q+r)/\Below w.heap.size w w':=by
 obtain⟨n,xs,ys,⟨a,c,a',c',rfl,hx,hy⟩,tx,ty,y0,lx,ly,rfl⟩:=h;obtain⟨m,ps,qs,⟨b,d,b',d',rfl,hp,hq⟩,tp,tq,q0,lp,lq,rfl⟩:=h'
 have lx0:=hx.lim
 have ly0:=hy.lim
 have lp0:=hp.lim
 have lq0:=hq.lim
 go_enter Tryz.func161,Tryz.ntmps161
 go_wp2_with fail
 obtain⟨W,hW,B1,B2,B3,hbW⟩:=zov 125 125 125 w (.bool n) (.slice a xs.length c) (.slice a' ys.length c') (.bool m) (.slice b ps.length d) (.slice b' qs.length d') (.bool false) (.slice none 0 0) (.slice none 0 0)
 rw[<-hW];clear hW;replace hx:=hx.below hbW;replace hy:=hy.below hbW;replace hp:=hp.below hbW;replace hq:=hq.below hbW;obtain⟨p1,p2,p3,_⟩:=B1.cells;obtain⟨p4,p5,p6,_⟩:=B2.cells
 go_region_held3 (fun u=>u.cell? ⟨w.heap.size,0,none⟩=some (.bool n)/\u.cell? ⟨w.heap.size,1,none⟩=some (.slice a xs.length c)/\u.cell? ⟨w.heap.size,2,none⟩=some (.slice a' ys.length c')/\u.cell? ⟨w.heap.size+1,0,none⟩=some (.bool m)/\u.cell? ⟨w.heap.size+1,1,none⟩=some (.slice b ps.length d)/\u.cell? ⟨w.heap.size+1,2,none⟩=some (.slice b' qs.length d')) (first | (go_keep;done) | (refine⟨(zab (by omega)).trans p1,(zab (by omega)).trans p2,(zab (by omega)).trans p3,(zab (by omega)).trans p4,(zab (by omega)).trans p5,(zab (by omega)).trans p6⟩))
  (first
   | (go_at_call_of 205 (Value.slice a xs.length c)
      refine(zgu _ _ _ _ _ _ _ (hx.below Below.drew1) (hq.below Below.drew1) ?_ ?_).mono ?_
      . omega
      . omega
      rintro e u1 ⟨a1,c1,zs,rfl,hv1,ht1,hr1,hb1⟩
      have zc6:Below W.heap.size W u1:=Below.drew1.trans hb1
      replace hy:=hy.below zc6
      replace hq:=hq.below zc6
      replace hp:=hp.below zc6
      replace B1:=B1.below zc6
      replace B2:=B2.below zc6
      replace B3:=B3.below zc6
      replace hbW:Below w.heap.size w u1:=hbW.trans (zc6.mono hbW.size)
      have ra:=hr1.rd
      clear hr1 hb1 zc6 hx p1 p2 p3 p4 p5 p6;obtain⟨p1,p2,p3,_⟩:=B1.cells
      obtain⟨p4,p5,p6,_⟩:=B2.cells)
   | (go_at_call_of 205 (Value.slice b ps.length d)
      refine(zgu _ _ _ _ _ _ _ hp hy ?_ ?_).mono ?_
      . omega
      . omega
      rintro e u2 ⟨a2,c2,bs,rfl,hv2,ht2,hr2,hb2⟩
      have rb:=hr2.rd
      replace ra:=ra.below hb2;replace hy:=hy.below hb2;replace hq:=hq.below hb2;replace B1:=B1.below hb2;replace B2:=B2.below hb2;replace B3:=B3.below hb2
      replace hbW:Below w.heap.size w u2:=hbW.trans (hb2.mono hbW.size)
      clear hr2 hb2 hp p1 p2 p3 p4 p5 p6;obtain⟨p1,p2,p3,_⟩:=B1.cells
      obtain⟨p4,p5,p6,_⟩:=B2.cells))
 go_wp2_with fail
 refine(zgu _ _ _ _ _ _ _ hy hq (by omega) (by omega)).mono ?_
 rintro e u3 ⟨a3,c3,ds,rfl,hv3,ht3,hr3,hb3⟩
 have rd:=hr3.rd
 replace ra:=ra.below hb3;replace rb:=rb.below hb3;replace B1:=B1.below hb3;replace B2:=B2.below hb3;replace B3:=B3.below hb3
 replace hbW:Below w.heap.size w u3:=hbW.trans (hb3.mono hbW.size)
 clear hr3 hb3 hy hq p1 p2 p3 p4 p5 p6;obtain⟨p1,p2,p3,_⟩:=B1.cells;obtain⟨p4,p5,p6,_⟩:=B2.cells
 have d0:V ds≠0:=by rw[hv3];exact Nat.mul_ne_zero y0 q0
 have ld:ds.length<=k+l:=zef ly0 lq0 ht3 ly lq hv3
 have la:zs.length<=k+l:=zef lx0 lq0 ht1 lx lq hv1
 have lb:bs.length<=k+l:=by have:=zef lp0 ly0 ht2 lp ly hv2;omega
 by_cases hnm:n=m
 . subst hnm
   have e0:(n==n)=true:=by simp
   go_wp2_with fail
   go_region_held3 (fun u=>u.cell? ⟨w.heap.size,0,none⟩=some (.bool n)/\u.cell? ⟨w.heap.size,1,none⟩=some (.slice a xs.length c)/\u.cell? ⟨w.heap.size,2,none⟩=some (.slice a' ys.length c')/\u.cell? ⟨w.heap.size+1,0,none⟩=some (.bool n)/\u.cell? ⟨w.heap.size+1,1,none⟩=some (.slice b ps.length d)/\u.cell? ⟨w.heap.size+1,2,none⟩=some (.slice b' qs.length d')) (first | (go_keep;done) | (refine⟨(zab (by omega)).trans p1,(zab (by omega)).trans p2,(zab (by omega)).trans p3,(zab (by omega)).trans p4,(zab (by omega)).trans p5,(zab (by omega)).trans p6⟩))
    (first
     | (go_at_call 204
        refine(zuo _ _ _ _ _ _ _ (ra.below Below.drew1) (rb.below Below.drew1) ?_ ?_).mono ?_
        . omega
        . omega
        rintro e u5 ⟨a4,c4,rs,rfl,hv4,ht4,hr4,hb4⟩
        have rr:=hr4.rd
        have lr:rs.length<=k+l+1:=zlj ra.lim rb.lim ht4 la lb (by omega)
        replace hb4:Below u3.heap.size u3 u5:=Below.drew1.trans hb4
        replace rd:=rd.below hb4;replace B1:=B1.below hb4;replace B2:=B2.below hb4;replace B3:=B3.below hb4
        replace hbW:Below w.heap.size w u5:=hbW.trans (hb4.mono hbW.size)
        clear hr4 hb4 p1 p2 p3 p4 p5 p6;obtain⟨p1,p2,p3,_⟩:=B1.cells;obtain⟨p4,p5,p6,_⟩:=B2.cells;obtain⟨q1,q2,q3,q4,q5,q6⟩:=B3.cells
        have hs:=B3.lt))
   go_wp2
   refine ret3 (v:=.agg #[.bool n,.slice a4 rs.length c4,.slice a3 ds.length c3]) B3 rfl (fun U hU=>by obtain⟨r1,r2,r3,_⟩:=hU.cells;simp[results,Tryz.results161,go_sem,r1,r2,r3]) (fun U hU hK=>⟨_,rfl,⟨_,_,_,⟨_,_,_,_,rfl,hK _ _ _ rr,hK _ _ _ rd⟩,ht4,ht3,d0,lr,by omega,?_⟩,hU _ _ hbW (by omega)⟩)
   exact zkc y0 q0 (by rw[hv4,hv1,hv2]) hv3
 . have e0:(n==m)=false:=by simpa using hnm
   go_wp2_with fail
   refine(zjk _ _ _ _ _ _ _ ra rb).mono ?_
   rintro e u4 ⟨rfl,hb4⟩;replace rd:=rd.below hb4;replace ra:=ra.below hb4;replace rb:=rb.below hb4;replace B1:=B1.below hb4;replace B2:=B2.below hb4;replace B3:=B3.below hb4
   replace hbW:Below w.heap.size w u4:=hbW.trans (hb4.mono hbW.size)
   clear hb4 p1 p2 p3 p4 p5 p6;obtain⟨p1,p2,p3,_⟩:=B1.cells;obtain⟨p4,p5,p6,_⟩:=B2.cells
   by_cases hlt:V zs<V bs
   . have ec:cmpN (V zs) (V bs)=-1:=by unfold cmpN;rw[if_pos hlt]
     rw[ec];clear ec
     go_wp2_with fail
     go_region_held3 (fun u=>u.cell? ⟨w.heap.size,0,none⟩=some (.bool n)/\u.cell? ⟨w.heap.size,1,none⟩=some (.slice a xs.length c)/\u.cell? ⟨w.heap.size,2,none⟩=some (.slice a' ys.length c')/\u.cell? ⟨w.heap.size+1,0,none⟩=some (.bool m)/\u.cell? ⟨w.heap.size+1,1,none⟩=some (.slice b ps.length d)/\u.cell? ⟨w.heap.size+1,2,none⟩=some (.slice b' qs.length d')) (first | (go_keep;done) | (refine⟨(zab (by omega)).trans p1,(zab (by omega)).trans p2,(zab (by omega)).trans p3,(zab (by omega)).trans p4,(zab (by omega)).trans p5,(zab (by omega)).trans p6⟩))
      (first
       | (go_at_call 207
          refine(zq9 _ _ _ _ _ _ _ (rb.below Below.drew1) (ra.below Below.drew1) ?_ ?_).mono ?_
          . omega
          . omega
          rintro e u5 ⟨a4,c4,rs,rfl,hv4,ht4,hr4,hb4⟩
          have rr:=hr4.rd
          have lr:rs.length<=k+l+1:=zlj ra.lim rb.lim ht4 la lb (by omega)
          replace hb4:Below u4.heap.size u4 u5:=Below.drew1.trans hb4
          replace rd:=rd.below hb4;replace B1:=B1.below hb4;replace B2:=B2.below hb4;replace B3:=B3.below hb4
          replace hbW:Below w.heap.size w u5:=hbW.trans (hb4.mono hbW.size)
          clear hr4 hb4 p1 p2 p3 p4 p5 p6;obtain⟨p1,p2,p3,_⟩:=B1.cells;obtain⟨p4,p5,p6,_⟩:=B2.cells;obtain⟨q1,q2,q3,q4,q5,q6⟩:=B3.cells
          have hs:=B3.lt))
     go_wp2
     refine ret3 (v:=.agg #[.bool m,.slice a4 rs.length c4,.slice a3 ds.length c3]) B3 rfl (fun U hU=>by obtain⟨r1,r2,r3,_⟩:=hU.cells;simp[results,Tryz.results161,go_sem,r1,r2,r3]) (fun U hU hK=>⟨_,rfl,⟨_,_,_,⟨_,_,_,_,rfl,hK _ _ _ rr,hK _ _ _ rd⟩,ht4,ht3,d0,lr,by omega,?_⟩,hU _ _ hbW (by omega)⟩)
     exact zke hnm y0 q0 (by rw[<-hv1,<-hv2];exact hlt) (by rw[hv4,hv1,hv2]) hv3
   . have ec:¬cmpN (V zs) (V bs)<0:=by unfold cmpN;rw[if_neg hlt];split <;> decide
     generalize cmpN (V zs) (V bs)=cc at ec ⊢
     go_wp2_with fail
     go_region_held3 (fun u=>u.cell? ⟨w.heap.size,0,none⟩=some (.bool n)/\u.cell? ⟨w.heap.size,1,none⟩=some (.slice a xs.length c)/\u.cell? ⟨w.heap.size,2,none⟩=some (.slice a' ys.length c')/\u.cell? ⟨w.heap.size+1,0,none⟩=some (.bool m)/\u.cell? ⟨w.heap.size+1,1,none⟩=some (.slice b ps.length d)/\u.cell? ⟨w.heap.size+1,2,none⟩=some (.slice b' qs.length d')) (first | (go_keep;done) | (refine⟨(zab (by omega)).trans p1,(zab (by omega)).trans p2,(zab (by omega)).trans p3,(zab (by omega)).trans p4,(zab (by omega)).trans p5,(zab (by omega)).trans p6⟩))
      (first
       | (go_at_call 207
          refine(zq9 _ _ _ _ _ _ _ (ra.below Below.drew1) (rb.below Below.drew1) ?_ ?_).mono ?_
          . omega
          . omega
          rintro e u5 ⟨a4,c4,rs,rfl,hv4,ht4,hr4,hb4⟩
          have rr:=hr4.rd
          have lr:rs.length<=k+l+1:=zlj ra.lim rb.lim ht4 la lb (by omega)
          replace hb4:Below u4.heap.size u4 u5:=Below.drew1.trans hb4
          replace rd:=rd.below hb4;replace B1:=B1.below hb4;replace B2:=B2.below hb4;replace B3:=B3.below hb4
          replace hbW:Below w.heap.size w u5:=hbW.trans (hb4.mono hbW.size)
          clear hr4 hb4 p1 p2 p3 p4 p5 p6;obtain⟨p1,p2,p3,_⟩:=B1.cells;obtain⟨p4,p5,p6,_⟩:=B2.cells;obtain⟨q1,q2,q3,q4,q5,q6⟩:=B3.cells
          have hs:=B3.lt))
     go_wp2
     refine ret3 (v:=.agg #[.bool n,.slice a4 rs.length c4,.slice a3 ds.length c3]) B3 rfl (fun U hU=>by obtain⟨r1,r2,r3,_⟩:=hU.cells;simp[results,Tryz.results161,go_sem,r1,r2,r3]) (fun U hU hK=>⟨_,rfl,⟨_,_,_,⟨_,_,_,_,rfl,hK _ _ _ rr,hK _ _ _ rd⟩,ht4,ht3,d0,lr,by omega,?_⟩,hU _ _ hbW (by omega)⟩)
     exact zkd hnm y0 q0 (by rw[<-hv1,<-hv2];exact hlt) (by rw[hv4,hv1,hv2]) hv3
def sgnQ(q:Rat):Int:=if q=0 then 0 else if q<0 then -1 else 1
theorem z31{n:Bool}{xs ys:LN}(tx:Tr xs)(hy:V ys≠0):sgnQ (qv n xs ys)=if xs.length=0 then 0 else if n=true then -1 else 1:=by
 have h0:qv n xs ys=0↔xs.length=0:=by
  unfold qv
  rw[Rat.mkRat_eq_zero hy]
  refine⟨fun h=>?_,fun h=>?_⟩
  . have:=congrArg Int.natAbs h
    rw[zrh]at this
    rw[zc0 tx this];rfl
  . rw[List.length_eq_zero_iff.1 h];exact zrg n
 have h1:xs.length≠0->(qv n xs ys<0↔n=true):=by
  intro hx
  have hv:V xs≠0:=zmz tx fun h=>hx (by rw[h];rfl)
  have key:0<=qv n xs ys↔0<=sg n (V xs):=by
   unfold qv
   rw[<-Rat.divInt_ofNat]
   exact Rat.divInt_nonneg_iff_of_pos_right (by omega)
  rw[<-Rat.not_le,key]
  cases n <;> simp[sg] <;> omega
 unfold sgnQ
 by_cases hx:xs.length=0
 . rw[if_pos (h0.2 hx),if_pos hx]
 . rw[if_neg (fun h=>hx (h0.1 h)),if_neg hx]
   by_cases hn:n=true
   . rw[if_pos ((h1 hx).2 hn),if_pos hn]
   . rw[if_neg (fun h=>hn ((h1 hx).1 h)),if_neg hn]
theorem zvm(k:Nat)(q:Rat)(v:Value)(w:World)(h:Lo w v k q)(hk:k<=400000000) :
 Calls Tryz.prog 212 #[v] w fun e w'=>e=.returned (.int .i64 (sgnQ q))/\Below w.heap.size w w':=by
 obtain⟨n,xs,ys,⟨a,c,a',c',rfl,hx,hy⟩,tx,ty,y0,lx,ly,rfl⟩:=h
 have e:=z31 (n:=n) tx y0
 have k1:xs.length<=400000000:=by omega
 generalize sgnQ (qv n xs ys)=sq at e
 by_cases h0:xs.length=0
 . rw[if_pos h0]at e
   subst e;rw[h0]
   go_enter Tryz.func212,Tryz.ntmps212
   go_wp2
   go_ret
   exact⟨rfl,al1 _⟩
 . rw[if_neg h0]at e
   have g1:((xs.length:Int)==0)=false:=beq_eq_false_iff_ne.2 (by omega)
   cases n with
   | true =>
    simp at e
    subst e
    go_enter Tryz.func212,Tryz.ntmps212
    go_wp2
    go_ret
    exact⟨rfl,al1 _⟩
   | false =>
    simp at e
    subst e
    go_enter Tryz.func212,Tryz.ntmps212
    go_wp2
    go_ret
    exact⟨rfl,al1 _⟩
theorem znq(k l:Nat)(q r:Rat)(v v':Value)(w:World)(h:Ct w v k q)(h':Ct w v' l r)(hk:k<=100000000)(hl:l<=100000000)(hk2:2<=k)(hl2:2<=l) :
 Calls Tryz.prog 111 #[v,v'] w fun e w'=>∃v',e=.returned v'/\Fr w' v' (k+l+1) (q+r)/\Below w.heap.size w w':=by
 have hX:=h
 have hY:=h'
 obtain⟨n,xs,ys,⟨a,c,a',c',rfl,hx,hy⟩,lx,ly,hq⟩:=h;obtain⟨m,ps,qs,⟨b,d,b',d',rfl,hp,hqs⟩,lp,lq,hr⟩:=h';clear hq hr hx hy hp hqs lx ly lp lq
 go_enter Tryz.func111,Tryz.ntmps111
 go_wp2_with fail
 obtain⟨W,hW,B1,B2,B3,hbW⟩:=zov 125 125 125 w (.bool n) (.slice a xs.length c) (.slice a' ys.length c') (.bool m) (.slice b ps.length d) (.slice b' qs.length d') (.bool false) (.slice none 0 0) (.slice none 0 0)
 rw[<-hW];clear hW;replace hX:=hX.below hbW;replace hY:=hY.below hbW;obtain⟨p1,p2,p3,_⟩:=B1.cells;obtain⟨p4,p5,p6,_⟩:=B2.cells
 go_region_held3 (fun u=>u.cell? ⟨w.heap.size,0,none⟩=some (.bool n)/\u.cell? ⟨w.heap.size,1,none⟩=some (.slice a xs.length c)/\u.cell? ⟨w.heap.size,2,none⟩=some (.slice a' ys.length c')/\u.cell? ⟨w.heap.size+1,0,none⟩=some (.bool m)/\u.cell? ⟨w.heap.size+1,1,none⟩=some (.slice b ps.length d)/\u.cell? ⟨w.heap.size+1,2,none⟩=some (.slice b' qs.length d')) (first | (go_keep;done) | (refine⟨(zab (by omega)).trans p1,(zab (by omega)).trans p2,(zab (by omega)).trans p3,(zab (by omega)).trans p4,(zab (by omega)).trans p5,(zab (by omega)).trans p6⟩))
  (first
   | (go_at_call_of 162 (Value.agg #[.bool n,.slice a xs.length c,.slice a' ys.length c'])
      refine(zbu k q _ _ (hX.below Below.drew1) ?_ ?_).mono ?_
      . omega
      . omega
      rintro e u1 ⟨v1,rfl,hF1,hb1⟩
      have zc6:Below W.heap.size W u1:=Below.drew1.trans hb1
      replace hY:=hY.below zc6
      replace B1:=B1.below zc6
      replace B2:=B2.below zc6
      replace B3:=B3.below zc6
      replace hbW:Below w.heap.size w u1:=hbW.trans (zc6.mono hbW.size)
      clear hb1 zc6 hX;clear p1 p2 p3 p4 p5 p6;obtain⟨p1,p2,p3,_⟩:=B1.cells
      obtain⟨p4,p5,p6,_⟩:=B2.cells)
   | (go_at_call_of 162 (Value.agg #[.bool m,.slice b ps.length d,.slice b' qs.length d'])
      refine(zbu l r _ _ hY ?_ ?_).mono ?_
      . omega
      . omega
      rintro e u2 ⟨v2,rfl,hF2,hb2⟩;replace hF1:=hF1.below hb2;replace B1:=B1.below hb2;replace B2:=B2.below hb2;replace B3:=B3.below hb2
      replace hbW:Below w.heap.size w u2:=hbW.trans (hb2.mono hbW.size)
      clear hb2 hY;clear p1 p2 p3 p4 p5 p6;obtain⟨p1,p2,p3,_⟩:=B1.cells
      obtain⟨p4,p5,p6,_⟩:=B2.cells)
   | (go_at_call 161
      refine(zns k l q r _ _ _ hF1.lo hF2.lo ?_ ?_).mono ?_
      . omega
      . omega
      rintro e u3 ⟨v3,rfl,hL,hb3⟩;replace B1:=B1.below hb3;replace B2:=B2.below hb3;replace B3:=B3.below hb3
      replace hbW:Below w.heap.size w u3:=hbW.trans (hb3.mono hbW.size)
      clear hb3 hF1 hF2;clear p1 p2 p3 p4 p5 p6;obtain⟨p1,p2,p3,_⟩:=B1.cells
      obtain⟨p4,p5,p6,_⟩:=B2.cells)
   | (go_at_call 163
      refine(zd4 (k+l+1) _ _ _ hL ?_).mono ?_
      . omega
      rintro e u4 ⟨v4,rfl,hF,hb4⟩;replace B1:=B1.below hb4;replace B2:=B2.below hb4;replace B3:=B3.below hb4
      replace hbW:Below w.heap.size w u4:=hbW.trans (hb4.mono hbW.size)
      clear hb4 hL;clear p1 p2 p3 p4 p5 p6;obtain⟨p1,p2,p3,_⟩:=B1.cells;obtain⟨p4,p5,p6,_⟩:=B2.cells;obtain⟨q1,q2,q3,q4,q5,q6⟩:=B3.cells
      have hs:=B3.lt
      obtain⟨n1,x1,y1,⟨b1,d1,b2,d2,rfl,hx',hy'⟩,hF⟩:=hF))
 go_wp2
 exact ret3 (v:=.agg #[.bool n1,.slice b1 x1.length d1,.slice b2 y1.length d2]) B3 rfl (fun U hU=>by obtain⟨r1,r2,r3,_⟩:=hU.cells;simp[results,Tryz.results111,go_sem,r1,r2,r3]) (fun U hU hK=>⟨_,rfl,⟨_,_,_,⟨_,_,_,_,rfl,hK _ _ _ hx',hK _ _ _ hy'⟩,hF⟩,hU _ _ hbW (by omega)⟩)
theorem zfv(k l:Nat)(q r:Rat)(v v':Value)(w:World)(h:Ct w v k q)(h':Ct w v' l r)(hk:k<=100000000)(hl:l<=100000000)(hk2:2<=k)(hl2:2<=l) :
 Calls Tryz.prog 167 #[v,v'] w fun e w'=>∃v',e=.returned v'/\Fr w' v' (k+l) (q*r)/\Below w.heap.size w w':=by
 have hX:=h
 have hY:=h'
 obtain⟨n,xs,ys,⟨a,c,a',c',rfl,hx,hy⟩,lx,ly,hq⟩:=h;obtain⟨m,ps,qs,⟨b,d,b',d',rfl,hp,hqs⟩,lp,lq,hr⟩:=h';clear hq hr hx hy hp hqs lx ly lp lq
 go_enter Tryz.func167,Tryz.ntmps167
 go_wp2_with fail
 obtain⟨W,hW,B1,B2,B3,hbW⟩:=zov 125 125 125 w (.bool n) (.slice a xs.length c) (.slice a' ys.length c') (.bool m) (.slice b ps.length d) (.slice b' qs.length d') (.bool false) (.slice none 0 0) (.slice none 0 0)
 rw[<-hW];clear hW;replace hX:=hX.below hbW;replace hY:=hY.below hbW;obtain⟨p1,p2,p3,_⟩:=B1.cells;obtain⟨p4,p5,p6,_⟩:=B2.cells
 go_region_held3 (fun u=>u.cell? ⟨w.heap.size,0,none⟩=some (.bool n)/\u.cell? ⟨w.heap.size,1,none⟩=some (.slice a xs.length c)/\u.cell? ⟨w.heap.size,2,none⟩=some (.slice a' ys.length c')/\u.cell? ⟨w.heap.size+1,0,none⟩=some (.bool m)/\u.cell? ⟨w.heap.size+1,1,none⟩=some (.slice b ps.length d)/\u.cell? ⟨w.heap.size+1,2,none⟩=some (.slice b' qs.length d')) (first | (go_keep;done) | (refine⟨(zab (by omega)).trans p1,(zab (by omega)).trans p2,(zab (by omega)).trans p3,(zab (by omega)).trans p4,(zab (by omega)).trans p5,(zab (by omega)).trans p6⟩))
  (first
   | (go_at_call_of 162 (Value.agg #[.bool n,.slice a xs.length c,.slice a' ys.length c'])
      refine(zbu k q _ _ (hX.below Below.drew1) ?_ ?_).mono ?_
      . omega
      . omega
      rintro e u1 ⟨v1,rfl,hF1,hb1⟩
      have zc6:Below W.heap.size W u1:=Below.drew1.trans hb1
      replace hY:=hY.below zc6
      replace B1:=B1.below zc6
      replace B2:=B2.below zc6
      replace B3:=B3.below zc6
      replace hbW:Below w.heap.size w u1:=hbW.trans (zc6.mono hbW.size)
      clear hb1 zc6 hX;clear p1 p2 p3 p4 p5 p6;obtain⟨p1,p2,p3,_⟩:=B1.cells
      obtain⟨p4,p5,p6,_⟩:=B2.cells)
   | (go_at_call_of 162 (Value.agg #[.bool m,.slice b ps.length d,.slice b' qs.length d'])
      refine(zbu l r _ _ hY ?_ ?_).mono ?_
      . omega
      . omega
      rintro e u2 ⟨v2,rfl,hF2,hb2⟩;replace hF1:=hF1.below hb2;replace B1:=B1.below hb2;replace B2:=B2.below hb2;replace B3:=B3.below hb2
      replace hbW:Below w.heap.size w u2:=hbW.trans (hb2.mono hbW.size)
      clear hb2 hY;clear p1 p2 p3 p4 p5 p6;obtain⟨p1,p2,p3,_⟩:=B1.cells
      obtain⟨p4,p5,p6,_⟩:=B2.cells)
   | (go_at_call 213
      refine(zq4 k l q r _ _ _ hF1.lo hF2.lo ?_ ?_).mono ?_
      . omega
      . omega
      rintro e u3 ⟨v3,rfl,hL,hb3⟩;replace B1:=B1.below hb3;replace B2:=B2.below hb3;replace B3:=B3.below hb3
      replace hbW:Below w.heap.size w u3:=hbW.trans (hb3.mono hbW.size)
      clear hb3 hF1 hF2;clear p1 p2 p3 p4 p5 p6;obtain⟨p1,p2,p3,_⟩:=B1.cells
      obtain⟨p4,p5,p6,_⟩:=B2.cells)
   | (go_at_call 163
      refine(zd4 (k+l) _ _ _ hL ?_).mono ?_
      . omega
      rintro e u4 ⟨v4,rfl,hF,hb4⟩;replace B1:=B1.below hb4;replace B2:=B2.below hb4;replace B3:=B3.below hb4
      replace hbW:Below w.heap.size w u4:=hbW.trans (hb4.mono hbW.size)
      clear hb4 hL;clear p1 p2 p3 p4 p5 p6;obtain⟨p1,p2,p3,_⟩:=B1.cells;obtain⟨p4,p5,p6,_⟩:=B2.cells;obtain⟨q1,q2,q3,q4,q5,q6⟩:=B3.cells
      have hs:=B3.lt
      obtain⟨n1,x1,y1,⟨b1,d1,b2,d2,rfl,hx',hy'⟩,hF⟩:=hF))
 go_wp2
 exact ret3 (v:=.agg #[.bool n1,.slice b1 x1.length d1,.slice b2 y1.length d2]) B3 rfl (fun U hU=>by obtain⟨r1,r2,r3,_⟩:=hU.cells;simp[results,Tryz.results167,go_sem,r1,r2,r3]) (fun U hU hK=>⟨_,rfl,⟨_,_,_,⟨_,_,_,_,rfl,hK _ _ _ hx',hK _ _ _ hy'⟩,hF⟩,hU _ _ hbW (by omega)⟩)
theorem zgr(k:Nat)(q:Rat)(v:Value)(w:World)(h:Ct w v k q)(hk:k<=100000000)(hk2:2<=k) :
 Calls Tryz.prog 166 #[v] w fun e w'=>e=.returned (.int .i64 (sgnQ q))/\Below w.heap.size w w':=by
 have hX:=h
 obtain⟨n,xs,ys,⟨a,c,a',c',rfl,hx,hy⟩,lx,ly,hq⟩:=h;clear hq hx hy lx ly
 go_enter Tryz.func166,Tryz.ntmps166
 go_wp2_with fail
 refine(zbu k q _ _ (hX.below (al1 _)) (by omega) hk2).mono ?_
 rintro e u1 ⟨v1,rfl,hF1,hb1⟩
 obtain⟨B1,hbW⟩:=zeu hb1
 clear hb1
 go_wp2_with fail
 refine(zvm k q _ _ hF1.lo (by omega)).mono ?_
 rintro e u2 ⟨rfl,hb2⟩
 replace hbW:Below w.heap.size w u2:=hbW.trans (hb2.mono hbW.size)
 go_wp2
 go_ret
 exact⟨rfl,hbW⟩
theorem Box.other{t:TypeId}{u U:World}{b k:Nat}{x y z:Value}(h:Box t u k x y z)(hU:∀j,j≠b->U.heap[j]?=u.heap[j]?)(hk:k≠b):Box t U k x y z:=(hU k hk).trans h
theorem zb7{t:TypeId}{u:World}{b:Nat}{n:Bool}{a a':OA}{l c l' c':Nat}(B:Box t u b (.bool n) (.slice a l c) (.slice a' l' c'))(x' y' z':Value) :
 ∃U,U=(((u.setCell ⟨b,0,none⟩ x').setCell ⟨b,1,none⟩ y').setCell ⟨b,2,none⟩ z')/\Box t U b x' y' z'/\(∀B w,Below B w u->B<=b->Below B w U)/\(∀a c xs,Rd u a c xs->Rd U a c xs)/\(∀j,j≠b->U.heap[j]?=u.heap[j]?) :=
 ⟨_,rfl,B.set3 x' y' z',fun _ _ h hb=>zhy h hb x' y' z',fun _ _ _ h=>Rd.apart B (by simp[World.setCell]) (zdn u b x' y' z') h,zdn u b x' y' z'⟩
theorem zj6{q:Rat}:sgnQ q=0↔q=0:=by
 unfold sgnQ
 refine⟨fun h=>?_,fun h=>by rw[if_pos h]⟩
 by_cases h0:q=0
 . exact h0
 . rw[if_neg h0]at h;split at h <;> cases h
theorem zoe(a:Int)(b:Nat)(hb:b≠0):(mkRat a b).floor=a/(b:Int):=by
 have key:∀x:Int,(mkRat a b).floor<x↔a/(b:Int)<x:=by
  intro x
  have hb':(0:Rat)<(b:Rat):=Rat.natCast_pos.2 (Nat.pos_of_ne_zero hb)
  rw[Rat.floor_lt_iff,Rat.mkRat_eq_div,Rat.div_lt_iff hb',Int.ediv_lt_iff_lt_mul (by omega)]
  rw[show((b:Rat))=(((b:Int)):Rat)from rfl,<-Rat.intCast_mul,Rat.intCast_lt_intCast]
 have h1:=(key (a/(b:Int)+1)).2 (by omega)
 have h2:=(key ((mkRat a b).floor+1)).1 (by omega)
 omega
theorem zwn(x y:Nat)(hy:y≠0):(-(x:Int))/(y:Int)=-((x/y+(if 0<x%y then 1 else 0):Nat):Int):=by
 have h:=Nat.div_add_mod x y
 have hl:=Nat.mod_lt x (Nat.pos_of_ne_zero hy)
 generalize x/y=q at *
 generalize x%y=r at *
 subst h
 have hy':(y:Int)≠0:=by omega
 split
 . have:(-((y*q+r:Nat):Int))=(y-r:Int)+(y:Int)*(-(q:Int)-1):=by push_cast;grind
   rw[this,Int.add_mul_ediv_left _ _ hy',Int.ediv_eq_zero_of_lt (by omega) (by omega)];push_cast;omega
 . have:r=0:=by omega
   subst this
   have:(-((y*q+0:Nat):Int))=(y:Int)*(-(q:Int)):=by push_cast;grind
   rw[this,Int.mul_ediv_cancel_left _ hy'];push_cast;omega
def flB(z:Int):Bool:=decide (-9223372036854775808<=z/\z<9223372036854775808)
def flN(z:Int):Int:=if flB z=true then z else 0
theorem ztj{xs ys:LN}(hy:V ys≠0):(qv false xs ys).floor=((V xs/V ys:Nat):Int):=by
 unfold qv;rw[zoe _ _ hy];simp[sg]
theorem zky{xs ys:LN}(hy:V ys≠0):(qv true xs ys).floor=-((V xs/V ys+(if 0<V xs%V ys then 1 else 0):Nat):Int):=by
 unfold qv;rw[zoe _ _ hy,show sg true (V xs)=-(V xs:Int)from rfl,zwn _ _ hy]
theorem zjb(m:Nat):flB (m:Int)=decide (m<9223372036854775808):=by
 unfold flB;by_cases h:m<9223372036854775808 <;> simp[h] <;> omega
theorem zd7(m:Nat):flB (-(m:Int))=decide (m<=9223372036854775808):=by
 unfold flB;by_cases h:m<=9223372036854775808 <;> simp[h] <;> omega
theorem zmb(m:Nat):flN (m:Int)=if m<9223372036854775808 then (m:Int)else 0:=by unfold flN;rw[zjb];simp
theorem ze7(m:Nat):flN (-(m:Int))=if m<=9223372036854775808 then -(m:Int)else 0:=by unfold flN;rw[zd7];simp
theorem zya{m:Nat}(h:m<9223372036854775808):wrap64 (m:Int)=(m:Int):=by
 unfold wrap64;omega
theorem zow{m:Nat}(h:m<=9223372036854775808):wrap64 (IntKind.u64.wrap (-(m:Int)))=-(m:Int):=by
 rw[zh3]
 unfold wrap64
 by_cases h0:m=0
 . subst h0;rfl
 . have e:(-(m:Int))%18446744073709551616=18446744073709551616-(m:Int):=by omega
   rw[e];omega
theorem zcv{a b:Int}{c d:Bool}(h:a=b)(k:c=d):Ending.returned (.tuple #[.int .i64 a,.bool c])=.returned (.tuple #[.int .i64 b,.bool d]):=by rw[h,k]
theorem ztk(k:Nat)(q:Rat)(v:Value)(w:World)(h:Lo w v k q)(hk:k<=400000000) :
 Calls Tryz.prog 160 #[v] w fun e w'=>e=.returned (.tuple #[.int .i64 (flN q.floor),.bool (flB q.floor)])/\Below w.heap.size w w':=by
 obtain⟨n,xs,ys,⟨a,c,a',c',rfl,hx,hy⟩,tx,ty,y0,lx,ly,rfl⟩:=h
 go_enter Tryz.func160,Tryz.ntmps160
 go_wp2_with fail
 refine(zg6 _ _ _ _ _ _ _ (hx.below (al1 _)) (hy.below (al1 _)) (by omega) (by omega)).mono ?_
 rintro e u1 ⟨a1,c1,zs,a2,c2,rs,rfl,hv1,hv2,ht1,ht2,hr1,hr2,hb1⟩
 obtain⟨B1,hbW⟩:=zeu hb1
 have lz:zs.length<=400000000:=by
  have h1:=zdw hx.lim lx
  have:zs.length<=k:=zas ht1 (by rw[hv1];exact Nat.lt_of_le_of_lt (Nat.div_le_self _ _) h1)
  omega
 have lr:rs.length<=400000000:=by
  have h1:=zdw hx.lim lx
  have:rs.length<=k:=zas ht2 (by rw[hv2,zcw _ (by omega)];exact Nat.lt_of_le_of_lt (Nat.mod_le _ _) h1)
  omega
 have rz:=hr1.rd
 rw[zcw _ (by omega)]at hv2
 clear hr1 hr2 hb1;obtain⟨p1,p2,p3,_⟩:=B1.cells
 cases n with
 | false =>
  have HF:Hid ((qv false xs ys).floor=((V zs:Nat):Int)):=by show _=_;rw[ztj y0,hv1]
  clear hv1 hv2 hx hy
  go_wp2_with fail
  refine(zc9 _ _ _ _ rz).mono ?_
  rintro e u ⟨rfl,rfl⟩;clear rz
  generalize V zs=m at HF ⊢
  by_cases hm:m<9223372036854775808
  . rw[zbk (by omega),za9 (by omega)]
    have g1:(m:Int)<9223372036854775808:=by omega
    have HM:Hid (m<9223372036854775808):=hm
    clear hm
    obtain⟨z,hz⟩:∃z:Int,(m:Int)=z:=⟨_,rfl⟩
    rw[hz]at g1 ⊢
    have HZ:Hid ((m:Int)=z):=hz
    clear hz;go_wp2
    go_ret2
    exact⟨zcv (by rw[HF.out,zmb,if_pos HM.out,<-HZ.out];exact zya HM.out) (by rw[HF.out,zjb];simp[HM.out]),hbW⟩
  . by_cases hm2:m<18446744073709551616
    . rw[zbk hm2,za9 hm2]
      have g1:(9223372036854775808:Int)<=(m:Int):=by omega
      go_wp2
      go_ret2
      exact⟨zcv (by rw[HF.out,zmb,if_neg hm]) (by rw[HF.out,zjb];simp[hm]),hbW⟩
    . rw[zcl hm2,zb9 hm2]
      go_wp2
      go_ret2
      exact⟨zcv (by rw[HF.out,zmb,if_neg hm]) (by rw[HF.out,zjb];simp[hm]),hbW⟩
 | true =>
  by_cases hrs:rs.length=0
  . have hr0:V rs=0:=by rw[List.length_eq_zero_iff.1 hrs];rfl
    have HF:Hid ((qv true xs ys).floor=-((V zs:Nat):Int)):=by show _=_;rw[zky y0,hv1,<-hv2,hr0];simp
    clear hv1 hv2 hx hy hr0
    have g0:¬(0:Int)<(rs.length:Int):=by omega
    clear hrs
    go_wp2_with fail
    refine(zc9 _ _ _ _ rz).mono ?_
    rintro e u ⟨rfl,rfl⟩;clear rz
    generalize V zs=m at HF ⊢
    by_cases hm:m<=9223372036854775808
    . rw[zbk (by omega),za9 (by omega)]
      have g1:¬(9223372036854775808:Int)<(m:Int):=by omega
      go_wp2
      go_ret2
      exact⟨zcv (by rw[HF.out,ze7,if_pos hm];exact zow hm) (by rw[HF.out,zd7];simp[hm]),hbW⟩
    . by_cases hm2:m<18446744073709551616
      . rw[zbk hm2,za9 hm2]
        have g1:(9223372036854775808:Int)<(m:Int):=by omega
        go_wp2
        go_ret2
        exact⟨zcv (by rw[HF.out,ze7,if_neg hm]) (by rw[HF.out,zd7];simp[hm]),hbW⟩
      . rw[zcl hm2,zb9 hm2]
        go_wp2
        go_ret2
        exact⟨zcv (by rw[HF.out,ze7,if_neg hm]) (by rw[HF.out,zd7];simp[hm]),hbW⟩
  . have hr0:0<V rs:=by
      have:=zmz ht2 fun h=>hrs (by rw[h];rfl)
      omega
    have g0:(0:Int)<(rs.length:Int):=by omega
    go_wp2_with fail
    refine(zeh 1 _ (by decide)).mono ?_
    rintro e u2 ⟨a3,c3,os,rfl,hv3,ht3,hr3,hb3⟩
    have ro:=hr3.rd
    replace rz:=rz.below hb3
    replace hbW:Below w.heap.size w u2:=hbW.trans (hb3.mono hbW.size)
    have lo:os.length<=2:=zd5 ht3 (by omega)
    clear hr3 hb3 p1 p2 p3
    go_wp2_with fail
    refine(zuo _ _ _ _ _ _ _ rz ro (by omega) (by omega)).mono ?_
    rintro e u3 ⟨a4,c4,ws,rfl,hv4,ht4,hr4,hb4⟩
    have rw4:=hr4.rd
    replace hbW:Below w.heap.size w u3:=hbW.trans (hb4.mono hbW.size)
    have HF:Hid ((qv true xs ys).floor=-((V ws:Nat):Int)):=by show _=_;rw[zky y0,hv4,hv1,hv3,<-hv2,if_pos hr0]
    clear hv1 hv2 hx hy hr0 hr4 hb4 rz ro hv4 hv3
    go_wp2_with fail
    refine(zc9 _ _ _ _ rw4).mono ?_
    rintro e u ⟨rfl,rfl⟩;clear rw4
    generalize V ws=m at HF ⊢
    by_cases hm:m<=9223372036854775808
    . rw[zbk (by omega),za9 (by omega)]
      have g1:¬(9223372036854775808:Int)<(m:Int):=by omega
      go_wp2
      go_ret2
      exact⟨zcv (by rw[HF.out,ze7,if_pos hm];exact zow hm) (by rw[HF.out,zd7];simp[hm]),hbW⟩
    . by_cases hm2:m<18446744073709551616
      . rw[zbk hm2,za9 hm2]
        have g1:(9223372036854775808:Int)<(m:Int):=by omega
        go_wp2
        go_ret2
        exact⟨zcv (by rw[HF.out,ze7,if_neg hm]) (by rw[HF.out,zd7];simp[hm]),hbW⟩
      . rw[zcl hm2,zb9 hm2]
        go_wp2
        go_ret2
        exact⟨zcv (by rw[HF.out,ze7,if_neg hm]) (by rw[HF.out,zd7];simp[hm]),hbW⟩
theorem z1o{w:World}{a a':OA}{c c':Nat}{xs ys:LN}(hx:Rd w a c xs)(hy:Rd w a' c' ys)(tx:Tr xs)(ty:Tr ys)(vx:V xs=1)(vy:V ys=2) :
 Lo w (.agg #[.bool false,.slice a xs.length c,.slice a' ys.length c']) 2 (1/2):=by
 refine⟨_,_,_,⟨_,_,_,_,rfl,hx,hy⟩,tx,ty,by omega,zd5 tx (by omega),zd5 ty (by omega),?_⟩
 unfold qv
 rw[vx,vy,Rat.mkRat_eq_div]
 rfl
theorem ze1(k:Nat)(q:Rat)(v:Value)(w:World)(h:Ct w v k q)(hk:k<=100000000)(hk2:2<=k) :
 Calls Tryz.prog 110 #[v] w fun e w'=>e=.returned (.tuple #[.int .i64 (flN (q+1/2).floor),.bool (flB (q+1/2).floor)])/\Below w.heap.size w w':=by
 have hX:=h
 obtain⟨n,xs,ys,⟨a,c,a',c',rfl,hx,hy⟩,lx,ly,hq⟩:=h;clear hq hx hy lx ly
 go_enter Tryz.func110,Tryz.ntmps110
 go_wp2_with fail
 refine(zeh 1 _ (by decide)).mono ?_
 rintro e u1 ⟨a1,c1,os,rfl,hv1,ht1,hr1,hb1⟩
 obtain⟨B1,hbW⟩:=zeu hb1
 replace hX:=(hX.below (al1 _)).below hb1
 have ro:=hr1.rd
 clear hr1 hb1
 go_wp2_with fail
 refine(zeh 2 _ (by decide)).mono ?_
 rintro e u2 ⟨a2,c2,ts,rfl,hv2,ht2,hr2,hb2⟩;replace B1:=B1.below hb2;replace hX:=hX.below hb2;replace ro:=ro.below hb2
 replace hbW:Below w.heap.size w u2:=hbW.trans (hb2.mono hbW.size)
 have rt:=hr2.rd
 clear hr2 hb2
 go_wp2_with fail
 obtain⟨W,hW,B2,hW2⟩:∃W,W=u2.alloc (Obj.cells #[Value.bool false,Value.slice a1 os.length c1,Value.slice a2 ts.length c2] 125)/\Box 125 W u2.heap.size (.bool false) (.slice a1 os.length c1) (.slice a2 ts.length c2)/\Below u2.heap.size u2 W:=⟨_,rfl,Box.new _ _ _ _ _,al1 _⟩
 rw[<-hW];clear hW;replace B1:=B1.below hW2;replace hX:=hX.below hW2
 have hH:Lo W (.agg #[.bool false,.slice a1 os.length c1,.slice a2 ts.length c2]) 2 (1/2):=(z1o ro rt ht1 ht2 hv1 hv2).below hW2
 replace hbW:Below w.heap.size w W:=hbW.trans (hW2.mono hbW.size)
 clear hW2 ro rt
 generalize u2.heap.size=bh at B2 ⊢
 obtain⟨p1,p2,p3,_⟩:=B1.cells;obtain⟨p4,p5,p6,_⟩:=B2.cells
 go_region_held3 (fun u=>u.cell? ⟨w.heap.size,0,none⟩=some (.bool n)/\u.cell? ⟨w.heap.size,1,none⟩=some (.slice a xs.length c)/\u.cell? ⟨w.heap.size,2,none⟩=some (.slice a' ys.length c')/\u.cell? ⟨bh,0,none⟩=some (.bool false)/\u.cell? ⟨bh,1,none⟩=some (.slice a1 os.length c1)/\u.cell? ⟨bh,2,none⟩=some (.slice a2 ts.length c2)) (go_keep)
  (first
   | (go_at_call 162
      refine(zbu k q _ _ (hX.below Below.drew1) ?_ ?_).mono ?_
      . omega
      . omega
      rintro e u3 ⟨v3,rfl,hF3,hb3⟩
      replace hb3:Below W.heap.size W u3:=Below.drew1.trans hb3
      replace hH:=hH.below hb3;replace B1:=B1.below hb3;replace B2:=B2.below hb3
      replace hbW:Below w.heap.size w u3:=hbW.trans (hb3.mono hbW.size)
      clear hb3 hX p1 p2 p3 p4 p5 p6;obtain⟨p1,p2,p3,_⟩:=B1.cells
      obtain⟨p4,p5,p6,_⟩:=B2.cells)
   | (go_at_call 161
      refine(zns k 2 q (1/2) _ _ _ hF3.lo hH ?_ ?_).mono ?_
      . omega
      . omega
      rintro e u4 ⟨v4,rfl,hL,hb4⟩;replace B1:=B1.below hb4;replace B2:=B2.below hb4
      replace hbW:Below w.heap.size w u4:=hbW.trans (hb4.mono hbW.size)
      clear hb4 hF3 hH p1 p2 p3 p4 p5 p6;obtain⟨p1,p2,p3,_⟩:=B1.cells
      obtain⟨p4,p5,p6,_⟩:=B2.cells)
   | (go_at_call 160
      refine(ztk (k+2+1) _ _ _ hL ?_).mono ?_
      . omega
      rintro e u5 ⟨rfl,hb5⟩;replace B1:=B1.below hb5;replace B2:=B2.below hb5
      replace hbW:Below w.heap.size w u5:=hbW.trans (hb5.mono hbW.size)
      clear hb5 hL p1 p2 p3 p4 p5 p6;obtain⟨p1,p2,p3,_⟩:=B1.cells
      obtain⟨p4,p5,p6,_⟩:=B2.cells))
 go_wp2
 go_ret2
 exact⟨rfl,hbW⟩
