import Derived.Test.YtkmcodofnckdmaaGreatZS25
set_option maxHeartbeats 4000000
set_option maxRecDepth 100000
set_option linter.unusedSimpArgs false
set_option linter.unusedVariables false
namespace Go.Proofs.YtkmcodofnckdmaaGreat
open Go.RowKit
theorem zeh(a:Option Addr)(cap:Nat)(xs:List Nat)(b:Option Addr)(cbp:Nat)(ys:List Nat)(w:World)(ha:Rd w a cap xs)(hb:Rd w b cbp ys)(hla:xs.length<=500000000)(hlb:ys.length<=500000000) :
 Calls Tryz.prog 215 #[.slice a xs.length cap,.slice b ys.length cbp] w fun e w' =>
     ∃a' cap' zs,e=.returned (.slice a' zs.length cap')/\V zs=V xs+V ys/\Tr zs/\Res 250 w.heap.size w' a' cap' zs/\Below w.heap.size w w':=by
 obtain⟨i0,hi,hz0,hz1,hz2⟩:=info_parts zbb
 have lL:=ha.lim
 have lS:=hb.lim
 have fL:=ha.fm
 have fS:=hb.fm
 have q1:=ha.le
 have q2:=ha.cap
 have q3:=hb.le
 have q4:=hb.cap
 unfold maxLen at q2 q4
 clear ha hb
 obtain⟨mx,hmx1,hmx2,hmx3⟩:∃mx,xs.length<=mx/\ys.length<=mx/\(mx=xs.length\/mx=ys.length):=⟨max xs.length ys.length,by omega,by omega,by omega⟩
 go_enter Tryz.func215,Tryz.ntmps215
 go_wp2
 go_loopw [5,6,7] (fun out c i wr=>∃(k:Nat) (zs:List Nat) (cy:Nat),k<=mx+1/\i=.int .i64 k/\c=.int .u64 cy/\cy<=1/\(k=mx+1->cy=0)/\zs.length=k/\Lim zs/\V zs+4294967296 ^ k*cy=V (xs.take k)+V (ys.take k)/\wr.ownsRow w.heap.size 250 1 out k (zs.map U)/\Below w.heap.size w wr) (fun _ _ i _=>mx+1-(intOf i).toNat)
 case atStart=>exact⟨0,[],0,Nat.zero_le _,rfl,rfl,Nat.zero_le _,fun _=>rfl,rfl,Lim.nil,by simp[V],World.ownsRow_nil _ _ _ _,Below.refl _ _⟩
 case round =>
  obtain⟨k,zs,cy,hk,rfl,rfl,hcy,zoi,hzl,lz,heq,hown,hnx⟩:=hrel
  have HE:Hid (V zs+4294967296 ^ k*cy=V (xs.take k)+V (ys.take k)):=heq
  have HZ:Hid (zs.length=k):=hzl
  have HLA:Hid (k=mx+1->cy=0):=zoi
  have hsz:=hnx.size
  clear heq hzl zoi
  obtain⟨x,hx⟩:∃x,xs.getD k 0=x:=⟨_,rfl⟩
  obtain⟨y,hy⟩:∃y,ys.getD k 0=y:=⟨_,rfl⟩
  have bx:x<4294967296:=by rw[<-hx];exact lL.getD k
  have byy:y<4294967296:=by rw[<-hy];exact lS.getD k
  have HX:Hid (xs.getD k 0=x):=hx
  have HY:Hid (ys.getD k 0=y):=hy
  clear hx hy
  by_cases hkn:k<xs.length
  . obtain⟨bl,ol,rfl,_,hcl⟩:=fL.at hnx k hkn
    rw[HX.out]at hcl
    by_cases hkm:k<ys.length
    . obtain⟨bs,os,rfl,_,hcs⟩:=fS.at hnx k hkm
      rw[HY.out]at hcs
      go_wp2_with (at_builtin;refine zae rfl _ _ 128 rfl w.heap.size 250 i0 Tryz.underlying128 hi hz0 hz1 hz2 _ k zs rfl (hown.alloc _) wr.heap.size ((cy+x+y)%4294967296) rfl (zas _ _ _ _ (by omega)) (by omega) (by simp;omega) ?_)
      intro v' w1 hown1 zaw
      have hb1:Below w.heap.size w w1:=(hnx.alloc hsz _).grown zaw (by simp;omega) (fun k hk=>(hown.lt k hk).1)
      clear hown;go_wp2
      go_roundw
      case rel =>
       exact⟨k+1,zs++[(cy+x+y)%4294967296],(cy+x+y)/4294967296,by omega,by go_num,by go_num,by omega,by omega,by simp[HZ.out],lz.snoc (by omega),zcs HZ.out HE.out HX.out HY.out (by omega),za1 hown1,hb1⟩
      case measure=>simp[intOf];omega
    . have y0:y=0:=by rw[<-HY.out];exact zbd _ _ (by omega)
      subst y0
      go_wp2_with (at_builtin;refine zae rfl _ _ 128 rfl w.heap.size 250 i0 Tryz.underlying128 hi hz0 hz1 hz2 _ k zs rfl (hown.alloc _) wr.heap.size ((cy+x)%4294967296) rfl (zas _ _ _ _ (by omega)) (by omega) (by simp;omega) ?_)
      intro v' w1 hown1 zaw
      have hb1:Below w.heap.size w w1:=(hnx.alloc hsz _).grown zaw (by simp;omega) (fun k hk=>(hown.lt k hk).1)
      clear hown;go_wp2
      go_roundw
      case rel =>
       exact⟨k+1,zs++[(cy+x)%4294967296],(cy+x)/4294967296,by omega,by go_num,by go_num,by omega,by omega,by simp[HZ.out],lz.snoc (by omega),zcs HZ.out HE.out HX.out HY.out (by omega),za1 hown1,hb1⟩
      case measure=>simp[intOf];omega
  . have x0:x=0:=by rw[<-HX.out];exact zbd _ _ (by omega)
    subst x0
    by_cases hkm:k<ys.length
    . obtain⟨bs,os,rfl,_,hcs⟩:=fS.at hnx k hkm
      rw[HY.out]at hcs
      go_wp2_with (at_builtin;refine zae rfl _ _ 128 rfl w.heap.size 250 i0 Tryz.underlying128 hi hz0 hz1 hz2 _ k zs rfl (hown.alloc _) wr.heap.size ((cy+y)%4294967296) rfl (zas _ _ _ _ (by omega)) (by omega) (by simp;omega) ?_)
      intro v' w1 hown1 zaw
      have hb1:Below w.heap.size w w1:=(hnx.alloc hsz _).grown zaw (by simp;omega) (fun k hk=>(hown.lt k hk).1)
      clear hown;go_wp2
      go_roundw
      case rel =>
       exact⟨k+1,zs++[(cy+y)%4294967296],(cy+y)/4294967296,by omega,by go_num,by go_num,by omega,by omega,by simp[HZ.out],lz.snoc (by omega),zcs HZ.out HE.out HX.out HY.out (by omega),za1 hown1,hb1⟩
      case measure=>simp[intOf];omega
    . have y0:y=0:=by rw[<-HY.out];exact zbd _ _ (by omega)
      subst y0
      have g1:decide ((k:Int)<(xs.length:Int))=false:=by simp;omega
      have g2:decide ((k:Int)<(ys.length:Int))=false:=by simp;omega
      by_cases hc1:cy=0
      . subst hc1
        obtain⟨a',cap',rfl,hres⟩:=Res.of lz hown
        clear hown
        go_wp2_with fail
        refine(zcb _ _ _ _ hres.rd (by rw[HZ.out];omega)).mono ?_
        rintro e w2 ⟨a2,c2,rfl,hr2,hb2⟩;go_wp2
        go_ret
        refine⟨a2,c2,_,rfl,?_,zap _,hr2.mono hsz,hnx.trans (hb2.mono hsz)⟩
        have h1:=HE.out
        rw[List.take_of_length_le (by omega),List.take_of_length_le (by omega)]at h1
        rw[zan];omega
      . have hkmx:k<=mx:=by have:=HLA.out;omega
        have hc2:1<=cy:=by omega
        clear hc1
        go_wp2_with (at_builtin;refine zae rfl _ _ 128 rfl w.heap.size 250 i0 Tryz.underlying128 hi hz0 hz1 hz2 _ k zs rfl (hown.alloc _) wr.heap.size ((cy)%4294967296) rfl (zas _ _ _ _ (by omega)) (by omega) (by simp;omega) ?_)
        intro v' w1 hown1 zaw
        have hb1:Below w.heap.size w w1:=(hnx.alloc hsz _).grown zaw (by simp;omega) (fun k hk=>(hown.lt k hk).1)
        clear hown;go_wp2
        go_roundw
        case rel =>
         exact⟨k+1,zs++[(cy)%4294967296],(cy)/4294967296,by omega,by go_num,by go_num,by omega,by omega,by simp[HZ.out],lz.snoc (by omega),zcs HZ.out HE.out HX.out HY.out (by omega),za1 hown1,hb1⟩
        case measure=>simp[intOf];omega
open Classical
theorem zdo(w:World) :
 Calls Tryz.prog 176 #[] w fun e w'=>∃a c ys,e=.returned (.slice a ys.length c)/\V ys=1/\Tr ys/\Rd w' a c ys/\Below w.heap.size w w':=by
 go_enter Tryz.func176,Tryz.ntmps176
 go_wp2_with fail
 refine(zk0 1 _ (by decide)).mono ?_
 rintro e u ⟨a,c,ys,rfl,h1,h2,h3,h4⟩;go_wp2
 go_ret
 exact⟨_,_,_,rfl,h1,h2,h3.rd,h4⟩
theorem zwb{w:World}{a:Option Addr}{c:Nat}{ys:List Nat}(hv:V ys=1)(ht:Tr ys)(hr:Rd w a c ys):Fr w (.agg #[.bool false,.slice none 0 0,.slice a ys.length c]) 2 0:=by
 refine⟨false,[],ys,⟨_,_,_,_,rfl,Rd.nil _ _ _ (Nat.zero_le _) (fun _=>rfl),hr⟩,⟨zda,ht,?_,by simp,by rw[hv];simp⟩,by simp,zbs ht (by omega),?_⟩
 . rintro rfl;simp[V]at hv
 . unfold qv;rw[hv];rfl
theorem zba(w:World) :
 Calls Tryz.prog 177 #[] w fun e w'=>∃v',e=.returned v'/\Fr w' v' 2 0/\Below w.heap.size w w':=by
 go_enter Tryz.func177,Tryz.ntmps177
 go_wp2_with fail
 refine(zdo _).mono ?_
 rintro e u1 ⟨a,c,ys,rfl,h1,h2,h3,hb1⟩
 obtain⟨B1,hbW⟩:=zb2 hb1
 clear hb1;obtain⟨q1,q2,q3,q4,q5,q6⟩:=B1.cells
 have hs:=B1.lt
 go_wp2
 exact ret3 (v:=.agg #[.bool false,.slice none 0 0,.slice a ys.length c]) B1 rfl (fun U hU=>by obtain⟨r1,r2,r3,_⟩:=hU.cells;simp[results,Tryz.results177,go_sem,r1,r2,r3]) (fun U hU hK=>⟨_,rfl,zwb h1 h2 (hK _ _ _ h3),hU _ _ hbW (by omega)⟩)
theorem zli{zs os:List Nat}(ho:V os=1):cmpN (V zs) (V os)=0↔V zs=1:=by
 rw[ho]
 unfold cmpN
 by_cases h:V zs<1
 . rw[if_pos h];simp;omega
 . rw[if_neg h];split <;> simp <;> omega
theorem zky(n:Bool)(a:Option Addr)(c:Nat)(xs:List Nat)(a':Option Addr)(c':Nat)(ys:List Nat)(w:World)(hx:Rd w a c xs)(hy:Rd w a' c' ys)(lx:xs.length<=10000000)(ly:ys.length<=10000000) :
 Calls Tryz.prog 217 #[.agg #[.bool n,.slice a xs.length c,.slice a' ys.length c']] w fun e w'=>e=.returned (.bool (decide (Fmd n xs ys)))/\Below w.heap.size w w':=by
 have fin:Tr xs->Tr ys->ys≠[]->¬(n=true/\xs=[])->∀(W:World),Below w.heap.size w W->∀a1 c1 (zs:List Nat) a2 c2 (os:List Nat),Rd W a1 c1 zs->Rd W a2 c2 os->V os=1->V zs=Nat.gcd (V xs) (V ys) ->
     Calls Tryz.prog 218 #[.slice a1 zs.length c1,.slice a2 os.length c2] W fun e w'=>∃s:Int,e=.returned (.int .i64 s)/\(s==0)=decide (Fmd n xs ys)/\Below w.heap.size w w':=by
  intro tx ty y0 hn W hb a1 c1 zs a2 c2 os r1 r2 ho hz
  refine(zeg _ _ _ _ _ _ _ r1 r2).mono ?_
  rintro e u ⟨rfl,rfl⟩
  refine⟨_,rfl,?_,hb⟩
  have h1:=zli (zs:=zs) ho
  have h2:V zs=1↔Fmd n xs ys:=by rw[hz];exact⟨fun h=>⟨tx,ty,y0,hn,h⟩,fun h=>h.2.2.2.2⟩
  have h3:=h1.trans h2
  by_cases h:Fmd n xs ys
  . simp[h,h3.2 h]
  . have:¬cmpN (V zs) (V os)=0:=fun h4=>h (h3.1 h4)
    simp[h,this]
 have k1:=hx.le
 have k2:=hx.cap
 have k3:=hy.le
 have k4:=hy.cap
 unfold maxLen at k2 k4
 obtain⟨p1,p2,p3,_⟩:=(Box.new 130 w (.bool n) (.slice a xs.length c) (.slice a' ys.length c')).cells
 by_cases y0:ys=[]
 . subst y0
   go_enter Tryz.func217,Tryz.ntmps217
   go_wp2_with fail
   go_quiet (fail)
   go_wp2
   go_ret
   exact⟨zav (by simp[Fmd]),below_drewN (al1 _) _⟩
 have hyl:0<ys.length:=List.length_pos_iff.2 y0
 obtain⟨m,hm⟩:∃m,ys.length=m+1:=⟨ys.length-1,by omega⟩
 have hty:=zpa y0
 have fy:=hy.fm
 rw[hm]at hty
 simp only[Nat.add_sub_cancel]at hty
 obtain⟨b,off,rfl,hb,hc⟩:=fy.at (Below.refl _ _) m (by omega)
 obtain⟨z,hz⟩:∃z,ys.getD m 0=z:=⟨_,rfl⟩
 rw[hz]at hc hty
 have g1:((m:Int)+1==0)=false:=beq_eq_false_iff_ne.2 (by omega)
 have hc':(w.alloc (.cells #[.bool n,.slice a xs.length c,.slice (some ⟨b,off,none⟩) ys.length c'] 130)).cell? ⟨b,off+m,none⟩=some (.int .u32 (z:Int)):=(World.cell?_of_block (w:=w) (a:=⟨b,off+m,none⟩) (Below.heap_alloc _ _ _ hb)).trans hc
 have hne:¬b=w.heap.size:=by omega
 rw[hm]at hc' k3 p1 p2 p3
 by_cases z0:z=0
 . have hnt:¬Tr ys:=fun h=>hty.1 h z0
   subst z0;rw[hm];clear hx hy fy fin
   go_enter Tryz.func217,Tryz.ntmps217
   go_wp2_with fail
   go_quiet (fail)
   go_wp2
   go_ret
   exact⟨zav (by simp[Fmd,hnt]),below_drewN (al1 _) _⟩
 have ty:Tr ys:=hty.2 z0
 have gz:((z:Int)==0)=false:=beq_eq_false_iff_ne.2 (by omega)
 by_cases x0:xs=[]
 . subst x0
   cases n with
   | true =>
    rw[hm];clear hx hy fy fin
    go_enter Tryz.func217,Tryz.ntmps217
    go_wp2_with fail
    go_quiet (fail)
    go_wp2
    go_ret
    exact⟨zav (by simp[Fmd]),below_drewN (al1 _) _⟩
   | false =>
    have fin':=fin zda ty y0 (by simp)
    clear fin fy
    have hy':=hy
    rw[hm]
    go_enter Tryz.func217,Tryz.ntmps217
    go_wp2_with fail
    go_quiet (fail)
    go_wp2_with fail
    rw[<-hm]
    refine(zh7 _ _ _ _ _ _ _ (hx.below (below_drewN (al1 _) _)) (hy'.below (below_drewN (al1 _) _)) lx ly).mono ?_
    rintro e u1 ⟨a1,c1,zs,rfl,hv1,ht1,hr1,hb1⟩
    have hbW:Below w.heap.size w u1:=(below_drewN (al1 _) _).trans (hb1.mono (by simp))
    have rz:=hr1.rd
    clear hr1 hb1 hx hy hy'
    go_wp2_with fail
    refine(zdo _).mono ?_
    rintro e u2 ⟨a2,c2,os,rfl,ho,hto,ro,hb2⟩;replace rz:=rz.below hb2
    replace hbW:Below w.heap.size w u2:=hbW.trans (hb2.mono hbW.size)
    clear hb2
    go_wp2_with fail
    refine(fin' _ hbW _ _ _ _ _ _ rz ro ho hv1).mono ?_
    rintro e u3 ⟨s,rfl,hs,hb3⟩;go_wp2
    go_ret
    exact⟨rfl,hb3⟩
 have hxl:0<xs.length:=List.length_pos_iff.2 x0
 obtain⟨l,hl⟩:∃l,xs.length=l+1:=⟨xs.length-1,by omega⟩
 have htx:=zpa x0
 have fx:=hx.fm
 rw[hl]at htx
 simp only[Nat.add_sub_cancel]at htx
 obtain⟨b2,off2,rfl,hb2,hc2⟩:=fx.at (Below.refl _ _) l (by omega)
 obtain⟨x,hxx⟩:∃x,xs.getD l 0=x:=⟨_,rfl⟩
 rw[hxx]at hc2 htx
 have g2:((l:Int)+1==0)=false:=beq_eq_false_iff_ne.2 (by omega)
 have hc2':(w.alloc (.cells #[.bool n,.slice (some ⟨b2,off2,none⟩) xs.length c,.slice (some ⟨b,off,none⟩) ys.length c'] 130)).cell? ⟨b2,off2+l,none⟩=some (.int .u32 (x:Int)):=(World.cell?_of_block (w:=w) (a:=⟨b2,off2+l,none⟩) (Below.heap_alloc _ _ _ hb2)).trans hc2
 have zxb:¬b2=w.heap.size:=by omega
 rw[hl,hm]at hc2';rw[hl]at hc' k1 p1 p2 p3
 by_cases xz:x=0
 . have hnt:¬Tr xs:=fun h=>htx.1 h xz
   subst xz;rw[hm,hl];clear hx hy fy fx fin
   go_enter Tryz.func217,Tryz.ntmps217
   go_wp2_with fail
   go_quiet (fail)
   go_wp2
   go_ret
   exact⟨zav (by simp[Fmd,hnt]),below_drewN (al1 _) _⟩
 have tx:Tr xs:=htx.2 xz
 have gx:((x:Int)==0)=false:=beq_eq_false_iff_ne.2 (by omega)
 have fin':=fin tx ty y0 (fun h=>x0 h.2)
 have hy':=hy
 clear fin fy fx
 have key:∀i j:Nat,i=xs.length->j=ys.length->Calls Tryz.prog 217 #[.agg #[.bool n,.slice (some ⟨b2,off2,none⟩) i c,.slice (some ⟨b,off,none⟩) j c']] w fun e w'=>e=.returned (.bool (decide (Fmd n xs ys)))/\Below w.heap.size w w':=by
  intro i j hi hj
  rw[hl]at hi;rw[hm]at hj;subst hi hj
  go_enter Tryz.func217,Tryz.ntmps217
  go_wp2_with fail
  go_quiet (fail)
  go_wp2_with fail
  rw[<-hl,<-hm]
  refine(zh7 _ _ _ _ _ _ _ (hx.below (below_drewN (al1 _) _)) (hy'.below (below_drewN (al1 _) _)) lx ly).mono ?_
  rintro e u1 ⟨a1,c1,zs,rfl,hv1,ht1,hr1,hb1⟩
  have hbW:Below w.heap.size w u1:=(below_drewN (al1 _) _).trans (hb1.mono (by simp))
  have rz:=hr1.rd
  clear hr1 hb1 hx hy hy'
  go_wp2_with fail
  refine(zdo _).mono ?_
  rintro e u2 ⟨a2,c2,os,rfl,ho,hto,ro,hb2⟩;replace rz:=rz.below hb2
  replace hbW:Below w.heap.size w u2:=hbW.trans (hb2.mono hbW.size)
  clear hb2
  go_wp2_with fail
  refine(fin' _ hbW _ _ _ _ _ _ rz ro ho hv1).mono ?_
  rintro e u3 ⟨s,rfl,hs,hb3⟩;go_wp2
  go_ret
  exact⟨rfl,hb3⟩
 exact key _ _ rfl rfl
theorem zdd(k:Nat)(q:Rat)(v:Value)(w:World)(h:Ct w v k q)(hk:k<=10000000)(hk2:2<=k) :
 Calls Tryz.prog 171 #[v] w fun e w'=>∃v',e=.returned v'/\Fr w' v' k q/\Below w.heap.size w w':=by
 obtain⟨n,xs,ys,⟨a,c,a',c',rfl,hx,hy⟩,lx,ly,hq⟩:=h
 have HQ:Hid (q=if Fmd n xs ys then qv n xs ys else 0):=hq
 clear hq
 go_enter Tryz.func171,Tryz.ntmps171
 go_wp2_with fail
 refine(zky _ _ _ _ _ _ _ _ (hx.below (al2 _ _)) (hy.below (al2 _ _)) (by omega) (by omega)).mono ?_
 rintro e u1 ⟨rfl,hb1⟩
 replace hx:=(hx.below (al2 _ _)).below hb1
 replace hy:=(hy.below (al2 _ _)).below hb1
 obtain⟨B1,B2,hbW⟩:=znq hb1
 obtain⟨p1,p2,p3,_⟩:=B1.cells;obtain⟨q1,q2,q3,q4,q5,q6⟩:=B2.cells
 have hs:=B2.lt
 clear hb1
 by_cases hf:Fmd n xs ys
 . have e1:decide (Fmd n xs ys)=true:=decide_eq_true hf
   rw[e1];clear e1;go_wp2
   refine ret3 (v:=.agg #[.bool n,.slice a xs.length c,.slice a' ys.length c']) B2 rfl (fun U hU=>by obtain⟨r1,r2,r3,_⟩:=hU.cells;simp[results,Tryz.results171,go_sem,r1,r2,r3]) (fun U hU hK=>⟨_,rfl,⟨_,_,_,⟨_,_,_,_,rfl,hK _ _ _ hx,hK _ _ _ hy⟩,hf,lx,ly,by rw[HQ.out,if_pos hf]⟩,hU _ _ hbW (by omega)⟩)
 . have e1:decide (Fmd n xs ys)=false:=decide_eq_false hf
   rw[e1];clear e1
   go_wp2_with fail
   refine(zba _).mono ?_
   rintro e u2 ⟨v2,rfl,hF,hb2⟩;replace B2:=B2.below hb2
   replace hbW:Below w.heap.size w u2:=hbW.trans (hb2.mono hbW.size)
   clear q1 q2 q3 q4 q5 q6;obtain⟨q1,q2,q3,q4,q5,q6⟩:=B2.cells
   have hs':=B2.lt
   obtain⟨n',xs',ys',⟨b,d,b',d',rfl,hx',hy'⟩,hf',lx',ly',he⟩:=hF;go_wp2
   refine ret3 (v:=.agg #[.bool n',.slice b xs'.length d,.slice b' ys'.length d']) B2 rfl (fun U hU=>by obtain⟨r1,r2,r3,_⟩:=hU.cells;simp[results,Tryz.results171,go_sem,r1,r2,r3]) (fun U hU hK=>⟨_,rfl,⟨_,_,_,⟨_,_,_,_,rfl,hK _ _ _ hx',hK _ _ _ hy'⟩,hf',by omega,by omega,by rw[HQ.out,if_neg hf,he]⟩,hU _ _ hbW (by omega)⟩)
theorem zft(k:Nat)(n:Bool)(a:Option Addr)(c:Nat)(xs:List Nat)(a':Option Addr)(c':Nat)(ys:List Nat)(w:World)(hx:Rd w a c xs)(hy:Rd w a' c' ys)(y0:V ys≠0)(lx:xs.length<=k)(ly:ys.length<=k)(hk:k<=10000000) :
 Calls Tryz.prog 174 #[.bool n,.slice a xs.length c,.slice a' ys.length c'] w fun e w'=>∃v',e=.returned v'/\Fr w' v' k (qv n xs ys)/\Below w.heap.size w w':=by
 have hx0:=hx.lim
 have hy0:=hy.lim
 go_enter Tryz.func174,Tryz.ntmps174
 go_wp2_with fail
 refine(zh7 _ _ _ _ _ _ _ (hx.below (al1 _)) (hy.below (al1 _)) (by omega) (by omega)).mono ?_
 rintro e u1 ⟨a1,c1,gs,rfl,hv1,ht1,hr1,hb1⟩
 replace hx:=(hx.below (al1 _)).below hb1
 replace hy:=(hy.below (al1 _)).below hb1
 obtain⟨B2,hbW⟩:=zb2 hb1
 have rg:=hr1.rd
 have lg:gs.length<=k:=by
  refine zaj ht1 ?_
  have h1:=V_lt hy.lim
  have h2:V gs<=V ys:=by rw[hv1];exact Nat.gcd_le_right _ (by omega)
  have h3:4294967296 ^ ys.length<=4294967296 ^ k:=Nat.pow_le_pow_right (by decide) ly
  omega
 clear hr1 hb1
 go_wp2_with fail
 refine(zfx _ _ _ _ _ _ _ hx rg (by omega) (by omega)).mono ?_
 rintro e u2 ⟨a2,c2,ps,a3,c3,rs,rfl,hv2,hv3,ht2,ht3,hr2,hr3,hb2⟩
 have rp:=hr2.rd
 replace hy:=hy.below hb2;replace rg:=rg.below hb2;replace B2:=B2.below hb2
 replace hbW:Below w.heap.size w u2:=hbW.trans (hb2.mono hbW.size)
 clear hb2 hr2 hr3 hv3 ht3 hx
 go_wp2_with fail
 refine(zfx _ _ _ _ _ _ _ hy rg (by omega) (by omega)).mono ?_
 rintro e u3 ⟨a4,c4,qs,a5,c5,rs',rfl,hv4,hv5,ht4,ht5,hr4,hr5,hb3⟩
 have rq:=hr4.rd
 replace rp:=rp.below hb3;replace B2:=B2.below hb3
 replace hbW:Below w.heap.size w u3:=hbW.trans (hb3.mono hbW.size)
 clear hb3 hr4 hr5 hv5 ht5 hy rg;obtain⟨q1,q2,q3,q4,q5,q6⟩:=B2.cells
 have hs:=B2.lt
 have hF:=zgs (n:=n) (xs:=xs) (ys:=ys) y0 ht2 ht4 (by rw[hv2,hv1]) (by rw[hv4,hv1])
 have lp:ps.length<=k:=zaj ht2 (Nat.lt_of_le_of_lt (by rw[hv2];exact Nat.div_le_self _ _) (zb8 hx0 lx))
 have lq:qs.length<=k:=zaj ht4 (Nat.lt_of_le_of_lt (by rw[hv4];exact Nat.div_le_self _ _) (zb8 hy0 ly))
 have fin:∀(m:Bool),m=(n&&decide (0<ps.length))->∀(U:World),(∀a c xs,Rd u3 a c xs->Rd U a c xs)->Fr U (.agg #[.bool m,.slice a2 ps.length c2,.slice a4 qs.length c4]) k (qv n xs ys):=by
  rintro m rfl U hU
  exact⟨_,ps,qs,⟨_,_,_,_,rfl,hU _ _ _ rp,hU _ _ _ rq⟩,hF.1,lp,lq,hF.2⟩
 clear hF
 cases n with
 | false =>
  go_wp2
  refine ret3 (v:=.agg #[.bool false,.slice a2 ps.length c2,.slice a4 qs.length c4]) B2 rfl (fun U hU=>by obtain⟨r1,r2,r3,_⟩:=hU.cells;simp[results,Tryz.results174,go_sem,r1,r2,r3]) (fun U hU hK=>⟨_,rfl,fin _ rfl U hK,hU _ _ hbW (by omega)⟩)
 | true =>
  go_wp2
  refine ret3 (v:=.agg #[.bool (decide (0<ps.length)),.slice a2 ps.length c2,.slice a4 qs.length c4]) B2 rfl (fun U hU=>by obtain⟨r1,r2,r3,_⟩:=hU.cells;simp[results,Tryz.results174,go_sem,r1,r2,r3]) (fun U hU hK=>⟨_,rfl,fin _ (by simp) U hK,hU _ _ hbW (by omega)⟩)
theorem zgd(z:Int)(w:World)(h1:-9223372036854775808<=z)(h2:z<9223372036854775808) :
 Calls Tryz.prog 175 #[.int .i64 z] w fun e w'=>∃a c ys,e=.returned (.slice a ys.length c)/\V ys=z.natAbs/\Tr ys/\Rd w' a c ys/\Below w.heap.size w w':=by
 by_cases hz:z<0
 . obtain⟨m,hm⟩:∃m:Nat,(m:Int)=-(z+1):=⟨(-(z+1)).toNat,by omega⟩
   have e1:wrap64 (z+1)=z+1:=by unfold wrap64;omega
   have e2:wrap64 (-(z+1))=(m:Int):=by unfold wrap64;omega
   have HZ:Hid (z.natAbs=m+1):=by show _=_;omega
   have hm2:m<18446744073709551616:=by omega
   go_enter Tryz.func175,Tryz.ntmps175
   go_wp2_with fail
   rw[<-hm]
   refine(zk0 m _ hm2).mono ?_
   rintro e u1 ⟨a1,c1,zs,rfl,hv1,ht1,hr1,hb1⟩
   have rz:=hr1.rd
   go_wp2_with fail
   refine(zdo _).mono ?_
   rintro e u2 ⟨a2,c2,os,rfl,ho,hto,ro,hb2⟩;replace rz:=rz.below hb2
   have hbW:Below w.heap.size w u2:=hb1.trans (hb2.mono hb1.size)
   have lz:=zbs ht1 (by omega)
   have lo:=zbs hto (by omega)
   clear hr1 hb1 hb2
   go_wp2_with fail
   refine(zeh _ _ _ _ _ _ _ rz ro (by omega) (by omega)).mono ?_
   rintro e u3 ⟨a3,c3,ts,rfl,hv3,ht3,hr3,hb3⟩;go_wp2
   go_ret
   exact⟨_,_,_,rfl,by rw[hv3,hv1,ho,HZ.out],ht3,hr3.rd,hbW.trans (hb3.mono hbW.size)⟩
 . obtain⟨m,rfl⟩:∃m:Nat,z=(m:Int):=⟨z.toNat,by omega⟩
   go_enter Tryz.func175,Tryz.ntmps175
   go_wp2_with fail
   refine(zk0 m _ (by omega)).mono ?_
   rintro e u1 ⟨a1,c1,ys,rfl,hv,ht,hr,hb⟩;go_wp2
   go_ret
   exact⟨_,_,_,rfl,by rw[hv];simp,ht,hr.rd,hb⟩
theorem zst{z:Int}{xs ys:List Nat}(hx:V xs=z.natAbs)(hy:V ys=1):qv (decide (z<0)) xs ys=(z:Rat):=by
 unfold qv;rw[hx,hy,zpq];exact Rat.mkRat_one z
theorem zam(z:Int)(w:World)(h1:-9223372036854775808<=z)(h2:z<9223372036854775808) :
 Calls Tryz.prog 116 #[.int .i64 z] w fun e w'=>∃v',e=.returned v'/\Fr w' v' 2 (z:Rat)/\Below w.heap.size w w':=by
 go_enter Tryz.func116,Tryz.ntmps116
 go_wp2_with fail
 refine(zgd z _ h1 h2).mono ?_
 rintro e u1 ⟨a1,c1,xs,rfl,hv1,ht1,rx,hb1⟩
 obtain⟨B1,hbW⟩:=zb2 hb1
 clear hb1
 go_wp2_with fail
 refine(zdo _).mono ?_
 rintro e u2 ⟨a2,c2,ys,rfl,hv2,ht2,ry,hb2⟩;replace rx:=rx.below hb2;replace B1:=B1.below hb2
 replace hbW:Below w.heap.size w u2:=hbW.trans (hb2.mono hbW.size)
 clear hb2
 go_wp2_with fail
 refine(zft 2 _ _ _ _ _ _ _ _ rx ry (by omega) (zbs ht1 (by omega)) (zbs ht2 (by omega)) (by decide)).mono ?_
 rintro e u3 ⟨v3,rfl,hF,hb3⟩;rw[zst hv1 hv2]at hF;replace B1:=B1.below hb3
 replace hbW:Below w.heap.size w u3:=hbW.trans (hb3.mono hbW.size)
 clear hb3;obtain⟨q1,q2,q3,q4,q5,q6⟩:=B1.cells
 have hs':=B1.lt
 obtain⟨n',xs',ys',⟨b,d,b',d',rfl,hx',hy'⟩,hF⟩:=hF;go_wp2
 exact ret3 (v:=.agg #[.bool n',.slice b xs'.length d,.slice b' ys'.length d']) B1 rfl (fun U hU=>by obtain⟨r1,r2,r3,_⟩:=hU.cells;simp[results,Tryz.results116,go_sem,r1,r2,r3]) (fun U hU hK=>⟨_,rfl,⟨_,_,_,⟨_,_,_,_,rfl,hK _ _ _ hx',hK _ _ _ hy'⟩,hF⟩,hU _ _ hbW (by omega)⟩)
theorem zec(z d:Int)(w:World)(h1:-9223372036854775808<=z)(h2:z<9223372036854775808)(h3:-9223372036854775808<=d)(h4:d<9223372036854775808) :
 Calls Tryz.prog 170 #[.int .i64 z,.int .i64 d] w fun e w'=>∃v',e=.returned v'/\Fr w' v' 2 ((z:Rat)/(d:Rat))/\Below w.heap.size w w':=by
 by_cases hd:d=0
 . subst hd
   go_enter Tryz.func170,Tryz.ntmps170
   go_wp2_with fail
   refine(zba _).mono ?_
   rintro e u2 ⟨v2,rfl,hF,hb2⟩
   obtain⟨B2,hbW⟩:=zb2 hb2
   obtain⟨q1,q2,q3,q4,q5,q6⟩:=B2.cells
   have hs':=B2.lt
   obtain⟨n',xs',ys',⟨b,d,b',d',rfl,hx',hy'⟩,hf',lx',ly',he⟩:=hF;clear hb2;go_wp2
   refine ret3 (v:=.agg #[.bool n',.slice b xs'.length d,.slice b' ys'.length d']) B2 rfl (fun U hU=>by obtain⟨r1,r2,r3,_⟩:=hU.cells;simp[results,Tryz.results170,go_sem,r1,r2,r3]) (fun U hU hK=>⟨_,rfl,⟨_,_,_,⟨_,_,_,_,rfl,hK _ _ _ hx',hK _ _ _ hy'⟩,hf',by omega,by omega,by rw[he];simp[Rat.div_def]⟩,hU _ _ hbW (by omega)⟩)
 . have hd0:(d==0)=false:=beq_eq_false_iff_ne.2 hd
   go_enter Tryz.func170,Tryz.ntmps170
   go_wp2_with fail
   refine(zgd z _ h1 h2).mono ?_
   rintro e u1 ⟨a1,c1,xs,rfl,hv1,ht1,rx,hb1⟩
   obtain⟨B1,hbW⟩:=zb2 hb1
   clear hb1
   go_wp2_with fail
   refine(zgd d _ h3 h4).mono ?_
   rintro e u2 ⟨a2,c2,ys,rfl,hv2,ht2,ry,hb2⟩;replace rx:=rx.below hb2;replace B1:=B1.below hb2
   replace hbW:Below w.heap.size w u2:=hbW.trans (hb2.mono hbW.size)
   clear hb2
   go_wp2_with fail
   refine(zft 2 _ _ _ _ _ _ _ _ rx ry (by omega) (zbs ht1 (by omega)) (zbs ht2 (by omega)) (by decide)).mono ?_
   rintro e u3 ⟨v3,rfl,hF,hb3⟩;rw[zp1 hv1 hv2 hd]at hF;replace B1:=B1.below hb3
   replace hbW:Below w.heap.size w u3:=hbW.trans (hb3.mono hbW.size)
   clear hb3;obtain⟨q1,q2,q3,q4,q5,q6⟩:=B1.cells
   have hs':=B1.lt
   obtain⟨n',xs',ys',⟨b,d,b',d',rfl,hx',hy'⟩,hF⟩:=hF;go_wp2
   exact ret3 (v:=.agg #[.bool n',.slice b xs'.length d,.slice b' ys'.length d']) B1 rfl (fun U hU=>by obtain⟨r1,r2,r3,_⟩:=hU.cells;simp[results,Tryz.results170,go_sem,r1,r2,r3]) (fun U hU hK=>⟨_,rfl,⟨_,_,_,⟨_,_,_,_,rfl,hK _ _ _ hx',hK _ _ _ hy'⟩,hF⟩,hU _ _ hbW (by omega)⟩)
theorem zk2(a:Option Addr)(cap:Nat)(xs:List Nat)(w:World)(h:Rd w a cap xs)(hl:xs.length<=500000000) :
 Calls Tryz.prog 221 #[.slice a xs.length cap,.int .u32 0] w fun e w'=>∃a' cap' zs,e=.returned (.slice a' zs.length cap')/\V zs=2*V xs/\Tr zs/\Res 250 w.heap.size w' a' cap' zs/\Below w.heap.size w w':=by
 go_enter Tryz.func221,Tryz.ntmps221
 go_wp2_with fail
 refine(zeh _ _ _ _ _ _ _ h h hl hl).mono ?_
 rintro e w1 ⟨a1,c1,z1,rfl,hv1,ht1,hr1,hb1⟩;go_wp2
 go_ret
 exact⟨a1,c1,z1,rfl,by omega,ht1,hr1,hb1⟩
theorem zhk{zs xs ys:List Nat}{q:Nat}(ht:Tr zs)(lx:Lim xs)(ly:Lim ys)(hv:V zs=V xs*q)(hq:q<=V ys):zs.length<=xs.length+ys.length:=by
 refine zaj ht ?_
 rw[hv,Nat.pow_add]
 have h1:=V_lt lx
 have h2:=V_lt ly
 calc V xs*q<=V xs*V ys:=Nat.mul_le_mul_left _ hq
  _<4294967296 ^ xs.length*4294967296 ^ ys.length:=Nat.mul_lt_mul'' h1 h2
theorem zef(a:Option Addr)(cap:Nat)(xs:List Nat)(b:Option Addr)(cbp:Nat)(ys:List Nat)(w:World)(ha:Rd w a cap xs)(hb:Rd w b cbp ys)(hla:xs.length<=100000000)(hlb:ys.length<=100000000) :
 Calls Tryz.prog 173 #[.slice a xs.length cap,.slice b ys.length cbp] w fun e w' =>
     ∃a' cap' zs,e=.returned (.slice a' zs.length cap')/\V zs=V xs*V ys/\Tr zs/\Res 250 w.heap.size w' a' cap' zs/\Below w.heap.size w w':=by
 go_enter Tryz.func173,Tryz.ntmps173
 go_wp2_with fail
 refine(zjq _ _ _ _ (by omega)).mono ?_
 rintro e w' ⟨rfl,rfl⟩
 go_wp2
 go_loopw [5,6] (fun out i wr=>∃(k:Nat) (q:Int) (a':Option Addr) (cap':Nat) (zs:List Nat),k<=32*ys.length/\q=(k:Int)-1/\i=.int .i64 q/\out=.slice a' zs.length cap'/\Tr zs/\V zs=V xs*(V ys/2 ^ k)/\Res 250 w.heap.size wr a' cap' zs/\Below w.heap.size w wr) (fun _ i _=>(intOf i+1).toNat)
 case atStart =>
  refine⟨32*ys.length,_,none,0,[],Nat.le_refl _,?_,rfl,rfl,zda,?_,⟨Lim.nil,World.ownsRow_nil _ _ _ _⟩,Below.refl _ _⟩
  . omega
  . rw[Nat.div_eq_of_lt (by rw[<-zhh];exact V_lt hb.lim)];rfl
 case round =>
  obtain⟨k,q,a',cap',zs,hk,hq,rfl,rfl,htr,hv,hres,hnx⟩:=hrel
  have HV:Hid (V zs=V xs*(V ys/2 ^ k)):=hv
  have hzl:=zhk htr ha.lim hb.lim hv (Nat.div_le_self _ _)
  have hsz:=hnx.size
  clear hv
  by_cases hk0:k=0
  . subst hk0
    obtain rfl:q=-1:=by omega
    clear hq;go_wp2
    go_ret
    refine⟨a',cap',zs,rfl,?_,htr,hres,hnx⟩
    rw[HV.out,Nat.pow_zero,Nat.div_one]
  . obtain⟨j,rfl⟩:∃j,k=j+1:=⟨k-1,by omega⟩
    obtain rfl:q=(j:Int):=by omega
    clear hq
    have hstep:V ys/2 ^ j=2*(V ys/2 ^ (j+1))+V ys/2 ^ j%2:=by
     rw[Nat.pow_succ,<-Nat.div_div_eq_div_mul];omega
    have HS:Hid (V ys/2 ^ j=2*(V ys/2 ^ (j+1))+V ys/2 ^ j%2):=hstep
    clear hstep
    go_wp2_with fail
    refine(zk2 _ _ _ _ hres.rd (by omega)).mono ?_
    rintro e w1 ⟨a1,c1,z1,rfl,hv1,ht1,hr1,hb1⟩
    have zcp:Below w.heap.size w w1:=hnx.trans (hb1.mono hsz)
    have HV1:Hid (V z1=V xs*(2*(V ys/2 ^ (j+1)))):=by show _=_;rw[hv1,HV.out];exact Nat.mul_left_comm _ _ _
    have hz1:=zhk ht1 ha.lim hb.lim HV1.out (by have:=HS.out;have:=Nat.div_le_self (V ys) (2 ^ j);omega)
    clear hv1
    go_wp2_with fail
    refine(zmj _ _ _ _ _ (hb.below zcp) (by omega)).mono ?_
    rintro e w' ⟨rfl,rfl⟩
    rcases Nat.mod_two_eq_zero_or_one (V ys/2 ^ j)with hb0|hb0
    . rw[hb0]
      have HB:Hid (V ys/2 ^ j%2=0):=hb0
      clear hb0;go_wp2
      go_roundw
      case rel =>
       refine⟨j,_,a1,c1,z1,by omega,rfl,by go_num,rfl,ht1,?_,hr1.mono hsz,zcp⟩
       have:=HS.out;rw[HB.out,Nat.add_zero]at this
       rw[HV1.out,this]
      case measure=>simp[intOf]
    . rw[hb0]
      have HB:Hid (V ys/2 ^ j%2=1):=hb0
      clear hb0
      go_wp2_with fail
      refine(zeh _ _ _ _ _ _ _ hr1.rd (ha.below zcp) (by omega) (by omega)).mono ?_
      rintro e w2 ⟨a2,c2,z2,rfl,hv2,ht2,hr2,hb2⟩
      have zv6:Below w.heap.size w w2:=zcp.trans (hb2.mono zcp.size)
      have HV2:Hid (V z2=V xs*(V ys/2 ^ j)):=by
       show _=_
       have:=HS.out;rw[HB.out]at this
       rw[hv2,HV1.out,this,Nat.mul_add];omega
      clear hv2;go_wp2
      go_roundw
      case rel=>exact⟨j,_,a2,c2,z2,by omega,rfl,by go_num,rfl,ht2,HV2.out,hr2.mono zcp.size,zv6⟩
      case measure=>simp[intOf]
theorem zbl(k l:Nat)(q r:Rat)(v v':Value)(w:World)(h:Ct w v k q)(h':Ct w v' l r)(hk:k<=1000000)(hl:l<=1000000)(hk2:2<=k)(hl2:2<=l) :
 Calls Tryz.prog 125 #[v,v'] w fun e w'=>∃v',e=.returned v'/\Fr w' v' (k+l) (q*r)/\Below w.heap.size w w':=by
 have hX:=h
 have hY:=h'
 obtain⟨n,xs,ys,⟨a,c,a',c',rfl,_,_⟩,_⟩:=h;obtain⟨m,ps,qs,⟨b,d,b',d',rfl,_,_⟩,_⟩:=h'
 go_enter Tryz.func125,Tryz.ntmps125
 go_wp2_with fail
 refine(zdd k q _ _ (hX.below (al3 _ _ _)) (by omega) hk2).mono ?_
 rintro e u1 ⟨v1,rfl,hF1,hb1⟩
 replace hY:=(hY.below (al3 _ _ _)).below hb1
 obtain⟨B1,B2,B3,hbW⟩:=zr0 hb1
 clear hb1 hX;obtain⟨p1,p2,p3,p4,p5,p6⟩:=B1.cells;obtain⟨q1,q2,q3,_⟩:=B2.cells
 have hs1:=B1.lt
 obtain⟨n1,x1,y1,⟨a1,c1,b1,d1,rfl,hx1,hy1⟩,f1,l1,l1',e1⟩:=hF1
 go_wp2_with fail
 obtain⟨U,hU,B1',hbU,hK,ho⟩:=zai B1 (.bool n1) (.slice a1 x1.length c1) (.slice b1 y1.length d1)
 rw[<-hU]
 replace B2:=B2.other ho (by omega)
 replace B3:=B3.other ho (by omega)
 replace hbW:=hbU _ _ hbW (by omega)
 replace hx1:=hK _ _ _ hx1
 replace hy1:=hK _ _ _ hy1
 replace hY:=hY.keep hK
 clear hU hbU hK ho B1 p1 p2 p3 p4 p5 p6 q1 q2 q3 hs1
 refine(zdd l r _ _ hY (by omega) hl2).mono ?_
 rintro e u2 ⟨v2,rfl,hF2,hb2⟩;replace hx1:=hx1.below hb2;replace hy1:=hy1.below hb2
 replace B1':=B1'.below hb2
 replace B2:=B2.below hb2;replace B3:=B3.below hb2
 replace hbW:Below w.heap.size w u2:=hbW.trans (hb2.mono hbW.size)
 clear hb2 hY;obtain⟨n2,x2,y2,⟨a2,c2,b2,d2,rfl,hx2,hy2⟩,f2,l2,l2',e2⟩:=hF2
 have y10:=f1.den
 have y20:=f2.den
 obtain⟨p4,p5,p6,p7,p8,p9⟩:=B2.cells
 have hs2:=B2.lt
 go_wp2_with fail
 obtain⟨U,hU,B2',hbU,hK,ho⟩:=zai B2 (.bool n2) (.slice a2 x2.length c2) (.slice b2 y2.length d2)
 rw[<-hU]
 replace B1':=B1'.other ho (by omega)
 replace B3:=B3.other ho (by omega)
 replace hbW:=hbU _ _ hbW (by omega)
 replace hx1:=hK _ _ _ hx1
 replace hy1:=hK _ _ _ hy1
 replace hx2:=hK _ _ _ hx2
 replace hy2:=hK _ _ _ hy2
 clear hU hbU hK ho B2 p4 p5 p6 p7 p8 p9 hs2;obtain⟨p1,p2,p3,_⟩:=B1'.cells;obtain⟨p4,p5,p6,_⟩:=B2'.cells
 have lx1:=hx1.lim
 have ly1:=hy1.lim
 have lx2:=hx2.lim
 have ly2:=hy2.lim
 have st:Stg 0:=rfl
 go_region_held3 (fun u=>u.cell? ⟨w.heap.size,0,none⟩=some (.bool n1)/\u.cell? ⟨w.heap.size,1,none⟩=some (.slice a1 x1.length c1)/\u.cell? ⟨w.heap.size,2,none⟩=some (.slice b1 y1.length d1)/\u.cell? ⟨w.heap.size+1,0,none⟩=some (.bool n2)/\u.cell? ⟨w.heap.size+1,1,none⟩=some (.slice a2 x2.length c2)/\u.cell? ⟨w.heap.size+1,2,none⟩=some (.slice b2 y2.length d2)) (first | (go_keep;done) | (refine⟨(zab (by omega)).trans p1,(zab (by omega)).trans p2,(zab (by omega)).trans p3,(zab (by omega)).trans p4,(zab (by omega)).trans p5,(zab (by omega)).trans p6⟩))
  (first
   | (go_at_call 173
      have _sg:Stg 0:=st
      refine(zef _ _ _ _ _ _ _ (hx1.below Below.drew1) (hx2.below Below.drew1) ?_ ?_).mono ?_
      . omega
      . omega
      rintro e um1 ⟨am1,cm1,zs1,rfl,zxz,htm1,zx2,zgo⟩
      replace zgo:Below U.heap.size U um1:=Below.drew1.trans zgo
      replace hx1:=hx1.below zgo;replace hy1:=hy1.below zgo;replace hx2:=hx2.below zgo;replace hy2:=hy2.below zgo
      replace B1':=B1'.below zgo
      replace B2':=B2'.below zgo
      replace B3:=B3.below zgo
      replace hbW:Below w.heap.size w um1:=hbW.trans (zgo.mono hbW.size)
      have rm1:=zx2.rd
      clear zx2 zgo st _sg
      have st:Stg 1:=rfl
      clear p1 p2 p3 p4 p5 p6;obtain⟨p1,p2,p3,_⟩:=B1'.cells
      obtain⟨p4,p5,p6,_⟩:=B2'.cells)
   | (go_at_call 173
      have _sg:Stg 1:=st
      refine(zef _ _ _ _ _ _ _ hy1 hy2 ?_ ?_).mono ?_
      . omega
      . omega
      rintro e um2 ⟨am2,cm2,zs2,rfl,zw7,htm2,zx1,zg6⟩;replace hx1:=hx1.below zg6;replace hy1:=hy1.below zg6;replace hx2:=hx2.below zg6;replace hy2:=hy2.below zg6
      replace B1':=B1'.below zg6
      replace B2':=B2'.below zg6
      replace B3:=B3.below zg6;replace rm1:=rm1.below zg6
      replace hbW:Below w.heap.size w um2:=hbW.trans (zg6.mono hbW.size)
      have rm2:=zx1.rd
      clear zx1 zg6 st _sg
      have st:Stg 2:=rfl
      clear p1 p2 p3 p4 p5 p6;obtain⟨p1,p2,p3,_⟩:=B1'.cells
      obtain⟨p4,p5,p6,_⟩:=B2'.cells)
   | (go_at_call 174
      have _sg:Stg 2:=st
      refine(zft (k+l) _ _ _ _ _ _ _ _ rm1 rm2 (by rw[zw7];exact Nat.mul_ne_zero y10 y20) (zb7 lx1 lx2 htm1 l1 l2 zxz) (zb7 ly1 ly2 htm2 l1' l2' zw7) ?_).mono ?_
      . omega
      rintro e ul ⟨vl,rfl,hF,hbl⟩;replace hx1:=hx1.below hbl;replace hy1:=hy1.below hbl;replace hx2:=hx2.below hbl;replace hy2:=hy2.below hbl
      replace B1':=B1'.below hbl
      replace B2':=B2'.below hbl
      replace B3:=B3.below hbl
      replace hbW:Below w.heap.size w ul:=hbW.trans (hbl.mono hbW.size)
      clear hbl st _sg
      have st:Stg 3:=rfl
      clear p1 p2 p3 p4 p5 p6;obtain⟨p1,p2,p3,_⟩:=B1'.cells;obtain⟨p4,p5,p6,_⟩:=B2'.cells;obtain⟨q1,q2,q3,q4,q5,q6⟩:=B3.cells
      have hs:=B3.lt
      obtain⟨n3,x3,y3,⟨a3,c3,b3,d3,rfl,hx3,hy3⟩,hF⟩:=hF))
 rw[zmk zxz zw7,e1,e2]at hF;go_wp2
 exact ret3 (v:=.agg #[.bool n3,.slice a3 x3.length c3,.slice b3 y3.length d3]) B3 rfl (fun U hU=>by obtain⟨r1,r2,r3,_⟩:=hU.cells;simp[results,Tryz.results125,go_sem,r1,r2,r3]) (fun U hU hK=>⟨_,rfl,⟨_,_,_,⟨_,_,_,_,rfl,hK _ _ _ hx3,hK _ _ _ hy3⟩,hF⟩,hU _ _ hbW (by omega)⟩)
theorem zkx(n:Bool)(a b:Nat):sg n (a+b)=sg n a+sg n b:=by cases n <;> simp[sg];omega
theorem zkv{n m:Bool}(h:n≠m){a b:Nat}(hl:¬a<b):sg n (a-b)=sg n a+sg m b:=by
 cases n <;> cases m <;> simp[sg]at h ⊢ <;> omega
theorem zkw{n m:Bool}(h:n≠m){a b:Nat}(hl:a<b):sg m (b-a)=sg n a+sg m b:=by
 cases n <;> cases m <;> simp[sg]at h ⊢ <;> omega
theorem zsm(k:Nat)(n m:Bool)(a:Option Addr)(c:Nat)(xs:List Nat)(b:Option Addr)(d:Nat)(ps:List Nat)(w:World)(hx:Rd w a c xs)(hp:Rd w b d ps)(lx:xs.length<=k)(lp:ps.length<=k)(hk:k<=10000000) :
 Calls Tryz.prog 172 #[.bool n,.slice a xs.length c,.bool m,.slice b ps.length d] w fun e w'=>∃s a' c' zs,e=.returned (.tuple #[.bool s,.slice a' zs.length c'])/\sg s (V zs)=sg n (V xs)+sg m (V ps)/\Tr zs/\zs.length<=k+1/\Rd w' a' c' zs/\Below w.heap.size w w':=by
 have l1:=hx.lim
 have l2:=hp.lim
 by_cases hnm:n=m
 . subst hnm
   have e0:(n==n)=true:=by simp
   go_enter Tryz.func172,Tryz.ntmps172
   go_wp2_with fail
   refine(zeh _ _ _ _ _ _ _ hx hp (by omega) (by omega)).mono ?_
   rintro e u ⟨a1,c1,zs,rfl,hv,ht,hr,hb⟩;go_wp2
   go_ret2
   exact⟨_,_,_,_,rfl,by rw[hv];exact zkx _ _ _,ht,zd1 l1 l2 ht lx lp (by omega),hr.rd,hb⟩
 . have e0:(n==m)=false:=by simpa using hnm
   go_enter Tryz.func172,Tryz.ntmps172
   go_wp2_with fail
   refine(zeg _ _ _ _ _ _ _ hx hp).mono ?_
   rintro e u ⟨rfl,rfl⟩
   by_cases hlt:V xs<V ps
   . have ec:cmpN (V xs) (V ps)=-1:=by unfold cmpN;rw[if_pos hlt]
     rw[ec];clear ec
     go_wp2_with fail
     refine(zh4 _ _ _ _ _ _ _ hp hx (by omega) (by omega)).mono ?_
     rintro e u ⟨a1,c1,zs,rfl,hv,ht,hr,hb⟩;go_wp2
     go_ret2
     exact⟨_,_,_,_,rfl,by rw[hv];exact zkw hnm hlt,ht,zd1 l1 l2 ht lx lp (by omega),hr.rd,hb⟩
   . have ec:0<=cmpN (V xs) (V ps):=by unfold cmpN;rw[if_neg hlt];split <;> decide
     generalize cmpN (V xs) (V ps)=cc at ec ⊢
     go_wp2_with fail
     refine(zh4 _ _ _ _ _ _ _ hx hp (by omega) (by omega)).mono ?_
     rintro e u ⟨a1,c1,zs,rfl,hv,ht,hr,hb⟩;go_wp2
     go_ret2
     exact⟨_,_,_,_,rfl,by rw[hv];exact zkv hnm hlt,ht,zd1 l1 l2 ht lx lp (by omega),hr.rd,hb⟩
theorem zhe(n:Bool)(a b:Nat):sg n (a*b)=sg n a*(b:Int):=by cases n <;> simp[sg];grind
theorem zxo{s n m:Bool}{zs ts xs ys ps qs:List Nat}(hy:V ys≠0)(hq:V qs≠0)(ht:V ts=V ys*V qs)(h:sg s (V zs)=sg n (V xs*V qs)+sg m (V ps*V ys)):qv s zs ts=qv n xs ys+qv m ps qs:=by
 unfold qv
 rw[Rat.mkRat_add_mkRat _ _ hy hq,ht,h,zhe,zhe]
theorem zbp(k l:Nat)(q r:Rat)(v v':Value)(w:World)(h:Ct w v k q)(h':Ct w v' l r)(hk:k<=1000000)(hl:l<=1000000)(hk2:2<=k)(hl2:2<=l) :
 Calls Tryz.prog 115 #[v,v'] w fun e w'=>∃v',e=.returned v'/\Fr w' v' (k+l+1) (q+r)/\Below w.heap.size w w':=by
 have hX:=h
 have hY:=h'
 obtain⟨n,xs,ys,⟨a,c,a',c',rfl,_,_⟩,_⟩:=h;obtain⟨m,ps,qs,⟨b,d,b',d',rfl,_,_⟩,_⟩:=h'
 go_enter Tryz.func115,Tryz.ntmps115
 go_wp2_with fail
 refine(zdd k q _ _ (hX.below (al3 _ _ _)) (by omega) hk2).mono ?_
 rintro e u1 ⟨v1,rfl,hF1,hb1⟩
 replace hY:=(hY.below (al3 _ _ _)).below hb1
 obtain⟨B1,B2,B3,hbW⟩:=zr0 hb1
 clear hb1 hX;obtain⟨p1,p2,p3,p4,p5,p6⟩:=B1.cells;obtain⟨q1,q2,q3,_⟩:=B2.cells
 have hs1:=B1.lt
 obtain⟨n1,x1,y1,⟨a1,c1,b1,d1,rfl,hx1,hy1⟩,f1,l1,l1',e1⟩:=hF1
 go_wp2_with fail
 obtain⟨U,hU,B1',hbU,hK,ho⟩:=zai B1 (.bool n1) (.slice a1 x1.length c1) (.slice b1 y1.length d1)
 rw[<-hU]
 replace B2:=B2.other ho (by omega)
 replace B3:=B3.other ho (by omega)
 replace hbW:=hbU _ _ hbW (by omega)
 replace hx1:=hK _ _ _ hx1
 replace hy1:=hK _ _ _ hy1
 replace hY:=hY.keep hK
 clear hU hbU hK ho B1 p1 p2 p3 p4 p5 p6 q1 q2 q3 hs1
 refine(zdd l r _ _ hY (by omega) hl2).mono ?_
 rintro e u2 ⟨v2,rfl,hF2,hb2⟩;replace hx1:=hx1.below hb2;replace hy1:=hy1.below hb2
 replace B1':=B1'.below hb2
 replace B2:=B2.below hb2;replace B3:=B3.below hb2
 replace hbW:Below w.heap.size w u2:=hbW.trans (hb2.mono hbW.size)
 clear hb2 hY;obtain⟨n2,x2,y2,⟨a2,c2,b2,d2,rfl,hx2,hy2⟩,f2,l2,l2',e2⟩:=hF2
 have y10:=f1.den
 have y20:=f2.den
 obtain⟨p4,p5,p6,p7,p8,p9⟩:=B2.cells
 have hs2:=B2.lt
 go_wp2_with fail
 obtain⟨U,hU,B2',hbU,hK,ho⟩:=zai B2 (.bool n2) (.slice a2 x2.length c2) (.slice b2 y2.length d2)
 rw[<-hU]
 replace B1':=B1'.other ho (by omega)
 replace B3:=B3.other ho (by omega)
 replace hbW:=hbU _ _ hbW (by omega)
 replace hx1:=hK _ _ _ hx1
 replace hy1:=hK _ _ _ hy1
 replace hx2:=hK _ _ _ hx2
 replace hy2:=hK _ _ _ hy2
 clear hU hbU hK ho B2 p4 p5 p6 p7 p8 p9 hs2;obtain⟨p1,p2,p3,_⟩:=B1'.cells;obtain⟨p4,p5,p6,_⟩:=B2'.cells
 have lx1:=hx1.lim
 have ly1:=hy1.lim
 have lx2:=hx2.lim
 have ly2:=hy2.lim
 have st:Stg 0:=rfl
 go_region_held3 (fun u=>u.cell? ⟨w.heap.size,0,none⟩=some (.bool n1)/\u.cell? ⟨w.heap.size,1,none⟩=some (.slice a1 x1.length c1)/\u.cell? ⟨w.heap.size,2,none⟩=some (.slice b1 y1.length d1)/\u.cell? ⟨w.heap.size+1,0,none⟩=some (.bool n2)/\u.cell? ⟨w.heap.size+1,1,none⟩=some (.slice a2 x2.length c2)/\u.cell? ⟨w.heap.size+1,2,none⟩=some (.slice b2 y2.length d2)) (first | (go_keep;done) | (refine⟨(zab (by omega)).trans p1,(zab (by omega)).trans p2,(zab (by omega)).trans p3,(zab (by omega)).trans p4,(zab (by omega)).trans p5,(zab (by omega)).trans p6⟩))
  (first
   | (go_at_call 173
      have _sg:Stg 0:=st
      refine(zef _ _ _ _ _ _ _ (hx1.below Below.drew1) (hy2.below Below.drew1) ?_ ?_).mono ?_
      . omega
      . omega
      rintro e um1 ⟨am1,cm1,zs1,rfl,zxz,htm1,zx2,zgo⟩
      replace zgo:Below U.heap.size U um1:=Below.drew1.trans zgo
      replace hx1:=hx1.below zgo;replace hy1:=hy1.below zgo;replace hx2:=hx2.below zgo;replace hy2:=hy2.below zgo
      replace B1':=B1'.below zgo
      replace B2':=B2'.below zgo
      replace B3:=B3.below zgo
      replace hbW:Below w.heap.size w um1:=hbW.trans (zgo.mono hbW.size)
      have rm1:=zx2.rd
      clear zx2 zgo st _sg
      have st:Stg 1:=rfl
      clear p1 p2 p3 p4 p5 p6;obtain⟨p1,p2,p3,_⟩:=B1'.cells
      obtain⟨p4,p5,p6,_⟩:=B2'.cells)
   | (go_at_call 173
      have _sg:Stg 1:=st
      refine(zef _ _ _ _ _ _ _ hx2 hy1 ?_ ?_).mono ?_
      . omega
      . omega
      rintro e um2 ⟨am2,cm2,zs2,rfl,zw7,htm2,zx1,zg6⟩;replace hx1:=hx1.below zg6;replace hy1:=hy1.below zg6;replace hx2:=hx2.below zg6;replace hy2:=hy2.below zg6
      replace B1':=B1'.below zg6
      replace B2':=B2'.below zg6
      replace B3:=B3.below zg6;replace rm1:=rm1.below zg6
      replace hbW:Below w.heap.size w um2:=hbW.trans (zg6.mono hbW.size)
      have rm2:=zx1.rd
      clear zx1 zg6 st _sg
      have st:Stg 2:=rfl
      clear p1 p2 p3 p4 p5 p6;obtain⟨p1,p2,p3,_⟩:=B1'.cells
      obtain⟨p4,p5,p6,_⟩:=B2'.cells)
   | (go_at_call 172
      have _sg:Stg 2:=st
      refine(zsm (k+l) _ _ _ _ _ _ _ _ _ rm1 rm2 (zb7 lx1 ly2 htm1 l1 l2' zxz) ?_ ?_).mono ?_
      . have:=zb7 lx2 ly1 htm2 l2 l1' zw7
        omega
      . omega
      rintro e us ⟨s3,a7,c7,ss,rfl,hvs,hts,lss,rs,hbs⟩;replace hx1:=hx1.below hbs;replace hy1:=hy1.below hbs;replace hx2:=hx2.below hbs;replace hy2:=hy2.below hbs
      replace B1':=B1'.below hbs
      replace B2':=B2'.below hbs
      replace B3:=B3.below hbs
      replace hbW:Below w.heap.size w us:=hbW.trans (hbs.mono hbW.size)
      clear hbs st _sg
      have st:Stg 3:=rfl
      clear p1 p2 p3 p4 p5 p6;obtain⟨p1,p2,p3,_⟩:=B1'.cells
      obtain⟨p4,p5,p6,_⟩:=B2'.cells))
 go_wp2_with fail
 refine(zef _ _ _ _ _ _ _ hy1 hy2 (by omega) (by omega)).mono ?_
 rintro e u8 ⟨a8,c8,z8,rfl,hv8,ht8,hr8,hb8⟩;replace rs:=rs.below hb8;replace B3:=B3.below hb8
 replace hbW:Below w.heap.size w u8:=hbW.trans (hb8.mono hbW.size)
 have r8:=hr8.rd
 have l8:=zb7 ly1 ly2 ht8 l1' l2' hv8
 clear hr8 hb8 p1 p2 p3 p4 p5 p6
 go_wp2_with fail
 refine(zft (k+l+1) _ _ _ _ _ _ _ _ rs r8 (by rw[hv8];exact Nat.mul_ne_zero y10 y20) lss (by omega) (by omega)).mono ?_
 rintro e u9 ⟨v9,rfl,hF,hb9⟩;replace B3:=B3.below hb9
 replace hbW:Below w.heap.size w u9:=hbW.trans (hb9.mono hbW.size)
 clear hb9;rw[zxz,zw7]at hvs;rw[zxo y10 y20 hv8 hvs,e1,e2]at hF;obtain⟨q1,q2,q3,q4,q5,q6⟩:=B3.cells
 have hs:=B3.lt
 obtain⟨n3,x3,y3,⟨a3,c3,b3,d3,rfl,hx3,hy3⟩,hF⟩:=hF;go_wp2
 exact ret3 (v:=.agg #[.bool n3,.slice a3 x3.length c3,.slice b3 y3.length d3]) B3 rfl (fun U hU=>by obtain⟨r1,r2,r3,_⟩:=hU.cells;simp[results,Tryz.results115,go_sem,r1,r2,r3]) (fun U hU hK=>⟨_,rfl,⟨_,_,_,⟨_,_,_,_,rfl,hK _ _ _ hx3,hK _ _ _ hy3⟩,hF⟩,hU _ _ hbW (by omega)⟩)
theorem znn{m:Nat}(h:m<=9223372036854775808):wrap64 (-(wrap64 (m:Int)))=-(m:Int):=by
 by_cases h9:m=9223372036854775808
 . subst h9;decide +kernel
 . rw[zi0 (by omega)]
   unfold wrap64
   omega
theorem zn6(k:Nat)(q:Rat)(v:Value)(w:World)(h:Ct w v k q)(hk:k<=1000000)(hk2:2<=k) :
 Calls Tryz.prog 169 #[v] w fun e w'=>e=.returned (.tuple #[.int .i64 (flN q.floor),.bool (flB q.floor)])/\Below w.heap.size w w':=by
 have hX:=h
 obtain⟨n,xs,ys,⟨a,c,a',c',rfl,_,_⟩,hz1⟩:=h;clear hz1
 go_enter Tryz.func169,Tryz.ntmps169
 go_wp2_with fail
 refine(zdd k q _ _ (hX.below (al1 _)) (by omega) hk2).mono ?_
 rintro e u1 ⟨v1,rfl,hF1,hb1⟩
 obtain⟨B0,hbW⟩:=zb2 hb1
 clear hb1 hX;obtain⟨p1,p2,p3,p4,p5,p6⟩:=B0.cells
 have hs1:=B0.lt
 obtain⟨n1,x1,y1,⟨a1,c1,b1,d1,rfl,hx1,hy1⟩,f1,l1,l1',e1⟩:=hF1
 have y0:=f1.den
 go_wp2_with fail
 obtain⟨U,hU,B1,hbU,hK,ho⟩:=zai B0 (.bool n1) (.slice a1 x1.length c1) (.slice b1 y1.length d1)
 rw[<-hU]
 replace hbW:=hbU _ _ hbW (by omega)
 replace hx1:=hK _ _ _ hx1
 replace hy1:=hK _ _ _ hy1
 clear hU hbU hK ho B0 p1 p2 p3 p4 p5 p6 hs1
 refine(zfx _ _ _ _ _ _ _ hx1 hy1 (by omega) (by omega)).mono ?_
 rintro e u2 ⟨a2,c2,zs,a3,c3,rs,rfl,hv1,hv2,ht1,ht2,hr1,hr2,hb2⟩
 have lz:zs.length<=k:=zaj ht1 (Nat.lt_of_le_of_lt (by rw[hv1];exact Nat.div_le_self _ _) (zb8 hx1.lim l1))
 have lr:rs.length<=k:=zaj ht2 (Nat.lt_of_le_of_lt (by rw[hv2,zbx _ (by omega)];exact Nat.mod_le _ _) (zb8 hx1.lim l1))
 have rz:=hr1.rd
 rw[zbx _ (by omega)]at hv2
 replace B1:=B1.below hb2
 replace hbW:Below w.heap.size w u2:=hbW.trans (hb2.mono hbW.size)
 clear hr1 hr2 hb2 hx1 hy1;obtain⟨p1,p2,p3,_⟩:=B1.cells;subst e1
 cases n1 with
 | false =>
     have HF:Hid ((qv false x1 y1).floor=((V zs:Nat):Int)):=by show _=_;rw[zka y0,hv1]
     clear hv1 hv2
     go_wp2_with fail
     refine(ze6 _ _ _ _ rz (by omega)).mono ?_
     rintro e u7 ⟨rfl,hb7⟩;replace B1:=B1.below hb7
     replace hbW:Below w.heap.size w u7:=hbW.trans (hb7.mono hbW.size)
     clear hb7 p1 p2 p3;obtain⟨p1,p2,p3,_⟩:=B1.cells
     generalize V zs=m at HF ⊢
     clear rz
     by_cases hm:m<9223372036854775808
     . rw[zaz (by omega),zau (by omega)]
       have HM:Hid (m<9223372036854775808):=hm
       obtain⟨z,hz⟩:∃z:Int,(m:Int)=z:=⟨_,rfl⟩
       have g1:¬9223372036854775808<z:=by omega
       have g2:(z==9223372036854775808)=false:=beq_eq_false_iff_ne.2 (by omega)
       rw[hz]
       have HZ:Hid ((m:Int)=z):=hz
       clear hz hm;go_wp2
       go_ret2
       exact⟨za9 (by rw[HF.out,zd6,if_pos HM.out,<-HZ.out];exact zi0 HM.out) (by rw[HF.out,zdh];simp[HM.out]),hbW⟩
     . by_cases hm2:m<18446744073709551616
       . rw[zaz hm2,zau hm2]
         by_cases hm3:m=9223372036854775808
         . subst hm3
           go_wp2
           go_ret2
           exact⟨za9 (by rw[HF.out,zd6,if_neg (by decide)]) (by rw[HF.out,zdh];simp),hbW⟩
         . have g1:(9223372036854775808:Int)<(m:Int):=by omega
           have HM:Hid (¬m<9223372036854775808):=hm
           clear hm hm2 hm3;go_wp2
           go_ret2
           exact⟨za9 (by rw[HF.out,zd6,if_neg HM.out]) (by rw[HF.out,zdh];simp[HM.out]),hbW⟩
       . rw[zbo hm2,zbi hm2]
         go_wp2
         go_ret2
         exact⟨za9 (by rw[HF.out,zd6,if_neg hm]) (by rw[HF.out,zdh];simp[hm]),hbW⟩
 | true =>
  by_cases hrs:rs.length=0
  . have hr0:V rs=0:=by rw[List.length_eq_zero_iff.1 hrs];rfl
    have HF:Hid ((qv true x1 y1).floor=-((V zs:Nat):Int)):=by show _=_;rw[zeu y0,hv1,<-hv2,hr0];simp
    have g0:¬(0:Int)<(rs.length:Int):=by omega
    clear hv1 hv2 hr0 hrs
    go_wp2_with fail
    refine(ze6 _ _ _ _ rz (by omega)).mono ?_
    rintro e u7 ⟨rfl,hb7⟩;replace B1:=B1.below hb7
    replace hbW:Below w.heap.size w u7:=hbW.trans (hb7.mono hbW.size)
    clear hb7 p1 p2 p3;obtain⟨p1,p2,p3,_⟩:=B1.cells
    generalize V zs=m at HF ⊢
    clear rz
    by_cases hm:m<=9223372036854775808
    . rw[zaz (by omega),zau (by omega)]
      have HM:Hid (m<=9223372036854775808):=hm
      obtain⟨z,hz⟩:∃z:Int,(m:Int)=z:=⟨_,rfl⟩
      have g1:¬9223372036854775808<z:=by omega
      have HB:Hid (wrap64 (-(wrap64 z))=-z):=by show _=_;rw[<-hz];exact znn hm
      rw[hz]
      have HZ:Hid ((m:Int)=z):=hz
      clear hz hm
      by_cases hz9:z=9223372036854775808
      . have g2:(z==9223372036854775808)=true:=beq_iff_eq.2 hz9
        clear hz9;go_wp2
        go_ret2
        exact⟨za9 (by rw[HF.out,zb0,if_pos HM.out,HZ.out];exact HB.out) (by rw[HF.out,zbu];simp[HM.out]),hbW⟩
      . have g2:(z==9223372036854775808)=false:=beq_eq_false_iff_ne.2 hz9
        clear hz9;go_wp2
        go_ret2
        exact⟨za9 (by rw[HF.out,zb0,if_pos HM.out,HZ.out];exact HB.out) (by rw[HF.out,zbu];simp[HM.out]),hbW⟩
    . by_cases hm2:m<18446744073709551616
      . rw[zaz hm2,zau hm2]
        have g1:(9223372036854775808:Int)<(m:Int):=by omega
        have HM:Hid (¬m<=9223372036854775808):=hm
        clear hm hm2;go_wp2
        go_ret2
        exact⟨za9 (by rw[HF.out,zb0,if_neg HM.out]) (by rw[HF.out,zbu];simp[HM.out]),hbW⟩
      . rw[zbo hm2,zbi hm2]
        go_wp2
        go_ret2
        exact⟨za9 (by rw[HF.out,zb0,if_neg hm]) (by rw[HF.out,zbu];simp[hm]),hbW⟩
  . have hr0:0<V rs:=by
      have:=zg3 ht2 fun h=>hrs (by rw[h];rfl)
      omega
    have g0:(0:Int)<(rs.length:Int):=by omega
    go_wp2_with fail
    refine(zdo _).mono ?_
    rintro e u3 ⟨a4,c4,os,rfl,ho1,hto,ro,hb3⟩;replace rz:=rz.below hb3;replace B1:=B1.below hb3
    replace hbW:Below w.heap.size w u3:=hbW.trans (hb3.mono hbW.size)
    have lo:=zbs hto (by omega)
    clear hb3 p1 p2 p3
    go_wp2_with fail
    refine(zeh _ _ _ _ _ _ _ rz ro (by omega) (by omega)).mono ?_
    rintro e u4 ⟨a5,c5,ws,rfl,hv4,ht4,hr4,hb4⟩
    have rw4:=hr4.rd
    replace B1:=B1.below hb4
    replace hbW:Below w.heap.size w u4:=hbW.trans (hb4.mono hbW.size)
    have lw:ws.length<=k+1:=zd1 rz.lim ro.lim ht4 lz (by omega) (by omega)
    have HF:Hid ((qv true x1 y1).floor=-((V ws:Nat):Int)):=by show _=_;rw[zeu y0,hv4,hv1,ho1,<-hv2,if_pos hr0]
    clear hv1 hv2 hr0 hr4 hb4 rz ro hv4 ho1 hrs;obtain⟨p1,p2,p3,_⟩:=B1.cells
    go_wp2_with fail
    refine(ze6 _ _ _ _ rw4 (by omega)).mono ?_
    rintro e u7 ⟨rfl,hb7⟩;replace B1:=B1.below hb7
    replace hbW:Below w.heap.size w u7:=hbW.trans (hb7.mono hbW.size)
    clear hb7 p1 p2 p3;obtain⟨p1,p2,p3,_⟩:=B1.cells
    generalize V ws=m at HF ⊢
    clear rw4
    by_cases hm:m<=9223372036854775808
    . rw[zaz (by omega),zau (by omega)]
      have HM:Hid (m<=9223372036854775808):=hm
      obtain⟨z,hz⟩:∃z:Int,(m:Int)=z:=⟨_,rfl⟩
      have g1:¬9223372036854775808<z:=by omega
      have HB:Hid (wrap64 (-(wrap64 z))=-z):=by show _=_;rw[<-hz];exact znn hm
      rw[hz]
      have HZ:Hid ((m:Int)=z):=hz
      clear hz hm
      by_cases hz9:z=9223372036854775808
      . have g2:(z==9223372036854775808)=true:=beq_iff_eq.2 hz9
        clear hz9;go_wp2
        go_ret2
        exact⟨za9 (by rw[HF.out,zb0,if_pos HM.out,HZ.out];exact HB.out) (by rw[HF.out,zbu];simp[HM.out]),hbW⟩
      . have g2:(z==9223372036854775808)=false:=beq_eq_false_iff_ne.2 hz9
        clear hz9;go_wp2
        go_ret2
        exact⟨za9 (by rw[HF.out,zb0,if_pos HM.out,HZ.out];exact HB.out) (by rw[HF.out,zbu];simp[HM.out]),hbW⟩
    . by_cases hm2:m<18446744073709551616
      . rw[zaz hm2,zau hm2]
        have g1:(9223372036854775808:Int)<(m:Int):=by omega
        have HM:Hid (¬m<=9223372036854775808):=hm
        clear hm hm2;go_wp2
        go_ret2
        exact⟨za9 (by rw[HF.out,zb0,if_neg HM.out]) (by rw[HF.out,zbu];simp[HM.out]),hbW⟩
      . rw[zbo hm2,zbi hm2]
        go_wp2
        go_ret2
        exact⟨za9 (by rw[HF.out,zb0,if_neg hm]) (by rw[HF.out,zbu];simp[hm]),hbW⟩
theorem ze3(k:Nat)(q:Rat)(v:Value)(w:World)(h:Ct w v k q)(hk:k<=100000)(hk2:2<=k) :
 Calls Tryz.prog 114 #[v] w fun e w'=>e=.returned (.tuple #[.int .i64 (flN (q+1/2).floor),.bool (flB (q+1/2).floor)])/\Below w.heap.size w w':=by
 have hX:=h
 obtain⟨n,xs,ys,⟨a,c,a',c',rfl,_,_⟩,hz1⟩:=h;clear hz1
 go_enter Tryz.func114,Tryz.ntmps114
 go_wp2_with fail
 obtain⟨W,hW,B1,hbW⟩:∃W,W=w.alloc (.cells #[.bool n,.slice a xs.length c,.slice a' ys.length c'] 130)/\Box 130 W w.heap.size (.bool n) (.slice a xs.length c) (.slice a' ys.length c')/\Below w.heap.size w W:=⟨_,rfl,Box.new _ _ _ _ _,al1 _⟩
 rw[<-hW];clear hW;replace hX:=hX.below hbW;obtain⟨p1,p2,p3,_⟩:=B1.cells
 go_region_held3 (fun u=>u.cell? ⟨w.heap.size,0,none⟩=some (.bool n)/\u.cell? ⟨w.heap.size,1,none⟩=some (.slice a xs.length c)/\u.cell? ⟨w.heap.size,2,none⟩=some (.slice a' ys.length c')) (go_keep)
  (first
   | (go_at_call 170
      refine(zec 1 2 _ (by decide) (by decide) (by decide) (by decide)).mono ?_
      rintro e u1 ⟨v1,rfl,hF1,hb1⟩
      replace hb1:Below W.heap.size W u1:=Below.drew1.trans hb1
      have hH:Ct u1 v1 2 (1/2):=hF1.ct
      replace hX:=hX.below hb1;replace B1:=B1.below hb1
      replace hbW:Below w.heap.size w u1:=hbW.trans (hb1.mono hbW.size)
      clear hb1 hF1 p1 p2 p3
      obtain⟨p1,p2,p3,_⟩:=B1.cells)
   | (go_at_call 115
      refine(zbp k 2 q (1/2) _ _ _ hX hH ?_ (by decide) hk2 (by decide)).mono ?_
      . omega
      rintro e u2 ⟨v2,rfl,hF2,hb2⟩;replace B1:=B1.below hb2
      replace hbW:Below w.heap.size w u2:=hbW.trans (hb2.mono hbW.size)
      clear hb2 hX hH p1 p2 p3
      obtain⟨p1,p2,p3,_⟩:=B1.cells)
   | (go_at_call 169
      refine(zn6 (k+2+1) _ _ _ hF2.ct ?_ ?_).mono ?_
      . omega
      . omega
      rintro e u3 ⟨rfl,hb3⟩;replace B1:=B1.below hb3
      replace hbW:Below w.heap.size w u3:=hbW.trans (hb3.mono hbW.size)
      clear hb3 hF2 p1 p2 p3
      obtain⟨p1,p2,p3,_⟩:=B1.cells))
 go_wp2
 go_ret2
 exact⟨rfl,hbW⟩
theorem zac(z:Int)(w:World):Calls Tryz.prog 200 #[.int .i64 z] w fun e w'=>e=.returned (.bool (crd z))/\w=w':=by
 by_cases h1:-16384<=z
 . go_enter Tryz.func200,Tryz.ntmps200
   go_wp2
   go_ret
   exact⟨zav (by simp[crd,h1]),rfl⟩
 . go_enter Tryz.func200,Tryz.ntmps200
   go_wp2
   go_ret
   exact⟨zav (by simp[crd];omega),rfl⟩
