import Derived.Test.YtkmcodofnckdmaaGreatZS29
import Derived.WalkSpells
set_option maxHeartbeats 4000000
set_option maxRecDepth 100000
set_option linter.unusedSimpArgs false
set_option linter.unusedVariables false
namespace Go.Proofs.YtkmcodofnckdmaaGreat
open Go.RowKit Go.Maps
def Lq(q:Rat)(m:Nat):Prop:=∀w v k,Fr w v k q->Fr w v m q
theorem Fr.lq{w:World}{v:Value}{m:Nat}{q:Rat}(h:Fr w v m q):Lq q m:=by
 intro w' v' k h'
 obtain⟨n,xs,ys,⟨a,c,a',c',e,r1,r2⟩,hf,l1,l2,hq⟩:=h;obtain⟨n',xs',ys',⟨b,d,b',d',e',r1',r2'⟩,hf',l1',l2',hq'⟩:=h'
 obtain⟨rfl,rfl,rfl⟩:=hf.uniq hf' r1.lim r2.lim r1'.lim r2'.lim (hq.trans hq'.symm)
 exact⟨n,xs,ys,⟨b,d,b',d',e',r1',r2'⟩,hf,l1,l2,hq⟩
def Lqs(X:List Rat)(k a b:Nat):Prop:=∀j,j<X.length->Lq (X.getD j 0) (if j<k then b else a)
theorem Lqs.at{X:List Rat}{k a b:Nat}(h:Lqs X k a b)(hk:k<X.length):Lq (X.getD k 0) a:=by
 have:=h k hk
 rw[if_neg (Nat.lt_irrefl k)]at this
 exact this
theorem Lqs.set{X:List Rat}{k a b:Nat}(h:Lqs X k a b)(hk:k<X.length){q:Rat}(hq:Lq q b):Lqs (X.set k q) (k+1) a b:=by
 intro j hj
 rw[List.length_set]at hj
 by_cases e:j=k
 . subst e
   rw[if_pos (Nat.lt_succ_self j)]
   have:(X.set j q).getD j 0=q:=by simp[List.getD,hj]
   rw[this]
   exact hq
 . have e1:(X.set k q).getD j 0=X.getD j 0:=by simp[List.getD,List.getElem?_set_ne (fun x=>e x.symm)]
   rw[e1]
   have:=h j hj
   by_cases h1:j<k
   . rw[if_pos h1]at this;rw[if_pos (by omega)];exact this
   . rw[if_neg h1]at this;rw[if_neg (by omega)];exact this
theorem Lqs.end{X:List Rat}{k a b:Nat}(h:Lqs X k a b)(hk:X.length<=k)(c:Nat):Lqs X 0 b c:=by
 intro j hj
 have:=h j hj
 rw[if_pos (by omega)]at this
 rw[if_neg (Nat.not_lt_zero j)]
 exact this
def mx(A B:List Rat)(k:Nat):List Rat:=A.take k++B.drop k
theorem zqd(A B:List Rat):mx A B 0=B:=by simp[mx]
theorem zqf{A B:List Rat}{k:Nat}(h:A.length=B.length)(hk:k<=A.length):(mx A B k).length=B.length:=by simp[mx];omega
theorem zms{A B:List Rat}(h:A.length=B.length):mx A B B.length=A:=by
 unfold mx
 rw[List.drop_length,List.append_nil,<-h,List.take_length]
theorem mx_at{A B:List Rat}{k:Nat}(h:A.length=B.length)(hk:k<B.length):(mx A B k).getD k 0=B.getD k 0:=by
 unfold mx
 simp only[List.getD]
 rw[List.getElem?_append_right (by rw[List.length_take];omega),List.getElem?_drop,List.length_take]
 rw[show k+(k-min k A.length)=k by omega]
theorem zqe{A B:List Rat}{k:Nat}(h:A.length=B.length)(hk:k<B.length):(mx A B k).set k (A.getD k 0)=mx A B (k+1):=by
 unfold mx
 rw[List.set_append_right _ _ (by rw[List.length_take];omega),List.length_take,show k-min k A.length=0 by omega,List.drop_eq_getElem_cons hk,List.set_cons_zero,List.take_add_one,List.getElem?_eq_getElem (show k<A.length by omega)]
 simp only[List.getD,List.getElem?_eq_getElem (show k<A.length by omega),Option.getD_some,Option.toList_some,List.append_assoc,List.singleton_append]
abbrev s3 (w:World) (g i:Nat) (x y z:Value):World:=((w.setCell ⟨g,i*3,none⟩ x).setCell ⟨g,i*3+1,none⟩ y).setCell ⟨g,i*3+2,none⟩ z
theorem Kn.set3{B:Nat->Prop}{w:World}{g:Nat}(h:B g/\NoI w g)(i:Nat)(x y z:Value):Kn B w (s3 w g i x y z) :=
 Keep.setCell (Keep.setCell (Keep.setCell (Keep.refl _ _) (p:=⟨g,i*3,none⟩) (fun hc=>hc.2 h) x) (p:=⟨g,i*3+1,none⟩) (fun hc=>hc.2 h) y) (p:=⟨g,i*3+2,none⟩) (fun hc=>hc.2 h) z
theorem Ro.put{T:TypeId}{base:Nat}{w:World}{v:Value}{k:Nat}{qs:List Rat}(h:Ro T base w v k qs){g:Nat}(hv:v.ownBlock=some g)(i:Nat)(hi:i<qs.length){x y z:Value}{q:Rat}(hF:Fr w (.agg #[x,y,z]) k q):Ro T base (s3 w g i x y z) v k (qs.set i q):=by
 have hK:Kn (fun b=>b=g) w (s3 w g i x y z):=Kn.set3 (B:=fun b=>b=g) ⟨rfl,h.noi g hv⟩ i x y z
 have hno:=hF.noI
 obtain⟨vs,h3,hnI,h4⟩:=h
 rcases h3.2 with ⟨rfl,e1⟩|⟨g',cap,cur,rfl,hb,hg,hc1,hc2,hc3,ht⟩
 . omega
 . obtain rfl:g'=g:=by simpa [Value.ownBlock] using hv
   have s1:=heap_setCell_same w g' (i*3) cur T x hg
   have s2:=heap_setCell_same _ g' (i*3+1) _ T y s1
   have s3:=heap_setCell_same _ g' (i*3+2) _ T z s2
   have hl:=h3.1
   refine⟨((vs.set (i*3) x).set (i*3+1) y).set (i*3+2) z,⟨by simp only[List.length_set];exact hl,.inr ⟨g',cap,_,by rw[List.length_set],hb,s3,by simpa using hc1,hc2,by simpa using hc3,?_⟩⟩,fun g2 e2=>?_,fun j hj=>?_⟩
   . rw[List.length_set,<-ht]
     simp[List.take_set]
   . obtain rfl:g'=g2:=by simpa [Value.ownBlock] using e2
     refine NoI.of s3 (fun c hc=>?_)
     have zkm:=(hnI g' hv).mem hg
     simp only[Array.toList_setIfInBounds]at hc
     rcases List.mem_or_eq_of_mem_set hc with hc|hc
     . rcases List.mem_or_eq_of_mem_set hc with hc|hc
       . rcases List.mem_or_eq_of_mem_set hc with hc|hc
         . exact zkm c hc
         . exact(hno c (by simp[hc])).1
       . exact(hno c (by simp[hc])).1
     . exact(hno c (by simp[hc])).1
   . rw[List.length_set]at hj
     by_cases e:j=i
     . subst e
       have e4:(qs.set j q).getD j 0=q:=by simp[List.getD,hj]
       rw[e4]
       refine⟨x,y,z,?_,?_,?_,hF.kn hK⟩
       . rw[List.getElem?_set_ne (by omega),List.getElem?_set_ne (by omega),List.getElem?_set_self (by omega)]
       . rw[List.getElem?_set_ne (by omega),List.getElem?_set_self (by rw[List.length_set];omega)]
       . rw[List.getElem?_set_self (by rw[List.length_set,List.length_set];omega)]
     . have e4:(qs.set i q).getD j 0=qs.getD j 0:=by simp[List.getD,List.getElem?_set_ne (fun x=>e x.symm)]
       rw[e4]
       obtain⟨x',y',z',k0,k1,k2,k3⟩:=h4 j hj
       refine⟨x',y',z',?_,?_,?_,k3.kn hK⟩
       . rw[List.getElem?_set_ne (by omega),List.getElem?_set_ne (by omega),List.getElem?_set_ne (by omega)];exact k0
       . rw[List.getElem?_set_ne (by omega),List.getElem?_set_ne (by omega),List.getElem?_set_ne (by omega)];exact k1
       . rw[List.getElem?_set_ne (by omega),List.getElem?_set_ne (by omega),List.getElem?_set_ne (by omega)];exact k2
theorem Ro.has{T:TypeId}{base:Nat}{w:World}{v:Value}{k:Nat}{qs:List Rat}(h:Ro T base w v k qs)(hne:qs≠[]):∃g cap,v=.slice (some ⟨g,0,none⟩) qs.length cap/\base<=g/\g<w.heap.size/\(∀n,w.frozen? ⟨g,n,none⟩=false) /\
    ∀i,i<qs.length->∃x y z,w.cell? ⟨g,i*3,none⟩=some x/\w.cell? ⟨g,i*3+1,none⟩=some y/\w.cell? ⟨g,i*3+2,none⟩=some z/\Fr w (.agg #[x,y,z]) k (qs.getD i 0):=by
 obtain⟨a0,c0,e0,hz⟩:=h.slice;obtain⟨vs,h3,hnI,h4⟩:=h
 rcases h3.2 with ⟨rfl,e1⟩|⟨g,cap,cur,rfl,hb,hg,hc1,hc2,hc3,ht⟩
 . exact absurd (List.length_eq_zero_iff.1 e1) hne
 . refine⟨g,cap,rfl,hb,(Array.getElem?_eq_some_iff.1 hg).1,fun n=>frozen_of_row w g n _ _ hg,fun i hi=>?_⟩
   obtain⟨b,off,x,y,z,ea,hb2,d0,d1,d2,hF⟩:=hz.2.2 i hi
   injection e0 with e0;rw[<-e0]at ea
   cases ea
   rw[Nat.zero_add]at d0 d1 d2
   exact⟨x,y,z,d0,d1,d2,hF⟩
theorem Ro.le{T:TypeId}{base:Nat}{w:World}{v:Value}{k m:Nat}{qs:List Rat}(h:Ro T base w v k qs)(hk:k<=m):Ro T base w v m qs:=by
 obtain⟨vs,h3,hnI,h4⟩:=h
 refine⟨vs,h3,hnI,fun i hi=>?_⟩
 obtain⟨x,y,z,k0,k1,k2,k3⟩:=h4 i hi
 exact⟨x,y,z,k0,k1,k2,k3.le hk⟩
theorem Ro.lower{T:TypeId}{base base':Nat}{w:World}{v:Value}{k:Nat}{qs:List Rat}(h:Ro T base w v k qs)(hb:base'<=base):Ro T base' w v k qs:=by
 obtain⟨vs,h3,hnI,h4⟩:=h
 refine⟨vs,⟨h3.1,?_⟩,hnI,h4⟩
 rcases h3.2 with h0|⟨g,cap',cur,k1,k2,k3,k4⟩
 . exact .inl h0
 . exact .inr ⟨g,cap',cur,k1,Nat.le_trans hb k2,k3,k4⟩
theorem Ro.lqs{T:TypeId}{base:Nat}{w:World}{v:Value}{k:Nat}{qs:List Rat}(h:Ro T base w v k qs)(b:Nat):Lqs qs 0 k b:=by
 obtain⟨vs,h3,hnI,h4⟩:=h
 intro j hj
 rw[if_neg (Nat.not_lt_zero j)]
 obtain⟨x,y,z,k0,k1,k2,k3⟩:=h4 j hj
 exact k3.lq
def R3(T:TypeId)(base:Nat)(w:World)(vx vy:Value)(K:Nat)(qx qy:List Rat):Prop:=Ro T base w vx K qx/\Ro T base w vy K qy/\∀g,vx.ownBlock=some g->vy.ownBlock≠some g
theorem R3.nil(T:TypeId)(base:Nat)(w:World)(K:Nat):R3 T base w (.slice none 0 0) (.slice none 0 0) K [] []:=⟨Ro.nil _ _ _ _,Ro.nil _ _ _ _,fun g e=>by cases e⟩
theorem R3.below{T:TypeId}{base:Nat}{w w':World}{vx vy:Value}{K:Nat}{qx qy:List Rat}(h:R3 T base w vx vy K qx qy)(hb:Below w.heap.size w w'):R3 T base w' vx vy K qx qy:=⟨h.1.below hb,h.2.1.below hb,h.2.2⟩
theorem R3.le{T:TypeId}{base:Nat}{w:World}{vx vy:Value}{K M:Nat}{qx qy:List Rat}(h:R3 T base w vx vy K qx qy)(hk:K<=M):R3 T base w vx vy M qx qy:=⟨h.1.le hk,h.2.1.le hk,h.2.2⟩
theorem R3.lower{T:TypeId}{base base':Nat}{w:World}{vx vy:Value}{K:Nat}{qx qy:List Rat}(h:R3 T base w vx vy K qx qy)(hb:base'<=base):R3 T base' w vx vy K qx qy:=⟨h.1.lower hb,h.2.1.lower hb,h.2.2⟩
theorem R3.growX{T:TypeId}{base:Nat}{w w':World}{vx vy v':Value}{K:Nat}{qx qy q':List Rat}(h:R3 T base w vx vy K qx qy)(h1:Ro T base w' v' K q')(hg:w.grownBy w' vx.ownBlock)(ho:v'.ownBlock=vx.ownBlock\/v'.ownBlock=some w.heap.size):R3 T base w' v' vy K q' qy :=
 ⟨h1,h.2.1.beside hg h.1.noI (fun g e e2=>h.2.2 g e2 e),fun g e e2=>by
  rcases ho with ho|ho
  . rw[ho]at e;exact h.2.2 g e e2
  . rw[ho]at e
    injection e with e
    have:=(h.2.1.lo e2).2
    omega⟩
theorem R3.growY{T:TypeId}{base:Nat}{w w':World}{vx vy v':Value}{K:Nat}{qx qy q':List Rat}(h:R3 T base w vx vy K qx qy)(h1:Ro T base w' v' K q')(hg:w.grownBy w' vy.ownBlock)(ho:v'.ownBlock=vy.ownBlock\/v'.ownBlock=some w.heap.size):R3 T base w' vx v' K qx q' :=
 ⟨h.1.beside hg h.2.1.noI (fun g e=>h.2.2 g e),h1,fun g e e2=>by
  rcases ho with ho|ho
  . rw[ho]at e2;exact h.2.2 g e e2
  . rw[ho]at e2
    injection e2 with e2
    have:=(h.1.lo e).2
    omega⟩
theorem R3.putX{T:TypeId}{base:Nat}{w:World}{vx vy:Value}{K:Nat}{qx qy:List Rat}(h:R3 T base w vx vy K qx qy){g:Nat}(hv:vx.ownBlock=some g)(i:Nat)(hi:i<qx.length){x y z:Value}{q:Rat}(hF:Fr w (.agg #[x,y,z]) K q):R3 T base (s3 w g i x y z) vx vy K (qx.set i q) qy/\Kn (fun b=>b=g) w (s3 w g i x y z) :=
 ⟨⟨h.1.put hv i hi hF,h.2.1.kn (Kn.set3 (B:=fun b=>b=g) ⟨rfl,h.1.noi g hv⟩ i x y z) (fun b e e2=>h.2.2 g hv (e.trans (congrArg some e2))),h.2.2⟩,Kn.set3 (B:=fun b=>b=g) ⟨rfl,h.1.noi g hv⟩ i x y z⟩
theorem R3.putY{T:TypeId}{base:Nat}{w:World}{vx vy:Value}{K:Nat}{qx qy:List Rat}(h:R3 T base w vx vy K qx qy){g:Nat}(hv:vy.ownBlock=some g)(i:Nat)(hi:i<qy.length){x y z:Value}{q:Rat}(hF:Fr w (.agg #[x,y,z]) K q):R3 T base (s3 w g i x y z) vx vy K qx (qy.set i q)/\Kn (fun b=>b=g) w (s3 w g i x y z) :=
 ⟨⟨h.1.kn (Kn.set3 (B:=fun b=>b=g) ⟨rfl,h.2.1.noi g hv⟩ i x y z) (fun b e e2=>h.2.2 b e (hv.trans (congrArg some e2.symm))),h.2.1.put hv i hi hF,h.2.2⟩,Kn.set3 (B:=fun b=>b=g) ⟨rfl,h.2.1.noi g hv⟩ i x y z⟩
def C3(w:World)(g o:Nat)(x y z:Value):Prop:=g<w.heap.size/\w.cell? ⟨g,o,none⟩=some x/\w.cell? ⟨g,o+1,none⟩=some y/\w.cell? ⟨g,o+2,none⟩=some z
theorem C3.kn{B:Nat->Prop}{w w':World}{g o:Nat}{x y z:Value}(h:C3 w g o x y z)(hk:Kn B w w')(hB:¬B g):C3 w' g o x y z:=by
 have hbl:=hk.block h.1 hB
 exact⟨Nat.lt_of_lt_of_le h.1 hk.size,(World.cell?_of_block (w:=w) (a:=⟨g,o,none⟩) hbl).trans h.2.1,(World.cell?_of_block (w:=w) (a:=⟨g,o+1,none⟩) hbl).trans h.2.2.1,(World.cell?_of_block (w:=w) (a:=⟨g,o+2,none⟩) hbl).trans h.2.2.2⟩
theorem C3.below{w w':World}{g o:Nat}{x y z:Value}(h:C3 w g o x y z)(hb:Below w.heap.size w w'):C3 w' g o x y z:=h.kn (Kn.of (B:=fun _=>False) hb) (fun h=>h)
def B2(vx vy:Value)(b:Nat):Prop:=vx.ownBlock=some b\/vy.ownBlock=some b
theorem Kn.more{B:Nat->Prop}{a b c:World}(h:Kn B a b)(hb:Below b.heap.size b c):Kn B a c:=h.trans (Kn.of (B:=fun _=>False) hb) (fun _ h _=>h.elim)
theorem R3.lo{T:TypeId}{base:Nat}{w:World}{vx vy:Value}{K:Nat}{qx qy:List Rat}(h:R3 T base w vx vy K qx qy){b:Nat}(hb:B2 vx vy b):base<=b/\b<w.heap.size:=hb.elim (fun e=>h.1.lo e) (fun e=>h.2.1.lo e)
theorem tu_al{t:Tu}{n:Nat}{ax:Int}(h:tuB t n ax=true)(ha:t.al=true):t.dx.length=n:=by
 have h2:=(ze0.1 h).2.1
 unfold nmB at h2
 rw[if_pos ha,decide_eq_true_iff]at h2
 exact h2.2.1
theorem zne{f:Pn->Int}{g:Pa->Int}{tl:Tu->List Int}{o:Ol}{l:List Tu}{cs:List Int}{i k:Nat}(hi:i<l.length)(hk:k<cntO o):(exL f g tl o (l.take (i+1)) cs).getD k 0=(exL f g tl o (l.take i) cs).getD k 0+alQ (l.getD i Tu.none).rg cs*(spQ f o (nmd (l.getD i Tu.none)) (tl (l.getD i Tu.none))).getD k 0:=by
 have e:l.take (i+1)=l.take i++[l.getD i Tu.none]:=by rw[List.take_add_one,List.getElem?_eq_getElem hi];simp[List.getD,hi]
 rw[ziu hk,ziu hk,e,zit,Rat.mul_comm]
theorem znd(f:Pn->Int)(g:Pa->Int)(tl:Tu->List Int)(o:Ol)(cs:List Int):exL f g tl o [] cs=(baQ f g o).map (fun z:Int=>(z:Rat)):=by
 refine List.ext_getElem (by rw[zb1,List.length_map,zi1]) (fun i h1 h2=>?_)
 have hi:i<cntO o:=by rw[zb1]at h1;exact h1
 have e2:=ziu (f:=f) (g:=g) (tl:=tl) (l:=[]) (cs:=cs) hi
 have hi':i<(baQ f g o).length:=by rw[zi1];exact hi
 have e1:(exL f g tl o [] cs).getD i 0=(exL f g tl o [] cs)[i]:=by simp[List.getD,h1]
 have e3:(baQ f g o).getD i 0=(baQ f g o)[i]:=by simp[List.getD,hi']
 rw[<-e1,e2,zrg,e3,List.getElem_map]
theorem zcx{α:Type}{L:List α}{d:α}{k:Nat}(hk:k<L.length)(f:α->Int):(L.take (k+1)).map f=(L.take k).map f++[f (L.getD k d)]:=by
 rw[List.take_add_one,List.getElem?_eq_getElem hk,List.map_append]
 simp[List.getD,hk]
def rz(zs:List Int):List Rat:=zs.map (fun z:Int=>(z:Rat))
theorem zh2(zs:List Int)(z:Int):rz (zs++[z])=rz zs++[(z:Rat)]:=by unfold rz;rw[List.map_append];rfl
theorem zmg(zs:List Int):(rz zs).length=zs.length:=by unfold rz;rw[List.length_map]
theorem zn2(S:Nat->Prop)(ra:Option Addr)(rc:Nat)(pa:Option Addr)(pc:Nat)(xa:Option Addr)(xc:Nat)(ya:Option Addr)(yc:Nat)(t:Tu)(w:World)(h:TuC S w ra rc pa pc xa xc ya yc t)(n:Nat)(hn:n<=100000)(hal:t.al=true->t.dx.length=n) :
 Calls Tryz.prog 124 #[.agg #[.slice ra t.rg.length rc,.bool t.al,.slice pa t.pts.length pc,.slice xa t.dx.length xc,.slice ya t.dy.length yc],.int .i64 (n:Int)] w fun e w'=>∃a c,e=.returned (.slice a (nmd t).length c)/\Ri w' a c (nmd t)/\Below w.heap.size w w':=by
 obtain⟨W,hW,X1,hbW⟩:∃W,W=w.alloc (.cells #[.slice ra t.rg.length rc,.bool t.al,.slice pa t.pts.length pc,.slice xa t.dx.length xc,.slice ya t.dy.length yc] 144)/\Bk 144 W w.heap.size [.slice ra t.rg.length rc,.bool t.al,.slice pa t.pts.length pc,.slice xa t.dx.length xc,.slice ya t.dy.length yc]/\Below w.heap.size w W:=⟨_,rfl,Bk.new _ _ _,bl1 _⟩
 have hP:=(h.below hbW).pts
 cases ha:t.al with
 | false =>
  have HE:Hid (nmd t=t.pts):=by show _=_;unfold nmd;rw[if_neg (by rw[ha];decide)]
  rw[ha]at hW X1;obtain⟨p0,p1,p2,p3,p4,_⟩:=X1.five;rw[HE.out];clear ha X1 h
  generalize t.pts=pts at *
  go_enter Tryz.func124,Tryz.ntmps124
  go_upto_region 1 with fail
  rw[<-hW];clear hW;go_wp2
  go_ret
  exact⟨pa,pc,rfl,hP,hbW⟩
 | true =>
  have HE:Hid (nmd t=allI n):=by show _=_;unfold nmd;rw[if_pos ha,hal ha]
  clear hal;rw[ha]at hW X1;obtain⟨p0,p1,p2,p3,p4,_⟩:=X1.five;rw[HE.out];clear ha h hP
  have hI0:Gi W.heap.size W (.slice none 0 0) (allI 0):=Gi.nil _ _
  have hB0:Below W.heap.size W W:=Below.refl _ _
  clear X1
  go_enter Tryz.func124,Tryz.ntmps124
  go_upto_region 1 with fail
  rw[<-hW];clear hW;go_wp2
  go_loopw [5,6] (fun v i wr=>∃k:Nat,k<=n/\i=.int .i64 k/\Gi W.heap.size wr v (allI k)/\Below W.heap.size W wr) (fun _ i _=>n-(intOf i).toNat)
  case atStart=>exact⟨0,Nat.zero_le _,rfl,hI0,hB0⟩
  case round =>
   clear hI0 hB0 p0 p1 p2 p3 p4;obtain⟨k,hk,rfl,hT,hB⟩:=hrel
   have hlen:=zf6 k
   have HLN:Hid ((allI k).length=k):=hlen
   have HT2:Hid (Gi W.heap.size wr u5 (allI k)):=hT
   clear hT
   by_cases hkn:k<n
   . have i1:(0:Int)<=(k:Int):=by omega
     have i2:(k:Int)<(n:Int):=by omega
     have HS:Hid (allI (k+1)=allI k++[(k:Int)]):=zkk k
     obtain⟨V,hV,c1,hbV,hlV⟩:∃V,V=wr.alloc (.cells #[.int .i64 (k:Int)] 3)/\V.cell? ⟨wr.heap.size,0,none⟩=some (.int .i64 (k:Int))/\Below wr.heap.size wr V/\wr.heap.size<V.heap.size:=⟨_,rfl,cell_of_row _ _ 0 _ _ (0,0) (heap_alloc_new _ _),bl1 _,by simp⟩
     have hown:=HT2.out.below hbV
     have hll:(allI k).length+1<=1000000:=by omega
     have hbs:W.heap.size<=V.heap.size:=Nat.le_trans hB.size hbV.size
     have hBV:Below W.heap.size W V:=hB.trans (hbV.mono hB.size)
     have hki:I64 (k:Int):=by unfold I64;omega
     generalize allI k=L at *
     clear hlen
     go_wp2_with (at_builtin;rw[<-hV];refine zao rfl _ _ rfl W.heap.size u5 L rfl hown wr.heap.size (k:Int) rfl hlV c1 hki hll hbs ?_)
     intro v9 w9 hT9 hgrow _
     rw[<-hV]at hgrow
     have hB9:Below W.heap.size W w9:=hBV.grown hgrow hbs (fun g hg=>(hown.lo hg).1)
     rw[<-HS.out]at hT9;clear hgrow hbs hll HS hown hV c1 hlV;go_wp2
     go_roundw
     case rel=>exact⟨k+1,by omega,by go_num,hT9,hB9⟩
     case measure=>simp[intOf];omega
   . obtain rfl:k=n:=by omega
     have g4:¬(k:Int)<(k:Int):=by omega
     obtain⟨aa,cc,rfl,hra,-⟩:=HT2.out.slice
     have HRA:Hid (Ri wr aa cc (allI k)):=hra
     have zay:=hbW.trans (hB.mono hbW.size)
     clear hra HT2;go_wp2
     go_ret
     exact⟨aa,cc,rfl,HRA.out,zay⟩
theorem zkz(S:Nat->Prop)(a:Option Addr)(ca:Nat)(b:Option Addr)(cb:Nat)(o:Ol)(w:World)(hc:Gr PnE.row S w a ca o.cs)(hp:Gr PaE S w b cb o.ps)(hl:o.cs.flatten.length<=400)(hl2:o.ps.length<=400) :
 Calls Tryz.prog 121 #[.agg #[.slice a o.cs.length ca,.slice b o.ps.length cb]] w fun e w'=>∃vx vy,e=.returned (.tuple #[vx,vy])/\R3 130 w.heap.size w' vx vy 2 (rz (baQ Pn.x Pa.dx o)) (rz (baQ Pn.y Pa.dy o))/\Below w.heap.size w w':=by
 obtain⟨W,hW,X1,hbW⟩:∃W,W=w.alloc (.cells #[.slice a o.cs.length ca,.slice b o.ps.length cb] 57)/\Bk 57 W w.heap.size [.slice a o.cs.length ca,.slice b o.ps.length cb]/\Below w.heap.size w W:=⟨_,rfl,Bk.new _ _ _,bl1 _⟩
 obtain⟨p0,p1,_⟩:=X1.two
 have hpt:=zca S a ca (.slice b o.ps.length cb) o.cs W (hc.below hbW) (by omega) rfl
 have HPS:Hid (Gr PaE S W b cb o.ps):=hp.below hbW
 have HBX:Hid (baQ Pn.x Pa.dx o=o.cs.flatten.map Pn.x++o.ps.map Pa.dx):=rfl
 have HBY:Hid (baQ Pn.y Pa.dy o=o.cs.flatten.map Pn.y++o.ps.map Pa.dy):=rfl
 generalize baQ Pn.x Pa.dx o=bX at *
 generalize baQ Pn.y Pa.dy o=bY at *
 clear hc hp
 generalize o.cs.length=nc at *
 generalize o.cs.flatten=L at *
 generalize o.ps=ps at *
 go_enter Tryz.func121,Tryz.ntmps121
 go_upto_region 1 with fail
 rw[<-hW];clear hW
 go_wp2_with fail
 refine hpt.mono ?_
 rintro e m1 ⟨qa,qc,rfl,hgr,-,hb1⟩
 have HQ:Hid (Gr PnE (fun _=>True) m1 qa qc L):=hgr
 have HPS1:Hid (Gr PaE S m1 b cb ps):=HPS.out.below hb1
 have HX1:Hid (Bk 57 m1 w.heap.size [.slice a nc ca,.slice b ps.length cb]):=X1.below hb1
 have HBW:Hid (Below w.heap.size w m1):=hbW.trans (hb1.mono hbW.size)
 clear hpt hgr hb1 X1 p0 p1 HPS hbW
 have kq:=HQ.out.lenB
 have kp:=HPS1.out.lenB
 go_wp2
 go_loopw [4,5,7] (fun vx vy i wr=>∃k:Nat,k<=L.length/\i=.int .i64 k/\R3 130 m1.heap.size wr vx vy 2 (rz ((L.take k).map Pn.x)) (rz ((L.take k).map Pn.y))/\Below m1.heap.size m1 wr) (fun _ _ i _=>L.length-(intOf i).toNat)
 case atStart=>exact⟨0,Nat.zero_le _,rfl,R3.nil _ _ _ _,Below.refl _ _⟩
 case round =>
  obtain⟨k,hk,rfl,r2,hB⟩:=hrel
  by_cases hkn:k<L.length
  . obtain⟨b0,off,x,y,on,ea,hb,hpn,hxi,hyi,D0,D1,D2⟩:=HQ.out.pnt (Below.refl _ _) k hkn
    subst ea
    have HSX:Hid (rz ((L.take (k+1)).map Pn.x)=rz ((L.take k).map Pn.x)++[(x:Rat)]):=by show _=_;rw[zcx (d:=Pn.none) hkn,hpn,zh2]
    have HSY:Hid (rz ((L.take (k+1)).map Pn.y)=rz ((L.take k).map Pn.y)++[(y:Rat)]):=by show _=_;rw[zcx (d:=Pn.none) hkn,hpn,zh2]
    have i2:(k:Int)<(L.length:Int):=by omega
    clear hpn
    have hlx:(rz ((L.take k).map Pn.x)).length<=1000:=by rw[zmg];simp;omega
    have hly:(rz ((L.take k).map Pn.y)).length<=1000:=by rw[zmg];simp;omega
    have hxb:-9223372036854775808<=x/\x<=9223372036854775807:=hxi
    have hyb:-9223372036854775808<=y/\y<=9223372036854775807:=hyi
    have i1:(0:Int)<=(k:Int):=by omega
    generalize (rz ((L.take k).map Pn.x))=QX at *
    generalize (rz ((L.take k).map Pn.y))=QY at *
    clear hxi hyi
    have d0:=(hB.cell (p:=⟨b0,off+k*3,none⟩) hb).trans D0
    go_wp2_with fail
    refine(zam x _ (by omega) (by omega)).mono ?_
    rintro e U1 ⟨w1,rfl,hF1,hb1⟩;obtain⟨z1,x11,x12,x13,x14,x15,x16,rfl⟩:=hF1.cells3'
    obtain⟨V1,hV1,B1,hc1⟩:∃V,V=U1.alloc (.cells #[.bool z1,.slice x11 x12 x13,.slice x14 x15 x16] 130)/\Box 130 V U1.heap.size (.bool z1) (.slice x11 x12 x13) (.slice x14 x15 x16)/\Below U1.heap.size U1 V:=⟨_,rfl,Box.new _ _ _ _ _,bl1 _⟩
    obtain⟨r10,r11,r12,_⟩:=B1.cells
    have zj2:=Rz.one B1.lt r10 r11 r12 (hF1.below hc1)
    replace r2:=(r2.below hb1).below hc1
    replace hB:=(hB.trans (hb1.mono hB.size)).trans (hc1.mono (Nat.le_trans hB.size hb1.size))
    have zj4:QX.length+[(x:Rat)].length<=1000000:=by simp;omega
    have zgn:=hB.size
    clear hF1 hb1 hc1 B1 r10 r11 r12
    go_wp2_with (at_builtin;rw[<-hV1];refine zag 134 130 Tryz.underlying134 zbq rfl _ _ rfl m1.heap.size u4 2 QX _ rfl r2.1 _ 1 1 rfl rfl zj2 (fun e=>by cases e) (fun ad e=>by cases e;exact⟨_,_,rfl⟩) zj4 zgn ?_)
    intro v1 y1 hT1 hg1 ho1
    rw[<-hV1]at hg1
    rw[show U1.heap.size+1=V1.heap.size by rw[hV1];simp]at ho1
    replace hB:Below m1.heap.size m1 y1:=hB.grown hg1 zgn (fun g hg=>(r2.1.lo hg).1)
    replace r2:=r2.growX hT1 hg1 ho1
    clear hV1 zj2 hT1 hg1 ho1 zj4 zgn
    have d1:=(hB.cell (p:=⟨b0,off+k*3+1,none⟩) hb).trans D1
    go_wp2_with fail
    refine(zam y _ (by omega) (by omega)).mono ?_
    rintro e U2 ⟨w2,rfl,hF2,hb2⟩;obtain⟨z2,x21,x22,x23,x24,x25,x26,rfl⟩:=hF2.cells3'
    obtain⟨V2,hV2,B2,hc2⟩:∃V,V=U2.alloc (.cells #[.bool z2,.slice x21 x22 x23,.slice x24 x25 x26] 130)/\Box 130 V U2.heap.size (.bool z2) (.slice x21 x22 x23) (.slice x24 x25 x26)/\Below U2.heap.size U2 V:=⟨_,rfl,Box.new _ _ _ _ _,bl1 _⟩
    obtain⟨r20,r21,r22,_⟩:=B2.cells
    have zj1:=Rz.one B2.lt r20 r21 r22 (hF2.below hc2)
    replace r2:=(r2.below hb2).below hc2
    replace hB:=(hB.trans (hb2.mono hB.size)).trans (hc2.mono (Nat.le_trans hB.size hb2.size))
    have zhn:QY.length+[(y:Rat)].length<=1000000:=by simp;omega
    have zgm:=hB.size
    clear hF2 hb2 hc2 B2 r20 r21 r22
    go_wp2_with (at_builtin;rw[<-hV2];refine zag 134 130 Tryz.underlying134 zbq rfl _ _ rfl m1.heap.size u5 2 QY _ rfl r2.2.1 _ 1 1 rfl rfl zj1 (fun e=>by cases e) (fun ad e=>by cases e;exact⟨_,_,rfl⟩) zhn zgm ?_)
    intro v2 y2 hT2 hg2 ho2
    rw[<-hV2]at hg2
    rw[show U2.heap.size+1=V2.heap.size by rw[hV2];simp]at ho2
    replace hB:Below m1.heap.size m1 y2:=hB.grown hg2 zgm (fun g hg=>(r2.2.1.lo hg).1)
    replace r2:=r2.growY hT2 hg2 ho2
    clear hV2 zj1 hT2 hg2 ho2 zhn zgm
    have HR2:Hid (R3 130 m1.heap.size y2 v1 v2 2 (rz ((L.take (k+1)).map Pn.x)) (rz ((L.take (k+1)).map Pn.y))):=by
     rw[HSX.out,HSY.out]
     exact r2
    have HB2:Hid (Below m1.heap.size m1 y2):=hB
    clear r2 hB d0 d1 HSX HSY;go_wp2
    go_roundw
    case rel=>exact⟨k+1,by omega,by go_num,HR2.out,HB2.out⟩
    case measure=>simp[intOf];omega
  . obtain rfl:k=L.length:=by omega
    have g4:¬(L.length:Int)<(L.length:Int):=by omega
    have HI:Hid (R3 130 m1.heap.size wr u4 u5 2 (rz (L.map Pn.x++(ps.take 0).map Pa.dx)) (rz (L.map Pn.y++(ps.take 0).map Pa.dy))):=by
     show R3 _ _ _ _ _ _ _ _
     rw[List.take_zero,List.map_nil,List.map_nil,List.append_nil,List.append_nil];rw[List.take_length]at r2
     exact r2
    have HB0:Hid (Below m1.heap.size m1 wr):=hB
    clear r2 hB;go_wp2
    go_loopw [4,5,8] (fun vx vy i wr=>∃k:Nat,k<=ps.length/\i=.int .i64 k/\R3 130 m1.heap.size wr vx vy 2 (rz (L.map Pn.x++(ps.take k).map Pa.dx)) (rz (L.map Pn.y++(ps.take k).map Pa.dy))/\Below m1.heap.size m1 wr) (fun _ _ i _=>ps.length-(intOf i).toNat)
    case atStart=>exact⟨0,Nat.zero_le _,rfl,HI.out,HB0.out⟩
    case round =>
     clear HI HB0;obtain⟨k,hk,rfl,r2,hB⟩:=hrel
     obtain⟨p0,p1,_⟩:=(HX1.out.below hB).two
     by_cases hkn:k<ps.length
     . obtain⟨b0,off,ea,hb,hpw,D9,D0,D1⟩:=HPS1.out.pa (Below.refl _ _) k hkn
       subst ea
       have HSX:Hid ((rz (L.map Pn.x++(ps.take (k+1)).map Pa.dx))=(rz (L.map Pn.x++(ps.take k).map Pa.dx))++[(((ps.getD k Pa.none).dx:Int):Rat)]):=by show _=_;rw[zcx (d:=Pa.none) hkn,<-List.append_assoc,zh2]
       have HSY:Hid ((rz (L.map Pn.y++(ps.take (k+1)).map Pa.dy))=(rz (L.map Pn.y++(ps.take k).map Pa.dy))++[(((ps.getD k Pa.none).dy:Int):Rat)]):=by show _=_;rw[zcx (d:=Pa.none) hkn,<-List.append_assoc,zh2]
       obtain⟨pq,hpq⟩:∃q,ps.getD k Pa.none=q:=⟨_,rfl⟩
       rw[hpq]at hpw D0 D1 HSX HSY;obtain⟨gl,x,y⟩:=pq;obtain⟨hgi,hxi,hyi⟩:=hpw;dsimp only at hxi hyi D0 D1 HSX HSY
       have i2:(k:Int)<(ps.length:Int):=by omega
       clear hpq hgi D9
       have hlx:(rz (L.map Pn.x++(ps.take k).map Pa.dx)).length<=1000:=by rw[zmg];simp;omega
       have hly:(rz (L.map Pn.y++(ps.take k).map Pa.dy)).length<=1000:=by rw[zmg];simp;omega
       have hxb:-9223372036854775808<=x/\x<=9223372036854775807:=hxi
       have hyb:-9223372036854775808<=y/\y<=9223372036854775807:=hyi
       have i1:(0:Int)<=(k:Int):=by omega
       generalize (rz (L.map Pn.x++(ps.take k).map Pa.dx))=QX at *
       generalize (rz (L.map Pn.y++(ps.take k).map Pa.dy))=QY at *
       clear hxi hyi
       have d0:=(hB.cell (p:=⟨b0,off+k*3+1,none⟩) hb).trans D0
       go_wp2_with fail
       refine(zam x _ (by omega) (by omega)).mono ?_
       rintro e U1 ⟨w1,rfl,hF1,hb1⟩;obtain⟨z1,x11,x12,x13,x14,x15,x16,rfl⟩:=hF1.cells3'
       obtain⟨V1,hV1,B1,hc1⟩:∃V,V=U1.alloc (.cells #[.bool z1,.slice x11 x12 x13,.slice x14 x15 x16] 130)/\Box 130 V U1.heap.size (.bool z1) (.slice x11 x12 x13) (.slice x14 x15 x16)/\Below U1.heap.size U1 V:=⟨_,rfl,Box.new _ _ _ _ _,bl1 _⟩
       obtain⟨r10,r11,r12,_⟩:=B1.cells
       have zj2:=Rz.one B1.lt r10 r11 r12 (hF1.below hc1)
       replace r2:=(r2.below hb1).below hc1
       replace hB:=(hB.trans (hb1.mono hB.size)).trans (hc1.mono (Nat.le_trans hB.size hb1.size))
       have zj4:QX.length+[(x:Rat)].length<=1000000:=by simp;omega
       have zgn:=hB.size
       clear hF1 hb1 hc1 B1 r10 r11 r12
       go_wp2_with (at_builtin;rw[<-hV1];refine zag 134 130 Tryz.underlying134 zbq rfl _ _ rfl m1.heap.size u4 2 QX _ rfl r2.1 _ 1 1 rfl rfl zj2 (fun e=>by cases e) (fun ad e=>by cases e;exact⟨_,_,rfl⟩) zj4 zgn ?_)
       intro v1 y1 hT1 hg1 ho1
       rw[<-hV1]at hg1
       rw[show U1.heap.size+1=V1.heap.size by rw[hV1];simp]at ho1
       replace hB:Below m1.heap.size m1 y1:=hB.grown hg1 zgn (fun g hg=>(r2.1.lo hg).1)
       replace r2:=r2.growX hT1 hg1 ho1
       clear hV1 zj2 hT1 hg1 ho1 zj4 zgn
       have d1:=(hB.cell (p:=⟨b0,off+k*3+2,none⟩) hb).trans D1
       obtain⟨p0,p1,_⟩:=(HX1.out.below hB).two
       go_wp2_with fail
       refine(zam y _ (by omega) (by omega)).mono ?_
       rintro e U2 ⟨w2,rfl,hF2,hb2⟩;obtain⟨z2,x21,x22,x23,x24,x25,x26,rfl⟩:=hF2.cells3'
       obtain⟨V2,hV2,B2,hc2⟩:∃V,V=U2.alloc (.cells #[.bool z2,.slice x21 x22 x23,.slice x24 x25 x26] 130)/\Box 130 V U2.heap.size (.bool z2) (.slice x21 x22 x23) (.slice x24 x25 x26)/\Below U2.heap.size U2 V:=⟨_,rfl,Box.new _ _ _ _ _,bl1 _⟩
       obtain⟨r20,r21,r22,_⟩:=B2.cells
       have zj1:=Rz.one B2.lt r20 r21 r22 (hF2.below hc2)
       replace r2:=(r2.below hb2).below hc2
       replace hB:=(hB.trans (hb2.mono hB.size)).trans (hc2.mono (Nat.le_trans hB.size hb2.size))
       have zhn:QY.length+[(y:Rat)].length<=1000000:=by simp;omega
       have zgm:=hB.size
       clear hF2 hb2 hc2 B2 r20 r21 r22
       go_wp2_with (at_builtin;rw[<-hV2];refine zag 134 130 Tryz.underlying134 zbq rfl _ _ rfl m1.heap.size u5 2 QY _ rfl r2.2.1 _ 1 1 rfl rfl zj1 (fun e=>by cases e) (fun ad e=>by cases e;exact⟨_,_,rfl⟩) zhn zgm ?_)
       intro v2 y2 hT2 hg2 ho2
       rw[<-hV2]at hg2
       rw[show U2.heap.size+1=V2.heap.size by rw[hV2];simp]at ho2
       replace hB:Below m1.heap.size m1 y2:=hB.grown hg2 zgm (fun g hg=>(r2.2.1.lo hg).1)
       replace r2:=r2.growY hT2 hg2 ho2
       clear hV2 zj1 hT2 hg2 ho2 zhn zgm
       have HR2:Hid (R3 130 m1.heap.size y2 v1 v2 2 (rz (L.map Pn.x++(ps.take (k+1)).map Pa.dx)) (rz (L.map Pn.y++(ps.take (k+1)).map Pa.dy))):=by
        rw[HSX.out,HSY.out]
        exact r2
       have HB2:Hid (Below m1.heap.size m1 y2):=hB
       clear r2 hB d0 d1 HSX HSY;go_wp2
       go_roundw
       case rel=>exact⟨k+1,by omega,by go_num,HR2.out,HB2.out⟩
       case measure=>simp[intOf];omega
     . obtain rfl:k=ps.length:=by omega
       have g5:¬(ps.length:Int)<(ps.length:Int):=by omega
       have HFN:Hid (R3 130 w.heap.size wr u4 u5 2 (rz bX) (rz bY)):=by
        rw[List.take_length,<-HBX.out,<-HBY.out]at r2
        exact r2.lower HBW.out.size
       have HFB:Hid (Below w.heap.size w wr):=HBW.out.trans (hB.mono HBW.out.size)
       clear r2 hB;go_wp2
       exact bodyPost_ret (v:=.tuple #[u4,u5]) (by simp[results,Tryz.results121,go_sem]) rfl ⟨u4,u5,rfl,HFN.out,HFB.out⟩
