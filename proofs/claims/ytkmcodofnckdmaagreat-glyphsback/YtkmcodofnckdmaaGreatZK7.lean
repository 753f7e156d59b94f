import Derived.Test.YtkmcodofnckdmaaGreatZK6
set_option maxHeartbeats 8000000
set_option maxRecDepth 100000
set_option linter.unusedSimpArgs false
set_option linter.unusedVariables false
namespace Go.Proofs.YtkmcodofnckdmaaGreat
theorem zxy{f:Int->Option Nat}{ps:List Pa}{k:Nat}(hk:k<ps.length):dqs f (ps.take (k+1))=(dqs f (ps.take k)).bind fun e=>(f (ps.getD k Pa.none).g).bind fun d=>some (max e (d+1)):=by
 rw[<-zxz]
 congr 1
 rw[List.take_add_one,List.getElem?_eq_getElem hk]
 simp[List.getD,hk]
def szK(l:List Gl)(x:Gl)(k:Nat):Nat:=ptn x+sqs (sq l 6) (x.o.ps.take k)
theorem zvi(l:List Gl)(x:Gl):szK l x 0=ptn x:=by unfold szK;rw[List.take_zero];rfl
theorem zvj{l:List Gl}{x:Gl}{k:Nat}(hk:k<x.o.ps.length):szK l x (k+1)=szK l x k+sq l 6 (x.o.ps.getD k Pa.none).g:=by
 unfold szK
 have e:x.o.ps.take (k+1)=x.o.ps.take k++[x.o.ps.getD k Pa.none]:=by
  rw[List.take_add_one,List.getElem?_eq_getElem hk]
  simp[List.getD,hk]
 rw[e,zvp]
 omega
theorem z0e{l:List Gl}{g:Int}{d:Nat}{x:Gl}(hx:gAt l g=some x)(h:dq l 6 g=some d):szK l x x.o.ps.length=sq l 6 g:=by
 unfold szK
 rw[List.take_length,sq_at hx]
 congr 1
 refine zj6 (fun p hp=>?_)
 obtain⟨e,h1,h2⟩:=ze8 h hx p hp
 have:=dq_le h
 show sq l 6 p.g=sq l 5 p.g
 exact(zgl h1 (by omega)).trans (zgl h1 (by omega)).symm
theorem zra{l:List Gl}{g:Int}{d:Nat}(h:dq l 6 g=some d):szG l g=cap (sq l 6 g):=zm8 h
open Go.RowKit Go.Maps
def KnG(l:List Gl)(F:Int->Option Value):Prop:=∀j v,F j=some v->∃d:Nat,dq l 6 j=some d/\v=.agg #[.int .i64 (d:Int),.int .i64 ((szG l j:Nat):Int)]
theorem KnG.nil(l:List Gl):KnG l (fun _=>none):=fun j v e=>by cases e
theorem KnG.put{l:List Gl}{F:Int->Option Value}(h:KnG l F){g:Int}{d:Nat}(hd:dq l 6 g=some d):KnG l (Fup F g (.agg #[.int .i64 (d:Int),.int .i64 ((szG l g:Nat):Int)])):=by
 intro j v e
 unfold Fup at e
 by_cases hj:j=g
 . rw[if_pos hj]at e
   subst hj
   exact⟨d,hd,(Option.some.inj e).symm⟩
 . rw[if_neg hj]at e
   exact h j v e
def tk:Nat->Nat
 | 0=>0
 | d+1=>1+12*tk d
theorem tk_le:∀ {d:Nat},d<=7->tk d<=4000000:=by
 intro d hd
 have h7:tk 7<=4000000:=by decide
 have mono:∀a b,a<=b->tk a<=tk b:=by
  intro a b h
  induction b with
  | zero=>rw[show a=0 by omega];exact Nat.le_refl _
  | succ b ih =>
   by_cases e:a=b+1
   . rw[e];exact Nat.le_refl _
   . have:=ih (by omega)
     show tk a<=1+12*tk b
     omega
 exact Nat.le_trans (mono d 7 hd) h7
structure OfP(l:List Gl)(m:Nat)(g:Int)(lv d n:Nat)(w:World)(e:Ending)(w':World):Prop where
 ans:(∃k:Nat,dq l 6 g=some k/\e=.returned (.tuple #[.agg #[.int .i64 (k:Int),.int .i64 ((szG l g:Nat):Int)],.bool true]))\/((∀k,dq l 6 g=some k->6<k+lv)/\e=.returned (.tuple #[.agg #[.int .i64 0,.int .i64 0],.bool false]))
 mp:∃n' F',Mp w' m n' F'/\KnG l F'/\n'<=n+tk d
 kp:Kp m w w'
theorem Mp.set2{w:World}{b n:Nat}{F:Int->Option Value}(h:Mp w b n F){g:Nat}(x y:Value)(hg:b≠g):Mp ((w.setCell ⟨g,0,none⟩ x).setCell ⟨g,1,none⟩ y) b n F:=h.stay (zac x y hg)
theorem Kp.set2{m:Nat}{a w:World}(h:Kp m a w){g:Nat}(x y:Value)(hg:a.heap.size<=g):Kp m a ((w.setCell ⟨g,0,none⟩ x).setCell ⟨g,1,none⟩ y) :=
 Keep.trans h ⟨rfl,rfl,rfl,by simp[World.setCell],fun k hk=>zac x y (by have:=hk.1;omega)⟩
theorem zx0{l:List Gl}{ps:List Pa}{k e d:Nat}(hk:k<ps.length)(h:dqs (dq l 6) (ps.take k)=some e)(hd:dq l 6 (ps.getD k Pa.none).g=some d):dqs (dq l 6) (ps.take (k+1))=some (max e (d+1)):=by
 rw[zxy hk,h,Option.bind_some,hd]
 rfl
theorem zoq{l:List Gl}{g:Int}{x:Gl}{e:Nat}(hx:gAt l g=some x)(h:dqs (dq l 6) x.o.ps=some e):(e<=6->dq l 6 g=some e)/\(6<e->dq l 6 g=none):=by
 have h7:dq l 7 g=some e:=zbg.2 ⟨x,hx,h⟩
 have h6:=dq_at (m:=6) h7
 exact⟨fun he=>by rw[h6,if_pos he],fun he=>by rw[h6,if_neg (by omega)]⟩
theorem z4l{l:List Gl}{g:Int}{x:Gl}{lv:Nat}{p:Pa}(hx:gAt l g=some x)(hp:p∈x.o.ps)(h:∀k,dq l 6 p.g=some k->6<k+(lv+1)):∀k,dq l 6 g=some k->6<k+lv:=by
 intro k hk
 obtain⟨e,h1,h2⟩:=ze8 hk hx p hp
 have:=dq_le hk
 have:=h e (ze9 h1 (by omega))
 omega
theorem ztg(w0:World)(S:Nat->Prop)(a:OA)(ca:Nat)(l:List Gl)(hl:Gr GlE S w0 a ca l)(hps:∀x∈l,x.o.ps.length<=12)(sb m:Nat)(hm0:w0.heap.size<=m)(hsm:sb≠m) :
 ∀(d lv:Nat),lv+d=7->∀(g:Int) (n:Nat) (F:Int->Option Value) (w:World),I64 g->n+tk d<=500000000000->Below w0.heap.size w0 w->Bk 119 w sb [.slice a l.length ca,.map (some m)]->Mp w m n F->KnG l F ->
     Calls Tryz.prog 32 #[.pointer (some ⟨sb,0,none⟩),.int .i64 g,.int .i64 (lv:Int)] w fun e w'=>OfP l m g lv d n w e w':=by
 intro d
 induction d with
 | zero =>
  intro lv hlv g n F w hg hn hb hS hM hK
  obtain rfl:lv=7:=by omega
  obtain⟨W,hW,X0,hbW⟩:∃W,W=w.alloc (.cells #[.int .i64 0,.int .i64 0] 71)/\Bk 71 W w.heap.size [.int .i64 0,.int .i64 0]/\Below w.heap.size w W:=⟨_,rfl,Bk.new _ _ _,bl1 _⟩
  have hlt:=hM.lt
  have zau:OfP l m g 7 0 n w (.returned (.tuple #[.agg #[.int .i64 0,.int .i64 0],.bool false])) ((W.setCell ⟨w.heap.size,0,none⟩ (.int .i64 0)).setCell ⟨w.heap.size,1,none⟩ (.int .i64 0)) :=
   ⟨.inr ⟨fun k _=>by omega,rfl⟩,⟨n,F,(hM.below hbW).set2 _ _ (by omega),hK,Nat.le_refl _⟩,(Kp.of hbW).set2 _ _ (Nat.le_refl _)⟩
  have HF:Hid (_):=zau
  have A:=X0.set2U (.int .i64 0) (.int .i64 0)
  replace hS:=hS.below hbW;obtain⟨s0,s1,_⟩:=hS.two;obtain⟨z0,z1,f0,f1⟩:=X0.two
  have hig:=zly a l.length ca g W (by have:=hl.lenB;omega) hg
  clear zau hM hK hbW hS
  cases hi:isG l.length g with
  | false =>
   rw[hi]at hig
   go_enter Tryz.func32,Tryz.ntmps32
   go_upto_region 1 with fail
   rw[<-hW];clear hW hi
   go_wp2_with fail
   refine hig.mono ?_
   rintro e u ⟨rfl,rfl⟩;clear hig;go_wp2
   exact bodyPost_ret (v:=.tuple #[.agg #[.int .i64 0,.int .i64 0],.bool false]) (by obtain⟨r0,r1,_⟩:=A.two;simp[results,Tryz.results32,go_sem,r0,r1]) rfl HF.out
  | true =>
   rw[hi]at hig
   go_enter Tryz.func32,Tryz.ntmps32
   go_upto_region 1 with fail
   rw[<-hW];clear hW hi
   go_wp2_with fail
   refine hig.mono ?_
   rintro e u ⟨rfl,rfl⟩;clear hig;go_wp2
   exact bodyPost_ret (v:=.tuple #[.agg #[.int .i64 0,.int .i64 0],.bool false]) (by obtain⟨r0,r1,_⟩:=A.two;simp[results,Tryz.results32,go_sem,r0,r1]) rfl HF.out
 | succ d ih =>
  intro lv hlv g n F w hg hn hb hS hM hK
  obtain⟨T,hT0⟩:∃T,tk d=T:=⟨_,rfl⟩
  have HT:Hid (tk d=T):=hT0
  have HT1:Hid (tk (d+1)=1+12*T):=by show 1+12*tk d=_;rw[hT0]
  have hnT:n+(1+12*T)<=500000000000:=by rw[<-HT1.out];exact hn
  clear hn hT0
  have hlv7:lv<=6:=by omega
  have HLV:Hid (lv+1+d=7):=by show _=_;omega
  clear hlv
  obtain⟨W,hW,X0,hbW⟩:∃W,W=w.alloc (.cells #[.int .i64 0,.int .i64 0] 71)/\Bk 71 W w.heap.size [.int .i64 0,.int .i64 0]/\Below w.heap.size w W:=⟨_,rfl,Bk.new _ _ _,bl1 _⟩
  have hlt:=hM.lt
  have hbB:Below w0.heap.size w0 W:=hb.trans (hbW.mono hb.size)
  obtain⟨r0,hr0⟩:∃r,w.heap.size=r:=⟨_,rfl⟩
  have HR0:Hid (w.heap.size=r0):=hr0
  have HNO:Hid (∀(U:World) n' F',(∀k,dq l 6 g=some k->6<k+lv)->Bk 71 U r0 [.int .i64 0,.int .i64 0]->Mp U m n' F'->KnG l F'->n'<=n+tk (d+1)->Kp m w U->OfP l m g lv (d+1) n w (.returned (.tuple #[.agg #[.int .i64 0,.int .i64 0],.bool false])) ((U.setCell ⟨r0,0,none⟩ (.int .i64 0)).setCell ⟨r0,1,none⟩ (.int .i64 0))):=by
   intro U n' F' h1 h2 h3 h4 h5 h6
   exact⟨.inr ⟨h1,rfl⟩,⟨n',F',h3.set2 _ _ (by have:=HR0.out;omega),h4,h5⟩,h6.set2 _ _ (by have:=HR0.out;omega)⟩
  have zqm:Hid (∀(U:World) n' F' (k:Nat) (z0 z1:Value),dq l 6 g=some k->Bk 71 U r0 [z0,z1]->Mp U m n' F'->KnG l F'->n'<=n+tk (d+1)->Kp m w U->OfP l m g lv (d+1) n w (.returned (.tuple #[.agg #[.int .i64 (k:Int),.int .i64 ((szG l g:Nat):Int)],.bool true])) ((U.setCell ⟨r0,0,none⟩ (.int .i64 (k:Int))).setCell ⟨r0,1,none⟩ (.int .i64 ((szG l g:Nat):Int)))):=by
   intro U n' F' k z0 z1 h1 h2 h3 h4 h5 h6
   exact⟨.inl ⟨k,h1,rfl⟩,⟨n',F',h3.set2 _ _ (by have:=HR0.out;omega),h4,h5⟩,h6.set2 _ _ (by have:=HR0.out;omega)⟩
  have hmr:m<r0:=by omega
  replace hS:=hS.below hbW
  have hsr:sb≠r0:=fun e=>by
   have h1:=(hS.ne X0 (by decide))
   omega
  replace hM:=hM.below hbW;obtain⟨s0,s1,_⟩:=hS.two
  have hig:=zly a l.length ca g W (by have:=hl.lenB;omega) hg
  have hKp:Kp m w W:=Kp.of hbW
  rw[hr0]at X0
  cases hi:isG l.length g with
  | false =>
   have HF:Hid (_):=HNO.out W n F (fun k hk=>by
    obtain⟨x,h1,_⟩:=zbg.1 hk
    rw[zn4 hi]at h1
    cases h1) X0 hM hK (by rw[HT1.out];omega) hKp
   rw[hi]at hig
   have A:=X0.set2U (.int .i64 0) (.int .i64 0)
   obtain⟨z0,z1,f0,f1⟩:=X0.two
   have hlt0:=X0.lt
   clear HNO zqm hM hK hKp hS hbB hbW hi X0 ih
   go_enter Tryz.func32,Tryz.ntmps32
   go_upto_region 1 with fail
   rw[<-hW]
   try rw[hr0]
   clear hW hr0
   go_wp2_with fail
   refine hig.mono ?_
   rintro e u ⟨rfl,rfl⟩;clear hig;go_wp2
   exact bodyPost_ret (v:=.tuple #[.agg #[.int .i64 0,.int .i64 0],.bool false]) (by obtain⟨r0,r1,_⟩:=A.two;simp[results,Tryz.results32,go_sem,r0,r1]) rfl HF.out
  | true =>
  rw[hi]at hig
  have HGA:Hid (_):=zy4 hi
  obtain⟨hg0,hg1⟩:=zn3 hi
  obtain⟨kg,hkg⟩:∃k:Nat,g=(k:Int):=⟨g.toNat,by omega⟩
  subst hkg;rw[Int.toNat_natCast]at HGA
  have hkl:kg<l.length:=by omega
  have gl6:decide ((6:Int)<(lv:Int))=false:=decide_eq_false (by omega)
  have gl7:¬(6:Int)<(lv:Int):=by omega
  clear hi
  go_enter Tryz.func32,Tryz.ntmps32
  go_upto_region 1 with fail
  rw[<-hW]
  try rw[hr0]
  clear hW
  go_wp2_with fail
  refine hig.mono ?_
  rintro e u ⟨rfl,rfl⟩;clear hig
  cases hF:F (kg:Int) with
  | some v =>
   obtain⟨dd,hdd,rfl⟩:=hK _ _ hF
   obtain⟨V,hV,Y0,hbV⟩:∃V,V=W.alloc (.cells #[.int .i64 (dd:Int),.int .i64 ((szG l kg:Nat):Int)] 71)/\Bk 71 V W.heap.size [.int .i64 (dd:Int),.int .i64 ((szG l kg:Nat):Int)]/\Below W.heap.size W V:=⟨_,rfl,Bk.new _ _ _,bl1 _⟩
   have X0b:=X0.below hbV
   have hMb:=hM.below hbV
   have HF:Hid (_):=zqm.out V n F dd _ _ hdd X0b hMb hK (by rw[HT1.out];omega) (hKp.trans (Kp.of hbV))
   have A:=X0b.set2U (.int .i64 (dd:Int)) (.int .i64 ((szG l kg:Nat):Int))
   obtain⟨z0,z1,f0,f1⟩:=X0b.two;obtain⟨y0,y1,_⟩:=Y0.two
   have hlt0:=X0b.lt
   clear HNO zqm hK hKp hS hbB hbW X0 ih hMb X0b hbV hr0 HT HT1 HLV HGA
   generalize szG l kg=sz at *
   go_upto_region 4 with (first | (at_lookup;refine zc2 117 71 Tryz.underlying117 (zeroX _) rfl _ _ rfl m n F (kg:Int) hg hM rfl rfl _ hF ?_) | fail)
   rw[<-hV];clear hV hM hF;go_wp2
   exact bodyPost_ret (v:=.tuple #[.agg #[.int .i64 (dd:Int),.int .i64 (sz:Int)],.bool true]) (by obtain⟨r0,r1,_⟩:=A.two;simp[results,Tryz.results32,go_sem,r0,r1]) rfl HF.out
  | none =>
  obtain⟨b1,off,xa,xc,pa,pc,ta,tc,ea,hb1,hGC,c0,c1,-⟩:=hl.gl (Below.refl _ _) kg hkl
  have hxp:=hps _ (zdi (d:=Gl.none) hkl)
  obtain⟨x,hx⟩:∃x,l.getD kg Gl.none=x:=⟨_,rfl⟩
  rw[hx]at hGC c0 c1 HGA hxp;subst ea
  have HGC:Hid (GlC S w0 xa xc pa pc ta tc x):=hGC
  have kps:=hGC.ps.lenB
  have kcs:=hGC.cs.lenB
  have hcs1:=hGC.cs.below hbB
  replace c0:=(hbB.cell (p:=⟨b1,off+kg*6,none⟩) hb1).trans c0
  replace c1:=(hbB.cell (p:=⟨b1,off+kg*6+1,none⟩) hb1).trans c1
  obtain⟨V1,hV1,Y1,ztc⟩:∃V,V=W.alloc (.cells #[.int .i64 0,.int .i64 0] 71)/\Bk 71 V W.heap.size [.int .i64 0,.int .i64 0]/\Below W.heap.size W V:=⟨_,rfl,Bk.new _ _ _,bl1 _⟩
  go_upto_region 4 with (first | (at_lookup;refine zc3 117 71 Tryz.underlying117 (zeroX _) rfl _ _ rfl m n F (kg:Int) hg hM rfl rfl hF ?_) | fail)
  rw[<-hV1]
  obtain⟨V2,hV2,Y2,z2c⟩:∃V,V=V1.alloc (.cells #[.slice xa x.o.cs.length xc,.slice pa x.o.ps.length pc] 57)/\Bk 57 V V1.heap.size [.slice xa x.o.cs.length xc,.slice pa x.o.ps.length pc]/\Below V1.heap.size V1 V:=⟨_,rfl,Bk.new _ _ _,bl1 _⟩
  have hcs2:=(hcs1.below ztc).below z2c
  replace hS:=hS.below ztc;obtain⟨s0,s1,_⟩:=hS.two
  replace c0:=(ztc.cell (p:=⟨b1,off+kg*6,none⟩) (Nat.lt_of_lt_of_le hb1 hbB.size)).trans c0
  replace c1:=(ztc.cell (p:=⟨b1,off+kg*6+1,none⟩) (Nat.lt_of_lt_of_le hb1 hbB.size)).trans c1
  clear hV1
  go_upto_region 7 with fail
  rw[<-hV2];clear hV2 c0 c1
  replace X0:=(X0.below ztc).below z2c
  replace hS:=hS.below z2c
  replace hM:=(hM.below ztc).below z2c
  replace hKp:=(hKp.trans (Kp.of ztc)).trans (Kp.of z2c)
  replace hbB:=(hbB.trans (ztc.mono hbB.size)).trans (z2c.mono (Nat.le_trans hbB.size ztc.size))
  have hpo:=zl9 S xa xc pa x.o.ps.length pc x.o.cs V2 hcs2
  obtain⟨y0,y1,_⟩:=Y2.two
  obtain⟨r2,hr2⟩:∃r,V1.heap.size=r:=⟨_,rfl⟩
  have hr02:r0<r2:=by have h1:=ztc.size;have h2:=hbW.size;have h3:=HR0.out;have h4:=Y1.lt;omega
  rw[hr2]at Y2 y0 y1;clear hGC hcs1 hcs2 ztc z2c Y1 hbW
  go_wp2_with fail
  refine hpo.mono ?_
  rintro e V3 ⟨rfl,hb3⟩;clear hpo y0 y1
  have HSZ0:Hid (cap x.o.cs.flatten.length=cap (szK l x 0)):=by show _=_;rw[zvi];rfl
  rw[HSZ0.out];replace X0:=X0.below hb3;replace hS:=hS.below hb3;replace hM:=hM.below hb3;replace Y2:=Y2.below hb3
  replace hKp:=hKp.trans (Kp.of hb3)
  replace hbB:=hbB.trans (hb3.mono hbB.size)
  obtain⟨V4,hV4,Y4,hb4⟩:∃V,V=V3.alloc (.cells #[.int .i64 0,.int .i64 ((cap (szK l x 0):Nat):Int)] 71)/\Bk 71 V V3.heap.size [.int .i64 0,.int .i64 ((cap (szK l x 0):Nat):Int)]/\Below V3.heap.size V3 V:=⟨_,rfl,Bk.new _ _ _,bl1 _⟩
  obtain⟨r3,hr3⟩:∃r,V3.heap.size=r:=⟨_,rfl⟩
  have hr23:r2<r3:=by have h1:=Y2.lt;omega
  have HB3:Hid (Below w0.heap.size w0 V3):=hbB
  have HK3:Hid (Kp m w V3):=hKp
  have HR3:Hid (V3.heap.size=r3):=hr3
  have HY2:Hid (Bk 57 V4 r2 [.slice xa x.o.cs.length xc,.slice pa x.o.ps.length pc]):=Y2.below hb4
  have hK4:Kp m V3 V4:=Kp.of hb4
  replace X0:=X0.below hb4;replace hS:=hS.below hb4;replace hM:=hM.below hb4;obtain⟨y0,y1,_⟩:=HY2.out.two
  go_upto_region 8 with fail
  rw[<-hV4];rw[hr3]at Y4
  (try rw[hr3])
  clear hV4 hb3 hb4 hbB hKp Y2 hr3;go_wp2;clear y0 y1 s0 s1
  go_loopw [53] (fun i wr=>∃(k n' e:Nat) (F':Int->Option Value),k<=x.o.ps.length/\i=.int .i64 k/\Hid (dqs (dq l 6) (x.o.ps.take k)=some e)/\Bk 71 wr r0 [.int .i64 0,.int .i64 0]/\Bk 71 wr r3 [.int .i64 (e:Int),.int .i64 ((cap (szK l x k):Nat):Int)]/\Bk 119 wr sb [.slice (some ⟨b1,off,none⟩) l.length ca,.map (some m)]/\Mp wr m n' F'/\Hid (KnG l F')/\Hid (n'<=n+k*T)/\Kp m V3 wr) (fun i _=>x.o.ps.length-(intOf i).toNat)
  case atStart=>exact⟨0,n,0,F,Nat.zero_le _,rfl,rfl,X0,Y4,hS,hM,hK,by show _<=_;omega,hK4⟩
  case round =>
   clear X0 Y4 hS hM hK hK4;obtain⟨k,n1,e,F1,hk,rfl,HDQ,X0,Y3,hS,hM,HK,HN,hKp⟩:=hrel
   have hBw:Below w0.heap.size w0 wr:=HB3.out.trans (hKp.below HB3.out.size hm0)
   have hwr:=hKp.size
   have hr3w:r3<wr.heap.size:=Y3.lt
   have he7:e<=7:=by
    have:=zzn (n:=6) (fun p _ e h=>dq_le h) HDQ.out
    exact this
   by_cases hkn:k<x.o.ps.length
   . obtain⟨bp,op,ep,hbp,hpw,e0,e1,e2⟩:=(HGC.out.below hBw).ps.pa (Below.refl _ _) k hkn
     subst ep
     have HMEM:Hid (x.o.ps.getD k Pa.none∈x.o.ps):=zdi hkn
     have HDM:Hid (∀d,dq l 6 (x.o.ps.getD k Pa.none).g=some d->dqs (dq l 6) (x.o.ps.take (k+1))=some (max e (d+1))):=fun d h=>zx0 hkn HDQ.out h
     have HSM:Hid (∀d,dq l 6 (x.o.ps.getD k Pa.none).g=some d->min (((cap (szK l x k):Nat):Int)+((szG l (x.o.ps.getD k Pa.none).g:Nat):Int)) 2001=((cap (szK l x (k+1)):Nat):Int)):=fun d h=>by rw[zra h,zyc,zvj hkn]
     have hszb:=zzp (szK l x k)
     have hszc:szG l (x.o.ps.getD k Pa.none).g<=2001:=by
      unfold szG
      split
      . omega
      . omega
     obtain⟨q,hq⟩:∃q,x.o.ps.getD k Pa.none=q:=⟨_,rfl⟩
     rw[hq]at hpw e0 e1 e2 HMEM HDM HSM hszc;obtain⟨gl,dx,dy⟩:=q;obtain⟨hgi,hxi,hyi⟩:=hpw;dsimp only at e0 e1 e2 hgi hxi hyi HDM HSM hszc
     have i1:(0:Int)<=(k:Int):=by omega
     have i2:(k:Int)<(x.o.ps.length:Int):=by omega
     obtain⟨U,hU,XP,hbU⟩:∃U,U=wr.alloc (.cells #[.int .i64 gl,.int .i64 dx,.int .i64 dy] 54)/\Bk 54 U wr.heap.size [.int .i64 gl,.int .i64 dx,.int .i64 dy]/\Below wr.heap.size wr U:=⟨_,rfl,Bk.new _ _ _,bl1 _⟩
     replace X0:=X0.below hbU;replace Y3:=Y3.below hbU;replace hS:=hS.below hbU;replace hM:=hM.below hbU
     replace hKp:=hKp.trans (Kp.of hbU)
     replace hBw:=hBw.trans (hbU.mono hBw.size)
     have HKS:Hid ((k+1)*T=k*T+T/\(k+1)*T<=12*T):=⟨Nat.succ_mul k T,Nat.mul_le_mul_right _ (by omega)⟩
     have hih:=ih (lv+1) HLV.out gl n1 F1 U hgi (by
      have h1:=HKS.out
      have h2:=HN.out
      rw[HT.out]
      omega) hBw hS hM HK.out
     rw[show((lv+1:Nat):Int)=(lv:Int)+1 by omega]at hih
     obtain⟨p0,p1,p2,_⟩:=XP.three;clear hq
     go_upto_region 11 with fail
     rw[<-hU];clear hU e0 e1 e2
     go_wp2_with fail
     refine hih.mono ?_
     rintro ex u ⟨z2d,⟨n2,F2,hM2,hK2,hn2⟩,hk2⟩
     rw[HT.out]at hn2
     have HN2:Hid (n2<=n+(k+1)*T/\n2<=n+tk (d+1)):=by
      have h1:=HKS.out
      have h2:=HN.out
      show _/\_
      rw[HT1.out]
      omega
     have HK2:Hid (KnG l F2):=hK2
     replace X0:=X0.kp hk2 (by omega)
     replace Y3:=Y3.kp hk2 (by omega)
     replace hS:=hS.kp hk2 hsm
     replace hKp:=hKp.trans hk2
     have hus:=hk2.size
     have hUs:=hbU.size
     clear hih hk2 hM hn2 hK2 hBw XP p0 p1 p2 HKS HN HK
     have hr3u:r3<u.heap.size:=by omega
     rcases z2d with ⟨dk,hdk,rfl⟩|⟨z42,rfl⟩
     . have HD9:Hid (_):=HDM.out dk hdk
       have hmin:=HSM.out dk hdk
       have hdk6:=dq_le hdk
       obtain⟨M,hM9⟩:∃M,max e (dk+1)=M:=⟨_,rfl⟩
       have hmax:max (e:Int) ((dk:Int)+1)=(M:Int):=by omega
       rw[hM9]at HD9
       obtain⟨c9,hc9⟩:∃c,cap (szK l x (k+1))=c:=⟨_,rfl⟩
       have HC9:Hid (cap (szK l x (k+1))=c9):=hc9
       rw[hc9]at hmin;clear hdk HDM HSM HDQ hc9 hM9
       generalize szG l gl=sz at *
       generalize cap (szK l x k)=c8 at *
       obtain⟨U2,hU2,XW,zku⟩:∃V,V=u.alloc (.cells #[.int .i64 (dk:Int),.int .i64 (sz:Int)] 71)/\Bk 71 V u.heap.size [.int .i64 (dk:Int),.int .i64 (sz:Int)]/\Below u.heap.size u V:=⟨_,rfl,Bk.new _ _ _,bl1 _⟩
       replace X0:=X0.below zku;replace Y3:=Y3.below zku;replace hS:=hS.below zku;replace hM2:=hM2.below zku
       replace hKp:=hKp.trans (Kp.of zku)
       obtain⟨q0,q1,f0,f1⟩:=Y3.two;obtain⟨t0,t1,_⟩:=XW.two
       have hne:u.heap.size≠r3:=by omega
       have hr3l:=Y3.lt
       have FY:Hid (Bk 71 ((U2.setCell ⟨r3,0,none⟩ (.int .i64 (M:Int))).setCell ⟨r3,1,none⟩ (.int .i64 (c9:Int))) r3 [.int .i64 (M:Int),.int .i64 (c9:Int)]):=Y3.set2U _ _
       have FX:Hid (Bk 71 ((U2.setCell ⟨r3,0,none⟩ (.int .i64 (M:Int))).setCell ⟨r3,1,none⟩ (.int .i64 (c9:Int))) r0 [.int .i64 0,.int .i64 0]):=(X0.other 0 _ (by omega)).other 1 _ (by omega)
       have FS:Hid (Bk 119 ((U2.setCell ⟨r3,0,none⟩ (.int .i64 (M:Int))).setCell ⟨r3,1,none⟩ (.int .i64 (c9:Int))) sb [.slice (some ⟨b1,off,none⟩) l.length ca,.map (some m)]):=(hS.other 0 _ (hS.ne Y3 (by decide))).other 1 _ (hS.ne Y3 (by decide))
       have FM:Hid (Mp ((U2.setCell ⟨r3,0,none⟩ (.int .i64 (M:Int))).setCell ⟨r3,1,none⟩ (.int .i64 (c9:Int))) m n2 F2):=hM2.set2 _ _ (by omega)
       have FK:Hid (Kp m V3 ((U2.setCell ⟨r3,0,none⟩ (.int .i64 (M:Int))).setCell ⟨r3,1,none⟩ (.int .i64 (c9:Int)))):=hKp.set2 _ _ (by have:=HR3.out;omega)
       clear X0 Y3 hS hM2 hKp zku XW
       go_upto_region 12 with fail
       rw[<-hU2];clear hU2;go_wp2
       go_roundw
       case rel=>exact⟨k+1,n2,M,F2,by omega,by go_num,HD9,FX.out,by rw[HC9.out];exact FY.out,FS.out,FM.out,HK2,HN2.out.1,FK.out⟩
       case measure=>simp[intOf];omega
     . obtain⟨U2,hU2,XW,zku⟩:∃V,V=u.alloc (.cells #[.int .i64 0,.int .i64 0] 71)/\Bk 71 V u.heap.size [.int .i64 0,.int .i64 0]/\Below u.heap.size u V:=⟨_,rfl,Bk.new _ _ _,bl1 _⟩
       replace X0:=X0.below zku
       have HF:Hid (_):=HNO.out U2 n2 F2 (z4l HGA.out HMEM.out z42) X0 (hM2.below zku) HK2.out HN2.out.2 ((HK3.out.trans hKp).trans (Kp.of zku))
       have A:=X0.set2U (.int .i64 0) (.int .i64 0)
       obtain⟨z0,z1,f0,f1⟩:=X0.two
       have hlt0:=X0.lt
       clear HNO zqm hM2 hKp hS zku X0 Y3 z42 HDM HSM HDQ
       go_upto_region 12 with fail
       rw[<-hU2];clear hU2;go_wp2
       exact bodyPost_ret (v:=.tuple #[.agg #[.int .i64 0,.int .i64 0],.bool false]) (by obtain⟨r0,r1,_⟩:=A.two;simp[results,Tryz.results32,go_sem,r0,r1]) rfl HF.out
   . have ek:k=x.o.ps.length:=by omega
     rw[ek]at Y3 ⊢
     have HDQ2:Hid (dqs (dq l 6) x.o.ps=some e):=by
      have h:=HDQ.out
      rw[ek,List.take_length]at h
      exact h
     have g4:¬(x.o.ps.length:Int)<(x.o.ps.length:Int):=by omega
     have HN2:Hid (n1+1<=n+tk (d+1)):=by
      have h1:k*T<=12*T:=Nat.mul_le_mul_right _ (by omega)
      have h2:=HN.out
      show _<=_
      rw[HT1.out]
      omega
     have hn1b:n1<=1000000000000:=by
      have h1:=HN2.out
      rw[HT1.out]at h1
      omega
     clear HDQ HN ek hk hkn;obtain⟨y0,y1,_⟩:=Y3.two
     by_cases he6:6<e
     . have g5:(6:Int)<(e:Int):=by omega
       have HF:Hid (_):=HNO.out wr n1 F1 (fun k hk=>by rw[(zoq HGA.out HDQ2.out).2 he6]at hk;cases hk) X0 hM HK.out (by have:=HN2.out;omega) (HK3.out.trans hKp)
       have A:=X0.set2U (.int .i64 0) (.int .i64 0)
       obtain⟨z0,z1,f0,f1⟩:=X0.two
       have hlt0:=X0.lt
       clear HNO zqm hM hKp hS X0 Y3;go_wp2
       exact bodyPost_ret (v:=.tuple #[.agg #[.int .i64 0,.int .i64 0],.bool false]) (by obtain⟨r0,r1,_⟩:=A.two;simp[results,Tryz.results32,go_sem,r0,r1]) rfl HF.out
     . have g5:¬(6:Int)<(e:Int):=by omega
       have hdq:=(zoq HGA.out HDQ2.out).1 (by omega)
       have HSZ:Hid (cap (szK l x x.o.ps.length)=szG l kg):=by show _=_;rw[z0e HGA.out hdq,zra hdq]
       have HKN:Hid (KnG l (Fup F1 kg (.agg #[.int .i64 (e:Int),.int .i64 ((szG l kg:Nat):Int)]))):=HK.out.put hdq
       have HYE:Hid (_):=fun(U:World) h2 h3 h6=>zqm.out U (n1+1) _ e (.int .i64 0) (.int .i64 0) hdq h2 h3 HKN.out HN2.out h6
       rw[HSZ.out]at y1 Y3;clear hdq HNO zqm HKN HDQ2
       generalize szG l kg=sz at *
       obtain⟨s0,s1,_⟩:=hS.two
       go_upto_region 19 with fail
       refine wp_region_held_drew (S:=fun w9=>w9.cell? ⟨sb,1,none⟩=some (.map (some m))/\w9.cell? ⟨r3,0,none⟩=some (.int .i64 (e:Int))/\w9.cell? ⟨r3,1,none⟩=some (.int .i64 (sz:Int))) (by kernel_rfl) ?_ (fun hH=>?_)
       . (try dsimp only)
         go_keep
       have hdr:Below wr.heap.size wr wr.drew:=Below.drew1
       generalize wr.drew=Z at hdr hH ⊢
       replace s1:=(hdr.cell (p:=⟨sb,1,none⟩) hS.lt).trans s1
       replace y0:=(hdr.cell (p:=⟨r3,0,none⟩) Y3.lt).trans y0
       replace y1:=(hdr.cell (p:=⟨r3,1,none⟩) Y3.lt).trans y1
       replace X0:=X0.below hdr;replace hM:=hM.below hdr
       replace hKp:=hKp.trans (Kp.of hdr)
       clear hdr s0;refine hT 0 hH ?_;refine hT 1 hH ?_;refine hT 2 hH ?_;refine hT 3 hH ?_;refine hT 4 hH ?_;refine hT 5 hH ?_
       refine hCall (i:=6) rfl (by kernel_rfl) (by rfl) (fun K hK=>?_)
       refine zqu 117 71 Tryz.underlying117 _ _ _ rfl m n1 F1 (kg:Int) _ hg hM hn1b rfl rfl rfl ?_
       intro w9 hM9 hgrow
       replace s1:=hgrow.cell s1 (by simp;omega)
       replace y0:=hgrow.cell y0 (by simp;omega)
       replace y1:=hgrow.cell y1 (by simp;omega)
       replace X0:=X0.grown hgrow (by simp;omega)
       have z2j:Kp m V3 w9:=hKp.trans ⟨hgrow.os,hgrow.tape,hgrow.output,hgrow.size,fun j hj=>hgrow.block j hj.1 (by simp;exact hj.2)⟩
       refine hK.out _ _ ?_ (fun hH=>?_)
       . (try dsimp only)
         exact⟨s1,y0,y1⟩
       clear hK K
       try simp only[Act.put,pZ]
       refine wpAnyH_done (by kernel_rfl) ?_ _
       have HF:Hid (_):=HYE.out w9 X0 hM9 (HK3.out.trans z2j)
       have A:=X0.set2U (.int .i64 (e:Int)) (.int .i64 (sz:Int))
       obtain⟨z0,z1,f0,f1⟩:=X0.two
       have hlt0:=X0.lt
       clear hH hgrow hM hM9 hKp z2j HYE X0 s1;go_wp2
       exact bodyPost_ret (v:=.tuple #[.agg #[.int .i64 (e:Int),.int .i64 (sz:Int)],.bool true]) (by obtain⟨r0,r1,_⟩:=A.two;simp[results,Tryz.results32,go_sem,r0,r1]) rfl HF.out
theorem Fr.moved{u U:World}{v:Value}{k:Nat}{q:Rat}(h:Fr u v k q)(hK:∀a c xs,Rd u a c xs->Rd U a c xs):Fr U v k q:=by
 obtain⟨n,xs,ys,⟨a,c,a',c',e,h1,h2⟩,h3⟩:=h
 exact⟨n,xs,ys,⟨a,c,a',c',e,hK _ _ _ h1,hK _ _ _ h2⟩,h3⟩
def lmb(n:Nat):Nat:=if n=0 then 2 else 21*n-1
theorem zs3(n:Nat):2<=lmb n:=by unfold lmb;split <;> omega
theorem zy3{n:Nat}(h:n<=1000):lmb n<=21000:=by unfold lmb;split <;> omega
theorem z1u{n h:Nat}(h1:1<=h)(h2:h<n):lmb h+lmb (n-h)+1<=lmb n:=by unfold lmb;rw[if_neg (by omega),if_neg (by omega),if_neg (by omega)];omega
theorem zva:∀(n:Nat) (a:OA) (cap:Nat) (qs:List Rat) (w:World),qs.length=n->1<=n->n<=1000->Rz w a cap 20 qs ->
    Calls Tryz.prog 232 #[.slice a n cap] w fun e w'=>∃v',e=.returned v'/\Fr w' v' (lmb n) (suQ qs)/\Below w.heap.size w w':=by
 intro n
 induction n using Nat.strongRecOn with
 | ind n ih =>
  intro a cap qs w hn hn0 hn1 h
  have hcap:=h.1
  have hcm:=h.2.1
  unfold maxLen at hcm
  have HL:Hid (qs.length=n):=hn
  have HH:Hid (Rz w a cap 20 qs):=h
  rw[hn]at hcap;clear h hn
  obtain⟨W,hW,B0,hbW⟩:∃W,W=w.alloc (.cells #[.bool false,.slice none 0 0,.slice none 0 0] 125)/\Box 125 W w.heap.size (.bool false) (.slice none 0 0) (.slice none 0 0)/\Below w.heap.size w W:=⟨_,rfl,Box.new _ _ _ _ _,al1 _⟩
  have h0:¬n=0:=by omega
  by_cases h1:n=1
  . subst h1
    have HQ:Hid (qs.getD 0 0=suQ qs):=by
     show _=_
     obtain⟨q,hq⟩:=List.length_eq_one_iff.1 HL.out
     rw[hq,zib]
     rfl
    clear ih h0
    obtain⟨b,off,x,y,z,ea,hb,c0,c1,c2,hF9⟩:=HH.out.2.2 0 (by rw[HL.out];omega)
    subst ea
    replace c0:=(hbW.cell (p:=⟨b,off+0*3,none⟩) hb).trans c0
    replace c1:=(hbW.cell (p:=⟨b,off+0*3+1,none⟩) hb).trans c1
    replace c2:=(hbW.cell (p:=⟨b,off+0*3+2,none⟩) hb).trans c2
    rw[HQ.out]at hF9;obtain⟨n9,x9,y9,⟨a9,c9,b9,d9,e9,hx9,hy9⟩,hF9⟩:=hF9
    simp only[Value.agg.injEq,Array.mk.injEq,List.cons.injEq,and_true]at e9
    obtain⟨rfl,rfl,rfl⟩:=e9
    simp only[Nat.zero_mul,Nat.add_zero,Nat.zero_add]at c0 c1 c2
    subst hW;clear B0
    go_enter Tryz.func232,Tryz.ntmps232
    go_wp2
    refine bodyPost_ret (v:=.agg #[.bool n9,.slice a9 x9.length c9,.slice b9 y9.length d9]) (by obtain⟨r1,r2,r3,_⟩:=(Box.new 125 w (.bool n9) (.slice a9 x9.length c9) (.slice b9 y9.length d9)).cells;simp[results,Tryz.results232,go_sem,r1,r2,r3]) rfl ⟨_,rfl,⟨_,_,_,⟨_,_,_,_,rfl,hx9.below (al1 _),hy9.below (al1 _)⟩,hF9.1,by have:=hF9.2.1;simp[lmb];omega,by have:=hF9.2.2.1;simp[lmb];omega,hF9.2.2.2⟩,al1 _⟩
  obtain⟨h,hh⟩:∃h,n/2=h:=⟨_,rfl⟩
  have e1:1<=h:=by omega
  have e2:h<n:=by omega
  have hdv:(n:Int).tdiv 2=(h:Int):=by rw[Int.tdiv_eq_ediv_of_nonneg (by omega)];omega
  have g1:((n:Int)==1)=false:=beq_eq_false_iff_ne.2 (by omega)
  have hz1:=HH.out.take h
  have hz2:=HH.out.from h (by rw[HL.out];exact e2)
  have hc1:=fun U hU=>ih h e2 a cap (qs.take h) U (by rw[List.length_take,HL.out];omega) e1 (by omega) hU
  have hc2:=fun U hU=>ih (n-h) (by omega) (a.map (fun x=>x.add (h*3))) (cap-h) (qs.drop h) U (by rw[List.length_drop,HL.out]) (by omega) (by omega) hU
  have HQ:Hid (suQ (qs.take h)+suQ (qs.drop h)=suQ qs):=zvm _ _
  have HM:Hid (lmb h+lmb (n-h)+1<=lmb n):=z1u e1 e2
  have HM2:Hid (2<=lmb h/\2<=lmb (n-h)/\lmb h<=21000/\lmb (n-h)<=21000):=⟨zs3 _,zs3 _,zy3 (by omega),zy3 (by omega)⟩
  have hcn:¬cap=h:=by omega
  clear ih h0 h1 hh
  generalize qs.take h=q1 at *
  generalize qs.drop h=q2 at *
  generalize lmb h=k1 at *
  generalize hk2:lmb (n-h)=k2 at *
  clear hk2
  have hle:h<=n:=by omega
  have hlc:h<=cap:=by omega
  go_enter Tryz.func232,Tryz.ntmps232
  go_upto_region 4 with fail
  rw[<-hW];clear hW;replace hz1:=hz1.below hbW;replace hz2:=hz2.below hbW
  refine wp_region_held_drew (S:=(fun _=>True)) (by kernel_rfl) ?_ (fun hH=>?_)
  . (try dsimp only)
    all_goals go_keep
  have hdr:Below W.heap.size W W.drew:=Below.drew1
  generalize W.drew=ud1 at hdr hH ⊢
  replace hz1:=hz1.below hdr;replace hz2:=hz2.below hdr;replace B0:=B0.below hdr
  replace hbW:Below w.heap.size w ud1:=hbW.trans (hdr.mono hbW.size)
  clear hdr;refine hT 0 hH ?_;refine hT 1 hH ?_
  refine hTake (i:=2) (v:=.slice a h cap) rfl (by kernel_rfl) (by kernel_rfl) (by kernel_rfl) (fun _ _ _ h=>h) (Or.inl ⟨by rfl,?y2⟩) hH ?r2
  case y2 =>
   intro w9 hSw
   (try dsimp only at hSw)
   go_simp
  try simp only[Act.put,pZ]
  refine hT 4 hH ?_;refine hT 5 hH ?_
  refine hTake (i:=6) (v:=.slice (a.map (fun x=>x.add (h*3))) (n-h) (cap-h)) rfl (by kernel_rfl) (by kernel_rfl) (by kernel_rfl) (fun _ _ _ h=>h) (Or.inl ⟨by rfl,?y3⟩) hH ?r3
  case y3 =>
   intro w9 hSw
   (try dsimp only at hSw)
   go_simp
  try simp only[Act.put,pZ]
  refine hCall (i:=3) rfl (by kernel_rfl) (by rfl) (fun K hK=>?_)
  go_simp
  refine(hc1 _ hz1).mono ?_
  rintro e u1 ⟨v5,rfl,hF5,hb1⟩;replace hz1:=hz1.below hb1;replace hz2:=hz2.below hb1;replace B0:=B0.below hb1
  replace hbW:Below w.heap.size w u1:=hbW.trans (hb1.mono hbW.size)
  clear hb1
  go_wp2_with fail
  refine hK.out _ _ ?_ (fun hH=>?_)
  . (try dsimp only)
    all_goals trivial
  clear hK K
  try simp only[Act.put,pZ]
  refine hCall (i:=7) rfl (by kernel_rfl) (by rfl) (fun K hK=>?_)
  go_simp
  refine(hc2 _ hz2).mono ?_
  rintro e u2 ⟨v6,rfl,hF6,hb2⟩;replace hz1:=hz1.below hb2;replace hz2:=hz2.below hb2;replace B0:=B0.below hb2;replace hF5:=hF5.below hb2
  replace hbW:Below w.heap.size w u2:=hbW.trans (hb2.mono hbW.size)
  clear hb2
  go_wp2_with fail
  refine hK.out _ _ ?_ (fun hH=>?_)
  . (try dsimp only)
    all_goals trivial
  clear hK K
  try simp only[Act.put,pZ]
  refine hCall (i:=8) rfl (by kernel_rfl) (by rfl) (fun K hK=>?_)
  go_simp
  refine(zns k1 k2 (suQ q1) (suQ q2) _ _ _ hF5.ct hF6.ct (by have:=HM2.out;omega) (by have:=HM2.out;omega) HM2.out.1 HM2.out.2.1).mono ?_
  rintro e u3 ⟨v9,rfl,hF9,hb3⟩;replace hz1:=hz1.below hb3;replace hz2:=hz2.below hb3;replace B0:=B0.below hb3;replace hF5:=hF5.below hb3;replace hF6:=hF6.below hb3
  replace hbW:Below w.heap.size w u3:=hbW.trans (hb3.mono hbW.size)
  clear hb3;rw[HQ.out]at hF9;obtain⟨n9,x9,y9,⟨a9,c9,b9,d9,rfl,hx9,hy9⟩,hF9⟩:=hF9
  go_wp2_with fail
  refine hK.out _ _ ?_ (fun hH=>?_)
  . (try dsimp only)
    all_goals trivial
  clear hK K
  try simp only[Act.put,pZ]
  refine hCall (i:=9) rfl (by kernel_rfl) (by rfl) (fun K hK=>?_)
  go_simp
  have hs:=B0.lt
  obtain⟨f1,f2,f3,f4,f5,f6⟩:=B0.cells
  try go_simp
  obtain⟨u64,hU,C9,hbU,hK9,ho⟩:=zb7 B0 (.bool n9) (.slice a9 x9.length c9) (.slice b9 y9.length d9)
  rw[<-hU];clear hU f1 f2 f3 f4 f5 f6
  replace hbW:=hbU _ _ hbW (by omega)
  replace hx9:=hK9 _ _ _ hx9
  replace hy9:=hK9 _ _ _ hy9
  clear hbU hK9 ho
  refine hK.out _ _ ?_ (fun hH=>?_)
  . (try dsimp only)
    all_goals trivial
  clear hK K
  try simp only[Act.put,pZ]
  refine wpAnyH_done (by kernel_rfl) ?_ _
  clear hH;go_wp2
  refine bodyPost_ret (by obtain⟨r1,r2,r3,_⟩:=C9.cells;simp[results,Tryz.results232,go_sem,r1,r2,r3]) rfl ⟨_,rfl,Fr.le (k:=k1+k2+1) ⟨_,_,_,⟨_,_,_,_,rfl,hx9,hy9⟩,hF9⟩ HM.out,hbW⟩
def slZ:Value:=.slice none 0 0
theorem znc(n:Nat):∀c∈(Builtin.zeroCells slZ.cells n).toList,isI c=false:=by
 intro c hc
 simp only[Builtin.zeroCells,slZ,Value.cells,Array.toList_map,List.mem_map]at hc
 obtain⟨j,_,rfl⟩:=hc
 show isI ((#[Value.slice none 0 0])[j%1]!)=false
 rw[Nat.mod_one]
 rfl
theorem zqi{P:Program}{w w':World}{v v':Value}(base:Nat)(t ty e:TypeId)(i:TypeInfo)(ht:P.underlying t=some (.slice e))(hi:P.info? e=some i)(hz:i.zero=some slZ)(hsize:i.size=1)(hby:i.bytes=24)
    (n:Nat) (xs:List Value) (hown:w.ownsRow base e 1 v n xs) (hn:∀g,v.ownBlock=some g->NoI w g)
    (a:Addr) (m pc:Nat) (news:List Value) (hm:0<m) (hl:news.length=m*1) (hnews:∀j u,news[j]?=some u->w.cell? (a.add j)=some u) (h1:∀u∈news,isI u=false/\u.oneCell'=true) (hlen:n+m<=1000000)
    (hr:(Builtin.append_ #[t,t] ty #[v,.slice (some a) m pc]).run P w=.ok v' w'):∀g,v'.ownBlock=some g->NoI w' g:=by
 have hl':news.length=m*i.size:=by rw[hsize,hl]
 have zpr:∀u∈news,isI u=false:=fun u hu=>(h1 u hu).1
 rcases hown.2 with ⟨rfl,rfl⟩|⟨g,cap,cur,rfl,hbg,hg,hnc,hcm,hcs,zxb⟩
 . have h2:=run_append_nil (P:=P) w t ty e i slZ ht hi hz a m pc news hl' hnews hm (by omega) (by rw[hby];omega)
   rw[h2]at hr;injection hr with e1 e2;subst e1 e2
   intro g hg
   simp[Value.ownBlock]at hg
   subst hg
   refine NoI.of (heap_alloc_new w.drew _) (fun c hc=>?_)
   rw[Array.toList_append,List.mem_append]at hc
   rcases hc with hc|hc
   . exact zpr c (by simpa using hc)
   . exact znc _ c hc
 . have zu1:=(hn g rfl).mem hg
   have hxs:∀c∈xs,isI c=false:=fun c hc=>zu1 c (by rw[<-zxb]at hc;exact List.mem_of_mem_take hc)
   by_cases hroom:n+m<=cap
   . have z3t:n*i.size+news.length<=cur.size:=by rw[hsize,hl,hcs];omega
     have h2:=run_append_room (P:=P) w t ty e i ht hi g n cap cur hg a m pc news hl' hnews (fun u hu=>(h1 u hu).2) hroom z3t
     rw[h2]at hr;injection hr with e1 e2;subst e1 e2
     intro g' hg'
     simp[Value.ownBlock]at hg'
     subst hg'
     refine NoI.of (setRow_heap w g cur _ e _ hg) (fun c hc=>?_)
     simp only[List.mem_append]at hc
     rcases hc with (hc|hc)|hc
     . exact zu1 c (List.mem_of_mem_take hc)
     . exact zpr c hc
     . exact zu1 c (List.mem_of_mem_drop hc)
   . have holds:∀j u,xs[j]?=some u->w.cell? ((⟨g,0,none⟩:Addr).add j)=some u:=hown.cells (g:=g) rfl
     have h2:=run_append_grow (P:=P) w t ty e i slZ ht hi hz ⟨g,0,none⟩ n cap xs (by rw[hsize];exact hown.1) holds a m pc news hl' hnews (by omega) (by omega) (growslice_fits (by omega) (by rw[hby];omega))
     rw[h2]at hr;injection hr with e1 e2;subst e1 e2
     intro g' hg'
     simp[Value.ownBlock]at hg'
     subst hg'
     refine NoI.of (heap_alloc_new w.drew _) (fun c hc=>?_)
     rw[Array.toList_append,Array.toList_append,List.mem_append,List.mem_append]at hc
     rcases hc with (hc|hc)|hc
     . exact hxs c (by simpa using hc)
     . exact zpr c (by simpa using hc)
     . exact znc _ c hc
theorem zw9:(Tryz.prog.info? 173).map (fun i=>(i.zero,i.size,i.bytes))=some (some slZ,1,24):=by kernel_rfl
def Kn(B:Nat->Prop)(w w':World):Prop:=Keep (fun k=>k<w.heap.size/\¬(B k/\NoI w k)) w w'
theorem Kn.size{B:Nat->Prop}{w w':World}(h:Kn B w w'):w.heap.size<=w'.heap.size:=Keep.size h
theorem Kn.of{B:Nat->Prop}{w w':World}(h:Below w.heap.size w w'):Kn B w w':=Keep.of_below h (fun k hk=>hk.1)
theorem Kn.refl(B:Nat->Prop)(w:World):Kn B w w:=Keep.refl _ _
theorem NoI.same{w w':World}{g:Nat}(h:w'.heap[g]?=w.heap[g]?):NoI w' g↔NoI w g:=by
 constructor
 . intro k j v hv
   rw[<-World.cell?_of_block (w:=w) (a:=⟨g,j,none⟩) h]at hv
   exact k j v hv
 . intro k j v hv
   rw[World.cell?_of_block (w:=w) (a:=⟨g,j,none⟩) h]at hv
   exact k j v hv
theorem Kn.trans{B C:Nat->Prop}{a b c:World}(h:Kn B a b)(k:Kn C b c)(hC:∀i,C i->i<a.heap.size->B i):Kn B a c :=
 Keep.trans h (Keep.mono k (fun i hi=>⟨Nat.lt_of_lt_of_le hi.1 h.size,fun hc=>hi.2 ⟨hC i hc.1 hi.1,(NoI.same (Keep.block h i hi)).1 hc.2⟩⟩))
theorem Kn.below{B:Nat->Prop}{n:Nat}{w w':World}(h:Kn B w w')(hn:n<=w.heap.size)(hB:∀k,B k->n<=k):Below n w w':=Keep.below h (fun k hk=>⟨by omega,fun hc=>by have:=hB k hc.1;omega⟩)
theorem Kn.block{B:Nat->Prop}{w w':World}(h:Kn B w w'){k:Nat}(h1:k<w.heap.size)(h2:¬B k):w'.heap[k]?=w.heap[k]?:=Keep.block h k ⟨h1,fun hc=>h2 hc.1⟩
theorem Kn.int{B:Nat->Prop}{w w':World}(h:Kn B w w'){k:Nat}(h1:k<w.heap.size)(h2:¬NoI w k):w'.heap[k]?=w.heap[k]?:=Keep.block h k ⟨h1,fun hc=>h2 hc.2⟩
theorem Kn.grown{B:Nat->Prop}{w w':World}{r:Option Nat}(hg:w.grownBy w' r)(hr:∀k,r=some k->B k/\NoI w k):Kn B w w':=⟨hg.os,hg.tape,hg.output,hg.size,fun k hk=>hg.block k hk.1 (fun e=>hk.2 (hr k e.symm))⟩
theorem Kn.set{B:Nat->Prop}{w:World}{g:Nat}(h:B g/\NoI w g)(j:Nat)(x:Value):Kn B w (w.setCell ⟨g,j,none⟩ x) :=
 Keep.setCell (Keep.refl _ _) (p:=⟨g,j,none⟩) (fun hc=>hc.2 h) x
theorem Rd.kn{B:Nat->Prop}{w w':World}{a:OA}{cap:Nat}{xs:LN}(h:Rd w a cap xs)(hk:Kn B w w'):Rd w' a cap xs:=by
 obtain⟨h1,h2,h3,h5,h4⟩:=h
 refine⟨h1,h2,h3,h5,?_⟩
 rcases h4 with h4|⟨b,off,e,hb1,hc⟩
 . exact .inl h4
 . by_cases h0:xs=[]
   . exact .inl h0
   . have hl:0<xs.length:=List.length_pos_iff.2 h0
     have hn:¬NoI w b:=by
      intro hn
      have:=hn _ _ (hc 0 hl)
      cases this
     exact .inr ⟨b,off,e,Nat.lt_of_lt_of_le hb1 hk.size,fun i hi=>(World.cell?_of_block (w:=w) (a:=⟨b,off+i,none⟩) (hk.int hb1 hn)).trans (hc i hi)⟩
theorem Fr.kn{B:Nat->Prop}{w w':World}{v:Value}{k:Nat}{q:Rat}(h:Fr w v k q)(hk:Kn B w w'):Fr w' v k q:=by
 obtain⟨n,xs,ys,⟨a,c,a',c',rfl,h1,h2⟩,h3⟩:=h
 exact⟨n,xs,ys,⟨a,c,a',c',rfl,h1.kn hk,h2.kn hk⟩,h3⟩
theorem Rz.kn{B:Nat->Prop}{w w':World}{a:OA}{cap k:Nat}{qs:List Rat}(h:Rz w a cap k qs)(hk:Kn B w w')(hB:∀b o,a=some ⟨b,o,none⟩->¬B b):Rz w' a cap k qs:=by
 refine⟨h.1,h.2.1,fun i hi=>?_⟩
 obtain⟨b,off,x,y,z,e,hb,c0,c1,c2,hF⟩:=h.2.2 i hi
 have hbl:=hk.block hb (hB b off e)
 exact⟨b,off,x,y,z,e,Nat.lt_of_lt_of_le hb hk.size,(World.cell?_of_block (w:=w) (a:=⟨b,off+i*3,none⟩) hbl).trans c0,(World.cell?_of_block (w:=w) (a:=⟨b,off+i*3+1,none⟩) hbl).trans c1,(World.cell?_of_block (w:=w) (a:=⟨b,off+i*3+2,none⟩) hbl).trans c2,hF.kn hk⟩
theorem Rf.kn{B:Nat->Prop}{w w':World}{a:OA}{cap k:Nat}{qs:List Rat}(h:Rf w a cap k qs)(hk:Kn B w w')(hB:∀b o,a=some ⟨b,o,none⟩->¬B b):Rf w' a cap k qs:=⟨h.1.kn hk hB,h.2⟩
theorem Ro.noi{T:TypeId}{base:Nat}{w:World}{v:Value}{k:Nat}{qs:List Rat}(h:Ro T base w v k qs):∀g,v.ownBlock=some g->NoI w g:=by
 obtain⟨vs,h3,hnI,h4⟩:=h
 exact hnI
theorem Ro.kn{B:Nat->Prop}{T:TypeId}{base:Nat}{w w':World}{v:Value}{k:Nat}{qs:List Rat}(h:Ro T base w v k qs)(hk:Kn B w w')(hB:∀g,v.ownBlock=some g->¬B g):Ro T base w' v k qs:=by
 have hlo:=fun g hg=>(h.lo (g:=g) hg).2
 obtain⟨vs,h3,hnI,h4⟩:=h
 refine⟨vs,⟨h3.1,?_⟩,fun g e=>?_,fun i hi=>?_⟩
 . rcases h3.2 with h0|⟨g,cap',cur,k1,k2,k3,k4⟩
   . exact .inl h0
   . exact .inr ⟨g,cap',cur,k1,k2,(hk.block (Array.getElem?_eq_some_iff.1 k3).1 (hB g (by rw[k1];rfl))).trans k3,k4⟩
 . exact(NoI.same (hk.block (hlo g e) (hB g e))).2 (hnI g e)
 . obtain⟨x,y,z,k0,k1,k2,k3⟩:=h4 i hi
   exact⟨x,y,z,k0,k1,k2,k3.kn hk⟩
theorem Bk.kn{B:Nat->Prop}{t:TypeId}{w w':World}{g:Nat}{cs:List Value}(h:Bk t w g cs)(hk:Kn B w w')(hB:¬B g):Bk t w' g cs:=(hk.block h.lt hB).trans h
def Rr(B:Nat->Prop)(w:World)(v:Value)(K:Nat)(T:List (List Rat)):Prop :=
 ∃vs:List Value,w.ownsRow 0 173 1 v T.length vs/\(∀g,v.ownBlock=some g->B g/\NoI w g) /\
  (∀i,i<T.length->Ro 125 0 w (vs.getD i nilV) K (T.getD i [])/\∀g,(vs.getD i nilV).ownBlock=some g->B g/\v.ownBlock≠some g) /\
  ∀i j g,i<T.length->j<T.length->i≠j->(vs.getD i nilV).ownBlock=some g->(vs.getD j nilV).ownBlock≠some g
theorem Rr.nil(B:Nat->Prop)(w:World)(K:Nat):Rr B w (.slice none 0 0) K []:=⟨[],World.ownsRow_nil w 0 _ _,(fun g e=>by cases e),(fun i hi=>by simp at hi),(fun i j g hi=>by simp at hi)⟩
theorem z4k{C B:Nat->Prop}{w w':World}{t:TypeId}{sz n:Nat}{v:Value}{vs:List Value}(h3:w.ownsRow 0 t sz v n vs)(hk:Kn B w w')(hd:∀g,v.ownBlock=some g->¬B g):w'.ownsRow 0 t sz v n vs:=by
 refine⟨h3.1,?_⟩
 rcases h3.2 with h0|⟨g,cap',cur,k1,k2,k3,k4⟩
 . exact .inl h0
 . exact .inr ⟨g,cap',cur,k1,k2,(hk.block (Array.getElem?_eq_some_iff.1 k3).1 (hd g (by rw[k1];rfl))).trans k3,k4⟩
theorem Rr.kn{C B:Nat->Prop}{w w':World}{v:Value}{K:Nat}{T:List (List Rat)}(h:Rr C w v K T)(hk:Kn B w w')(hd:∀k,C k->¬B k):Rr C w' v K T:=by
 obtain⟨vs,h3,h4,h5,h6⟩:=h
 refine⟨vs,z4k (C:=C) h3 hk (fun g e=>hd g (h4 g e).1),fun g e=>⟨(h4 g e).1,(NoI.same (hk.block (World.ownsRow.lt h3 g e).2 (hd g (h4 g e).1))).2 (h4 g e).2⟩,fun i hi=>⟨(h5 i hi).1.kn hk (fun g e=>hd g ((h5 i hi).2 g e).1),(h5 i hi).2⟩,h6⟩
theorem Rr.below{C:Nat->Prop}{w w':World}{v:Value}{K:Nat}{T:List (List Rat)}(h:Rr C w v K T)(hb:Below w.heap.size w w'):Rr C w' v K T:=h.kn (Kn.of (B:=fun _=>False) hb) (fun _ _ h=>h)
theorem Rr.mono{B C:Nat->Prop}{w:World}{v:Value}{K:Nat}{T:List (List Rat)}(h:Rr B w v K T)(hC:∀k,B k->k<w.heap.size->C k):Rr C w v K T:=by
 obtain⟨vs,h3,h4,h5,h6⟩:=h
 refine⟨vs,h3,fun g e=>⟨hC g (h4 g e).1 (World.ownsRow.lt h3 g e).2,(h4 g e).2⟩,fun i hi=>⟨(h5 i hi).1,fun g e=>⟨hC g ((h5 i hi).2 g e).1 ((h5 i hi).1.lo e).2,((h5 i hi).2 g e).2⟩⟩,h6⟩
theorem Rr.slice{B:Nat->Prop}{w:World}{v:Value}{K:Nat}{T:List (List Rat)}(h:Rr B w v K T):∃a cap,v=.slice a T.length cap/\T.length<=cap/\cap<=maxLen:=by
 obtain⟨vs,h3,h4,h5,h6⟩:=h
 rcases h3.2 with ⟨h0,h1⟩|⟨g,cap',cur,k1,k2,k3,k4,k5,_⟩
 . exact⟨none,0,by rw[h1];exact h0,by omega,Nat.zero_le _⟩
 . exact⟨_,cap',k1,k4,k5⟩
theorem Rr.at{B:Nat->Prop}{w:World}{v:Value}{K:Nat}{T:List (List Rat)}(h:Rr B w v K T)(i:Nat)(hi:i<T.length) :
 ∃g cap u,v=.slice (some ⟨g,0,none⟩) T.length cap/\g<w.heap.size/\B g/\T.length<=cap/\cap<=maxLen/\w.cell? ⟨g,i,none⟩=some u/\w.frozen? ⟨g,i,none⟩=false/\Ro 125 0 w u K (T.getD i [])/\(∀b,u.ownBlock=some b->B b/\b≠g):=by
 obtain⟨vs,h3,h4,h5,h6⟩:=h
 rcases h3.2 with ⟨h0,h1⟩|⟨g,cap',cur,k1,k2,k3,k4,k5,k6,k7⟩
 . omega
 . have hvl:vs.length=T.length:=by have:=h3.1;omega
   have e:vs[i]?=some (vs.getD i nilV):=by rw[List.getD_eq_getElem?_getD,List.getElem?_eq_getElem (by omega)];rfl
   have hc:=h3.cells (g:=g) (by rw[k1];rfl) i _ e
   have zb1:(⟨g,0,none⟩:Addr).add i=⟨g,i,none⟩:=by unfold Addr.add;split <;> simp_all
   rw[zb1]at hc
   refine⟨g,cap',vs.getD i nilV,k1,(Array.getElem?_eq_some_iff.1 k3).1,(h4 g (by rw[k1];rfl)).1,k4,k5,hc,frozen_of_row w g i _ _ k3,(h5 i hi).1,fun b e1=>⟨((h5 i hi).2 b e1).1,fun e2=>((h5 i hi).2 b e1).2 (by rw[k1,e2];rfl)⟩⟩
theorem Rr.put{B C:Nat->Prop}{w w':World}{v:Value}{K:Nat}{T:List (List Rat)}(h:Rr B w v K T)(i:Nat)(hi:i<T.length){g cap:Nat}{u u':Value}{l':List Rat}(hv:v=.slice (some ⟨g,0,none⟩) T.length cap)(hc:w.cell? ⟨g,i,none⟩=some u)(hg:w.grownBy w' u.ownBlock)(hu:Ro 125 0 w' u' K l')(ho:u'.ownBlock=u.ownBlock\/u'.ownBlock=some w.heap.size)(zba:isI u'=false)(hBC:∀k,B k->C k)(hsz:C w.heap.size) :
 Rr C (w'.setCell ⟨g,i,none⟩ u') v K (T.set i l')/\Kn B w (w'.setCell ⟨g,i,none⟩ u'):=by
 obtain⟨vs,h3,h4,h5,h6⟩:=h
 have hvg:v.ownBlock=some g:=by rw[hv];rfl
 have hvl:vs.length=T.length:=by have:=h3.1;omega
 have e:vs[i]?=some (vs.getD i nilV):=by rw[List.getD_eq_getElem?_getD,List.getElem?_eq_getElem (by omega)];rfl
 have zb1:(⟨g,0,none⟩:Addr).add i=⟨g,i,none⟩:=by unfold Addr.add;split <;> simp_all
 have hc2:=h3.cells (g:=g) hvg i _ e
 rw[zb1,hc]at hc2
 have huv:u=vs.getD i nilV:=Option.some.inj hc2
 have hgl:=(World.ownsRow.lt h3 g hvg).2
 have huB:∀b,u.ownBlock=some b->B b/\b≠g:=fun b e1=>by
  rw[huv]at e1
  exact⟨((h5 i hi).2 b e1).1,fun e2=>((h5 i hi).2 b e1).2 (by rw[hvg,e2])⟩
 have hun:∀b,u.ownBlock=some b->NoI w b:=fun b e1=>(h5 i hi).1.noi b (by rw[<-huv];exact e1)
 have hgk:w'.heap[g]?=w.heap[g]?:=hg.block g hgl (fun e1=>(huB g e1.symm).2 rfl)
 have hng:NoI w' g:=(NoI.same hgk).2 (h4 g hvg).2
 have k1:Kn B w w':=Kn.grown hg (fun k e1=>⟨(huB k e1).1,hun k e1⟩)
 have k2:Kn (fun k=>k=g) w' (w'.setCell ⟨g,i,none⟩ u'):=Kn.set (B:=fun k=>k=g) ⟨rfl,hng⟩ i u'
 have k3:Kn B w (w'.setCell ⟨g,i,none⟩ u'):=k1.trans k2 (fun j hj _=>by rw[hj];exact(h4 g hvg).1)
 have kr:Kn (fun k=>some k=u.ownBlock) w w':=Kn.grown hg (fun k e1=>⟨e1.symm,hun k e1⟩)
 have hu'g:∀b,u'.ownBlock=some b->b≠g:=fun b e1=>by
  rcases ho with ho|ho
  . rw[ho]at e1;exact(huB b e1).2
  . rw[ho]at e1
    injection e1 with e1
    omega
 have zks:(vs.set i u').getD i nilV=u':=by simp[List.getD,show i<vs.length by omega]
 have z3s:∀j,j≠i->(vs.set i u').getD j nilV=vs.getD j nilV:=fun j hj=>by simp[List.getD,List.getElem?_set_ne (fun e=>hj e.symm)]
 have tset:(T.set i l').getD i []=l':=by simp[List.getD,hi]
 have toth:∀j,j≠i->(T.set i l').getD j []=T.getD j []:=fun j hj=>by simp[List.getD,List.getElem?_set_ne (fun e=>hj e.symm)]
 have zpr:∀j b,j<T.length->j≠i->(vs.getD j nilV).ownBlock=some b->u'.ownBlock≠some b:=fun j b hj hji e1 e2=>by
  rcases ho with ho|ho
  . rw[ho,huv]at e2
    exact h6 j i b hj hi hji e1 e2
  . rw[ho]at e2
    injection e2 with e2
    have:=((h5 j hj).1.lo e1).2
    omega
 refine⟨⟨vs.set i u',⟨by rw[List.length_set,List.length_set];exact h3.1,?_⟩,fun b e1=>?_,fun j hj=>?_,fun j m b hj hm hjm e1=>?_⟩,k3⟩
 . rcases h3.2 with ⟨h0,h1⟩|⟨g',cap',cur,q1,q2,q3,q4,q5,q6,q7⟩
   . rw[h0]at hv;cases hv
   . rw[q1]at hvg
     have e1:some g'=some g:=hvg
     injection e1 with e1;subst e1
     have hst:=heap_setCell_same w' g' i cur _ u' (hgk.trans q3)
     refine .inr ⟨g',cap',_,by rw[List.length_set];exact q1,q2,hst,by rw[List.length_set];exact q4,q5,by simpa using q6,?_⟩
     rw[List.length_set,<-q7]
     simp[List.take_set]
 . have e2:=e1
   rw[hvg]at e2;injection e2 with e2;subst e2
   exact⟨hBC _ (h4 g hvg).1,fun j y hy=>by
    by_cases hji:j=i
    . subst hji
      have hcw:w'.cell? ⟨g,j,none⟩=some u:=(World.cell?_of_block (w:=w) (a:=⟨g,j,none⟩) hgk).trans hc
      rw[World.cell?_setCell_same w' ⟨g,j,none⟩ u' hcw]at hy
      injection hy with hy;rw[<-hy]
      exact zba
    . rw[World.cell?_setCell_other w' ⟨g,i,none⟩ ⟨g,j,none⟩ u' (fun e3=>hji (by injection e3 with _ e4 _;exact e4.symm))]at hy
      exact hng j y hy⟩
 . rw[List.length_set]at hj
   by_cases hji:j=i
   . subst hji
     rw[zks,tset]
     refine⟨hu.kn k2 (fun b e1=>hu'g b e1),fun b e1=>⟨?_,fun e2=>hu'g b e1 (by rw[hvg]at e2;injection e2 with e2;exact e2.symm)⟩⟩
     rcases ho with ho|ho
     . rw[ho]at e1;exact hBC b (huB b e1).1
     . rw[ho]at e1
       injection e1 with e1;rw[<-e1]
       exact hsz
   . rw[z3s j hji,toth j hji]
     refine⟨((h5 j hj).1.kn kr (fun b e1 e2=>h6 j i b hj hi hji e1 (by rw[<-huv];exact e2.symm))).kn k2 (fun b e1 e2=>((h5 j hj).2 b e1).2 (by rw[hvg,e2])),fun b e1=>⟨hBC b ((h5 j hj).2 b e1).1,((h5 j hj).2 b e1).2⟩⟩
 . rw[List.length_set]at hj hm
   by_cases hji:j=i
   . subst hji
     rw[zks]at e1
     rw[z3s m (fun x=>hjm x.symm)]
     intro e2
     exact zpr m b hm (fun x=>hjm x.symm) e2 e1
   . rw[z3s j hji]at e1
     by_cases hmi:m=i
     . subst hmi
       rw[zks]
       exact zpr j b hj hji e1
     . rw[z3s m hmi]
       exact h6 j m b hj hm hjm e1
theorem zax{w:World}{o:Oper}{a:Act}{K':Act->World->Prop}{Q:Exit->Act->World->Prop}
    (s x:Operand) (ho:o.op=.call { callee:=.builtin .append,args:=#[s,x],argTypes:=#[230,230] })
    (B C:Nat->Prop) (v:Value) (K:Nat) (T:List (List Rat)) (hs:a.eval s=v) (h:Rr B w v K T) (g:Nat) (hx:a.eval x=.slice (some ⟨g,0,none⟩) 1 1) (u:Value) (l:List Rat) (c0:w.cell? ⟨g,0,none⟩=some u) (hu:Ro 125 0 w u K l) (zba:isI u=false/\u.oneCell'=true) (hd:∀b,u.ownBlock=some b->¬B b/\C b) (hBC:∀k,B k->C k) (hsz:C w.heap.size) (hlen:T.length+1<=1000000)
    (h':∀v' w',Rr C w' v' K (T++[l])->Kn B w w'->w.grownBy w' v.ownBlock->K' (a.put o.dst v') w'):o.wp Tryz.prog a w K' Q:=by
 obtain⟨vs,h3,h4,h5,h6⟩:=h
 obtain⟨i0,hi,hz0,hz1,hz2⟩:=info_parts zw9
 have hvl:vs.length=T.length:=by have:=h3.1;omega
 have hnews:∀j y,[u][j]?=some y->w.cell? ((⟨g,0,none⟩:Addr).add j)=some y:=by
  intro j y hj
  match j,hj with
  | 0,hj=>simp at hj;subst hj;simpa [Addr.add] using c0
 obtain⟨v',w',hr,k1,k2,_,k4⟩:=run_append_own_at (P:=Tryz.prog) w 0 230 o.type 173 i0 slZ 1 24 Tryz.underlying230 hi hz0 hz1 hz2 rfl (by decide) v T.length vs h3 ⟨g,0,none⟩ 1 1 [u] rfl hnews (fun y hy=>by rw[List.mem_singleton.1 hy];exact zba.2) (by unfold maxLen;omega) (by omega) (Nat.zero_le _)
 have hn':=zqi 0 230 o.type 173 i0 Tryz.underlying230 hi hz0 hz1 hz2 T.length vs h3 (fun b e=>(h4 b e).2) ⟨g,0,none⟩ 1 1 [u] (by decide) rfl hnews (fun y hy=>by rw[List.mem_singleton.1 hy];exact zba) hlen hr
 have kn:Kn B w w':=Kn.grown k2 (fun k e=>h4 k e)
 have kr:Kn (fun k=>some k=v.ownBlock) w w':=Kn.grown k2 (fun k e=>⟨e.symm,(h4 k e).2⟩)
 have hul:=fun b e=>(hu.lo (g:=b) e).2
 have z18:(vs++[u]).getD T.length nilV=u:=by simp[List.getD,<-hvl]
 have hfst:∀j,j<T.length->(vs++[u]).getD j nilV=vs.getD j nilV:=fun j hj=>by simp[List.getD,List.getElem?_append_left (show j<vs.length by omega)]
 have tlast:(T++[l]).getD T.length []=l:=by simp[List.getD]
 have tfst:∀j,j<T.length->(T++[l]).getD j []=T.getD j []:=fun j hj=>by simp[List.getD,List.getElem?_append_left hj]
 have hv'n:∀b,b<w.heap.size->v'.ownBlock=some b->v.ownBlock=some b:=fun b hb e=>by
  rcases k4 with k4|k4
  . rw[<-k4];exact e
  . rw[k4]at e
    injection e with e
    omega
 have hR:Rr C w' v' K (T++[l]):=by
  refine⟨vs++[u],by rw[List.length_append];exact k1,fun b e=>⟨?_,hn' b e⟩,fun j hj=>?_,fun j m b hj hm hjm e1=>?_⟩
  . rcases k4 with k4|k4
    . rw[k4]at e;exact hBC b (h4 b e).1
    . rw[k4]at e
      injection e with e;rw[<-e]
      exact hsz
  . by_cases hjt:j<T.length
    . rw[hfst j hjt,tfst j hjt]
      refine⟨(h5 j hjt).1.kn kr (fun b e e2=>((h5 j hjt).2 b e).2 e2.symm),fun b e=>⟨hBC b ((h5 j hjt).2 b e).1,fun e2=>((h5 j hjt).2 b e).2 (hv'n b ((h5 j hjt).1.lo e).2 e2)⟩⟩
    . obtain rfl:j=T.length:=by simp at hj;omega
      rw[z18,tlast]
      refine⟨hu.kn kn (fun b e=>(hd b e).1),fun b e=>⟨(hd b e).2,fun e2=>(hd b e).1 (h4 b (hv'n b (hul b e) e2)).1⟩⟩
  . have hj':j<T.length\/j=T.length:=by simp at hj;omega
    have hm':m<T.length\/m=T.length:=by simp at hm;omega
    rcases hj' with hj'|rfl
    . rw[hfst j hj']at e1
      rcases hm' with hm'|rfl
      . rw[hfst m hm']
        exact h6 j m b hj' hm' hjm e1
      . rw[z18]
        intro e2
        exact(hd b e2).1 ((h5 j hj').2 b e1).1
    . rw[z18]at e1
      rcases hm' with hm'|rfl
      . rw[hfst m hm']
        intro e2
        exact(hd b e1).1 ((h5 m hm').2 b e2).1
      . exact absurd rfl hjm
 unfold Oper.wp execOp
 simp only[ho,resolve,invoke,builtin,Sem.run_bind,Sem.run_pure,Result.andThen_ok,List.map_toArray,List.map_cons,List.map_nil,hs,hx,hr]
 exact h' v' w' hR kn k2
theorem Ro.one{w:World}{g k:Nat}{x y z:Value}{q:Rat}(h:Bk 125 w g [x,y,z])(hF:Fr w (.agg #[x,y,z]) k q):Ro 125 0 w (.slice (some ⟨g,0,none⟩) 1 1) k [q]:=by
 refine⟨[x,y,z],⟨rfl,.inr ⟨g,1,#[x,y,z],rfl,Nat.zero_le _,h,Nat.le_refl _,by unfold maxLen;omega,rfl,rfl⟩⟩,fun b e=>?_,fun i hi=>?_⟩
 . have e:some g=some b:=e
   injection e with e;subst e
   exact NoI.of h (fun c hc=>(hF.noI c (by simpa using hc)).1)
 . obtain rfl:i=0:=by simpa using hi
   exact⟨x,y,z,rfl,rfl,rfl,hF⟩
def riB(t:Te):Bool:=decide (0<=t.st)&&(decide (t.st<t.pk)&&(decide (t.pk<t.en)||(t.pk==16384&&t.en==16384)))
theorem zj9(t:Te)(w:World) :
 Calls Tryz.prog 198 #[.agg #[.int .i64 t.st,.int .i64 t.pk,.int .i64 t.en]] w fun e w'=>e=.returned (.bool (riB t))/\Below w.heap.size w w':=by
 obtain⟨st,pk,en⟩:=t
 simp only[riB]
 by_cases h1:0<=st
 . have g1:decide (0<=st)=true:=decide_eq_true h1
   rw[g1]
   by_cases h2:st<pk
   . have g2:decide (st<pk)=true:=decide_eq_true h2
     rw[g2]
     by_cases h3:pk<en
     . have g3:decide (pk<en)=true:=decide_eq_true h3
       rw[g3]
       go_enter Tryz.func198,Tryz.ntmps198
       go_wp2
       go_ret
       exact⟨zaa (by simp),al1 _⟩
     . have g3:decide (pk<en)=false:=decide_eq_false h3
       rw[g3]
       by_cases h4:pk=16384
       . have g4:(pk==16384)=true:=by simp[h4]
         rw[g4];clear h4
         go_enter Tryz.func198,Tryz.ntmps198
         go_wp2
         go_ret
         exact⟨zaa (by simp),al1 _⟩
       . have g4:(pk==16384)=false:=by simp[h4]
         rw[g4];clear h4
         go_enter Tryz.func198,Tryz.ntmps198
         go_wp2
         go_ret
         exact⟨zaa (by simp),al1 _⟩
   . have g2:decide (st<pk)=false:=decide_eq_false h2
     rw[g2]
     go_enter Tryz.func198,Tryz.ntmps198
     go_wp2
     go_ret
     exact⟨zaa (by simp),al1 _⟩
 . have g1:decide (0<=st)=false:=decide_eq_false h1
   rw[g1]
   go_enter Tryz.func198,Tryz.ntmps198
   go_wp2
   go_ret
   exact⟨zaa (by simp),al1 _⟩
theorem zpb(t:Te)(w:World)(h1:crd t.st=true)(h2:crd t.pk=true)(h3:crd t.en=true) :
 Calls Tryz.prog 199 #[.agg #[.int .i64 t.st,.int .i64 t.pk,.int .i64 t.en]] w fun e w'=>e=.returned (.agg #[.int .i64 (-t.en),.int .i64 (-t.pk),.int .i64 (-t.st)])/\Below w.heap.size w w':=by
 obtain⟨st,pk,en⟩:=t;rw[crdT]at h1 h2 h3
 dsimp only at *
 have k1:IntKind.i64.wrap (-en)=-en:=zbb (by omega) (by omega)
 have k2:IntKind.i64.wrap (-pk)=-pk:=zbb (by omega) (by omega)
 have k3:IntKind.i64.wrap (-st)=-st:=zbb (by omega) (by omega)
 go_enter Tryz.func199,Tryz.ntmps199
 go_wp2
 exact bodyPost_ret (v:=.agg #[.int .i64 (-en),.int .i64 (-pk),.int .i64 (-st)]) (by simp[results,Tryz.results199,go_sem]) rfl ⟨rfl,al2 _ _⟩
theorem zrt{t:Te}:riB t=true↔(0<=t.st/\t.st<t.pk/\(t.pk<t.en\/(t.pk=16384/\t.en=16384))):=by
 simp[riB]
theorem z0c{t:Te}(h1:crd t.st=true)(h2:crd t.pk=true)(h3:crd t.en=true)(h:t.pk<0):riB ⟨-t.en,-t.pk,-t.st⟩=tfB t:=by
 rw[crdT]at h1 h2 h3;rw[Bool.eq_iff_iff,zrt,zd3]
 unfold TfT
 dsimp only
 omega
theorem z0b{t:Te}(h1:crd t.st=true)(h2:crd t.pk=true)(h3:crd t.en=true)(h:¬t.pk<0)(hz:¬(t.st=0/\t.pk=0/\t.en=0)):riB t=tfB t:=by
 rw[crdT]at h1 h2 h3;rw[Bool.eq_iff_iff,zrt,zd3]
 unfold TfT
 omega
theorem zhy(t:Te)(w:World) :
 Calls Tryz.prog 154 #[.agg #[.int .i64 t.st,.int .i64 t.pk,.int .i64 t.en]] w fun e w'=>e=.returned (.bool (tfB t))/\Below w.heap.size w w':=by
 obtain⟨W,hW,X1,hbW⟩:∃W,W=w.alloc (.cells #[.int .i64 t.st,.int .i64 t.pk,.int .i64 t.en] 146)/\Box 146 W w.heap.size (.int .i64 t.st) (.int .i64 t.pk) (.int .i64 t.en)/\Below w.heap.size w W:=⟨_,rfl,Box.new _ _ _ _ _,al1 _⟩
 cases c1:crd t.st with
 | false =>
  have HF:Hid (tfB t=false):=zq8 (fun h=>by rw[crdT.2 h.1]at c1;cases c1)
  obtain⟨st,pk,en⟩:=t
  dsimp only at *
  go_enter Tryz.func154,Tryz.ntmps154
  go_wp2_with fail
  refine(zak st _).mono ?_
  rintro e u1 ⟨rfl,rfl⟩;rw[c1];go_wp2
  go_ret
  exact⟨zaa HF.out.symm,hW ▸ hbW⟩
 | true =>
  cases c2:crd t.pk with
  | false =>
   have HF:Hid (tfB t=false):=zq8 (fun h=>by rw[crdT.2 h.2.1]at c2;cases c2)
   obtain⟨st,pk,en⟩:=t
   dsimp only at *
   go_enter Tryz.func154,Tryz.ntmps154
   go_wp2_with fail
   refine(zak st _).mono ?_
   rintro e u1 ⟨rfl,rfl⟩;rw[c1]
   go_wp2_with fail
   refine(zak pk _).mono ?_
   rintro e u1 ⟨rfl,rfl⟩;rw[c2];go_wp2
   go_ret
   exact⟨zaa HF.out.symm,hW ▸ hbW⟩
  | true =>
   cases c3:crd t.en with
   | false =>
    have HF:Hid (tfB t=false):=zq8 (fun h=>by rw[crdT.2 h.2.2.1]at c3;cases c3)
    obtain⟨st,pk,en⟩:=t
    dsimp only at *
    go_enter Tryz.func154,Tryz.ntmps154
    go_wp2_with fail
    refine(zak st _).mono ?_
    rintro e u1 ⟨rfl,rfl⟩;rw[c1]
    go_wp2_with fail
    refine(zak pk _).mono ?_
    rintro e u1 ⟨rfl,rfl⟩;rw[c2]
    go_wp2_with fail
    refine(zak en _).mono ?_
    rintro e u1 ⟨rfl,rfl⟩;rw[c3];go_wp2
    go_ret
    exact⟨zaa HF.out.symm,hW ▸ hbW⟩
   | true =>
    by_cases hn:t.pk<0
    . have HF:Hid (riB ⟨-t.en,-t.pk,-t.st⟩=tfB t):=z0c c1 c2 c3 hn
      have ht:=fun U=>zpb t U c1 c2 c3
      have hr:=fun U=>zj9 ⟨-t.en,-t.pk,-t.st⟩ U
      obtain⟨st,pk,en⟩:=t
      dsimp only at *
      go_enter Tryz.func154,Tryz.ntmps154
      go_wp2_with fail
      rw[<-hW];clear hW
      refine(zak st _).mono ?_
      rintro e u1 ⟨rfl,rfl⟩;rw[c1];obtain⟨p0,p1,p2,_⟩:=X1.cells
      go_wp2_with fail
      refine(zak pk _).mono ?_
      rintro e u1 ⟨rfl,rfl⟩;rw[c2]
      go_wp2_with fail
      refine(zak en _).mono ?_
      rintro e u1 ⟨rfl,rfl⟩;rw[c3];clear c1 c2 c3
      go_wp2_with fail
      refine(ht _).mono ?_
      rintro e u1 ⟨rfl,hb1⟩
      replace hbW:=hbW.trans (hb1.mono hbW.size)
      clear ht hb1 p0 p1 p2
      go_wp2_with fail
      refine(hr _).mono ?_
      rintro e u2 ⟨rfl,hb2⟩;rw[HF.out]
      replace hbW:=hbW.trans (hb2.mono hbW.size)
      clear hr hb2;go_wp2
      go_ret
      exact⟨rfl,hbW⟩
    . have HF:Hid (¬(t.st=0/\t.pk=0/\t.en=0)->riB t=tfB t):=z0b c1 c2 c3 hn
      have HZ:Hid (t.st=0/\t.pk=0/\t.en=0->tfB t=true):=fun h=>by
       rw[zd3]
       unfold TfT
       omega
      have hr:=fun U=>zj9 t U
      obtain⟨st,pk,en⟩:=t
      dsimp only at *
      go_enter Tryz.func154,Tryz.ntmps154
      go_wp2_with fail
      rw[<-hW];clear hW
      refine(zak st _).mono ?_
      rintro e u1 ⟨rfl,rfl⟩;rw[c1];obtain⟨p0,p1,p2,_⟩:=X1.cells
      go_wp2_with fail
      refine(zak pk _).mono ?_
      rintro e u1 ⟨rfl,rfl⟩;rw[c2]
      go_wp2_with fail
      refine(zak en _).mono ?_
      rintro e u1 ⟨rfl,rfl⟩;rw[c3];clear c1 c2 c3
      by_cases s0:st=0
      . subst s0
        by_cases q0:pk=0
        . subst q0
          by_cases e0:en=0
          . subst e0
            go_wp2
            go_ret
            exact⟨zaa (HZ.out (by simp)).symm,hbW⟩
          . go_wp2_with fail
            refine(hr _).mono ?_
            rintro e u2 ⟨rfl,hb2⟩
            rw[HF.out (by omega)]
            replace hbW:=hbW.trans (hb2.mono hbW.size)
            clear hr hb2;go_wp2
            go_ret
            exact⟨rfl,hbW⟩
        . go_wp2_with fail
          refine(hr _).mono ?_
          rintro e u2 ⟨rfl,hb2⟩
          rw[HF.out (by omega)]
          replace hbW:=hbW.trans (hb2.mono hbW.size)
          clear hr hb2;go_wp2
          go_ret
          exact⟨rfl,hbW⟩
      . go_wp2_with fail
        refine(hr _).mono ?_
        rintro e u2 ⟨rfl,hb2⟩
        rw[HF.out (by omega)]
        replace hbW:=hbW.trans (hb2.mono hbW.size)
        clear hr hb2;go_wp2
        go_ret
        exact⟨rfl,hbW⟩
theorem zmm(a:OA)(cap:Nat)(cs:List Int)(k:Nat)(w:World)(h:Ri w a cap cs)(hk:k<=1000000) :
 Calls Tryz.prog 211 #[.slice a cs.length cap,.int .i64 (k:Int)] w fun e w'=>e=.returned (.int .i64 (cs.getD k 0))/\Below w.heap.size w w':=by
 have k1:=h.lenB
 by_cases hkn:k<cs.length
 . obtain⟨b,off,ea,hb,d0⟩:=h.at (Below.refl _ _) k hkn
   subst ea
   have g1:(k:Int)<(cs.length:Int):=by omega
   generalize cs.getD k 0=z at *
   clear h
   go_enter Tryz.func211,Tryz.ntmps211
   go_wp2
   go_ret
   exact⟨rfl,Below.refl _ _⟩
 . have g1:¬(k:Int)<(cs.length:Int):=by omega
   have HZ:Hid (cs.getD k 0=0):=by show _=_;rw[List.getD_eq_getElem?_getD,List.getElem?_eq_none (by omega)];rfl
   clear h
   go_enter Tryz.func211,Tryz.ntmps211
   go_wp2
   go_ret
   exact⟨z38 (by first | rfl | exact HZ.out.symm),Below.refl _ _⟩
theorem z3j{l:List Te}{p:Te->Bool}{k:Nat}(hk:k<l.length)(h:p (l.getD k Te.none)=false):l.all p=false:=by
 rw[Bool.eq_false_iff]
 intro e
 have:=allT.1 e k hk
 rw[h]at this
 cases this
theorem zg7(a:OA)(cap:Nat)(l:List Te)(n:Int)(w:World)(h:Tz w a cap l) :
 Calls Tryz.prog 99 #[.slice a l.length cap,.int .i64 n] w fun e w'=>e=.returned (.bool (rgB l n))/\Below w.heap.size w w':=by
 have k1:=h.1
 have k2:=h.lenB
 by_cases hl:(l.length:Int)=n
 . have HR:Hid (rgB l n=l.all tfB):=by show _=_;rw[rgB,decide_eq_true hl,Bool.and_true]
   have g1:((l.length:Int) != n)=false:=by simp[hl]
   have HH:Hid (Tz w a cap l):=h
   clear hl h
   go_enter Tryz.func99,Tryz.ntmps99
   go_wp2
   go_loopw [13] (fun i wr=>∃k:Nat,k<=l.length/\i=.int .i64 k/\(∀j,j<k->tfB (l.getD j Te.none)=true)/\Below w.heap.size w wr) (fun i _=>l.length-(intOf i).toNat)
   case atStart=>exact⟨0,Nat.zero_le _,rfl,(fun j hj=>by omega),Below.refl _ _⟩
   case round =>
    obtain⟨k,hk,rfl,hok,hB⟩:=hrel
    have HOK:Hid (∀j,j<k->tfB (l.getD j Te.none)=true):=hok
    clear hok
    by_cases hkn:k<l.length
    . obtain⟨b,off,ea,hb,d0,d1,d2⟩:=HH.out.at hB k hkn
      subst ea
      have hfo:=fun U=>zhy (l.getD k Te.none) U
      obtain⟨t,ht⟩:∃t,l.getD k Te.none=t:=⟨_,rfl⟩
      have HT:Hid (l.getD k Te.none=t):=ht
      rw[ht]at d0 d1 d2 hfo;clear ht
      cases hf:tfB t with
      | false =>
       have HF:Hid (rgB l n=false):=by show _=_;rw[HR.out];exact z3j hkn (by rw[HT.out];exact hf)
       simp only[hf]at hfo
       clear hf HT HOK;obtain⟨st,pk,en⟩:=t
       dsimp only at *
       go_wp2_with fail
       refine(hfo _).mono ?_
       rintro e u1 ⟨rfl,hb1⟩
       replace hB:=(hB.alloc hB.size _).trans (hb1.mono (hB.alloc hB.size _).size)
       clear hb1 hfo;go_wp2
       go_ret
       exact⟨zaa HF.out.symm,hB⟩
      | true =>
       have zea:Hid (∀j,j<k+1->tfB (l.getD j Te.none)=true):=fun j hj=>by
        rcases Nat.lt_or_ge j k with h1|h1
        . exact HOK.out j h1
        . rw[show j=k by omega,HT.out];exact hf
       simp only[hf]at hfo
       clear hf HT HOK;obtain⟨st,pk,en⟩:=t
       dsimp only at *
       go_wp2_with fail
       refine(hfo _).mono ?_
       rintro e u1 ⟨rfl,hb1⟩
       replace hB:=(hB.alloc hB.size _).trans (hb1.mono (hB.alloc hB.size _).size)
       clear hb1 hfo;go_wp2
       go_roundw
       case rel=>exact⟨k+1,by omega,by go_num,zea.out,hB⟩
       case measure=>simp[intOf];omega
    . obtain rfl:k=l.length:=by omega
      have HF:Hid (rgB l n=true):=by show _=_;rw[HR.out];exact allT.2 HOK.out
      clear HOK;go_wp2
      go_ret
      exact⟨zaa HF.out.symm,hB⟩
 . have HR:Hid (rgB l n=false):=by show _=_;rw[rgB,decide_eq_false hl,Bool.and_false]
   have g1:((l.length:Int) != n)=true:=by simp[hl]
   clear h hl
   go_enter Tryz.func99,Tryz.ntmps99
   go_wp2
   go_ret
   exact⟨zaa HR.out.symm,Below.refl _ _⟩
theorem zlh(a:OA)(ca:Nat)(pts:List Int)(n:Nat)(w:World)(h:Ri w a ca pts)(hn:n<=1000000) :
 Calls Tryz.prog 157 #[.slice a pts.length ca,.int .i64 (n:Int)] w fun e w'=>e=.returned (.bool (risB pts n))/\w=w':=by
 have k2:=h.lenB
 have HH:Hid (Ri w a ca pts):=h
 clear h
 go_enter Tryz.func157,Tryz.ntmps157
 go_wp2
 go_loopw [5,10] (fun l i wr=>∃k:Nat,k<=pts.length/\i=.int .i64 k/\l=.int .i64 (lastI pts k)/\(∀j,j<k->risP pts n j)/\w=wr) (fun _ i _=>pts.length-(intOf i).toNat)
 case atStart=>exact⟨0,Nat.zero_le _,rfl,rfl,(fun j hj=>by omega),rfl⟩
 case round =>
  obtain⟨k,hk,rfl,rfl,hok,rfl⟩:=hrel
  have HOK:Hid (∀j,j<k->risP pts n j):=hok
  clear hok
  by_cases hkn:k<pts.length
  . obtain⟨b,off,ea,hb,d0⟩:=HH.out.at (Below.refl _ _) k hkn
    have hzi:=HH.out.i64 hkn
    subst ea
    have HL:Hid (lastI pts (k+1)=pts.getD k 0):=by show _=_;unfold lastI;rw[if_neg (by omega),Nat.add_sub_cancel]
    obtain⟨z,hzz⟩:∃z,pts.getD k 0=z:=⟨_,rfl⟩
    obtain⟨l,hll⟩:∃z,lastI pts k=z:=⟨_,rfl⟩
    have HP:Hid (risP pts n k↔l<z/\z<(n:Int)):=by show _↔_;unfold risP;rw[hzz,hll]
    rw[hzz]at d0 HL hzi;rw[hll]
    have i1:(0:Int)<=(k:Int):=by omega
    have i2:(k:Int)<(pts.length:Int):=by omega
    clear hzz hll
    by_cases h1:l<z
    . have g1:¬z<=l:=by omega
      have g1b:decide (z<=l)=false:=decide_eq_false g1
      by_cases h2:z<(n:Int)
      . have g2:decide (z ≥ (n:Int))=false:=decide_eq_false (by omega)
        have zea:Hid (∀j,j<k+1->risP pts n j):=za4 HOK.out (HP.out.2 ⟨h1,h2⟩)
        clear HOK HP;go_wp2
        go_roundw
        case rel=>exact⟨k+1,by omega,by go_num,by rw[HL.out],zea.out,trivial⟩
        case measure=>simp[intOf];omega
      . have g2:decide (z ≥ (n:Int))=true:=decide_eq_true (by omega)
        have HF:Hid (risB pts n=false):=zii hkn (fun h=>h2 (HP.out.1 h).2)
        clear HOK HP;go_wp2
        go_ret
        exact⟨zaa HF.out.symm,rfl⟩
    . have g1:z<=l:=by omega
      have g1b:decide (z<=l)=true:=decide_eq_true g1
      have HF:Hid (risB pts n=false):=zii hkn (fun h=>h1 (HP.out.1 h).1)
      clear HOK HP;go_wp2
      go_ret
      exact⟨zaa HF.out.symm,rfl⟩
  . obtain rfl:k=pts.length:=by omega
    have HF:Hid (risB pts n=true):=zih HOK.out
    have g1:¬(pts.length:Int)<(pts.length:Int):=by omega
    clear HOK;go_wp2
    go_ret
    exact⟨zaa HF.out.symm,rfl⟩
theorem zgb(a:OA)(cap:Nat)(r:List Int)(w:World)(h:Ri w a cap r) :
 Calls Tryz.prog 104 #[.slice a r.length cap] w fun e w'=>e=.returned (.bool (r.all fdB))/\w=w':=by
 have k2:=h.lenB
 have HH:Hid (Ri w a cap r):=h
 clear h
 go_enter Tryz.func104,Tryz.ntmps104
 go_wp2
 go_loopw [7] (fun i wr=>∃k:Nat,k<=r.length/\i=.int .i64 k/\(∀j,j<k->fdB (r.getD j 0)=true)/\w=wr) (fun i _=>r.length-(intOf i).toNat)
 case atStart=>exact⟨0,Nat.zero_le _,rfl,(fun j hj=>by omega),rfl⟩
 case round =>
  obtain⟨k,hk,rfl,hok,rfl⟩:=hrel
  have HOK:Hid (∀j,j<k->fdB (r.getD j 0)=true):=hok
  clear hok
  by_cases hkn:k<r.length
  . obtain⟨b,off,ea,hb,d0⟩:=HH.out.at (Below.refl _ _) k hkn
    subst ea
    obtain⟨z,hzz⟩:∃z,r.getD k 0=z:=⟨_,rfl⟩
    have HZ:Hid (r.getD k 0=z):=hzz
    rw[hzz]at d0
    have i1:(0:Int)<=(k:Int):=by omega
    have i2:(k:Int)<(r.length:Int):=by omega
    have hw1:=zf8 z
    have hw2:=zew z
    clear hzz
    cases hf:fdB z with
    | false =>
     have HF:Hid (r.all fdB=false):=zhf hkn (by rw[HZ.out];exact hf)
     rw[hf]at hw2;clear hf HZ HOK;go_wp2
     go_ret
     exact⟨zaa HF.out.symm,rfl⟩
    | true =>
     have zea:Hid (∀j,j<k+1->fdB (r.getD j 0)=true):=za4 HOK.out (by rw[HZ.out];exact hf)
     rw[hf]at hw2;clear hf HZ HOK;go_wp2
     go_roundw
     case rel=>exact⟨k+1,by omega,by go_num,zea.out,trivial⟩
     case measure=>simp[intOf];omega
  . obtain rfl:k=r.length:=by omega
    have HF:Hid (r.all fdB=true):=zet HOK.out
    have g1:¬(r.length:Int)<(r.length:Int):=by omega
    clear HOK;go_wp2
    go_ret
    exact⟨zaa HF.out.symm,rfl⟩
theorem z4m{t:Tu}{n:Nat}(ha:t.al=true):nmB t n=(decide (t.pts.length=0)&&(decide (t.dx.length=n)&&decide (t.dy.length=n))):=by
 unfold nmB
 rw[if_pos ha]
 by_cases h1:t.pts.length=0 <;> by_cases h2:t.dx.length=n <;> by_cases h3:t.dy.length=n <;> simp[h1,h2,h3]
theorem z1h{t:Tu}{n:Nat}(ha:t.al=false):nmB t n=(decide (0<t.pts.length)&&(risB t.pts n&&(decide (t.dx.length=t.pts.length)&&decide (t.dy.length=t.pts.length)))):=by
 unfold nmB
 rw[if_neg (by rw[ha];decide)]
 by_cases h2:t.dx.length=t.pts.length <;> by_cases h3:t.dy.length=t.pts.length <;> simp[h2,h3]
theorem zqa(S:Nat->Prop)(ra:OA)(rc:Nat)(pa:OA)(pc:Nat)(xa:OA)(xc:Nat)(ya:OA)(yc:Nat)(t:Tu)(n:Nat)(w:World)(h:TuC S w ra rc pa pc xa xc ya yc t)(hn:n<=1000000) :
 Calls Tryz.prog 103 #[.agg #[.slice ra t.rg.length rc,.bool t.al,.slice pa t.pts.length pc,.slice xa t.dx.length xc,.slice ya t.dy.length yc],.int .i64 (n:Int)] w fun e w'=>e=.returned (.bool (nmB t n))/\Below w.heap.size w w':=by
 obtain⟨b0,b1,b2,b3⟩:=h.len
 obtain⟨W,hW,X1,hbW⟩:∃W,W=w.alloc (.cells #[.slice ra t.rg.length rc,.bool t.al,.slice pa t.pts.length pc,.slice xa t.dx.length xc,.slice ya t.dy.length yc] 144)/\Bk 144 W w.heap.size [.slice ra t.rg.length rc,.bool t.al,.slice pa t.pts.length pc,.slice xa t.dx.length xc,.slice ya t.dy.length yc]/\Below w.heap.size w W:=⟨_,rfl,Bk.new _ _ _,bl1 _⟩
 obtain⟨p0,p1,p2,p3,p4,_⟩:=X1.five
 have hP:=(h.below hbW).pts
 cases ha:t.al with
 | true =>
  have HE:Hid (_):=z4m (n:=n) ha
  rw[ha]at hW X1 p1;clear ha X1 hP h
  generalize t.pts.length=m at *
  generalize t.dx.length=x at *
  generalize t.dy.length=y at *
  generalize nmB t n=Q at *
  go_enter Tryz.func103,Tryz.ntmps103
  go_upto_region 1 with fail
  rw[<-hW];clear hW
  by_cases h1:m=0
  rotate_left
  . have g1:((m:Int)==0)=false:=beq_eq_false_iff_ne.2 (by omega)
    have HF:Hid (Q=false):=by show _=_;rw[HE.out,decide_eq_false h1];rfl
    clear HE;go_wp2
    go_ret
    exact⟨zaa HF.out.symm,hbW⟩
  have g1:((m:Int)==0)=true:=beq_iff_eq.2 (by omega)
  by_cases h2:x=n
  rotate_left
  . have g2:((x:Int)==(n:Int))=false:=beq_eq_false_iff_ne.2 (by omega)
    have HF:Hid (Q=false):=by show _=_;rw[HE.out,decide_eq_true h1,decide_eq_false h2];rfl
    clear HE h1;go_wp2
    go_ret
    exact⟨zaa HF.out.symm,hbW⟩
  have g2:((x:Int)==(n:Int))=true:=beq_iff_eq.2 (by omega)
  by_cases h3:y=n
  . have g3:((y:Int)==(n:Int))=true:=beq_iff_eq.2 (by omega)
    have HF:Hid (Q=true):=by show _=_;rw[HE.out,decide_eq_true h1,decide_eq_true h2,decide_eq_true h3];rfl
    clear HE h1 h2 h3;go_wp2
    go_ret
    exact⟨zaa HF.out.symm,hbW⟩
  . have g3:((y:Int)==(n:Int))=false:=beq_eq_false_iff_ne.2 (by omega)
    have HF:Hid (Q=false):=by show _=_;rw[HE.out,decide_eq_true h1,decide_eq_true h2,decide_eq_false h3];rfl
    clear HE h1 h2 h3;go_wp2
    go_ret
    exact⟨zaa HF.out.symm,hbW⟩
 | false =>
  have HE:Hid (_):=z1h (n:=n) ha
  have hr:=zlh pa pc t.pts n W hP hn
  rw[ha]at hW X1 p1;clear ha X1 hP h
  generalize risB t.pts n=r at *
  generalize t.pts.length=m at *
  generalize t.dx.length=x at *
  generalize t.dy.length=y at *
  generalize nmB t n=Q at *
  go_enter Tryz.func103,Tryz.ntmps103
  go_upto_region 1 with fail
  rw[<-hW];clear hW
  by_cases h1:0<m
  rotate_left
  . have g1:decide ((m:Int) > 0)=false:=decide_eq_false (by omega)
    have HF:Hid (Q=false):=by show _=_;rw[HE.out,decide_eq_false h1];rfl
    clear HE hr;go_wp2
    go_ret
    exact⟨zaa HF.out.symm,hbW⟩
  have g1:decide ((m:Int) > 0)=true:=decide_eq_true (by omega)
  cases r with
  | false =>
   have HF:Hid (Q=false):=by show _=_;rw[HE.out,decide_eq_true h1];rfl
   clear HE
   go_wp2_with fail
   refine hr.mono ?_
   rintro e u ⟨rfl,rfl⟩;go_wp2
   go_ret
   exact⟨zaa HF.out.symm,hbW⟩
  | true =>
  by_cases h2:x=m
  rotate_left
  . have g2:((x:Int)==(m:Int))=false:=beq_eq_false_iff_ne.2 (by omega)
    have HF:Hid (Q=false):=by show _=_;rw[HE.out,decide_eq_true h1,decide_eq_false h2];rfl
    clear HE
    go_wp2_with fail
    refine hr.mono ?_
    rintro e u ⟨rfl,rfl⟩;go_wp2
    go_ret
    exact⟨zaa HF.out.symm,hbW⟩
  have g2:((x:Int)==(m:Int))=true:=beq_iff_eq.2 (by omega)
  by_cases h3:y=m
  . have g3:((y:Int)==(m:Int))=true:=beq_iff_eq.2 (by omega)
    have HF:Hid (Q=true):=by show _=_;rw[HE.out,decide_eq_true h1,decide_eq_true h2,decide_eq_true h3];rfl
    clear HE h2 h3
    go_wp2_with fail
    refine hr.mono ?_
    rintro e u ⟨rfl,rfl⟩;go_wp2
    go_ret
    exact⟨zaa HF.out.symm,hbW⟩
  . have g3:((y:Int)==(m:Int))=false:=beq_eq_false_iff_ne.2 (by omega)
    have HF:Hid (Q=false):=by show _=_;rw[HE.out,decide_eq_true h1,decide_eq_true h2,decide_eq_false h3];rfl
    clear HE h2 h3
    go_wp2_with fail
    refine hr.mono ?_
    rintro e u ⟨rfl,rfl⟩;go_wp2
    go_ret
    exact⟨zaa HF.out.symm,hbW⟩
theorem foT_1{o:Ol}{l:List Tu}{ax:Int}(h:foB o=false):foT o l ax=false:=by unfold foT;rw[h];rfl
theorem foT_2{o:Ol}{l:List Tu}{ax:Int}(h:¬(0<=ax/\ax<=4)):foT o l ax=false:=by unfold foT;rw[decide_eq_false h];simp
theorem foT_3{o:Ol}{l:List Tu}{ax:Int}(h:¬l.length<=40):foT o l ax=false:=by unfold foT;rw[decide_eq_false h];simp
theorem foT_4{o:Ol}{l:List Tu}{ax:Int}{k:Nat}(hk:k<l.length)(h:tuB (l.getD k Tu.none) (cntO o) ax=false):foT o l ax=false :=
 z5e (fun hc=>by have:=hc.2.2.2 k hk;rw[h]at this;cases this)
theorem zdt(S:Nat->Prop)(a:OA)(ca:Nat)(b:OA)(cb:Nat)(o:Ol)(S2:Nat->Prop)(la:OA)(lc:Nat)(l:List Tu)(ax:Int)(w:World)(hc:Gr PnE.row S w a ca o.cs)(hp:Gr PaE S w b cb o.ps)(hl:Gr TuE S2 w la lc l)(hi:I64 ax) :
 Calls Tryz.prog 58 #[.agg #[.slice a o.cs.length ca,.slice b o.ps.length cb],.slice la l.length lc,.int .i64 ax] w fun e w'=>e=.returned (.bool (foT o l ax))/\Below w.heap.size w w':=by
 have kl:=hl.lenB
 obtain⟨W,hW,X1,hbW⟩:∃W,W=w.alloc (.cells #[.slice a o.cs.length ca,.slice b o.ps.length cb] 57)/\Bk 57 W w.heap.size [.slice a o.cs.length ca,.slice b o.ps.length cb]/\Below w.heap.size w W:=⟨_,rfl,Bk.new _ _ _,bl1 _⟩
 replace hc:=hc.below hbW;replace hp:=hp.below hbW;replace hl:=hl.below hbW;obtain⟨p0,p1,_⟩:=X1.two
 have hf1:=zfa S a ca b cb o W hc hp
 unfold I64 at hi
 obtain⟨Q,hQ⟩:∃q,foT o l ax=q:=⟨_,rfl⟩
 have HQQ:Hid (foT o l ax=Q):=hQ
 rw[hQ];clear hQ
 go_enter Tryz.func58,Tryz.ntmps58
 go_upto_region 1 with fail
 rw[<-hW];clear hW
 cases hfo:foB o with
 | false =>
  have HF:Hid (Q=false):=by show _=_;rw[<-HQQ.out];exact foT_1 hfo
  rw[hfo]at hf1;clear hfo
  go_wp2_with fail
  refine hf1.mono ?_
  rintro e m2 ⟨rfl,hb1⟩
  have zau:=hbW.trans (hb1.mono hbW.size)
  clear hb1 hf1;go_wp2
  go_ret
  exact⟨zaa HF.out.symm,zau⟩
 | true =>
 rw[hfo]at hf1
 have HFO:Hid (foB o=true):=hfo
 have HOL:Hid (o.cs.flatten.length<=100000/\o.ps.length<=100000):=by have:=za1.1 hfo;exact⟨by have:=this.2.2.2.2.1;omega,by have:=this.2.2.1;omega⟩
 have HCN:Hid (cntO o<=86):=zfl hfo
 clear hfo
 go_wp2_with fail
 refine hf1.mono ?_
 rintro e m1 ⟨rfl,hb1⟩;replace hc:=hc.below hb1;replace hp:=hp.below hb1;replace hl:=hl.below hb1;replace X1:=X1.below hb1
 replace hbW:=hbW.trans (hb1.mono hbW.size)
 clear hb1 hf1 p0 p1;obtain⟨p0,p1,_⟩:=X1.two
 by_cases h0:ax<0
 . have g0:decide (ax<0)=true:=decide_eq_true h0
   have HF:Hid (Q=false):=by show _=_;rw[<-HQQ.out];exact foT_2 (by omega)
   go_wp2
   go_ret
   exact⟨zaa HF.out.symm,hbW⟩
 have g0:decide (ax<0)=false:=decide_eq_false h0
 by_cases h4:ax > 4
 . have g4:decide (ax > 4)=true:=decide_eq_true h4
   have HF:Hid (Q=false):=by show _=_;rw[<-HQQ.out];exact foT_2 (by omega)
   go_wp2
   go_ret
   exact⟨zaa HF.out.symm,hbW⟩
 have g4:decide (ax > 4)=false:=decide_eq_false h4
 by_cases h40:l.length<=40
 rotate_left
 . have g5:decide ((l.length:Int) > 40)=true:=decide_eq_true (by omega)
   have HF:Hid (Q=false):=by show _=_;rw[<-HQQ.out];exact foT_3 h40
   clear hl
   generalize l.length=n at *
   go_wp2
   go_ret
   exact⟨zaa HF.out.symm,hbW⟩
 have g5:decide ((l.length:Int) > 40)=false:=decide_eq_false (by omega)
 have HAX:Hid (0<=ax/\ax<=4):=⟨by omega,by omega⟩
 go_wp2_with fail
 refine(zfb S a ca b cb o _ hc hp HOL.out.1 HOL.out.2).mono ?_
 rintro e m2 ⟨rfl,hb1⟩;replace hl:=hl.below hb1
 replace hbW:=hbW.trans (hb1.mono hbW.size)
 clear hb1 p0 p1 X1 hc hp g0 g4 h0 h4
 have HL:Hid (Gr TuE S2 m2 la lc l):=hl
 have HBW:Hid (Below w.heap.size w m2):=hbW
 clear hl hbW
 obtain⟨cn,hcn⟩:∃n,cntO o=n:=⟨_,rfl⟩
 have HCO:Hid (cntO o=cn):=hcn
 rw[hcn]at HCN ⊢;clear hcn
 have HQN:Hid (∀k,k<l.length->tuB (l.getD k Tu.none) cn ax=false->Q=false):=fun k hk h=>by rw[<-HQQ.out];exact foT_4 hk (by rw[HCO.out];exact h)
 have HQY:Hid ((∀k,k<l.length->tuB (l.getD k Tu.none) cn ax=true)->Q=true):=fun h=>by rw[<-HQQ.out];exact zbc.2 ⟨HFO.out,HAX.out,h40,fun k hk=>by rw[HCO.out];exact h k hk⟩
 clear HFO HAX HOL HCO;go_wp2;clear g5
 go_loopw [30] (fun i wr=>∃k:Nat,k<=l.length/\i=.int .i64 k/\(∀j,j<k->tuB (l.getD j Tu.none) cn ax=true)/\Below m2.heap.size m2 wr) (fun i _=>l.length-(intOf i).toNat)
 case atStart=>exact⟨0,Nat.zero_le _,rfl,(fun j hj=>by omega),Below.refl _ _⟩
 case round =>
  obtain⟨k,hk,rfl,hok,hB⟩:=hrel
  have HOK:Hid (∀j,j<k->tuB (l.getD j Tu.none) cn ax=true):=hok
  clear hok
  by_cases hkn:k<l.length
  . obtain⟨b0,off,ra,rc,pa,pc,xa,xc,ya,yc,ea,hb,ht,d0,d1,d2,d3,d4⟩:=HL.out.tu hB k hkn
    subst ea
    have HN:=fun(h:tuB (l.getD k Tu.none) cn ax=false)=>HQN.out k hkn h
    have HY:=fun(h:tuB (l.getD k Tu.none) cn ax=true)=>za4 HOK.out h
    obtain⟨t,htt⟩:∃t,l.getD k Tu.none=t:=⟨_,rfl⟩
    rw[htt]at ht d0 d1 d2 d3 d4 HN HY
    have HY:Hid (tuB t cn ax=true->∀j,j<k+1->tuB (l.getD j Tu.none) cn ax=true):=HY
    have HN:Hid (tuB t cn ax=false->Q=false):=HN
    clear htt HOK
    have i1:(0:Int)<=(k:Int):=by omega
    have i2:(k:Int)<(l.length:Int):=by omega
    obtain⟨V,hV,X0,hb0⟩:∃V,V=wr.alloc (.cells #[.slice ra t.rg.length rc,.bool t.al,.slice pa t.pts.length pc,.slice xa t.dx.length xc,.slice ya t.dy.length yc] 144)/\Bk 144 V wr.heap.size [.slice ra t.rg.length rc,.bool t.al,.slice pa t.pts.length pc,.slice xa t.dx.length xc,.slice ya t.dy.length yc]/\Below wr.heap.size wr V:=⟨_,rfl,Bk.new _ _ _,bl1 _⟩
    replace ht:=ht.below hb0
    replace hB:=hB.trans (hb0.mono hB.size)
    obtain⟨q0,q1,q2,q3,q4,_⟩:=X0.five
    go_upto_region 7 with fail
    rw[<-hV];clear hV d0 d1 d2 d3 d4 hb0
    have c1:=zg7 ra rc t.rg ax V ht.tz
    cases h1:rgB t.rg ax with
    | false =>
     have HF:Hid (Q=false):=HN.out (by unfold tuB;rw[h1];rfl)
     rw[h1]at c1;clear h1 HN HY HQN HQY
     go_wp2_with fail
     refine c1.mono ?_
     rintro e y1 ⟨rfl,hb1⟩
     have zau:=HBW.out.trans ((hB.trans (hb1.mono hB.size)).mono HBW.out.size)
     clear hb1 c1 hB;go_wp2
     go_ret
     exact⟨zaa HF.out.symm,zau⟩
    | true =>
    rw[h1]at c1
    go_wp2_with fail
    refine c1.mono ?_
    rintro e y1 ⟨rfl,hb1⟩;replace ht:=ht.below hb1
    replace hB:=hB.trans (hb1.mono hB.size)
    replace X0:=X0.below hb1;clear q0 q1 q2 q3 q4 hb1 c1;obtain⟨q0,q1,q2,q3,q4,_⟩:=X0.five
    have c1:=zqa S2 ra rc pa pc xa xc ya yc t cn y1 ht (by have:=HCN.out;omega)
    cases h2:nmB t cn with
    | false =>
     have HF:Hid (Q=false):=HN.out (by unfold tuB;rw[h1,h2];rfl)
     rw[h2]at c1;clear h1 h2 HN HY HQN HQY
     go_wp2_with fail
     refine c1.mono ?_
     rintro e y2 ⟨rfl,hb1⟩
     have zau:=HBW.out.trans ((hB.trans (hb1.mono hB.size)).mono HBW.out.size)
     clear hb1 c1 hB;go_wp2
     go_ret
     exact⟨zaa HF.out.symm,zau⟩
    | true =>
    rw[h2]at c1
    go_wp2_with fail
    refine c1.mono ?_
    rintro e y2 ⟨rfl,hb1⟩;replace ht:=ht.below hb1
    replace hB:=hB.trans (hb1.mono hB.size)
    replace X0:=X0.below hb1;clear q0 q1 q2 q3 q4 hb1 c1;obtain⟨q0,q1,q2,q3,q4,_⟩:=X0.five
    have c1:=zgb xa xc t.dx y2 ht.dx
    have c2:=zgb ya yc t.dy y2 ht.dy
    cases h3:t.dx.all fdB with
    | false =>
     have HF:Hid (Q=false):=HN.out (by unfold tuB;rw[h1,h2,h3];rfl)
     rw[h3]at c1;clear h1 h2 h3 HN HY HQN HQY
     go_wp2_with fail
     refine c1.mono ?_
     rintro e y3 ⟨rfl,rfl⟩
     have zau:=HBW.out.trans (hB.mono HBW.out.size)
     clear c1 hB;go_wp2
     go_ret
     exact⟨zaa HF.out.symm,zau⟩
    | true =>
    rw[h3]at c1
    go_wp2_with fail
    refine c1.mono ?_
    rintro e y3 ⟨rfl,rfl⟩;clear c1
    cases h5:t.dy.all fdB with
    | false =>
     have HF:Hid (Q=false):=HN.out (by unfold tuB;rw[h1,h2,h3,h5];rfl)
     rw[h5]at c2;clear h1 h2 h3 h5 HN HY HQN HQY
     go_wp2_with fail
     refine c2.mono ?_
     rintro e y3 ⟨rfl,rfl⟩
     have zau:=HBW.out.trans (hB.mono HBW.out.size)
     clear c2 hB;go_wp2
     go_ret
     exact⟨zaa HF.out.symm,zau⟩
    | true =>
    rw[h5]at c2
    have HY2:Hid (∀j,j<k+1->tuB (l.getD j Tu.none) cn ax=true):=HY.out (by unfold tuB;rw[h1,h2,h3,h5];rfl)
    have HB2:Hid (Below m2.heap.size m2 y2):=hB
    clear h1 h2 h3 h5 HN HY HQN HQY hB
    go_wp2_with fail
    refine c2.mono ?_
    rintro e y3 ⟨rfl,rfl⟩;clear c2;go_wp2
    go_roundw
    case rel=>exact⟨k+1,by omega,by go_num,HY2.out,HB2.out⟩
    case measure=>simp[intOf];omega
  . obtain rfl:k=l.length:=by omega
    have g9:¬(l.length:Int)<(l.length:Int):=by omega
    have HF:Hid (Q=true):=HQY.out HOK.out
    have zau:=HBW.out.trans (hB.mono HBW.out.size)
    clear HOK HQN HQY;go_wp2
    go_ret
    exact⟨zaa HF.out.symm,zau⟩
theorem zwz(T:List (List Rat)):T.map suQ=(List.range T.length).map (fun j=>suQ (T.getD j [])):=by
 refine List.ext_getElem (by simp) (fun j h1 h2=>?_)
 have hj:j<T.length:=by simpa using h1
 simp[List.getD,hj]
theorem z1v{n:Nat}(h:n<=41):lmb n<=900:=by unfold lmb;split <;> omega
theorem zj0(B:Nat->Prop)(v:Value)(T:List (List Rat))(w:World)(h:Rr B w v 20 T)(hl:T.length<=1000)(h1:∀i,i<T.length->1<=(T.getD i []).length/\(T.getD i []).length<=41) :
 Calls Tryz.prog 182 #[v] w fun e w'=>∃a' c',e=.returned (.slice a' (T.map suQ).length c')/\Rg w.heap.size w' a' c' 900 (T.map suQ)/\Below w.heap.size w w':=by
 obtain⟨va,vc,rfl,hv1,hv2⟩:=h.slice
 have HH:Hid (Rr B w (.slice va T.length vc) 20 T):=h
 have H1:Hid (∀i,i<T.length->1<=(T.getD i []).length/\(T.getD i []).length<=41):=h1
 rw[zwz]
 obtain⟨n,hnn⟩:∃n,T.length=n:=⟨_,rfl⟩
 have HL:Hid (T.length=n):=hnn
 rw[hnn]at hl hv1 ⊢
 unfold maxLen at hv2
 clear hnn h h1
 obtain⟨i0,hi0,hz0,hz1,hz2⟩:=info_parts zch
 have hmk:=run_make (P:=Tryz.prog) w 173 125 i0 rtZ Tryz.underlying173 hi0 hz0 .i64 .i64 0 (n:Int) (by omega) (by omega) (by rw[hz2];omega) (by omega)
 rw[hz1]at hmk
 simp only[Int.toNat_zero,Int.toNat_natCast]at hmk
 obtain⟨w1,hw1⟩:∃w1,w.alloc (.cells (madeCells rtZ.cells (n*3)) 125)=w1:=⟨_,rfl⟩
 have hI0:Ro 125 w.heap.size w1 (.slice (some ⟨w.heap.size,0,none⟩) 0 n) 900 ((List.range 0).map (fun j=>suQ (T.getD j []))):=by
  refine⟨[],?_,fun g hg=>?_,fun i hi=>by simp at hi⟩
  . rw[<-hw1]
    have:=World.ownsRow_made (base:=w.heap.size) (e:=125) (size:=3) w (madeCells rtZ.cells (n*3)) n (Nat.le_refl _) (by unfold maxLen;omega) (size_madeCells _ _)
    simpa using this
  . simp[Value.ownBlock]at hg
    subst hg;rw[<-hw1]
    exact NoI.of (heap_alloc_new w _) (zie _)
 have zob:Below w.heap.size w w1:=by rw[<-hw1];exact bl1 _
 rw[hw1]at hmk;clear hw1 hi0 hz0 hz1 hz2
 go_enter Tryz.func182,Tryz.ntmps182
 go_wp2
 go_loopw [3,11] (fun v i wr=>∃k:Nat,k<=n/\i=.int .i64 k/\Ro 125 w.heap.size wr v 900 ((List.range k).map (fun j=>suQ (T.getD j [])))/\Below w.heap.size w wr) (fun _ i _=>n-(intOf i).toNat)
 case atStart=>exact⟨0,Nat.zero_le _,rfl,hI0,zob⟩
 case round =>
  obtain⟨k,hk,rfl,hT,hB⟩:=hrel;obtain⟨a2,c2,rfl,hts⟩:=hT.rg
  have hlen:((List.range k).map (fun j=>suQ (T.getD j []))).length=k:=by simp
  have HLN:Hid (((List.range k).map (fun j=>suQ (T.getD j []))).length=k):=hlen
  rw[hlen]at hT ⊢
  have HT2:Hid (Ro 125 w.heap.size wr (.slice a2 k c2) 900 ((List.range k).map (fun j=>suQ (T.getD j [])))):=hT
  have HTS:Hid (Rg w.heap.size wr a2 c2 900 ((List.range k).map (fun j=>suQ (T.getD j [])))):=hts
  clear hT hts hmk hI0 zob
  have hsz:=hB.size
  by_cases hkn:k<n
  . obtain⟨g,cap,u,ea,hg,_,_,_,d0,_,hu,_⟩:=(HH.out.below hB).at k (by rw[HL.out];exact hkn)
    injection ea with ea _ ec;subst ea ec;obtain⟨ua,uc,rfl,hrf⟩:=hu.rf
    obtain⟨n1,n2⟩:=H1.out k (by rw[HL.out];exact hkn)
    have HS:Hid (_):=zij (fun j=>suQ (T.getD j [])) k
    obtain⟨qs,hqs⟩:∃q,T.getD k []=q:=⟨_,rfl⟩
    rw[hqs]at d0 hrf n1 n2 HS
    have hsu:=zva qs.length ua uc qs wr rfl n1 (by omega) hrf.1
    have hlm:=z1v n2
    have i1:(0:Int)<=(k:Int):=by omega
    have i2:(k:Int)<(n:Int):=by omega
    generalize (List.range k).map (fun j=>suQ (T.getD j []))=L at *
    generalize suQ qs=z at *
    generalize lmb qs.length=lm at *
    generalize qs.length=ql at *
    clear hqs hrf hu
    go_wp2_with fail
    refine hsu.mono ?_
    rintro e u1 ⟨v1,rfl,hF1,hb1⟩;obtain⟨z1,x1,x2,x3,x4,x5,x6,rfl⟩:=hF1.cells3'
    obtain⟨V,hV,B4,hb4⟩:∃V,V=u1.alloc (.cells #[.bool z1,.slice x1 x2 x3,.slice x4 x5 x6] 125)/\Box 125 V u1.heap.size (.bool z1) (.slice x1 x2 x3) (.slice x4 x5 x6)/\Below u1.heap.size u1 V:=⟨_,rfl,Box.new _ _ _ _ _,bl1 _⟩
    have hbv:Below wr.heap.size wr V:=hb1.trans (hb4.mono hb1.size)
    obtain⟨r0,r1,r2,_⟩:=B4.cells
    have zba:=Rz.one B4.lt r0 r1 r2 ((hF1.below hb4).le hlm)
    have hown:=HT2.out.below hbv
    have hll:L.length+[z].length<=1000000:=by rw[hlen];simp;omega
    have hbs:w.heap.size<=V.heap.size:=Nat.le_trans hsz hbv.size
    have hBV:Below w.heap.size w V:=hB.trans (hbv.mono hsz)
    have z4x:∀g,(Value.slice a2 k c2).ownBlock=some g->w.heap.size<=g:=fun g hg=>(HT2.out.lo hg).1
    clear hF1 hb1 hb4 hbv B4 r0 r1 r2 hsu
    go_wp2_with (at_builtin;rw[<-hV];refine zbp 173 125 Tryz.underlying173 zch rfl _ _ rfl w.heap.size (.slice a2 k c2) 900 _ _ rfl hown _ 1 1 rfl rfl zba (fun e=>by cases e) (fun ad e=>by cases e;exact⟨_,_,rfl⟩) hll hbs ?_)
    intro v9 w9 hT9 hgrow _
    rw[<-hV]at hgrow
    have hB9:Below w.heap.size w w9:=hBV.grown hgrow hbs z4x
    rw[<-HS.out]at hT9;clear hgrow hbs hll HS zba hown hV;go_wp2
    go_roundw
    case rel=>exact⟨k+1,by omega,by go_num,hT9,hB9⟩
    case measure=>simp[intOf];omega
  . obtain rfl:k=n:=by omega
    have g4:¬(k:Int)<(k:Int):=by omega
    go_wp2
    go_ret
    exact⟨a2,c2,rfl,HTS.out,hB⟩
theorem Gi.mk0(w:World)(n:Nat)(hn:n<=1000000):Gi w.heap.size (w.alloc (.cells (madeCells #[.int .i64 0] n) 3)) (.slice (some ⟨w.heap.size,0,none⟩) 0 n) []:=by
 refine Gw.made ?_
 have:=World.ownsRow_made (base:=w.heap.size) (e:=3) (size:=1) w (madeCells #[.int .i64 0] n) n (Nat.le_refl _) (by unfold maxLen;omega) (by rw[size_madeCells];omega)
 have h2:(w.alloc (.cells (madeCells #[.int .i64 0] n) 3)).ownsRow w.heap.size 3 1 (.slice (some ⟨w.heap.size,0,none⟩) 0 n) 0 []:=by simpa using this
 exact h2
theorem zo7(S:Nat->Prop)(ra:OA)(rc:Nat)(pa:OA)(pc:Nat)(xa:OA)(xc:Nat)(ya:OA)(yc:Nat)(t:Tu)(w:World)(h:TuC S w ra rc pa pc xa xc ya yc t)(hn:t.dx.length<=100000) :
 Calls Tryz.prog 180 #[.agg #[.slice ra t.rg.length rc,.bool t.al,.slice pa t.pts.length pc,.slice xa t.dx.length xc,.slice ya t.dy.length yc]] w fun e w'=>∃a c,e=.returned (.slice a (nmd t).length c)/\Ri w' a c (nmd t)/\Below w.heap.size w w':=by
 obtain⟨W,hW,X1,hbW⟩:∃W,W=w.alloc (.cells #[.slice ra t.rg.length rc,.bool t.al,.slice pa t.pts.length pc,.slice xa t.dx.length xc,.slice ya t.dy.length yc] 144)/\Bk 144 W w.heap.size [.slice ra t.rg.length rc,.bool t.al,.slice pa t.pts.length pc,.slice xa t.dx.length xc,.slice ya t.dy.length yc]/\Below w.heap.size w W:=⟨_,rfl,Bk.new _ _ _,bl1 _⟩
 have hP:=(h.below hbW).pts
 cases ha:t.al with
 | false =>
  have HE:Hid (nmd t=t.pts):=by show _=_;unfold nmd;rw[if_neg (by rw[ha];decide)]
  rw[ha]at hW X1;obtain⟨p0,p1,p2,p3,p4,_⟩:=X1.five;rw[HE.out];clear ha X1 h
  generalize t.pts=pts at *
  go_enter Tryz.func180,Tryz.ntmps180
  go_upto_region 1 with fail
  rw[<-hW];clear hW;go_wp2
  go_ret
  exact⟨pa,pc,rfl,hP,hbW⟩
 | true =>
  have HE:Hid (nmd t=allI t.dx.length):=by show _=_;unfold nmd;rw[if_pos ha]
  rw[ha]at hW X1;obtain⟨p0,p1,p2,p3,p4,_⟩:=X1.five;rw[HE.out];clear ha h hP
  generalize t.dx.length=n at *
  obtain⟨i0,hi0,hz0,hz1,hz2⟩:=info_parts zcc
  have hmk:=run_make (P:=Tryz.prog) W 29 3 i0 (.int .i64 0) Tryz.underlying29 hi0 hz0 .i64 .i64 0 (n:Int) (by omega) (by omega) (by rw[hz2];omega) (by omega)
  rw[hz1]at hmk
  simp only[Int.toNat_zero,Int.toNat_natCast,Nat.mul_one]at hmk
  have hI0:=Gi.mk0 W n (by omega)
  have hB0:Below W.heap.size W (W.alloc (.cells (madeCells #[.int .i64 0] n) 3)):=bl1 _
  replace hmk:(Instr.makeSlice 29 (.int .i64 0) (.int .i64 (n:Int))).run Tryz.prog W=.ok (.slice (some ⟨W.heap.size,0,none⟩) 0 n) (W.alloc (.cells (madeCells #[.int .i64 0] n) 3)):=hmk
  generalize W.alloc (.cells (madeCells #[.int .i64 0] n) 3)=w1 at *
  have X2:=X1.below hB0
  obtain⟨q0,q1,q2,q3,q4,_⟩:=X2.five;clear hi0 hz0 hz1 hz2 X1
  go_enter Tryz.func180,Tryz.ntmps180
  go_upto_region 1 with fail
  rw[<-hW];clear hW;go_wp2
  go_loopw [3,17] (fun v i wr=>∃k:Nat,k<=n/\i=.int .i64 k/\Gi W.heap.size wr v (allI k)/\Below W.heap.size W wr) (fun _ i _=>n-(intOf i).toNat)
  case atStart=>exact⟨0,Nat.zero_le _,rfl,hI0,hB0⟩
  case round =>
   clear hI0 hB0 hmk X2 q0 q1 q2 q3 q4 p0 p1 p2 p3 p4;obtain⟨k,hk,rfl,hT,hB⟩:=hrel
   have hlen:=zjt k
   have HLN:Hid ((allI k).length=k):=hlen
   have HT2:Hid (Gi W.heap.size wr u3 (allI k)):=hT
   clear hT
   by_cases hkn:k<n
   . have i1:(0:Int)<=(k:Int):=by omega
     have i2:(k:Int)<(n:Int):=by omega
     have HS:Hid (allI (k+1)=allI k++[(k:Int)]):=zuq k
     obtain⟨V,hV,c1,hbV,hlV⟩:∃V,V=wr.alloc (.cells #[.int .i64 (k:Int)] 3)/\V.cell? ⟨wr.heap.size,0,none⟩=some (.int .i64 (k:Int))/\Below wr.heap.size wr V/\wr.heap.size<V.heap.size:=⟨_,rfl,cell_of_row _ _ 0 _ _ (0,0) (heap_alloc_new _ _),bl1 _,by simp⟩
     have hown:=HT2.out.below hbV
     have hll:(allI k).length+1<=1000000:=by omega
     have hbs:W.heap.size<=V.heap.size:=Nat.le_trans hB.size hbV.size
     have hBV:Below W.heap.size W V:=hB.trans (hbV.mono hB.size)
     have hki:I64 (k:Int):=by unfold I64;omega
     generalize allI k=L at *
     clear hlen
     go_wp2_with (at_builtin;rw[<-hV];refine zaf rfl _ _ rfl W.heap.size u3 L rfl hown wr.heap.size (k:Int) rfl hlV c1 hki hll hbs ?_)
     intro v9 w9 hT9 hgrow _
     rw[<-hV]at hgrow
     have hB9:Below W.heap.size W w9:=hBV.grown hgrow hbs (fun g hg=>(hown.lo hg).1)
     rw[<-HS.out]at hT9;clear hgrow hbs hll HS hown hV c1 hlV;go_wp2
     go_roundw
     case rel=>exact⟨k+1,by omega,by go_num,hT9,hB9⟩
     case measure=>simp[intOf];omega
   . obtain rfl:k=n:=by omega
     have g4:¬(k:Int)<(k:Int):=by omega
     obtain⟨aa,cc,rfl,hra,-⟩:=HT2.out.slice
     have HRA:Hid (Ri wr aa cc (allI k)):=hra
     have zau:=hbW.trans (hB.mono hbW.size)
     clear hra HT2;go_wp2
     go_ret
     exact⟨aa,cc,rfl,HRA.out,zau⟩
theorem z1q(qs:List Rat):qs.map rnN=(List.range qs.length).map (fun j=>rnN (qs.getD j 0)):=by
 refine List.ext_getElem (by simp) (fun j h1 h2=>?_)
 have hj:j<qs.length:=by simpa using h1
 simp[List.getD,hj]
theorem zfe(a:OA)(ca:Nat)(qs:List Rat)(w:World)(h:Rz w a ca 900 qs)(hl:qs.length<=1000) :
 Calls Tryz.prog 119 #[.slice a qs.length ca] w fun e w'=>∃a' c',e=.returned (.tuple #[.slice a' (rnL qs).length c',.int .i64 (rnE qs)])/\Ri w' a' c' (rnL qs)/\Below w.heap.size w w':=by
 have HH:Hid (Rz w a ca 900 qs):=h
 have hcap:=h.1
 have HNO:Hid (∀k,k<qs.length->fldE (qs.getD k 0+1/2).floor=4->rnL qs=[]/\rnE qs=4):=fun k hk h4=>by
  have:=z39 hk (by rw[h4];decide)
  unfold rnL rnE
  rw[this]
  exact⟨rfl,rfl⟩
 have HYE:Hid ((∀k,k<qs.length->fldE (qs.getD k 0+1/2).floor=0)->rnL qs=(List.range qs.length).map (fun j=>rnN (qs.getD j 0))/\rnE qs=0):=fun h0=>by
  have:=z0t h0
  unfold rnL rnE
  rw[this,<-z1q]
  exact⟨rfl,rfl⟩
 obtain⟨n,hnn⟩:∃n,qs.length=n:=⟨_,rfl⟩
 have HL:Hid (qs.length=n):=hnn
 rw[hnn]at hl hcap HNO HYE ⊢;clear hnn h
 generalize rnL qs=RL at *
 generalize rnE qs=RE at *
 obtain⟨i0,hi0,hz0,hz1,hz2⟩:=info_parts zcc
 have hmk:=run_make (P:=Tryz.prog) w 29 3 i0 (.int .i64 0) Tryz.underlying29 hi0 hz0 .i64 .i64 0 (n:Int) (by omega) (by omega) (by rw[hz2];omega) (by omega)
 rw[hz1]at hmk
 simp only[Int.toNat_zero,Int.toNat_natCast,Nat.mul_one]at hmk
 have hI0:=Gi.mk0 w n (by omega)
 have hB0:Below w.heap.size w (w.alloc (.cells (madeCells #[.int .i64 0] n) 3)):=bl1 _
 replace hmk:(Instr.makeSlice 29 (.int .i64 0) (.int .i64 (n:Int))).run Tryz.prog w=.ok (.slice (some ⟨w.heap.size,0,none⟩) 0 n) (w.alloc (.cells (madeCells #[.int .i64 0] n) 3)):=hmk
 generalize w.alloc (.cells (madeCells #[.int .i64 0] n) 3)=w1 at *
 clear hi0 hz0 hz1 hz2
 go_enter Tryz.func119,Tryz.ntmps119
 go_wp2
 go_loopw [4,14] (fun v i wr=>∃k:Nat,k<=n/\i=.int .i64 k/\(∀j,j<k->fldE (qs.getD j 0+1/2).floor=0)/\Gi w.heap.size wr v ((List.range k).map (fun j=>rnN (qs.getD j 0)))/\Below w.heap.size w wr) (fun _ i _=>n-(intOf i).toNat)
 case atStart=>exact⟨0,Nat.zero_le _,rfl,(fun j hj=>by omega),hI0,hB0⟩
 case round =>
  clear hI0 hB0 hmk;obtain⟨k,hk,rfl,hok,hT,hB⟩:=hrel
  have HOK:Hid (∀j,j<k->fldE (qs.getD j 0+1/2).floor=0):=hok
  have HLN:Hid (((List.range k).map (fun j=>rnN (qs.getD j 0))).length=k):=by show _=_;simp
  have HT2:Hid (Gi w.heap.size wr u4 ((List.range k).map (fun j=>rnN (qs.getD j 0)))):=hT
  clear hT hok
  by_cases hkn:k<n
  . obtain⟨b,off,x,y,z,ea,hb,d0,d1,d2,hFj⟩:=HH.out.at hB k (by rw[HL.out];exact hkn)
    subst ea
    have HS:Hid (_):=zij (fun j=>rnN (qs.getD j 0)) k
    have HN:=HNO.out k hkn
    have hr1:=zrq (qs.getD k 0)
    have HU:=fun(h0:fldE (qs.getD k 0+1/2).floor=0)=>za4 HOK.out h0
    have h04:=zxs (qs.getD k 0+1/2).floor
    have hrn:fldN (qs.getD k 0+1/2).floor=rnN (qs.getD k 0):=rfl
    obtain⟨q,hq⟩:∃q,qs.getD k 0=q:=⟨_,rfl⟩
    rw[hq]at hFj HS HN hr1 HU h04 hrn;obtain⟨n9,y1,y2,y3,y4,y5,y6,e9⟩:=hFj.cells3'
    simp only[Value.agg.injEq,Array.mk.injEq,List.cons.injEq,and_true]at e9
    obtain⟨rfl,rfl,rfl⟩:=e9
    obtain⟨V,hV,B4,hb4⟩:∃V,V=wr.alloc (.cells #[.bool n9,.slice y1 y2 y3,.slice y4 y5 y6] 125)/\Box 125 V wr.heap.size (.bool n9) (.slice y1 y2 y3) (.slice y4 y5 y6)/\Below wr.heap.size wr V:=⟨_,rfl,Box.new _ _ _ _ _,bl1 _⟩
    have hfi:=ztu 900 q _ V (hFj.below hb4).ct (by decide) (by decide)
    rw[hrn]at hfi;obtain⟨r0,r1,r2,_⟩:=B4.cells
    have hBV:Below w.heap.size w V:=hB.trans (hb4.mono hB.size)
    have i1:(0:Int)<=(k:Int):=by omega
    have i2:(k:Int)<(n:Int):=by omega
    generalize (List.range k).map (fun j=>rnN (qs.getD j 0))=L at *
    generalize rnN q=z at *
    have HN:Hid (fldE (q+1/2).floor=4->RL=[]/\RE=4):=HN
    have HU:Hid (fldE (q+1/2).floor=0->∀j,j<k+1->fldE (qs.getD j 0+1/2).floor=0):=HU
    generalize fldE (q+1/2).floor=E at *
    have hown:=HT2.out.below hb4
    clear hq hrn hFj HT2
    go_upto_region 5 with fail
    rw[<-hV];clear hV d0 d1 d2 hb4
    go_wp2_with fail
    refine hfi.mono ?_
    rintro e m1 ⟨rfl,hb1⟩
    replace hBV:=hBV.trans (hb1.mono hBV.size)
    replace hown:=hown.below hb1;clear hb1 hfi r0 r1 r2
    rcases h04 with rfl|rfl
    . have HU2:Hid (∀j,j<k+1->fldE (qs.getD j 0+1/2).floor=0):=HU.out rfl
      obtain⟨V2,hV2,c1,hbV,hlV⟩:∃V,V=m1.alloc (.cells #[.int .i64 z] 3)/\V.cell? ⟨m1.heap.size,0,none⟩=some (.int .i64 z)/\Below m1.heap.size m1 V/\m1.heap.size<V.heap.size:=⟨_,rfl,cell_of_row _ _ 0 _ _ (0,0) (heap_alloc_new _ _),bl1 _,by simp⟩
      replace hown:=hown.below hbV
      have hll:L.length+1<=1000000:=by have:=HLN.out;omega
      have hbs:w.heap.size<=V2.heap.size:=Nat.le_trans hBV.size hbV.size
      replace hBV:Below w.heap.size w V2:=hBV.trans (hbV.mono hBV.size)
      have hki:I64 z:=by unfold I64;omega
      clear HU HN
      go_wp2_with (at_builtin;rw[<-hV2];refine zaf rfl _ _ rfl w.heap.size u4 L rfl hown m1.heap.size z rfl hlV c1 hki hll hbs ?_)
      intro v9 w9 hT9 hgrow _
      rw[<-hV2]at hgrow
      have hB9:Below w.heap.size w w9:=hBV.grown hgrow hbs (fun g hg=>(hown.lo hg).1)
      rw[<-HS.out]at hT9;clear hgrow hbs hll HS hown hV2 c1 hlV;go_wp2
      go_roundw
      case rel=>exact⟨k+1,by omega,by go_num,HU2.out,hT9,hB9⟩
      case measure=>simp[intOf];omega
    . have HF:Hid (RL=[]/\RE=4):=HN.out rfl
      clear HU HN;go_wp2
      go_ret2
      exact⟨none,0,by rw[HF.out.1,HF.out.2];rfl,by rw[HF.out.1];exact Gr.ri (Gr.nil El.int (fun _=>True) _ none 0 (Nat.zero_le _) (fun _=>rfl)),hBV⟩
  . obtain rfl:k=n:=by omega
    have g4:¬(k:Int)<(k:Int):=by omega
    obtain⟨aa,cc,rfl,hra,-⟩:=HT2.out.slice
    have HF:Hid (_):=HYE.out HOK.out
    have HRA:Hid (Ri wr aa cc RL):=by show Ri _ _ _ _;rw[HF.out.1];exact hra
    have HE2:Hid ((List.range k).map (fun j=>rnN (qs.getD j 0))=RL):=HF.out.1.symm
    have HE3:Hid (RE=0):=HF.out.2
    clear hra HT2 HF HYE HNO HOK
    generalize (List.range k).map (fun j=>rnN (qs.getD j 0))=L at *
    go_wp2
    go_ret2
    exact⟨aa,cc,by rw[HE3.out,<-HE2.out];rfl,HRA.out,hB⟩
