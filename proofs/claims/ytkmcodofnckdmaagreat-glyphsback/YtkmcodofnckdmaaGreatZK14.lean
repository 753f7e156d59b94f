import Derived.Test.YtkmcodofnckdmaaGreatZK13
set_option maxHeartbeats 8000000
set_option maxRecDepth 100000
set_option linter.unusedSimpArgs false
set_option linter.unusedVariables false
namespace Go.Proofs.YtkmcodofnckdmaaGreat
theorem zxt{f:Int->Option Nat}{ps:List Pa}{k:Nat}(hk:k<ps.length):dqs f (ps.take (k+1))=(dqs f (ps.take k)).bind fun e=>(f (ps.getD k Pa.none).g).bind fun d=>some (max e (d+1)):=by
 rw[<-zxu]
 congr 1
 rw[List.take_add_one,List.getElem?_eq_getElem hk]
 simp[List.getD,hk]
def szK(l:List Gl)(x:Gl)(k:Nat):Nat:=ptn x+sqs (sq l 6) (x.o.ps.take k)
theorem zvd(l:List Gl)(x:Gl):szK l x 0=ptn x:=by unfold szK;rw[List.take_zero];rfl
theorem zve{l:List Gl}{x:Gl}{k:Nat}(hk:k<x.o.ps.length):szK l x (k+1)=szK l x k+sq l 6 (x.o.ps.getD k Pa.none).g:=by
 unfold szK
 have e:x.o.ps.take (k+1)=x.o.ps.take k++[x.o.ps.getD k Pa.none]:=by
  rw[List.take_add_one,List.getElem?_eq_getElem hk]
  simp[List.getD,hk]
 rw[e,zvk]
 omega
theorem zz9{l:List Gl}{g:Int}{d:Nat}{x:Gl}(hx:gAt l g=some x)(h:dq l 6 g=some d):szK l x x.o.ps.length=sq l 6 g:=by
 unfold szK
 rw[List.take_length,sq_at hx]
 congr 1
 refine zj4 (fun p hp=>?_)
 obtain⟨e,h1,h2⟩:=ze8 h hx p hp
 have:=dq_le h
 show sq l 6 p.g=sq l 5 p.g
 exact(zgl h1 (by omega)).trans (zgl h1 (by omega)).symm
theorem zq7{l:List Gl}{g:Int}{d:Nat}(h:dq l 6 g=some d):szG l g=cap (sq l 6 g):=zm6 h
open Go.RowKit Go.Maps
def KnG(l:List Gl)(F:Int->Option Value):Prop:=∀j v,F j=some v->∃d:Nat,dq l 6 j=some d/\v=.agg #[.int .i64 (d:Int),.int .i64 ((szG l j:Nat):Int)]
theorem KnG.nil(l:List Gl):KnG l (fun _=>none):=fun j v e=>by cases e
theorem KnG.put{l:List Gl}{F:Int->Option Value}(h:KnG l F){g:Int}{d:Nat}(hd:dq l 6 g=some d):KnG l (Fup F g (.agg #[.int .i64 (d:Int),.int .i64 ((szG l g:Nat):Int)])):=by
 intro j v e
 unfold Fup at e
 by_cases hj:j=g
 . rw[if_pos hj]at e
   subst hj
   exact⟨d,hd,(Option.some.inj e).symm⟩
 . rw[if_neg hj]at e
   exact h j v e
def tk:Nat->Nat
 | 0=>0
 | d+1=>1+12*tk d
theorem tk_le:∀ {d:Nat},d<=7->tk d<=4000000:=by
 intro d hd
 have h7:tk 7<=4000000:=by decide
 have mono:∀a b,a<=b->tk a<=tk b:=by
  intro a b h
  induction b with
  | zero=>rw[show a=0 by omega];exact Nat.le_refl _
  | succ b ih =>
   by_cases e:a=b+1
   . rw[e];exact Nat.le_refl _
   . have:=ih (by omega)
     show tk a<=1+12*tk b
     omega
 exact Nat.le_trans (mono d 7 hd) h7
structure OfP(l:List Gl)(m:Nat)(g:Int)(lv d n:Nat)(w:World)(e:Ending)(w':World):Prop where
 ans:(∃k:Nat,dq l 6 g=some k/\e=.returned (.tuple #[.agg #[.int .i64 (k:Int),.int .i64 ((szG l g:Nat):Int)],.bool true]))\/((∀k,dq l 6 g=some k->6<k+lv)/\e=.returned (.tuple #[.agg #[.int .i64 0,.int .i64 0],.bool false]))
 mp:∃n' F',Mp w' m n' F'/\KnG l F'/\n'<=n+tk d
 kp:Kp m w w'
theorem Mp.set2{w:World}{b n:Nat}{F:Int->Option Value}(h:Mp w b n F){g:Nat}(x y:Value)(hg:b≠g):Mp ((w.setCell ⟨g,0,none⟩ x).setCell ⟨g,1,none⟩ y) b n F:=h.stay (zac x y hg)
theorem Kp.set2{m:Nat}{a w:World}(h:Kp m a w){g:Nat}(x y:Value)(hg:a.heap.size<=g):Kp m a ((w.setCell ⟨g,0,none⟩ x).setCell ⟨g,1,none⟩ y) :=
 Keep.trans h ⟨rfl,rfl,rfl,by simp[World.setCell],fun k hk=>zac x y (by have:=hk.1;omega)⟩
theorem zxv{l:List Gl}{ps:List Pa}{k e d:Nat}(hk:k<ps.length)(h:dqs (dq l 6) (ps.take k)=some e)(hd:dq l 6 (ps.getD k Pa.none).g=some d):dqs (dq l 6) (ps.take (k+1))=some (max e (d+1)):=by
 rw[zxt hk,h,Option.bind_some,hd]
 rfl
theorem zoo{l:List Gl}{g:Int}{x:Gl}{e:Nat}(hx:gAt l g=some x)(h:dqs (dq l 6) x.o.ps=some e):(e<=6->dq l 6 g=some e)/\(6<e->dq l 6 g=none):=by
 have h7:dq l 7 g=some e:=zbg.2 ⟨x,hx,h⟩
 have h6:=dq_at (m:=6) h7
 exact⟨fun he=>by rw[h6,if_pos he],fun he=>by rw[h6,if_neg (by omega)]⟩
theorem z4g{l:List Gl}{g:Int}{x:Gl}{lv:Nat}{p:Pa}(hx:gAt l g=some x)(hp:p∈x.o.ps)(h:∀k,dq l 6 p.g=some k->6<k+(lv+1)):∀k,dq l 6 g=some k->6<k+lv:=by
 intro k hk
 obtain⟨e,h1,h2⟩:=ze8 hk hx p hp
 have:=dq_le hk
 have:=h e (ze9 h1 (by omega))
 omega
theorem ztd(w0:World)(S:Nat->Prop)(a:OA)(ca:Nat)(l:List Gl)(hl:Gr GlE S w0 a ca l)(hps:∀x∈l,x.o.ps.length<=12)(sb m:Nat)(hm0:w0.heap.size<=m)(hsm:sb≠m) :
 ∀(d lv:Nat),lv+d=7->∀(g:Int) (n:Nat) (F:Int->Option Value) (w:World),I64 g->n+tk d<=500000000000->Below w0.heap.size w0 w->Bk 119 w sb [.slice a l.length ca,.map (some m)]->Mp w m n F->KnG l F ->
     Calls Tryz.prog 32 #[.pointer (some ⟨sb,0,none⟩),.int .i64 g,.int .i64 (lv:Int)] w fun e w'=>OfP l m g lv d n w e w':=by
 intro d
 induction d with
 | zero =>
  intro lv hlv g n F w hg hn hb hS hM hK
  obtain rfl:lv=7:=by omega
  obtain⟨W,hW,X0,hbW⟩:∃W,W=w.alloc (.cells #[.int .i64 0,.int .i64 0] 71)/\Bk 71 W w.heap.size [.int .i64 0,.int .i64 0]/\Below w.heap.size w W:=⟨_,rfl,Bk.new _ _ _,bl1 _⟩
  have hlt:=hM.lt
  have zau:OfP l m g 7 0 n w (.returned (.tuple #[.agg #[.int .i64 0,.int .i64 0],.bool false])) ((W.setCell ⟨w.heap.size,0,none⟩ (.int .i64 0)).setCell ⟨w.heap.size,1,none⟩ (.int .i64 0)) :=
   ⟨.inr ⟨fun k _=>by omega,rfl⟩,⟨n,F,(hM.below hbW).set2 _ _ (by omega),hK,Nat.le_refl _⟩,(Kp.of hbW).set2 _ _ (Nat.le_refl _)⟩
  have HF:Hid (_):=zau
  have A:=X0.set2U (.int .i64 0) (.int .i64 0)
  replace hS:=hS.below hbW;obtain⟨s0,s1,_⟩:=hS.two;obtain⟨z0,z1,f0,f1⟩:=X0.two
  have hig:=zlw a l.length ca g W (by have:=hl.lenB;omega) hg
  clear zau hM hK hbW hS
  cases hi:isG l.length g with
  | false =>
   rw[hi]at hig
   go_enter Tryz.func32,Tryz.ntmps32
   go_upto_region 1 with fail
   rw[<-hW];clear hW hi
   go_wp2_with fail
   refine hig.mono ?_
   rintro e u ⟨rfl,rfl⟩;clear hig;go_wp2
   exact bodyPost_ret (v:=.tuple #[.agg #[.int .i64 0,.int .i64 0],.bool false]) (by obtain⟨r0,r1,_⟩:=A.two;simp[results,Tryz.results32,go_sem,r0,r1]) rfl HF.out
  | true =>
   rw[hi]at hig
   go_enter Tryz.func32,Tryz.ntmps32
   go_upto_region 1 with fail
   rw[<-hW];clear hW hi
   go_wp2_with fail
   refine hig.mono ?_
   rintro e u ⟨rfl,rfl⟩;clear hig;go_wp2
   exact bodyPost_ret (v:=.tuple #[.agg #[.int .i64 0,.int .i64 0],.bool false]) (by obtain⟨r0,r1,_⟩:=A.two;simp[results,Tryz.results32,go_sem,r0,r1]) rfl HF.out
 | succ d ih =>
  intro lv hlv g n F w hg hn hb hS hM hK
  obtain⟨T,hT0⟩:∃T,tk d=T:=⟨_,rfl⟩
  have HT:Hid (tk d=T):=hT0
  have HT1:Hid (tk (d+1)=1+12*T):=by show 1+12*tk d=_;rw[hT0]
  have hnT:n+(1+12*T)<=500000000000:=by rw[<-HT1.out];exact hn
  clear hn hT0
  have hlv7:lv<=6:=by omega
  have HLV:Hid (lv+1+d=7):=by show _=_;omega
  clear hlv
  obtain⟨W,hW,X0,hbW⟩:∃W,W=w.alloc (.cells #[.int .i64 0,.int .i64 0] 71)/\Bk 71 W w.heap.size [.int .i64 0,.int .i64 0]/\Below w.heap.size w W:=⟨_,rfl,Bk.new _ _ _,bl1 _⟩
  have hlt:=hM.lt
  have hbB:Below w0.heap.size w0 W:=hb.trans (hbW.mono hb.size)
  obtain⟨r0,hr0⟩:∃r,w.heap.size=r:=⟨_,rfl⟩
  have HR0:Hid (w.heap.size=r0):=hr0
  have HNO:Hid (∀(U:World) n' F',(∀k,dq l 6 g=some k->6<k+lv)->Bk 71 U r0 [.int .i64 0,.int .i64 0]->Mp U m n' F'->KnG l F'->n'<=n+tk (d+1)->Kp m w U->OfP l m g lv (d+1) n w (.returned (.tuple #[.agg #[.int .i64 0,.int .i64 0],.bool false])) ((U.setCell ⟨r0,0,none⟩ (.int .i64 0)).setCell ⟨r0,1,none⟩ (.int .i64 0))):=by
   intro U n' F' h1 h2 h3 h4 h5 h6
   exact⟨.inr ⟨h1,rfl⟩,⟨n',F',h3.set2 _ _ (by have:=HR0.out;omega),h4,h5⟩,h6.set2 _ _ (by have:=HR0.out;omega)⟩
  have zqk:Hid (∀(U:World) n' F' (k:Nat) (z0 z1:Value),dq l 6 g=some k->Bk 71 U r0 [z0,z1]->Mp U m n' F'->KnG l F'->n'<=n+tk (d+1)->Kp m w U->OfP l m g lv (d+1) n w (.returned (.tuple #[.agg #[.int .i64 (k:Int),.int .i64 ((szG l g:Nat):Int)],.bool true])) ((U.setCell ⟨r0,0,none⟩ (.int .i64 (k:Int))).setCell ⟨r0,1,none⟩ (.int .i64 ((szG l g:Nat):Int)))):=by
   intro U n' F' k z0 z1 h1 h2 h3 h4 h5 h6
   exact⟨.inl ⟨k,h1,rfl⟩,⟨n',F',h3.set2 _ _ (by have:=HR0.out;omega),h4,h5⟩,h6.set2 _ _ (by have:=HR0.out;omega)⟩
  have hmr:m<r0:=by omega
  replace hS:=hS.below hbW
  have hsr:sb≠r0:=fun e=>by
   have h1:=(hS.ne X0 (by decide))
   omega
  replace hM:=hM.below hbW;obtain⟨s0,s1,_⟩:=hS.two
  have hig:=zlw a l.length ca g W (by have:=hl.lenB;omega) hg
  have hKp:Kp m w W:=Kp.of hbW
  rw[hr0]at X0
  cases hi:isG l.length g with
  | false =>
   have HF:Hid (_):=HNO.out W n F (fun k hk=>by
    obtain⟨x,h1,_⟩:=zbg.1 hk
    rw[zn2 hi]at h1
    cases h1) X0 hM hK (by rw[HT1.out];omega) hKp
   rw[hi]at hig
   have A:=X0.set2U (.int .i64 0) (.int .i64 0)
   obtain⟨z0,z1,f0,f1⟩:=X0.two
   have hlt0:=X0.lt
   clear HNO zqk hM hK hKp hS hbB hbW hi X0 ih
   go_enter Tryz.func32,Tryz.ntmps32
   go_upto_region 1 with fail
   rw[<-hW]
   try rw[hr0]
   clear hW hr0
   go_wp2_with fail
   refine hig.mono ?_
   rintro e u ⟨rfl,rfl⟩;clear hig;go_wp2
   exact bodyPost_ret (v:=.tuple #[.agg #[.int .i64 0,.int .i64 0],.bool false]) (by obtain⟨r0,r1,_⟩:=A.two;simp[results,Tryz.results32,go_sem,r0,r1]) rfl HF.out
  | true =>
  rw[hi]at hig
  have HGA:Hid (_):=zyz hi
  obtain⟨hg0,hg1⟩:=zn1 hi
  obtain⟨kg,hkg⟩:∃k:Nat,g=(k:Int):=⟨g.toNat,by omega⟩
  subst hkg;rw[Int.toNat_natCast]at HGA
  have hkl:kg<l.length:=by omega
  have gl6:decide ((6:Int)<(lv:Int))=false:=decide_eq_false (by omega)
  have gl7:¬(6:Int)<(lv:Int):=by omega
  clear hi
  go_enter Tryz.func32,Tryz.ntmps32
  go_upto_region 1 with fail
  rw[<-hW]
  try rw[hr0]
  clear hW
  go_wp2_with fail
  refine hig.mono ?_
  rintro e u ⟨rfl,rfl⟩;clear hig
  cases hF:F (kg:Int) with
  | some v =>
   obtain⟨dd,hdd,rfl⟩:=hK _ _ hF
   obtain⟨V,hV,Y0,hbV⟩:∃V,V=W.alloc (.cells #[.int .i64 (dd:Int),.int .i64 ((szG l kg:Nat):Int)] 71)/\Bk 71 V W.heap.size [.int .i64 (dd:Int),.int .i64 ((szG l kg:Nat):Int)]/\Below W.heap.size W V:=⟨_,rfl,Bk.new _ _ _,bl1 _⟩
   have X0b:=X0.below hbV
   have hMb:=hM.below hbV
   have HF:Hid (_):=zqk.out V n F dd _ _ hdd X0b hMb hK (by rw[HT1.out];omega) (hKp.trans (Kp.of hbV))
   have A:=X0b.set2U (.int .i64 (dd:Int)) (.int .i64 ((szG l kg:Nat):Int))
   obtain⟨z0,z1,f0,f1⟩:=X0b.two;obtain⟨y0,y1,_⟩:=Y0.two
   have hlt0:=X0b.lt
   clear HNO zqk hK hKp hS hbB hbW X0 ih hMb X0b hbV hr0 HT HT1 HLV HGA
   generalize szG l kg=sz at *
   go_upto_region 4 with (first | (at_lookup;refine zc2 117 71 Tryz.underlying117 (zeroX _) rfl _ _ rfl m n F (kg:Int) hg hM rfl rfl _ hF ?_) | fail)
   rw[<-hV];clear hV hM hF;go_wp2
   exact bodyPost_ret (v:=.tuple #[.agg #[.int .i64 (dd:Int),.int .i64 (sz:Int)],.bool true]) (by obtain⟨r0,r1,_⟩:=A.two;simp[results,Tryz.results32,go_sem,r0,r1]) rfl HF.out
  | none =>
  obtain⟨b1,off,xa,xc,pa,pc,ta,tc,ea,hb1,hGC,c0,c1,-⟩:=hl.gl (Below.refl _ _) kg hkl
  have hxp:=hps _ (zdi (d:=Gl.none) hkl)
  obtain⟨x,hx⟩:∃x,l.getD kg Gl.none=x:=⟨_,rfl⟩
  rw[hx]at hGC c0 c1 HGA hxp;subst ea
  have HGC:Hid (GlC S w0 xa xc pa pc ta tc x):=hGC
  have kps:=hGC.ps.lenB
  have kcs:=hGC.cs.lenB
  have hcs1:=hGC.cs.below hbB
  replace c0:=(hbB.cell (p:=⟨b1,off+kg*6,none⟩) hb1).trans c0
  replace c1:=(hbB.cell (p:=⟨b1,off+kg*6+1,none⟩) hb1).trans c1
  obtain⟨V1,hV1,Y1,zs9⟩:∃V,V=W.alloc (.cells #[.int .i64 0,.int .i64 0] 71)/\Bk 71 V W.heap.size [.int .i64 0,.int .i64 0]/\Below W.heap.size W V:=⟨_,rfl,Bk.new _ _ _,bl1 _⟩
  go_upto_region 4 with (first | (at_lookup;refine zc3 117 71 Tryz.underlying117 (zeroX _) rfl _ _ rfl m n F (kg:Int) hg hM rfl rfl hF ?_) | fail)
  rw[<-hV1]
  obtain⟨V2,hV2,Y2,z17⟩:∃V,V=V1.alloc (.cells #[.slice xa x.o.cs.length xc,.slice pa x.o.ps.length pc] 57)/\Bk 57 V V1.heap.size [.slice xa x.o.cs.length xc,.slice pa x.o.ps.length pc]/\Below V1.heap.size V1 V:=⟨_,rfl,Bk.new _ _ _,bl1 _⟩
  have hcs2:=(hcs1.below zs9).below z17
  replace hS:=hS.below zs9;obtain⟨s0,s1,_⟩:=hS.two
  replace c0:=(zs9.cell (p:=⟨b1,off+kg*6,none⟩) (Nat.lt_of_lt_of_le hb1 hbB.size)).trans c0
  replace c1:=(zs9.cell (p:=⟨b1,off+kg*6+1,none⟩) (Nat.lt_of_lt_of_le hb1 hbB.size)).trans c1
  clear hV1
  go_upto_region 7 with fail
  rw[<-hV2];clear hV2 c0 c1
  replace X0:=(X0.below zs9).below z17
  replace hS:=hS.below z17
  replace hM:=(hM.below zs9).below z17
  replace hKp:=(hKp.trans (Kp.of zs9)).trans (Kp.of z17)
  replace hbB:=(hbB.trans (zs9.mono hbB.size)).trans (z17.mono (Nat.le_trans hbB.size zs9.size))
  have hpo:=zl7 S xa xc pa x.o.ps.length pc x.o.cs V2 hcs2
  obtain⟨y0,y1,_⟩:=Y2.two
  obtain⟨r2,hr2⟩:∃r,V1.heap.size=r:=⟨_,rfl⟩
  have hr02:r0<r2:=by have h1:=zs9.size;have h2:=hbW.size;have h3:=HR0.out;have h4:=Y1.lt;omega
  rw[hr2]at Y2 y0 y1;clear hGC hcs1 hcs2 zs9 z17 Y1 hbW
  go_wp2_with fail
  refine hpo.mono ?_
  rintro e V3 ⟨rfl,hb3⟩;clear hpo y0 y1
  have HSZ0:Hid (cap x.o.cs.flatten.length=cap (szK l x 0)):=by show _=_;rw[zvd];rfl
  rw[HSZ0.out];replace X0:=X0.below hb3;replace hS:=hS.below hb3;replace hM:=hM.below hb3;replace Y2:=Y2.below hb3
  replace hKp:=hKp.trans (Kp.of hb3)
  replace hbB:=hbB.trans (hb3.mono hbB.size)
  obtain⟨V4,hV4,Y4,hb4⟩:∃V,V=V3.alloc (.cells #[.int .i64 0,.int .i64 ((cap (szK l x 0):Nat):Int)] 71)/\Bk 71 V V3.heap.size [.int .i64 0,.int .i64 ((cap (szK l x 0):Nat):Int)]/\Below V3.heap.size V3 V:=⟨_,rfl,Bk.new _ _ _,bl1 _⟩
  obtain⟨r3,hr3⟩:∃r,V3.heap.size=r:=⟨_,rfl⟩
  have hr23:r2<r3:=by have h1:=Y2.lt;omega
  have HB3:Hid (Below w0.heap.size w0 V3):=hbB
  have HK3:Hid (Kp m w V3):=hKp
  have HR3:Hid (V3.heap.size=r3):=hr3
  have HY2:Hid (Bk 57 V4 r2 [.slice xa x.o.cs.length xc,.slice pa x.o.ps.length pc]):=Y2.below hb4
  have hK4:Kp m V3 V4:=Kp.of hb4
  replace X0:=X0.below hb4;replace hS:=hS.below hb4;replace hM:=hM.below hb4;obtain⟨y0,y1,_⟩:=HY2.out.two
  go_upto_region 8 with fail
  rw[<-hV4];rw[hr3]at Y4
  (try rw[hr3])
  clear hV4 hb3 hb4 hbB hKp Y2 hr3;go_wp2;clear y0 y1 s0 s1
  go_loopw [53] (fun i wr=>∃(k n' e:Nat) (F':Int->Option Value),k<=x.o.ps.length/\i=.int .i64 k/\Hid (dqs (dq l 6) (x.o.ps.take k)=some e)/\Bk 71 wr r0 [.int .i64 0,.int .i64 0]/\Bk 71 wr r3 [.int .i64 (e:Int),.int .i64 ((cap (szK l x k):Nat):Int)]/\Bk 119 wr sb [.slice (some ⟨b1,off,none⟩) l.length ca,.map (some m)]/\Mp wr m n' F'/\Hid (KnG l F')/\Hid (n'<=n+k*T)/\Kp m V3 wr) (fun i _=>x.o.ps.length-(intOf i).toNat)
  case atStart=>exact⟨0,n,0,F,Nat.zero_le _,rfl,rfl,X0,Y4,hS,hM,hK,by show _<=_;omega,hK4⟩
  case round =>
   clear X0 Y4 hS hM hK hK4;obtain⟨k,n1,e,F1,hk,rfl,HDQ,X0,Y3,hS,hM,HK,HN,hKp⟩:=hrel
   have hBw:Below w0.heap.size w0 wr:=HB3.out.trans (hKp.below HB3.out.size hm0)
   have hwr:=hKp.size
   have hr3w:r3<wr.heap.size:=Y3.lt
   have he7:e<=7:=by
    have:=zzi (n:=6) (fun p _ e h=>dq_le h) HDQ.out
    exact this
   by_cases hkn:k<x.o.ps.length
   . obtain⟨bp,op,ep,hbp,hpw,e0,e1,e2⟩:=(HGC.out.below hBw).ps.pa (Below.refl _ _) k hkn
     subst ep
     have HMEM:Hid (x.o.ps.getD k Pa.none∈x.o.ps):=zdi hkn
     have HDM:Hid (∀d,dq l 6 (x.o.ps.getD k Pa.none).g=some d->dqs (dq l 6) (x.o.ps.take (k+1))=some (max e (d+1))):=fun d h=>zxv hkn HDQ.out h
     have HSM:Hid (∀d,dq l 6 (x.o.ps.getD k Pa.none).g=some d->min (((cap (szK l x k):Nat):Int)+((szG l (x.o.ps.getD k Pa.none).g:Nat):Int)) 2001=((cap (szK l x (k+1)):Nat):Int)):=fun d h=>by rw[zq7 h,zx7,zve hkn]
     have hszb:=zzk (szK l x k)
     have hszc:szG l (x.o.ps.getD k Pa.none).g<=2001:=by
      unfold szG
      split
      . omega
      . omega
     obtain⟨q,hq⟩:∃q,x.o.ps.getD k Pa.none=q:=⟨_,rfl⟩
     rw[hq]at hpw e0 e1 e2 HMEM HDM HSM hszc;obtain⟨gl,dx,dy⟩:=q;obtain⟨hgi,hxi,hyi⟩:=hpw;dsimp only at e0 e1 e2 hgi hxi hyi HDM HSM hszc
     have i1:(0:Int)<=(k:Int):=by omega
     have i2:(k:Int)<(x.o.ps.length:Int):=by omega
     obtain⟨U,hU,XP,hbU⟩:∃U,U=wr.alloc (.cells #[.int .i64 gl,.int .i64 dx,.int .i64 dy] 54)/\Bk 54 U wr.heap.size [.int .i64 gl,.int .i64 dx,.int .i64 dy]/\Below wr.heap.size wr U:=⟨_,rfl,Bk.new _ _ _,bl1 _⟩
     replace X0:=X0.below hbU;replace Y3:=Y3.below hbU;replace hS:=hS.below hbU;replace hM:=hM.below hbU
     replace hKp:=hKp.trans (Kp.of hbU)
     replace hBw:=hBw.trans (hbU.mono hBw.size)
     have HKS:Hid ((k+1)*T=k*T+T/\(k+1)*T<=12*T):=⟨Nat.succ_mul k T,Nat.mul_le_mul_right _ (by omega)⟩
     have hih:=ih (lv+1) HLV.out gl n1 F1 U hgi (by
      have h1:=HKS.out
      have h2:=HN.out
      rw[HT.out]
      omega) hBw hS hM HK.out
     rw[show((lv+1:Nat):Int)=(lv:Int)+1 by omega]at hih
     obtain⟨p0,p1,p2,_⟩:=XP.three;clear hq
     go_upto_region 11 with fail
     rw[<-hU];clear hU e0 e1 e2
     go_wp2_with fail
     refine hih.mono ?_
     rintro ex u ⟨z18,⟨n2,F2,hM2,hK2,hn2⟩,hk2⟩
     rw[HT.out]at hn2
     have HN2:Hid (n2<=n+(k+1)*T/\n2<=n+tk (d+1)):=by
      have h1:=HKS.out
      have h2:=HN.out
      show _/\_
      rw[HT1.out]
      omega
     have HK2:Hid (KnG l F2):=hK2
     replace X0:=X0.kp hk2 (by omega)
     replace Y3:=Y3.kp hk2 (by omega)
     replace hS:=hS.kp hk2 hsm
     replace hKp:=hKp.trans hk2
     have hus:=hk2.size
     have hUs:=hbU.size
     clear hih hk2 hM hn2 hK2 hBw XP p0 p1 p2 HKS HN HK
     have hr3u:r3<u.heap.size:=by omega
     rcases z18 with ⟨dk,hdk,rfl⟩|⟨z4x,rfl⟩
     . have HD9:Hid (_):=HDM.out dk hdk
       have hmin:=HSM.out dk hdk
       have hdk6:=dq_le hdk
       obtain⟨M,hM9⟩:∃M,max e (dk+1)=M:=⟨_,rfl⟩
       have hmax:max (e:Int) ((dk:Int)+1)=(M:Int):=by omega
       rw[hM9]at HD9
       obtain⟨c9,hc9⟩:∃c,cap (szK l x (k+1))=c:=⟨_,rfl⟩
       have HC9:Hid (cap (szK l x (k+1))=c9):=hc9
       rw[hc9]at hmin;clear hdk HDM HSM HDQ hc9 hM9
       generalize szG l gl=sz at *
       generalize cap (szK l x k)=c8 at *
       obtain⟨U2,hU2,XW,zks⟩:∃V,V=u.alloc (.cells #[.int .i64 (dk:Int),.int .i64 (sz:Int)] 71)/\Bk 71 V u.heap.size [.int .i64 (dk:Int),.int .i64 (sz:Int)]/\Below u.heap.size u V:=⟨_,rfl,Bk.new _ _ _,bl1 _⟩
       replace X0:=X0.below zks;replace Y3:=Y3.below zks;replace hS:=hS.below zks;replace hM2:=hM2.below zks
       replace hKp:=hKp.trans (Kp.of zks)
       obtain⟨q0,q1,f0,f1⟩:=Y3.two;obtain⟨t0,t1,_⟩:=XW.two
       have hne:u.heap.size≠r3:=by omega
       have hr3l:=Y3.lt
       have FY:Hid (Bk 71 ((U2.setCell ⟨r3,0,none⟩ (.int .i64 (M:Int))).setCell ⟨r3,1,none⟩ (.int .i64 (c9:Int))) r3 [.int .i64 (M:Int),.int .i64 (c9:Int)]):=Y3.set2U _ _
       have FX:Hid (Bk 71 ((U2.setCell ⟨r3,0,none⟩ (.int .i64 (M:Int))).setCell ⟨r3,1,none⟩ (.int .i64 (c9:Int))) r0 [.int .i64 0,.int .i64 0]):=(X0.other 0 _ (by omega)).other 1 _ (by omega)
       have FS:Hid (Bk 119 ((U2.setCell ⟨r3,0,none⟩ (.int .i64 (M:Int))).setCell ⟨r3,1,none⟩ (.int .i64 (c9:Int))) sb [.slice (some ⟨b1,off,none⟩) l.length ca,.map (some m)]):=(hS.other 0 _ (hS.ne Y3 (by decide))).other 1 _ (hS.ne Y3 (by decide))
       have FM:Hid (Mp ((U2.setCell ⟨r3,0,none⟩ (.int .i64 (M:Int))).setCell ⟨r3,1,none⟩ (.int .i64 (c9:Int))) m n2 F2):=hM2.set2 _ _ (by omega)
       have FK:Hid (Kp m V3 ((U2.setCell ⟨r3,0,none⟩ (.int .i64 (M:Int))).setCell ⟨r3,1,none⟩ (.int .i64 (c9:Int)))):=hKp.set2 _ _ (by have:=HR3.out;omega)
       clear X0 Y3 hS hM2 hKp zks XW
       go_upto_region 12 with fail
       rw[<-hU2];clear hU2;go_wp2
       go_roundw
       case rel=>exact⟨k+1,n2,M,F2,by omega,by go_num,HD9,FX.out,by rw[HC9.out];exact FY.out,FS.out,FM.out,HK2,HN2.out.1,FK.out⟩
       case measure=>simp[intOf];omega
     . obtain⟨U2,hU2,XW,zks⟩:∃V,V=u.alloc (.cells #[.int .i64 0,.int .i64 0] 71)/\Bk 71 V u.heap.size [.int .i64 0,.int .i64 0]/\Below u.heap.size u V:=⟨_,rfl,Bk.new _ _ _,bl1 _⟩
       replace X0:=X0.below zks
       have HF:Hid (_):=HNO.out U2 n2 F2 (z4g HGA.out HMEM.out z4x) X0 (hM2.below zks) HK2.out HN2.out.2 ((HK3.out.trans hKp).trans (Kp.of zks))
       have A:=X0.set2U (.int .i64 0) (.int .i64 0)
       obtain⟨z0,z1,f0,f1⟩:=X0.two
       have hlt0:=X0.lt
       clear HNO zqk hM2 hKp hS zks X0 Y3 z4x HDM HSM HDQ
       go_upto_region 12 with fail
       rw[<-hU2];clear hU2;go_wp2
       exact bodyPost_ret (v:=.tuple #[.agg #[.int .i64 0,.int .i64 0],.bool false]) (by obtain⟨r0,r1,_⟩:=A.two;simp[results,Tryz.results32,go_sem,r0,r1]) rfl HF.out
   . have ek:k=x.o.ps.length:=by omega
     rw[ek]at Y3 ⊢
     have HDQ2:Hid (dqs (dq l 6) x.o.ps=some e):=by
      have h:=HDQ.out
      rw[ek,List.take_length]at h
      exact h
     have g4:¬(x.o.ps.length:Int)<(x.o.ps.length:Int):=by omega
     have HN2:Hid (n1+1<=n+tk (d+1)):=by
      have h1:k*T<=12*T:=Nat.mul_le_mul_right _ (by omega)
      have h2:=HN.out
      show _<=_
      rw[HT1.out]
      omega
     have hn1b:n1<=1000000000000:=by
      have h1:=HN2.out
      rw[HT1.out]at h1
      omega
     clear HDQ HN ek hk hkn;obtain⟨y0,y1,_⟩:=Y3.two
     by_cases he6:6<e
     . have g5:(6:Int)<(e:Int):=by omega
       have HF:Hid (_):=HNO.out wr n1 F1 (fun k hk=>by rw[(zoo HGA.out HDQ2.out).2 he6]at hk;cases hk) X0 hM HK.out (by have:=HN2.out;omega) (HK3.out.trans hKp)
       have A:=X0.set2U (.int .i64 0) (.int .i64 0)
       obtain⟨z0,z1,f0,f1⟩:=X0.two
       have hlt0:=X0.lt
       clear HNO zqk hM hKp hS X0 Y3;go_wp2
       exact bodyPost_ret (v:=.tuple #[.agg #[.int .i64 0,.int .i64 0],.bool false]) (by obtain⟨r0,r1,_⟩:=A.two;simp[results,Tryz.results32,go_sem,r0,r1]) rfl HF.out
     . have g5:¬(6:Int)<(e:Int):=by omega
       have hdq:=(zoo HGA.out HDQ2.out).1 (by omega)
       have HSZ:Hid (cap (szK l x x.o.ps.length)=szG l kg):=by show _=_;rw[zz9 HGA.out hdq,zq7 hdq]
       have HKN:Hid (KnG l (Fup F1 kg (.agg #[.int .i64 (e:Int),.int .i64 ((szG l kg:Nat):Int)]))):=HK.out.put hdq
       have HYE:Hid (_):=fun(U:World) h2 h3 h6=>zqk.out U (n1+1) _ e (.int .i64 0) (.int .i64 0) hdq h2 h3 HKN.out HN2.out h6
       rw[HSZ.out]at y1 Y3;clear hdq HNO zqk HKN HDQ2
       generalize szG l kg=sz at *
       obtain⟨s0,s1,_⟩:=hS.two
       go_upto_region 19 with fail
       refine wp_region_held_drew (S:=fun w9=>w9.cell? ⟨sb,1,none⟩=some (.map (some m))/\w9.cell? ⟨r3,0,none⟩=some (.int .i64 (e:Int))/\w9.cell? ⟨r3,1,none⟩=some (.int .i64 (sz:Int))) (by kernel_rfl) ?_ (fun hH=>?_)
       . (try dsimp only)
         go_keep
       have hdr:Below wr.heap.size wr wr.drew:=Below.drew1
       generalize wr.drew=Z at hdr hH ⊢
       replace s1:=(hdr.cell (p:=⟨sb,1,none⟩) hS.lt).trans s1
       replace y0:=(hdr.cell (p:=⟨r3,0,none⟩) Y3.lt).trans y0
       replace y1:=(hdr.cell (p:=⟨r3,1,none⟩) Y3.lt).trans y1
       replace X0:=X0.below hdr;replace hM:=hM.below hdr
       replace hKp:=hKp.trans (Kp.of hdr)
       clear hdr s0;refine hT 0 hH ?_;refine hT 1 hH ?_;refine hT 2 hH ?_;refine hT 3 hH ?_;refine hT 4 hH ?_;refine hT 5 hH ?_
       refine hCall (i:=6) rfl (by kernel_rfl) (by rfl) (fun K hK=>?_)
       refine zqr 117 71 Tryz.underlying117 _ _ _ rfl m n1 F1 (kg:Int) _ hg hM hn1b rfl rfl rfl ?_
       intro w9 hM9 hgrow
       replace s1:=hgrow.cell s1 (by simp;omega)
       replace y0:=hgrow.cell y0 (by simp;omega)
       replace y1:=hgrow.cell y1 (by simp;omega)
       replace X0:=X0.grown hgrow (by simp;omega)
       have z2e:Kp m V3 w9:=hKp.trans ⟨hgrow.os,hgrow.tape,hgrow.output,hgrow.size,fun j hj=>hgrow.block j hj.1 (by simp;exact hj.2)⟩
       refine hK.out _ _ ?_ (fun hH=>?_)
       . (try dsimp only)
         exact⟨s1,y0,y1⟩
       clear hK K
       try simp only[Act.put,pZ]
       refine wpAnyH_done (by kernel_rfl) ?_ _
       have HF:Hid (_):=HYE.out w9 X0 hM9 (HK3.out.trans z2e)
       have A:=X0.set2U (.int .i64 (e:Int)) (.int .i64 (sz:Int))
       obtain⟨z0,z1,f0,f1⟩:=X0.two
       have hlt0:=X0.lt
       clear hH hgrow hM hM9 hKp z2e HYE X0 s1;go_wp2
       exact bodyPost_ret (v:=.tuple #[.agg #[.int .i64 (e:Int),.int .i64 (sz:Int)],.bool true]) (by obtain⟨r0,r1,_⟩:=A.two;simp[results,Tryz.results32,go_sem,r0,r1]) rfl HF.out
theorem Fr.moved{u U:World}{v:Value}{k:Nat}{q:Rat}(h:Fr u v k q)(hK:∀a c xs,Rd u a c xs->Rd U a c xs):Fr U v k q:=by
 obtain⟨n,xs,ys,⟨a,c,a',c',e,h1,h2⟩,h3⟩:=h
 exact⟨n,xs,ys,⟨a,c,a',c',e,hK _ _ _ h1,hK _ _ _ h2⟩,h3⟩
def lmb(n:Nat):Nat:=if n=0 then 2 else 21*n-1
theorem zs0(n:Nat):2<=lmb n:=by unfold lmb;split <;> omega
theorem zyy{n:Nat}(h:n<=1000):lmb n<=21000:=by unfold lmb;split <;> omega
theorem z1p{n h:Nat}(h1:1<=h)(h2:h<n):lmb h+lmb (n-h)+1<=lmb n:=by unfold lmb;rw[if_neg (by omega),if_neg (by omega),if_neg (by omega)];omega
theorem zu5:∀(n:Nat) (a:OA) (cap:Nat) (qs:List Rat) (w:World),qs.length=n->1<=n->n<=1000->Rz w a cap 20 qs ->
    Calls Tryz.prog 232 #[.slice a n cap] w fun e w'=>∃v',e=.returned v'/\Fr w' v' (lmb n) (suQ qs)/\Below w.heap.size w w':=by
 intro n
 induction n using Nat.strongRecOn with
 | ind n ih =>
  intro a cap qs w hn hn0 hn1 h
  have hcap:=h.1
  have hcm:=h.2.1
  unfold maxLen at hcm
  have HL:Hid (qs.length=n):=hn
  have HH:Hid (Rz w a cap 20 qs):=h
  rw[hn]at hcap;clear h hn
  obtain⟨W,hW,B0,hbW⟩:∃W,W=w.alloc (.cells #[.bool false,.slice none 0 0,.slice none 0 0] 125)/\Box 125 W w.heap.size (.bool false) (.slice none 0 0) (.slice none 0 0)/\Below w.heap.size w W:=⟨_,rfl,Box.new _ _ _ _ _,al1 _⟩
  have h0:¬n=0:=by omega
  by_cases h1:n=1
  . subst h1
    have HQ:Hid (qs.getD 0 0=suQ qs):=by
     show _=_
     obtain⟨q,hq⟩:=List.length_eq_one_iff.1 HL.out
     rw[hq,zia]
     rfl
    clear ih h0
    obtain⟨b,off,x,y,z,ea,hb,c0,c1,c2,hF9⟩:=HH.out.2.2 0 (by rw[HL.out];omega)
    subst ea
    replace c0:=(hbW.cell (p:=⟨b,off+0*3,none⟩) hb).trans c0
    replace c1:=(hbW.cell (p:=⟨b,off+0*3+1,none⟩) hb).trans c1
    replace c2:=(hbW.cell (p:=⟨b,off+0*3+2,none⟩) hb).trans c2
    rw[HQ.out]at hF9;obtain⟨n9,x9,y9,⟨a9,c9,b9,d9,e9,hx9,hy9⟩,hF9⟩:=hF9
    simp only[Value.agg.injEq,Array.mk.injEq,List.cons.injEq,and_true]at e9
    obtain⟨rfl,rfl,rfl⟩:=e9
    simp only[Nat.zero_mul,Nat.add_zero,Nat.zero_add]at c0 c1 c2
    subst hW;clear B0
    go_enter Tryz.func232,Tryz.ntmps232
    go_wp2
    refine bodyPost_ret (v:=.agg #[.bool n9,.slice a9 x9.length c9,.slice b9 y9.length d9]) (by obtain⟨r1,r2,r3,_⟩:=(Box.new 125 w (.bool n9) (.slice a9 x9.length c9) (.slice b9 y9.length d9)).cells;simp[results,Tryz.results232,go_sem,r1,r2,r3]) rfl ⟨_,rfl,⟨_,_,_,⟨_,_,_,_,rfl,hx9.below (al1 _),hy9.below (al1 _)⟩,hF9.1,by have:=hF9.2.1;simp[lmb];omega,by have:=hF9.2.2.1;simp[lmb];omega,hF9.2.2.2⟩,al1 _⟩
  obtain⟨h,hh⟩:∃h,n/2=h:=⟨_,rfl⟩
  have e1:1<=h:=by omega
  have e2:h<n:=by omega
  have hdv:(n:Int).tdiv 2=(h:Int):=by rw[Int.tdiv_eq_ediv_of_nonneg (by omega)];omega
  have g1:((n:Int)==1)=false:=beq_eq_false_iff_ne.2 (by omega)
  have hz1:=HH.out.take h
  have hz2:=HH.out.from h (by rw[HL.out];exact e2)
  have hc1:=fun U hU=>ih h e2 a cap (qs.take h) U (by rw[List.length_take,HL.out];omega) e1 (by omega) hU
  have hc2:=fun U hU=>ih (n-h) (by omega) (a.map (fun x=>x.add (h*3))) (cap-h) (qs.drop h) U (by rw[List.length_drop,HL.out]) (by omega) (by omega) hU
  have HQ:Hid (suQ (qs.take h)+suQ (qs.drop h)=suQ qs):=zvh _ _
  have HM:Hid (lmb h+lmb (n-h)+1<=lmb n):=z1p e1 e2
  have HM2:Hid (2<=lmb h/\2<=lmb (n-h)/\lmb h<=21000/\lmb (n-h)<=21000):=⟨zs0 _,zs0 _,zyy (by omega),zyy (by omega)⟩
  have hcn:¬cap=h:=by omega
  clear ih h0 h1 hh
  generalize qs.take h=q1 at *
  generalize qs.drop h=q2 at *
  generalize lmb h=k1 at *
  generalize hk2:lmb (n-h)=k2 at *
  clear hk2
  have hle:h<=n:=by omega
  have hlc:h<=cap:=by omega
  go_enter Tryz.func232,Tryz.ntmps232
  go_upto_region 4 with fail
  rw[<-hW];clear hW;replace hz1:=hz1.below hbW;replace hz2:=hz2.below hbW
  refine wp_region_held_drew (S:=(fun _=>True)) (by kernel_rfl) ?_ (fun hH=>?_)
  . (try dsimp only)
    all_goals go_keep
  have hdr:Below W.heap.size W W.drew:=Below.drew1
  generalize W.drew=ud1 at hdr hH ⊢
  replace hz1:=hz1.below hdr;replace hz2:=hz2.below hdr;replace B0:=B0.below hdr
  replace hbW:Below w.heap.size w ud1:=hbW.trans (hdr.mono hbW.size)
  clear hdr;refine hT 0 hH ?_;refine hT 1 hH ?_
  refine hTake (i:=2) (v:=.slice a h cap) rfl (by kernel_rfl) (by kernel_rfl) (by kernel_rfl) (fun _ _ _ h=>h) (Or.inl ⟨by rfl,?y2⟩) hH ?r2
  case y2 =>
   intro w9 hSw
   (try dsimp only at hSw)
   go_simp
  try simp only[Act.put,pZ]
  refine hT 4 hH ?_;refine hT 5 hH ?_
  refine hTake (i:=6) (v:=.slice (a.map (fun x=>x.add (h*3))) (n-h) (cap-h)) rfl (by kernel_rfl) (by kernel_rfl) (by kernel_rfl) (fun _ _ _ h=>h) (Or.inl ⟨by rfl,?y3⟩) hH ?r3
  case y3 =>
   intro w9 hSw
   (try dsimp only at hSw)
   go_simp
  try simp only[Act.put,pZ]
  refine hCall (i:=3) rfl (by kernel_rfl) (by rfl) (fun K hK=>?_)
  go_simp
  refine(hc1 _ hz1).mono ?_
  rintro e u1 ⟨v5,rfl,hF5,hb1⟩;replace hz1:=hz1.below hb1;replace hz2:=hz2.below hb1;replace B0:=B0.below hb1
  replace hbW:Below w.heap.size w u1:=hbW.trans (hb1.mono hbW.size)
  clear hb1
  go_wp2_with fail
  refine hK.out _ _ ?_ (fun hH=>?_)
  . (try dsimp only)
    all_goals trivial
  clear hK K
  try simp only[Act.put,pZ]
  refine hCall (i:=7) rfl (by kernel_rfl) (by rfl) (fun K hK=>?_)
  go_simp
  refine(hc2 _ hz2).mono ?_
  rintro e u2 ⟨v6,rfl,hF6,hb2⟩;replace hz1:=hz1.below hb2;replace hz2:=hz2.below hb2;replace B0:=B0.below hb2;replace hF5:=hF5.below hb2
  replace hbW:Below w.heap.size w u2:=hbW.trans (hb2.mono hbW.size)
  clear hb2
  go_wp2_with fail
  refine hK.out _ _ ?_ (fun hH=>?_)
  . (try dsimp only)
    all_goals trivial
  clear hK K
  try simp only[Act.put,pZ]
  refine hCall (i:=8) rfl (by kernel_rfl) (by rfl) (fun K hK=>?_)
  go_simp
  refine(znq k1 k2 (suQ q1) (suQ q2) _ _ _ hF5.ct hF6.ct (by have:=HM2.out;omega) (by have:=HM2.out;omega) HM2.out.1 HM2.out.2.1).mono ?_
  rintro e u3 ⟨v9,rfl,hF9,hb3⟩;replace hz1:=hz1.below hb3;replace hz2:=hz2.below hb3;replace B0:=B0.below hb3;replace hF5:=hF5.below hb3;replace hF6:=hF6.below hb3
  replace hbW:Below w.heap.size w u3:=hbW.trans (hb3.mono hbW.size)
  clear hb3;rw[HQ.out]at hF9;obtain⟨n9,x9,y9,⟨a9,c9,b9,d9,rfl,hx9,hy9⟩,hF9⟩:=hF9
  go_wp2_with fail
  refine hK.out _ _ ?_ (fun hH=>?_)
  . (try dsimp only)
    all_goals trivial
  clear hK K
  try simp only[Act.put,pZ]
  refine hCall (i:=9) rfl (by kernel_rfl) (by rfl) (fun K hK=>?_)
  go_simp
  have hs:=B0.lt
  obtain⟨f1,f2,f3,f4,f5,f6⟩:=B0.cells
  try go_simp
  obtain⟨u64,hU,C9,hbU,hK9,ho⟩:=zb7 B0 (.bool n9) (.slice a9 x9.length c9) (.slice b9 y9.length d9)
  rw[<-hU];clear hU f1 f2 f3 f4 f5 f6
  replace hbW:=hbU _ _ hbW (by omega)
  replace hx9:=hK9 _ _ _ hx9
  replace hy9:=hK9 _ _ _ hy9
  clear hbU hK9 ho
  refine hK.out _ _ ?_ (fun hH=>?_)
  . (try dsimp only)
    all_goals trivial
  clear hK K
  try simp only[Act.put,pZ]
  refine wpAnyH_done (by kernel_rfl) ?_ _
  clear hH;go_wp2
  refine bodyPost_ret (by obtain⟨r1,r2,r3,_⟩:=C9.cells;simp[results,Tryz.results232,go_sem,r1,r2,r3]) rfl ⟨_,rfl,Fr.le (k:=k1+k2+1) ⟨_,_,_,⟨_,_,_,_,rfl,hx9,hy9⟩,hF9⟩ HM.out,hbW⟩
