import Derived.Test.YtkmcodofnckdmaaGreatZK34
set_option maxHeartbeats 8000000
set_option maxRecDepth 100000
set_option linter.unusedSimpArgs false
set_option linter.unusedVariables false
namespace Go.Proofs.YtkmcodofnckdmaaGreat
open Go.RowKit Go.Maps
abbrev S6 (w:World) (g:Nat) (v0 v1 v2 v3 v4 v5:Value):World:=(((((w.setCell ⟨g,0,none⟩ v0).setCell ⟨g,1,none⟩ v1).setCell ⟨g,2,none⟩ v2).setCell ⟨g,3,none⟩ v3).setCell ⟨g,4,none⟩ v4).setCell ⟨g,5,none⟩ v5
theorem Bk.set6{t:TypeId}{w:World}{g:Nat}{x0 x1 x2 x3 x4 x5:Value}(h:Bk t w g [x0,x1,x2,x3,x4,x5])(y0 y1 y2 y3 y4 y5:Value):Bk t (S6 w g y0 y1 y2 y3 y4 y5) g [y0,y1,y2,y3,y4,y5]:=(((((h.set 0 y0).set 1 y1).set 2 y2).set 3 y3).set 4 y4).set 5 y5
theorem Kp.new6{g b:Nat}{a w:World}(h:Kp g a w)(hb:a.heap.size<=b)(y0 y1 y2 y3 y4 y5:Value):Kp g a (S6 w b y0 y1 y2 y3 y4 y5):=(((((h.new hb 0 y0).new hb 1 y1).new hb 2 y2).new hb 3 y3).new hb 4 y4).new hb 5 y5
theorem Bk.other6{t:TypeId}{w:World}{g b:Nat}{cs:LV}(h:Bk t w g cs)(hb:g≠b)(y0 y1 y2 y3 y4 y5:Value):Bk t (S6 w b y0 y1 y2 y3 y4 y5) g cs:=(((((h.other 0 y0 hb).other 1 y1 hb).other 2 y2 hb).other 3 y3 hb).other 4 y4 hb).other 5 y5 hb
theorem K3.set6{n b:Nat}(w:World)(hb:b<n)(y0 y1 y2 y3 y4 y5:Value):K3 n w (S6 w b y0 y1 y2 y3 y4 y5):=(((((K3.set w hb 0 y0).trans (K3.set _ hb 1 y1)).trans (K3.set _ hb 2 y2)).trans (K3.set _ hb 3 y3)).trans (K3.set _ hb 4 y4)).trans (K3.set _ hb 5 y5)
theorem z0v{X:LN}(h:rdOE X=0):foB (rdOL X)=true:=by
 have h2:=(zil h).1
 rcases zey (rdOL X)with h1|h1|h1
 . exact h1.2
 . rw[h1.1]at h2;exact absurd h2 (by decide)
 . rw[h1.1]at h2;exact absurd h2 (by decide)
theorem z0u:¬rdOE []=0:=fun h=>by
 obtain⟨h1,h2⟩:=zil h
 have:=zu4 h1
 rw[h2]at this
 exact absurd this (by decide)
theorem z0t{o:Ol}{ax:Int}:¬rdTE [] o ax=0:=fun h=>by
 have h2:=congrArg List.length (zft h).2
 unfold tuBt at h2
 rw[List.length_append]at h2
 have:∀z,(be2 z).length=2:=fun _=>rfl
 rw[this]at h2
 simp at h2
theorem zzf(xs:LN)(p:Nat):gOb xs p=cutV xs ((p:Int)+4) (nmV xs (p:Int) 4:Int):=by
 unfold gOb g1
 rw[show((p+4:Nat):Int)=(p:Int)+4 by omega]
theorem zzd(xs:LN)(p:Nat):gTb xs p=cutV xs ((g2 xs p:Int)+4) (nmV xs (g2 xs p:Int) 4:Int):=by
 unfold gTb g3
 rw[show((g2 xs p+4:Nat):Int)=(g2 xs p:Int)+4 by omega]
theorem zzl{xs:LN}{p:Nat}(h:cutV xs ((p:Int)+4) (nmV xs (p:Int) 4:Int)≠[]):blkP xs p=p+4+nmV xs (p:Int) 4/\p+4+nmV xs (p:Int) 4<=xs.length:=by
 cases hi:inB xs.length ((p:Int)+4) (nmV xs (p:Int) 4:Int) with
 | false=>rw[zmf hi]at h;exact absurd rfl h
 | true =>
  unfold blkP
  rw[if_pos hi]
  unfold inB at hi
  have:=of_decide_eq_true hi
  exact⟨rfl,by omega⟩
theorem blk_o{xs:LN}{p:Nat}(h:rdOE (gOb xs p)=0):blkP xs p=g2 xs p/\g2 xs p<=xs.length:=by
 rw[zzf]at h
 exact zzl (fun e=>by rw[e]at h;exact z0u h)
theorem blk_t{xs:LN}{p:Nat}{o:Ol}{ax:Int}(h:rdTE (gTb xs p) o ax=0):blkP xs (g2 xs p)=g4 xs p/\g4 xs p<=xs.length:=by
 rw[zzd]at h
 exact zzl (fun e=>by rw[e]at h;exact z0t h)
def GlBad(xs:LN)(ax:Int)(p:Nat):Prop:=rdGl xs ax p=none\/∃x q,rdGl xs ax p=some (x,q)/\¬nmV xs ((g4 xs p+4:Nat):Int) 1<=1
structure GlN(e:Ending):Prop where
 out:∃a0 n0 c0 a1 n1 c1 a2 n2 c2 z0 z1 bb,e=.returned (.tuple #[.agg #[.slice a0 n0 c0,.slice a1 n1 c1,.slice a2 n2 c2,.int .i64 z0,.int .i64 z1,.bool bb],.bool false])
structure GlY(n:Nat)(sb:Nat)(a:OA)(cap:Nat)(xs:LN)(p:Nat)(ax:Int)(e:Ending)(w':World):Prop where
 out:∃xa xc qa qc ta tc x q,e=.returned (.tuple #[.agg #[.slice xa x.o.cs.length xc,.slice qa x.o.ps.length qc,.slice ta x.ts.length tc,.int .i64 x.ab,.int .i64 x.ar,.bool x.mr],.bool true])/\GlC (fun k=>n<=k) w' xa xc qa qc ta tc x/\Sc 101 w' sb a cap xs q/\Hid (rdGl xs ax p=some (x,q))/\Hid (nmV xs ((g4 xs p+4:Nat):Int) 1<=1)
theorem zxc(sb:Nat)(a:OA)(cap:Nat)(xs:LN)(p:Nat)(ax:Int)(w:World)(hS:Sc 101 w sb a cap xs p)(hl:xs.length<=1048576)(hp:p<=1100000)(hi:I64 ax)(hTb:(gTb xs p).length<=100000) :
 Calls Tryz.prog 48 #[.pointer (some ⟨sb,0,none⟩),.int .i64 ax] w fun e w'=>((GlN e/\Hid (GlBad xs ax p))\/GlY (w.heap.size+1) sb a cap xs p ax e w')/\Kp sb w w':=by
 obtain⟨W,hW,XR,hbW⟩:∃W,W=w.alloc (.cells #[.slice none 0 0,.slice none 0 0,.slice none 0 0,.int .i64 0,.int .i64 0,.bool false] 62)/\Bk 62 W w.heap.size [.slice none 0 0,.slice none 0 0,.slice none 0 0,.int .i64 0,.int .i64 0,.bool false]/\Below w.heap.size w W:=⟨_,rfl,Bk.new _ _ _,bl1 _⟩
 have HS0:Hid (Sc 101 w sb a cap xs p):=hS
 have hKp:Kp sb w W:=Kp.of hbW
 have hsl:=hS.bk.lt
 have hrx:=hS.rb
 have HBY:Hid (Byt xs):=hS.rb.lim
 obtain⟨gr,hgr⟩:∃n,w.heap.size=n:=⟨_,rfl⟩
 have HGR:Hid (w.heap.size=gr):=hgr
 rw[hgr]at XR hsl
 have hblk:=zkv sb a cap xs p W (hS.below hbW).bk (hS.below hbW).rb hl (by omega)
 rw[<-zzf]at hblk
 have hWs:=XR.lt
 clear hS hbW hrx
 go_enter Tryz.func48,Tryz.ntmps48
 go_upto_region 1 with fail
 rw[<-hW]
 try rw[hgr]
 clear hW hgr
 go_wp2_with fail
 refine hblk.mono ?_
 rintro e u1 ⟨a1,c1,p1,rfl,hr1,z11,hB1,HP1,hk1⟩;clear hblk
 replace XR:=XR.kp hk1 (by omega)
 replace hKp:=hKp.trans hk1
 have hs1:=hk1.size
 have hrd:=zmi a1 c1 (gOb xs p) u1 hr1
 clear hk1 z11
 go_wp2_with fail
 refine hrd.mono ?_
 rintro e u2 ⟨xa,xc,qa,qc,rfl,hGc,hGp,⟨hlc,hlp⟩,hb2⟩;clear hrd hr1;replace XR:=XR.below hb2;replace hB1:=hB1.below hb2
 replace hKp:=hKp.trans (Kp.of hb2)
 have hs2:=hb2.size
 have hn0:gr+1<=u1.heap.size:=by omega
 replace hGc:Gr PnE.row (fun k=>gr+1<=k) u2 xa xc (rdOL (gOb xs p)).cs:=hGc.wide (fun k h1 _=>Nat.le_trans hn0 h1)
 replace hGp:Gr PaE (fun k=>gr+1<=k) u2 qa qc (rdOL (gOb xs p)).ps:=hGp.wide (fun k h1 _=>Nat.le_trans hn0 h1)
 have hlcB:∀c o,xa=some ⟨c,o,none⟩->gr+1<=c:=fun c o e=>Nat.le_trans hn0 (hlc c o e)
 have hlpB:∀c o,qa=some ⟨c,o,none⟩->gr+1<=c:=fun c o e=>Nat.le_trans hn0 (hlp c o e)
 have kc:=hGc.lenB
 have kp:=hGp.lenB
 obtain⟨V,hV,XO,hbV⟩:∃V,V=u2.alloc (.cells #[.slice xa (rdOL (gOb xs p)).cs.length xc,.slice qa (rdOL (gOb xs p)).ps.length qc] 57)/\Bk 57 V u2.heap.size [.slice xa (rdOL (gOb xs p)).cs.length xc,.slice qa (rdOL (gOb xs p)).ps.length qc]/\Below u2.heap.size u2 V:=⟨_,rfl,Bk.new _ _ _,bl1 _⟩
 go_upto_region 2 with fail
 rw[<-hV];clear hV hlc hlp hb2;replace XR:=XR.below hbV;replace hB1:=hB1.below hbV
 replace hKp:=hKp.trans (Kp.of hbV)
 replace hGc:=hGc.below hbV;replace hGp:=hGp.below hbV
 have hsV:=hbV.size
 obtain⟨go,hgo⟩:∃n,u2.heap.size=n:=⟨_,rfl⟩
 rw[hgo]at XO hs2 hsV
 try rw[hgo]
 have hro:gr+1<=go:=by omega
 clear hgo hbV hs1 hs2 hn0
 by_cases hE:rdOE (gOb xs p)=0
 rotate_left
 . have g1:(rdOE (gOb xs p) != 0)=true:=bne_iff_ne.2 hE
   have HNO:Hid (GlBad xs ax p):=Or.inl (zlo (fun h=>hE h.2.1))
   obtain⟨y0,y1,y2,y3,y4,y5,hf⟩:=XR.six
   have f0:=hf 0
   have f1:=hf 1
   have f2:=hf 2
   have f3:=hf 3
   have f4:=hf 4
   have f5:=hf 5
   have HA6:Hid (_):=(XR.set6 (.slice none 0 0) (.slice none 0 0) (.slice none 0 0) (.int .i64 0) (.int .i64 0) (.bool false)).six
   have HKF:Hid (Kp sb w (S6 V gr (.slice none 0 0) (.slice none 0 0) (.slice none 0 0) (.int .i64 0) (.int .i64 0) (.bool false))):=hKp.new6 (by have:=HGR.out;omega) _ _ _ _ _ _
   clear hE XR XO hB1 hKp hGc hGp hf HP1 hTb;go_wp2
   refine bodyPost_ret (v:=.tuple #[.agg #[.slice none 0 0,.slice none 0 0,.slice none 0 0,.int .i64 0,.int .i64 0,.bool false],.bool false]) (by obtain⟨r0,r1,r2,r3,r4,r5,-⟩:=HA6.out;simp[results,Tryz.results48,go_sem,r0,r1,r2,r3,r4,r5]) rfl ⟨.inl ⟨GlN.mk ⟨_,_,_,_,_,_,_,_,_,_,_,_,rfl⟩,HNO⟩,HKF.out⟩
 have HE:Hid (rdOE (gOb xs p)=0):=hE
 have hfo:=za1.1 (z0v hE)
 have HLc:Hid ((rdOL (gOb xs p)).cs.length<=10):=hfo.2.1
 have HLp:Hid ((rdOL (gOb xs p)).ps.length<=6):=hfo.2.2.1
 obtain⟨hq1,hq2⟩:=blk_o hE
 have HQ1:Hid (p1=g2 xs p):=HP1.out.trans hq1
 rw[HQ1.out]at hB1
 have HT2:Hid (gTb xs p=cutV xs ((g2 xs p:Int)+4) (nmV xs (g2 xs p:Int) 4:Int)):=zzd xs p
 have HB4:Hid (∀o,rdTE (gTb xs p) o ax=0->blkP xs (g2 xs p)=g4 xs p/\g4 xs p<=xs.length):=fun o h=>blk_t h
 have HG:Hid (∀v,v=rdGl xs ax p->v=rdGl xs ax p):=fun _ h=>h
 rw[hE];clear hfo hq1 HP1 hE
 have hB2:∀U,Kp sb w U->Bk 101 U sb [.slice a xs.length cap,.int .i64 (g2 xs p:Int)]->Sc 101 U sb a cap xs (g2 xs p):=fun U h1 h2=>HS0.out.of h1 h2
 obtain⟨pp,hpp⟩:∃n,g2 xs p=n:=⟨_,rfl⟩
 obtain⟨ob,hob⟩:∃o,rdOL (gOb xs p)=o:=⟨_,rfl⟩
 have HPP:Hid (g2 xs p=pp):=hpp
 have HOB:Hid (rdOL (gOb xs p)=ob):=hob
 rw[hpp]at hB1 hq2 HT2 hB2 HB4;rw[hob]at XO hGc hGp kc kp HLc HLp;rw[hob];clear hpp hob
 go_upto_region 4 with fail
 obtain⟨z0,z1,-⟩:=XO.two
 refine wp_region_held_drew (S:=fun w9=>w9.cell? ⟨go,0,none⟩=some (.slice xa ob.cs.length xc)/\w9.cell? ⟨go,1,none⟩=some (.slice qa ob.ps.length qc)) (by kernel_rfl) ?_ (fun hH=>?_)
 . (try dsimp only)
   go_keep
 have hdr:Below V.heap.size V V.drew:=Below.drew1
 generalize V.drew=Z at hdr hH ⊢
 replace XR:=XR.below hdr;replace XO:=XO.below hdr;replace hB1:=hB1.below hdr
 replace hKp:=hKp.trans (Kp.of hdr)
 replace hGc:=hGc.below hdr;replace hGp:=hGp.below hdr
 have hsZ:=hdr.size
 clear hdr z0 z1
 have hblk:=zkv sb a cap xs pp Z hB1 (hB2 Z hKp hB1).rb hl (by omega)
 rw[<-HT2.out]at hblk;refine hT 0 hH ?_;refine hT 2 hH ?_;refine hT 3 hH ?_
 refine hCall (i:=1) rfl (by kernel_rfl) (by rfl) (fun K hK=>?_)
 go_simp
 refine hblk.mono ?_
 rintro e u3 ⟨a2,c2,p2,rfl,hr2,zl0,hB3,HP2,hk3⟩
 have hs3:=hk3.size
 replace XR:=XR.kp hk3 (by omega)
 replace XO:=XO.kp hk3 (by omega)
 replace hKp:=hKp.trans hk3
 have hK3:=K3.kp (n:=gr+1) hk3 (by omega)
 replace hGc:=(zbq (zai (⟨_,_,rfl,fun c o e _=>hlcB c o e,hGc,by have:=HLc.out;omega⟩:PnE.row.row.rep (fun k=>gr+1<=k) Z [.slice xa ob.cs.length xc] ob.cs) hK3)).1
 replace hGp:=(zbq (zai (⟨_,_,rfl,fun c o e _=>hlpB c o e,hGp,by have:=HLp.out;omega⟩:PaE.row.rep (fun k=>gr+1<=k) Z [.slice qa ob.ps.length qc] ob.ps) hK3)).1
 clear hblk hB1 hk3 hK3 zl0
 go_wp2_with fail
 refine hK.out _ _ ?_ (fun hH=>?_)
 . (try dsimp only)
   exact⟨XO.two.1,XO.two.2.1⟩
 clear hK K
 try simp only[Act.put,pZ]
 have hrd:=zo3 a2 c2 (gTb xs p) _ xa xc qa qc ob ax u3 hr2 hGc hGp hi hTb
 refine hCall (i:=4) rfl (by kernel_rfl) (by rfl) (fun K hK=>?_)
 go_simp
 refine hrd.mono ?_
 rintro e u4 ⟨ta,tc,rfl,hGt,hlt,hb4⟩
 have hs4:=hb4.size
 replace XR:=XR.below hb4;replace XO:=XO.below hb4;replace hB3:=hB3.below hb4
 replace hKp:=hKp.trans (Kp.of hb4)
 replace hGc:=hGc.below hb4;replace hGp:=hGp.below hb4
 have hn3:gr+1<=u3.heap.size:=by omega
 replace hGt:Gr TuE (fun k=>gr+1<=k) u4 ta tc (rdTL (gTb xs p) ob ax):=hGt.wide (fun k h1 _=>Nat.le_trans hn3 h1)
 have hltB:∀c o,ta=some ⟨c,o,none⟩->gr+1<=c:=fun c o e=>Nat.le_trans hn3 (hlt c o e)
 have kt:=hGt.lenB
 clear hrd hr2 hb4 hlt
 go_wp2_with fail
 refine hK.out _ _ ?_ (fun hH=>?_)
 . (try dsimp only)
   exact⟨XO.two.1,XO.two.2.1⟩
 clear hK K
 try simp only[Act.put,pZ]
 refine hT 5 hH ?_;refine hT 6 hH ?_;refine hT 7 hH ?_;refine hT 8 hH ?_;refine hT 9 hH ?_
 refine wpAnyH_done (by kernel_rfl) ?_ _
 clear hH hn3 hs4 hs3 hsZ hsV
 by_cases hE2:rdTE (gTb xs p) ob ax=0
 rotate_left
 . have g1:(rdTE (gTb xs p) ob ax != 0)=true:=bne_iff_ne.2 hE2
   have HNO:Hid (GlBad xs ax p):=Or.inl (zlo (fun h=>hE2 (by rw[<-HOB.out];exact h.2.2)))
   obtain⟨y0,y1,y2,y3,y4,y5,hf⟩:=XR.six
   have f0:=hf 0
   have f1:=hf 1
   have f2:=hf 2
   have f3:=hf 3
   have f4:=hf 4
   have f5:=hf 5
   have HA6:Hid (_):=(XR.set6 (.slice none 0 0) (.slice none 0 0) (.slice none 0 0) (.int .i64 0) (.int .i64 0) (.bool false)).six
   have HKF:Hid (Kp sb w (S6 u4 gr (.slice none 0 0) (.slice none 0 0) (.slice none 0 0) (.int .i64 0) (.int .i64 0) (.bool false))):=hKp.new6 (by have:=HGR.out;omega) _ _ _ _ _ _
   clear hE2 XR XO hB3 hKp hGc hGp hf HP2 hTb hGt hB2;go_wp2
   refine bodyPost_ret (v:=.tuple #[.agg #[.slice none 0 0,.slice none 0 0,.slice none 0 0,.int .i64 0,.int .i64 0,.bool false],.bool false]) (by obtain⟨r0,r1,r2,r3,r4,r5,-⟩:=HA6.out;simp[results,Tryz.results48,go_sem,r0,r1,r2,r3,r4,r5]) rfl ⟨.inl ⟨GlN.mk ⟨_,_,_,_,_,_,_,_,_,_,_,_,rfl⟩,HNO⟩,HKF.out⟩
 have HE2:Hid (rdTE (gTb xs p) ob ax=0):=hE2
 have HLt:Hid ((rdTL (gTb xs p) ob ax).length<=40):=(zbc.1 (zft hE2).1).2.2.1
 obtain⟨hq3,hq4⟩:=HB4.out ob hE2
 have HQ2:Hid (p2=g4 xs p):=HP2.out.trans hq3
 rw[HQ2.out]at hB3;rw[hE2];clear hE2 hq3 HP2 HB4 HT2 hTb hB2
 obtain⟨p4,hp4⟩:∃n,g4 xs p=n:=⟨_,rfl⟩
 obtain⟨tl,htl⟩:∃o,rdTL (gTb xs p) ob ax=o:=⟨_,rfl⟩
 have HP4:Hid (g4 xs p=p4):=hp4
 have HTL:Hid (rdTL (gTb xs p) ob ax=tl):=htl
 rw[hp4]at hB3 hq4;rw[htl]at hGt kt HLt;rw[htl];clear hp4 htl
 have hSc:Sc 101 u4 sb a cap xs p4:=HS0.out.of hKp hB3
 have hi1:=fun U (hr:Rb U a cap xs)=>zgw a cap xs (p4:Int) U hr ⟨by omega,by omega⟩
 have hi2:=fun U (hr:Rb U a cap xs)=>zgw a cap xs ((p4+2:Nat):Int) U hr ⟨by omega,by omega⟩
 have hi3:=fun U (hr:Rb U a cap xs)=>zgc a cap xs ((p4+4:Nat):Int) U hr ⟨by omega,by omega⟩
 have hv1:=zh9 (zbd HBY.out (p4:Int) 2)
 have hv2:=zh9 (zbd HBY.out ((p4+2:Nat):Int) 2)
 have hv3:=zbd HBY.out ((p4+4:Nat):Int) 1
 have HV0:Hid (inB xs.length ((p4+4:Nat):Int) 1=false->nmV xs ((p4+4:Nat):Int) 1=0):=fun h=>by
  unfold nmV
  rw[if_neg (by rw[show inB xs.length ((p4+4:Nat):Int) ((1:Nat):Int)=false from h];decide)]
 have HIN:Hid (inB xs.length ((p4+4:Nat):Int) 1=true↔p4+5<=xs.length):=by
  show _↔_
  unfold inB
  rw[decide_eq_true_iff]
  omega
 obtain⟨v1,ev1⟩:∃z,sx16 (nmV xs (p4:Int) 2)=z:=⟨_,rfl⟩
 obtain⟨v2,ev2⟩:∃z,sx16 (nmV xs ((p4+2:Nat):Int) 2)=z:=⟨_,rfl⟩
 obtain⟨v3,ev3⟩:∃z,nmV xs ((p4+4:Nat):Int) 1=z:=⟨_,rfl⟩
 obtain⟨th,eth⟩:∃z,inB xs.length ((p4+4:Nat):Int) 1=z:=⟨_,rfl⟩
 have EV1:Hid (sx16 (nmV xs (p4:Int) 2)=v1):=ev1
 have EV2:Hid (sx16 (nmV xs ((p4+2:Nat):Int) 2)=v2):=ev2
 have EV3:Hid (nmV xs ((p4+4:Nat):Int) 1=v3):=ev3
 simp only[ev1]at hi1 hv1
 simp only[ev2]at hi2 hv2
 simp only[ev3,eth]at hi3
 rw[ev3,eth]at HV0;rw[eth]at HIN;rw[ev3]at hv3;clear ev1 ev2 ev3 eth
 have hw2:IntKind.i64.wrap ((p4:Int)+2)=((p4+2:Nat):Int):=by rw[zbb (by omega) (by omega)];omega
 have hw4:IntKind.i64.wrap ((p4:Int)+4)=((p4+4:Nat):Int):=by rw[zbb (by omega) (by omega)];omega
 have hw5:IntKind.i64.wrap ((p4:Int)+5)=((p4+5:Nat):Int):=by rw[zbb (by omega) (by omega)];omega
 -- base
 go_upto_region 7 with fail
 obtain⟨z0,z1,-⟩:=hSc.bk.two
 refine wp_region_held_drew (S:=fun w9=>w9.cell? ⟨sb,0,none⟩=some (.slice a xs.length cap)/\w9.cell? ⟨sb,1,none⟩=some (.int .i64 (p4:Int))) (by kernel_rfl) ?_ (fun hH=>?_)
 . (try dsimp only)
   go_keep
 have hdr:Below u4.heap.size u4 u4.drew:=Below.drew1
 generalize u4.drew=Z4 at hdr hH ⊢
 replace XR:=XR.below hdr;replace XO:=XO.below hdr
 replace hKp:=hKp.trans (Kp.of hdr)
 replace hGc:=hGc.below hdr;replace hGp:=hGp.below hdr;replace hGt:=hGt.below hdr;replace hSc:=hSc.below hdr;clear hdr z0 z1 hB3;refine hT 0 hH ?_;refine hT 1 hH ?_;refine hT 2 hH ?_;refine hT 3 hH ?_;refine hT 4 hH ?_;refine hT 5 hH ?_;refine hT 6 hH ?_;refine hT 7 hH ?_
 refine hCall (i:=8) rfl (by kernel_rfl) (by rfl) (fun K hK=>?_)
 go_simp
 refine(hi1 _ hSc.rb).mono ?_
 rintro e u ⟨rfl,rfl⟩
 go_wp2_with fail
 refine hK.out _ _ ?_ (fun hH=>?_)
 . (try dsimp only)
   exact hH
 clear hK K
 try simp only[Act.put,pZ]
 refine hT 9 hH ?_;refine hT 10 hH ?_;refine hT 11 hH ?_;refine hT 12 hH ?_;refine hT 13 hH ?_
 refine wpAnyH_done (by kernel_rfl) ?_ _
 clear hH hi1
 -- row
 go_upto_region 8 with fail
 obtain⟨z0,z1,-⟩:=hSc.bk.two
 refine wp_region_held_drew (S:=fun w9=>w9.cell? ⟨sb,0,none⟩=some (.slice a xs.length cap)/\w9.cell? ⟨sb,1,none⟩=some (.int .i64 (p4:Int))) (by kernel_rfl) ?_ (fun hH=>?_)
 . (try dsimp only)
   go_keep
 have hdr:Below Z4.heap.size Z4 Z4.drew:=Below.drew1
 generalize Z4.drew=Z5 at hdr hH ⊢
 replace XR:=XR.below hdr;replace XO:=XO.below hdr
 replace hKp:=hKp.trans (Kp.of hdr)
 replace hGc:=hGc.below hdr;replace hGp:=hGp.below hdr;replace hGt:=hGt.below hdr;replace hSc:=hSc.below hdr;clear hdr z0 z1;refine hT 0 hH ?_;refine hT 1 hH ?_;refine hT 2 hH ?_;refine hT 3 hH ?_;refine hT 4 hH ?_;refine hT 5 hH ?_;refine hT 6 hH ?_;refine hT 7 hH ?_
 refine hT 8 hH ?_
 try rw[hw2]
 refine hCall (i:=9) rfl (by kernel_rfl) (by rfl) (fun K hK=>?_)
 go_simp
 refine(hi2 _ hSc.rb).mono ?_
 rintro e u ⟨rfl,rfl⟩
 go_wp2_with fail
 refine hK.out _ _ ?_ (fun hH=>?_)
 . (try dsimp only)
   exact hH
 clear hK K
 try simp only[Act.put,pZ]
 refine hT 10 hH ?_;refine hT 11 hH ?_;refine hT 12 hH ?_;refine hT 13 hH ?_;refine hT 14 hH ?_
 refine wpAnyH_done (by kernel_rfl) ?_ _
 clear hH hi2
 -- mark
 go_upto_region 9 with fail
 obtain⟨z0,z1,-⟩:=hSc.bk.two
 refine wp_region_held_drew (S:=fun w9=>w9.cell? ⟨sb,0,none⟩=some (.slice a xs.length cap)/\w9.cell? ⟨sb,1,none⟩=some (.int .i64 (p4:Int))) (by kernel_rfl) ?_ (fun hH=>?_)
 . (try dsimp only)
   go_keep
 have hdr:Below Z5.heap.size Z5 Z5.drew:=Below.drew1
 generalize Z5.drew=Z6 at hdr hH ⊢
 replace XR:=XR.below hdr;replace XO:=XO.below hdr
 replace hKp:=hKp.trans (Kp.of hdr)
 replace hGc:=hGc.below hdr;replace hGp:=hGp.below hdr;replace hGt:=hGt.below hdr;replace hSc:=hSc.below hdr;clear hdr z0 z1;refine hT 0 hH ?_;refine hT 1 hH ?_;refine hT 2 hH ?_;refine hT 3 hH ?_;refine hT 4 hH ?_;refine hT 5 hH ?_;refine hT 6 hH ?_;refine hT 7 hH ?_
 refine hT 8 hH ?_
 try rw[hw4]
 refine hCall (i:=9) rfl (by kernel_rfl) (by rfl) (fun K hK=>?_)
 go_simp
 refine(hi3 _ hSc.rb).mono ?_
 rintro e u ⟨rfl,rfl⟩
 go_wp2_with fail
 refine hK.out _ _ ?_ (fun hH=>?_)
 . (try dsimp only)
   exact hH
 clear hK K
 try simp only[Act.put,pZ]
 refine hT 10 hH ?_;refine hT 11 hH ?_;refine hT 12 hH ?_;refine hT 13 hH ?_;refine hT 14 hH ?_
 refine wpAnyH_done (by kernel_rfl) ?_ _
 clear hH hi3
 -- the end
 obtain⟨U,hU⟩:∃U,U=Z6.setCell ⟨sb,1,none⟩ (.int .i64 ((p4:Int)+5)):=⟨_,rfl⟩
 have hSU:Sc 101 U sb a cap xs (p4+5):=by rw[hU,show((p4:Int)+5)=((p4+5:Nat):Int) by omega];exact hSc.step (p4+5)
 have XRU:Bk 62 U gr [.slice none 0 0,.slice none 0 0,.slice none 0 0,.int .i64 0,.int .i64 0,.bool false]:=by rw[hU];exact XR.other 1 _ (by omega)
 have XOU:Bk 57 U go [.slice xa ob.cs.length xc,.slice qa ob.ps.length qc]:=by rw[hU];exact XO.other 1 _ (by omega)
 have hKU:Kp sb w U:=by rw[hU];exact hKp.setCell 1 _
 have hK3:K3 (gr+1) Z6 U:=by rw[hU];exact K3.set _ (by omega) 1 _
 have HFG:Hid (∀mr:Bool,GlC (fun k=>gr+1<=k) (S6 U gr (.slice xa ob.cs.length xc) (.slice qa ob.ps.length qc) (.slice ta tl.length tc) (.int .i64 v1) (.int .i64 v2) (.bool mr)) xa xc qa qc ta tc ⟨ob,tl,v1,v2,mr⟩):=fun mr=>by
  have h6:=hK3.trans (K3.set6 (n:=gr+1) U (b:=gr) (by omega) (.slice xa ob.cs.length xc) (.slice qa ob.ps.length qc) (.slice ta tl.length tc) (.int .i64 v1) (.int .i64 v2) (.bool mr))
  exact⟨zai (⟨_,_,rfl,fun c o e _=>hlcB c o e,hGc,by have:=HLc.out;omega⟩:PnE.row.row.rep (fun k=>gr+1<=k) Z6 [.slice xa ob.cs.length xc] ob.cs) h6,zai (⟨_,_,rfl,fun c o e _=>hlpB c o e,hGp,by have:=HLp.out;omega⟩:PaE.row.rep (fun k=>gr+1<=k) Z6 [.slice qa ob.ps.length qc] ob.ps) h6,zai (⟨_,_,rfl,fun c o e _=>hltB c o e,hGt,by have:=HLt.out;omega⟩:TuE.row.rep (fun k=>gr+1<=k) Z6 [.slice ta tl.length tc] tl) h6,hv1,hv2⟩
 have HFK:Hid (∀mr:Bool,Kp sb w (S6 U gr (.slice xa ob.cs.length xc) (.slice qa ob.ps.length qc) (.slice ta tl.length tc) (.int .i64 v1) (.int .i64 v2) (.bool mr))):=fun mr=>hKU.new6 (by have:=HGR.out;omega) _ _ _ _ _ _
 have HFS:Hid (∀mr:Bool,Sc 101 (S6 U gr (.slice xa ob.cs.length xc) (.slice qa ob.ps.length qc) (.slice ta tl.length tc) (.int .i64 v1) (.int .i64 v2) (.bool mr)) sb a cap xs (p4+5)):=fun mr=>HS0.out.of (HFK.out mr) (hSU.bk.other6 (by omega) _ _ _ _ _ _)
 have HFX:Hid (∀mr:Bool,Bk 62 (S6 U gr (.slice xa ob.cs.length xc) (.slice qa ob.ps.length qc) (.slice ta tl.length tc) (.int .i64 v1) (.int .i64 v2) (.bool mr)) gr [.slice xa ob.cs.length xc,.slice qa ob.ps.length qc,.slice ta tl.length tc,.int .i64 v1,.int .i64 v2,.bool mr]):=fun mr=>XRU.set6 _ _ _ _ _ _
 obtain⟨z0,z1,hzf⟩:=hSc.bk.two
 have zf1:=hzf.2
 clear XR XO hKp hGc hGp hGt hSc hKU hSU hK3 hzf
 go_upto_region 11 with fail
 rw[<-hU];clear z0 z1 zf1 hU;obtain⟨x0,x1,-⟩:=XOU.two;obtain⟨y0,y1,y2,y3,y4,y5,hf⟩:=XRU.six
 have f0:=hf 0
 have f1:=hf 1
 have f2:=hf 2
 have f3:=hf 3
 have f4:=hf 4
 have f5:=hf 5
 clear hf XOU XRU
 cases th with
 | false =>
  have hv0:=HV0.out rfl
  have HNO:Hid (GlBad xs ax p):=Or.inl (zlo (fun h=>by have h1:=h.1;rw[HP4.out]at h1;exact absurd (HIN.out.2 h1) (by decide)))
  have g5:((v3:Int)==1)=false:=by rw[hv0];rfl
  have g6:decide ((v3:Int)=1)=false:=by rw[hv0];rfl
  have HA6:Hid (_):=(HFX.out false).six
  clear hv0 HV0 HIN hw2 hw4 hw5;go_wp2
  refine bodyPost_ret (v:=.tuple #[.agg #[.slice xa ob.cs.length xc,.slice qa ob.ps.length qc,.slice ta tl.length tc,.int .i64 v1,.int .i64 v2,.bool false],.bool false]) (by obtain⟨r0,r1,r2,r3,r4,r5,-⟩:=HA6.out;simp[results,Tryz.results48,go_sem,r0,r1,r2,r3,r4,r5]) rfl ⟨.inl ⟨GlN.mk ⟨_,_,_,_,_,_,_,_,_,_,_,_,rfl⟩,HNO⟩,HFK.out false⟩
 | true =>
 have HLE:Hid (p4+5<=xs.length):=HIN.out.1 rfl
 have HRD:Hid (rdGl xs ax p=some (⟨ob,tl,v1,v2,decide (v3=1)⟩,p4+5)):=by
  have h:=zv2 (b:=xs) (ax:=ax) (p:=p) (by rw[HP4.out];exact HLE.out) HE.out (by rw[HOB.out];exact HE2.out)
  rw[HP4.out,HOB.out,HTL.out,EV1.out,EV2.out,EV3.out]at h
  exact h
 have HMK:Hid (nmV xs ((g4 xs p+4:Nat):Int) 1=v3):=by show _=_;rw[HP4.out];exact EV3.out
 clear HV0 HIN hw2 hw4 hw5
 by_cases z1t:v3=1
 . have g5:((v3:Int)==1)=true:=by rw[z1t];rfl
   have g6:decide ((v3:Int)=1)=true:=by rw[z1t];rfl
   have g7:(v3:Int)<=1:=by omega
   have HA6:Hid (_):=(HFX.out true).six
   have HR2:Hid (rdGl xs ax p=some (⟨ob,tl,v1,v2,true⟩,p4+5)):=by have h:=HRD.out;rw[decide_eq_true z1t]at h;exact h
   have HM2:Hid (nmV xs ((g4 xs p+4:Nat):Int) 1<=1):=by show _<=_;rw[HMK.out];omega
   clear z1t HRD HMK;go_wp2
   refine bodyPost_ret (v:=.tuple #[.agg #[.slice xa ob.cs.length xc,.slice qa ob.ps.length qc,.slice ta tl.length tc,.int .i64 v1,.int .i64 v2,.bool true],.bool true]) (by obtain⟨r0,r1,r2,r3,r4,r5,-⟩:=HA6.out;simp[results,Tryz.results48,go_sem,r0,r1,r2,r3,r4,r5]) rfl ⟨.inr ⟨⟨xa,xc,qa,qc,ta,tc,⟨ob,tl,v1,v2,true⟩,p4+5,rfl,by rw[HGR.out];exact HFG.out true,HFS.out true,HR2,HM2⟩⟩,HFK.out true⟩
 have g5:((v3:Int)==1)=false:=by simp;omega
 have g6:decide ((v3:Int)=1)=false:=decide_eq_false (by omega)
 have HA6:Hid (_):=(HFX.out false).six
 by_cases hv30:v3<=1
 . have g7:(v3:Int)<=1:=by omega
   have HR2:Hid (rdGl xs ax p=some (⟨ob,tl,v1,v2,false⟩,p4+5)):=by have h:=HRD.out;rw[decide_eq_false z1t]at h;exact h
   have HM2:Hid (nmV xs ((g4 xs p+4:Nat):Int) 1<=1):=by show _<=_;rw[HMK.out];omega
   clear z1t HRD HMK hv30;go_wp2
   refine bodyPost_ret (v:=.tuple #[.agg #[.slice xa ob.cs.length xc,.slice qa ob.ps.length qc,.slice ta tl.length tc,.int .i64 v1,.int .i64 v2,.bool false],.bool true]) (by obtain⟨r0,r1,r2,r3,r4,r5,-⟩:=HA6.out;simp[results,Tryz.results48,go_sem,r0,r1,r2,r3,r4,r5]) rfl ⟨.inr ⟨⟨xa,xc,qa,qc,ta,tc,⟨ob,tl,v1,v2,false⟩,p4+5,rfl,by rw[HGR.out];exact HFG.out false,HFS.out false,HR2,HM2⟩⟩,HFK.out false⟩
 . have g7:¬(v3:Int)<=1:=by omega
   have HNO:Hid (GlBad xs ax p):=Or.inr ⟨_,_,HRD.out,by rw[HMK.out];exact hv30⟩
   clear z1t HRD HMK hv30;go_wp2
   refine bodyPost_ret (v:=.tuple #[.agg #[.slice xa ob.cs.length xc,.slice qa ob.ps.length qc,.slice ta tl.length tc,.int .i64 v1,.int .i64 v2,.bool false],.bool false]) (by obtain⟨r0,r1,r2,r3,r4,r5,-⟩:=HA6.out;simp[results,Tryz.results48,go_sem,r0,r1,r2,r3,r4,r5]) rfl ⟨.inl (GlN.mk ⟨_,_,_,_,_,_,_,_,_,_,_,_,rfl⟩),HFK.out false⟩
theorem z1s:(Tryz.prog.info? 62).map (fun i=>(i.zero,i.size,i.bytes))=some (some (.agg #[.slice none 0 0,.slice none 0 0,.slice none 0 0,.int .i64 0,.int .i64 0,.bool false]),6,96):=by kernel_rfl
theorem KgI.le{b:LN}{ax:Int}{k:Nat}{l:List Gl}{q:Nat}(h:KgI b ax k l q)(hb:b.length<=1048576):q<=1100000:=by
 by_cases hk:0<k
 . have:=h.hi hk
   omega
 . have h1:=h.rd
   rw[show k=0 by omega,rdGk]at h1
   injection h1 with h1;injection h1 with h1 h2
   omega
theorem KgI.ps{b:LN}{ax:Int}{k:Nat}{l:List Gl}{q:Nat}(h:KgI b ax k l q):∀x∈l,x.o.ps.length<=12:=fun x hx=>by
 have h1:=zf0.1 h.fr x hx
 rcases zey x.o with h2|h2|h2
 . have:=(za1.1 h2.2).2.2.1
   omega
 . rw[h2.1]at h1;exact absurd h1 (by decide)
 . rw[h2.1]at h1;exact absurd h1 (by decide)
theorem zg1(ba:OA)(bc:Nat)(xs:LN)(ga:OA)(gc:Nat)(ma:OA)(mc:Nat)(s:Sr)(ax:Int)(w:World)(hx:Rb w ba bc xs)(hg:Tzz w ga gc s.rg)(hm:Rii w ma mc s.rw)(hi:I64 ax)(hxl:xs.length<=1048576)(hT:∀k tl q,k<nmV xs 0 2->rdGk xs ax k=some (tl,q)->(gTb xs q).length<=100000) :
 Calls Tryz.prog 23 #[.slice ba xs.length bc,.agg #[.slice ga s.rg.length gc,.slice ma s.rw.length mc],.int .i64 ax] w fun e w'=>∃a' c',e=.returned (.tuple #[.slice a' (rdGL xs s ax).length c',.int .i64 (rdGE xs s ax)])/\Gr GlE (fun k=>w.heap.size<=k) w' a' c' (rdGL xs s ax)/\(∀c o,a'=some ⟨c,o,none⟩->w.heap.size<=c)/\Below w.heap.size w w':=by
 have k2:=hm.lenB
 have k3:=hg.lenB
 have hpc:=hx.le
 have hpm:=hx.cap
 unfold maxLen at hpm
 obtain⟨W,hW,X1,hbW⟩:∃W,W=w.alloc (.cells #[.slice ga s.rg.length gc,.slice ma s.rw.length mc] 26)/\Bk 26 W w.heap.size [.slice ga s.rg.length gc,.slice ma s.rw.length mc]/\Below w.heap.size w W:=⟨_,rfl,Bk.new _ _ _,bl1 _⟩
 replace hg:=hg.below hbW;replace hm:=hm.below hbW;replace hx:=hx.below hbW
 have hu:=zgd ba bc xs 0 W hx ⟨by decide,by decide⟩
 have hnl:=zbd hx.lim 0 2
 have zql:Hid (rdGOk xs s ax=false->rdGL xs s ax=[]/\rdGE xs s ax=2):=zln
 have HB1:Hid (¬nmV xs 0 2<=100->rdGOk xs s ax=false):=zr0
 have z3l:Hid (∀k tl q,KgI xs ax k tl q->k<nmV xs 0 2->GlBad xs ax q->rdGOk xs s ax=false):=fun k tl q h1 h2 h3=>by
  rcases h3 with h3|⟨x,q2,h3,h4⟩
  . exact h1.bad1 h2 h3
  . exact h1.bad2 h2 h3 h4
 have HB3:Hid (∀tl q,KgI xs ax (nmV xs 0 2) tl q->q≠xs.length->rdGOk xs s ax=false):=fun tl q h1 h2=>h1.bad3 h2
 have HB4:Hid (∀tl q,KgI xs ax (nmV xs 0 2) tl q->foG tl s ax=false->rdGOk xs s ax=false):=fun tl q h1 h2=>h1.bad4 h2
 have HGD:Hid (∀tl,KgI xs ax (nmV xs 0 2) tl xs.length->foG tl s ax=true->rdGL xs s ax=tl/\rdGE xs s ax=0):=fun tl h1 h2=>h1.good hx.lim h2 hxl
 have HTT:Hid (∀k tl q,KgI xs ax k tl q->k<nmV xs 0 2->(gTb xs q).length<=100000):=fun k tl q h1 h2=>hT k tl q h2 h1.rd
 have HBY:Hid (Byt xs):=hx.lim
 obtain⟨n,hn⟩:∃n,nmV xs 0 2=n:=⟨_,rfl⟩
 generalize inB xs.length 0 2=qb at hu
 rw[hn]at hu hnl HB1 z3l HB3 HB4 HGD HTT
 have hn6:n<65536:=hnl
 have g0:decide ((1048576:Int)<(xs.length:Int))=false:=decide_eq_false (by omega)
 clear hnl hn hT;obtain⟨p0,p1,_⟩:=X1.two
 go_enter Tryz.func23,Tryz.ntmps23
 go_upto_region 1 with fail
 rw[<-hW];clear hW
 go_wp2_with fail
 refine hu.mono ?_
 rintro e u0 ⟨rfl,rfl⟩;clear hu
 by_cases hn4:n<=100
 rotate_left
 . have g1:decide ((100:Int)<(n:Int))=true:=decide_eq_true (by omega)
   have HNO:Hid (_):=zql.out (HB1.out hn4)
   clear hg hm hx HB1 HB3 HB4 HGD HTT z3l X1;go_wp2
   go_ret2
   exact⟨none,0,by rw[HNO.out.1,HNO.out.2];rfl,by rw[HNO.out.1];exact Gr.nil _ _ _ _ _ (Nat.zero_le _) (fun _=>rfl),(fun c o e=>by cases e),hbW⟩
 have g1:decide ((100:Int)<(n:Int))=false:=decide_eq_false (by omega)
 obtain⟨V,hV,XS,hbV⟩:∃V,V=W.alloc (.cells #[.slice ba xs.length bc,.int .i64 2] 101)/\Bk 101 V W.heap.size [.slice ba xs.length bc,.int .i64 2]/\Below W.heap.size W V:=⟨_,rfl,Bk.new _ _ _,bl1 _⟩
 have hS0:Sc 101 V W.heap.size ba bc xs 2:=⟨XS,hx.below hbV,fun b o e hne=>Nat.ne_of_lt (hx.blk hne e)⟩
 have HX1:Hid (Bk 26 W w.heap.size [.slice ga s.rg.length gc,.slice ma s.rw.length mc]):=X1
 have HG0:Hid (Tzz W ga gc s.rg):=hg
 have HM0:Hid (Rii W ma mc s.rw):=hm
 have HX:Hid (Rb W ba bc xs):=hx
 have HBW:Hid (Below w.heap.size w W):=hbW
 have HVS:Hid (V.heap.size=W.heap.size+1):=by show _=_;rw[hV];simp
 obtain⟨g,hgg⟩:∃g,W.heap.size=g:=⟨_,rfl⟩
 have HG:Hid (W.heap.size=g):=hgg
 have hB0:Below W.heap.size W V:=hbV
 go_upto_region 5 with fail
 rw[<-hV];rw[hgg]at hS0 HVS
 try rw[hgg]
 clear hV XS hbV X1 hg hm hx hbW hgg g0 g1 p0 p1;go_wp2
 go_loopw [11,30] (fun v i wr=>∃(k:Nat) (tl:List Gl) (q:Nat),k<=n/\i=.int .i64 k/\Hid (KgI xs ax k tl q)/\Sc 101 wr g ba bc xs q/\Gw GlE 62 (g+1) (fun k=>g+1<=k) wr v tl/\g+1<=wr.heap.size/\Below W.heap.size W wr) (fun _ i _=>n-(intOf i).toNat)
 case atStart=>exact⟨0,[],2,Nat.zero_le _,rfl,KgI.zero _ _,hS0,Gw.nil _ _ _ _ _,by rw[HVS.out];exact Nat.le_refl _,hB0⟩
 case round =>
  clear hS0 hB0;obtain⟨k,tl,q,hk,rfl,HK,hS,hGw,hgs,hB⟩:=hrel
  have hlk:=zim HK.out.rd
  have HLK:Hid (tl.length=k):=hlk
  by_cases hkn:k<n
  . have g2:(k:Int)<(n:Int):=by omega
    obtain⟨a6,c6,rfl,-,-⟩:=hGw.slice
    have htu:=zxc g ba bc xs q ax wr hS hxl (HK.out.le hxl) hi (HTT.out k tl q HK.out hkn)
    rw[hlk]at hGw ⊢;clear hlk
    go_wp2_with fail
    refine htu.mono ?_
    rintro e u2 ⟨hta,hk2⟩
    have hs2:=hk2.size
    have hOW:∀q,(Value.slice a6 k c6).ownBlock=some q->g+1<=q/\q<wr.heap.size:=fun q e=>hGw.lo e
    replace hGw:=hGw.kpS hS.bk (by decide) (by omega) hk2
    replace hB:=hB.trans (hk2.below hB.size (by rw[HG.out];exact Nat.le_refl _))
    rcases hta with ⟨hta,HBA⟩|hta
    . obtain⟨⟨b0,n0,c0,b1,n1,c1,b2,n2,c2,z0,z1,bb,rfl⟩⟩:=hta
      have HNO:Hid (_):=zql.out (z3l.out k tl q HK.out hkn HBA.out)
      have hBf:Below W.heap.size W (u2.alloc (.cells #[.slice b0 n0 c0,.slice b1 n1 c1,.slice b2 n2 c2,.int .i64 z0,.int .i64 z1,.bool bb] 62)):=hB.trans ((bl1 _).mono hB.size)
      have zqm:Hid (_):=HBW.out.trans (hBf.mono HBW.out.size)
      clear hGw hS htu hk2 hB HB1 HB3 HB4 HGD HTT z3l hBf HK HBA hOW;go_wp2
      go_ret2
      exact⟨none,0,by rw[HNO.out.1,HNO.out.2];rfl,by rw[HNO.out.1];exact Gr.nil _ _ _ _ _ (Nat.zero_le _) (fun _=>rfl),(fun c o e=>by cases e),zqm.out⟩
    . obtain⟨⟨xa,xc,qa,qc,ta,tc,t,q2,rfl,hTC,hS2,HRD,HMK⟩⟩:=hta
      have HK2:Hid (KgI xs ax (k+1) (tl++[t]) q2):=HK.out.succ HBY.out HRD.out HMK.out
      have HOW:Hid (∀q,(Value.slice a6 k c6).ownBlock=some q->g+1<=q/\q<wr.heap.size):=fun q e=>hOW q e
      have l1:=hTC.cs.lenB
      have l2:=hTC.ps.lenB
      have l3:=hTC.ts.lenB
      obtain⟨U,hU,XU,hbU⟩:∃U,U=u2.alloc (.cells #[.slice xa t.o.cs.length xc,.slice qa t.o.ps.length qc,.slice ta t.ts.length tc,.int .i64 t.ab,.int .i64 t.ar,.bool t.mr] 62)/\Bk 62 U u2.heap.size [.slice xa t.o.cs.length xc,.slice qa t.o.ps.length qc,.slice ta t.ts.length tc,.int .i64 t.ab,.int .i64 t.ar,.bool t.mr]/\Below u2.heap.size u2 U:=⟨_,rfl,Bk.new _ _ _,bl1 _⟩
      clear hS htu hk2 hOW HRD HMK HK
      go_upto_region 9 with fail
      rw[<-hU];clear hU;replace hS2:=hS2.below hbU;replace hGw:=hGw.below hbU;replace hTC:=hTC.below hbU
      replace hB:=hB.trans (hbU.mono hB.size)
      have hs3:=hbU.size
      clear hbU
      obtain⟨V9,hV9,Y9,hb9⟩:∃V,V=U.alloc (.cells #[.slice xa t.o.cs.length xc,.slice qa t.o.ps.length qc,.slice ta t.ts.length tc,.int .i64 t.ab,.int .i64 t.ar,.bool t.mr] 62)/\Bk 62 V U.heap.size [.slice xa t.o.cs.length xc,.slice qa t.o.ps.length qc,.slice ta t.ts.length tc,.int .i64 t.ab,.int .i64 t.ar,.bool t.mr]/\Below U.heap.size U V:=⟨_,rfl,Bk.new _ _ _,bl1 _⟩
      obtain⟨y0,y1,y2,y3,y4,y5,-⟩:=XU.six
      have hGb:=hGw.below hb9
      have zju:GlE.rep (fun q=>g+1<=q/\(Value.slice a6 k c6).ownBlock≠some q) V9 [.slice xa t.o.cs.length xc,.slice qa t.o.ps.length qc,.slice ta t.ts.length tc,.int .i64 t.ab,.int .i64 t.ar,.bool t.mr] t:=GlE.stay (zjt.2 ⟨xa,xc,qa,qc,ta,tc,rfl,hTC.below hb9⟩) (Nat.le_refl _) (fun q h1 _=>⟨⟨by omega,fun e=>by have:=(HOW.out q e).2;omega⟩,rfl⟩)
      have zba:=Gr.one (E:=GlE) zju Y9.lt (fun j hj=>Y9.cell j hj)
      have hBb:Below W.heap.size W V9:=hB.trans (hb9.mono hB.size)
      have hs9:=hb9.size
      have hbs:g+1<=V9.heap.size:=by omega
      have hS9:=hS2.below hb9
      have hll:tl.length+1<=1000000:=by rw[HLK.out];omega
      clear zju hGw hTC hS2 hB
      go_wp2_with (at_builtin;rw[<-hV9];refine zad 22 62 Tryz.underlying22 z1s rfl (by decide) (by decide) rfl _ _ rfl (g+1) (fun k=>g+1<=k) _ tl rfl hGb (some ⟨U.heap.size,0,none⟩) 1 1 [t] rfl rfl zba hll hbs ?_)
      intro v9 w9 hT9 hgrow _
      rw[<-hV9]at hgrow
      have hB9:Below W.heap.size W w9:=hBb.grown hgrow hBb.size (fun q hq=>by have:=(HOW.out q hq).1;have:=HG.out;omega)
      have zxa:=hS9.grown hgrow (fun e=>by have:=(HOW.out g e).1;omega) (fun b o e hne e2=>by have:=(HOW.out b e2).1;have:=HX.out.blk hne e;have:=HG.out;omega)
      have hs10:g+1<=w9.heap.size:=Nat.le_trans hbs hgrow.size
      clear hgrow hGb zba hbs hll hBb hV9 Y9 y0 y1 y2 y3 y4 y5 XU hb9 hS9;go_wp2
      go_roundw
      case rel=>exact⟨k+1,tl++[t],q2,by omega,by go_num,HK2,zxa,hT9,hs10,hB9⟩
      case measure=>simp[intOf];omega
  . have hkk:k=n:=by omega
    have HKN:Hid (KgI xs ax n tl q):=by rw[<-hkk];exact HK.out
    have g4:¬(k:Int)<(n:Int):=by omega
    obtain⟨a6,c6,rfl,hgr,hb6⟩:=hGw.slice
    have HLO:Hid (∀c o,a6=some ⟨c,o,none⟩->w.heap.size<=c):=fun c o e=>by
     have h1:=(hb6 c o e).1
     have h2:=HBW.out.size
     have h3:=HG.out
     omega
    have HLW:Hid (∀k,g+1<=k->w.heap.size<=k):=fun k h1=>by
     have h2:=HBW.out.size
     have h3:=HG.out
     omega
    clear hb6 hkk hlk hkn HK
    have hX1:=HX1.out.below hB
    obtain⟨p0,p1,_⟩:=hX1.two;obtain⟨s0,s1,-⟩:=hS.bk.two
    have hBw:=HBW.out.trans (hB.mono HBW.out.size)
    have hgf:=zkw _ a6 c6 tl ga gc ma mc s ax wr hgr HKN.out.ps (HG0.out.below hB) (HM0.out.below hB) hi
    have HGR:Hid (Gr GlE (fun k=>g+1<=k) wr a6 c6 tl):=hgr
    clear hGw hX1 hgr
    by_cases hq:q=xs.length
    rotate_left
    . have g5:((q:Int) != (xs.length:Int))=true:=bne_iff_ne.2 (by omega)
      have HNO:Hid (_):=zql.out (HB3.out tl q HKN.out hq)
      clear hgf hS hq HB1 HB3 HB4 HGD HTT z3l HKN;go_wp2
      go_ret2
      exact⟨none,0,by rw[HNO.out.1,HNO.out.2];rfl,by rw[HNO.out.1];exact Gr.nil _ _ _ _ _ (Nat.zero_le _) (fun _=>rfl),(fun c o e=>by cases e),hBw⟩
    have g5:((q:Int) != (xs.length:Int))=false:=by rw[hq];simp
    have HQ:Hid (q=xs.length):=hq
    clear hq hS
    cases hfo:foG tl s ax with
    | false =>
     rw[hfo]at hgf
     have HNO:Hid (_):=zql.out (HB4.out tl q HKN.out hfo)
     clear hfo HB1 HB3 HB4 HGD HTT z3l HKN
     go_wp2_with fail
     refine hgf.mono ?_
     rintro e u3 ⟨rfl,hb3⟩
     have zqm:Hid (_):=hBw.trans (hb3.mono hBw.size)
     clear hgf hb3;go_wp2
     go_ret2
     exact⟨none,0,by rw[HNO.out.1,HNO.out.2];rfl,by rw[HNO.out.1];exact Gr.nil _ _ _ _ _ (Nat.zero_le _) (fun _=>rfl),(fun c o e=>by cases e),zqm.out⟩
    | true =>
     rw[hfo]at hgf
     have HYS:Hid (_):=HGD.out tl (by have h:=HKN.out;rw[HQ.out]at h;exact h) hfo
     clear hfo HB1 HB3 HB4 HGD HTT z3l HKN
     go_wp2_with fail
     refine hgf.mono ?_
     rintro e u3 ⟨rfl,hb3⟩
     have zqm:Hid (_):=hBw.trans (hb3.mono hBw.size)
     have HGF:Hid (Gr GlE (fun k=>w.heap.size<=k) u3 a6 c6 tl):=(HGR.out.below hb3).wide (fun k h1 _=>HLW.out k h1)
     clear hgf hb3;go_wp2
     go_ret2
     exact⟨a6,c6,by rw[HYS.out.1,HYS.out.2];rfl,by rw[HYS.out.1];exact HGF.out,HLO.out,zqm.out⟩
theorem zs1{xs ys:LN}(hl:xs.length=ys.length)(h:∀k,k<xs.length->xs.getD k 0=ys.getD k 0):xs=ys:=by
 apply List.ext_getElem hl
 intro i h1 h2
 have:=h i h1
 simpa [List.getD,h1,h2] using this
theorem zhp(a b:OA)(ca cb:Nat)(xs ys:LN)(w:World)(ha:Rb w a ca xs)(hb:Rb w b cb ys) :
 Calls Tryz.prog 25 #[.slice a xs.length ca,.slice b ys.length cb] w fun e w'=>e=.returned (.bool (decide (xs=ys)))/\Below w.heap.size w w':=by
 by_cases hl:xs.length=ys.length
 rotate_left
 . have hne:((xs.length:Int) != (ys.length:Int))=true:=by simp;omega
   have hd:decide (xs=ys)=false:=decide_eq_false (fun e=>hl (by rw[e]))
   rw[hd]
   go_enter Tryz.func25,Tryz.ntmps25
   go_wp2
   go_ret
   exact⟨rfl,Below.refl _ _⟩
 have k1:=ha.le
 have k2:=ha.cap
 unfold maxLen at k2
 have fa:=ha.fm
 have fb:=hb.fm
 clear ha hb
 have HL:Hid (xs.length=ys.length):=hl
 have hne:((xs.length:Int) != (ys.length:Int))=false:=by simp;omega
 obtain⟨ly,hly⟩:∃ly,ys.length=ly:=⟨_,rfl⟩
 rw[hly]at hl hne ⊢
 have HLY:Hid (ys.length=ly):=hly
 subst hl;clear hly
 have HD:Hid (∀B:Bool,decide (xs=ys)=B->decide (xs=ys)=B):=fun _ h=>h
 generalize hD:decide (xs=ys)=D at *
 have HDD:Hid (decide (xs=ys)=D):=hD
 clear hD HD
 go_enter Tryz.func25,Tryz.ntmps25
 go_wp2
 go_loopw [5] (fun i wr=>∃k:Nat,k<=xs.length/\i=.int .i64 k/\(∀j,j<k->xs.getD j 0=ys.getD j 0)/\Below w.heap.size w wr) (fun i _=>xs.length-(intOf i).toNat)
 case atStart=>exact⟨0,Nat.zero_le _,rfl,fun j hj=>by omega,Below.refl _ _⟩
 case round =>
  obtain⟨k,hk,rfl,hall,hnx⟩:=hrel
  have HALL:Hid (∀j,j<k->xs.getD j 0=ys.getD j 0):=hall
  clear hall
  by_cases hkn:k<xs.length
  . obtain⟨b1,o1,rfl,_,c1⟩:=fa.at hnx k hkn
    obtain⟨b2,o2,rfl,_,c2⟩:=fb.at hnx k (by rw[HLY.out];exact hkn)
    obtain⟨x,hx⟩:∃x,xs.getD k 0=x:=⟨_,rfl⟩
    obtain⟨y,hy⟩:∃y,ys.getD k 0=y:=⟨_,rfl⟩
    rw[hx]at c1;rw[hy]at c2
    have HX:Hid (xs.getD k 0=x):=hx
    have HY:Hid (ys.getD k 0=y):=hy
    clear hx hy
    have i1:(0:Int)<=(k:Int):=by omega
    have i2:(k:Int)<(xs.length:Int):=by omega
    by_cases hxy:x=y
    . subst hxy
      have hxx:((x:Int) != (x:Int))=false:=by simp
      go_wp2_with fail
      go_quiet (fail)
      go_wp2
      go_roundw
      case rel =>
       refine⟨k+1,by omega,by go_num,fun j hj=>?_,below_drewN hnx _⟩
       rcases Nat.lt_or_ge j k with h1|h1
       . exact HALL.out j h1
       . rw[show j=k by omega,HX.out,HY.out]
      case measure=>simp[intOf];omega
    . have hxx:((x:Int) != (y:Int))=true:=by simp;omega
      have hDf:D=false:=by
       rw[<-HDD.out]
       refine decide_eq_false (fun e=>?_)
       have h1:=HX.out
       rw[e,HY.out]at h1
       exact hxy h1.symm
      clear hxy
      go_wp2_with fail
      go_quiet (fail)
      go_wp2
      go_ret
      exact⟨zaa (by rw[hDf]),below_drewN hnx _⟩
  . obtain rfl:k=xs.length:=by omega
    have hDt:D=true:=by
     rw[<-HDD.out]
     exact decide_eq_true (zs1 (by rw[HLY.out]) HALL.out)
    go_wp2
    go_ret
    exact⟨zaa (by rw[hDt]),hnx⟩
theorem zdv{B b:Nat}{w u:World}(h:Below B w u)(hb:B<=b)(y0 y1 y2 y3 y4:Value):Below B w (((((u.setCell ⟨b,0,none⟩ y0).setCell ⟨b,1,none⟩ y1).setCell ⟨b,2,none⟩ y2).setCell ⟨b,3,none⟩ y3).setCell ⟨b,4,none⟩ y4):=((((h.setCell (p:=⟨b,0,none⟩) hb _).setCell (p:=⟨b,1,none⟩) hb _).setCell (p:=⟨b,2,none⟩) hb _).setCell (p:=⟨b,3,none⟩) hb _).setCell (p:=⟨b,4,none⟩) hb _
theorem zcm(a:OA)(ca:Nat)(b:OA)(cb:Nat)(l:LI)(w:World)(ha:Ri w a ca l)(hb:Ri w b cb l) :
 Calls Tryz.prog 98 #[.slice a l.length ca,.slice b l.length cb] w fun e w'=>e=.returned (.bool true)/\Below w.heap.size w w':=by
 have k1:=ha.lenB
 have g1:((l.length:Int) != (l.length:Int))=false:=by simp
 go_enter Tryz.func98,Tryz.ntmps98
 go_wp2;clear g1
 go_loopw [5] (fun i wr=>∃k:Nat,k<=l.length/\i=.int .i64 k/\Below w.heap.size w wr) (fun i _=>l.length-(intOf i).toNat)
 case atStart=>exact⟨0,Nat.zero_le _,rfl,Below.refl _ _⟩
 case round =>
  obtain⟨k,hk,rfl,hnx⟩:=hrel
  by_cases hkn:k<l.length
  . obtain⟨b1,o1,ea,_,d1⟩:=ha.at hnx k hkn
    obtain⟨b2,o2,eb,_,d2⟩:=hb.at hnx k hkn
    generalize l.getD k 0=z at *
    have i1:(0:Int)<=(k:Int):=by omega
    have i2:(k:Int)<(l.length:Int):=by omega
    subst ea eb
    go_wp2_with fail
    go_quiet (fail)
    go_wp2
    go_roundw
    case rel=>exact⟨k+1,by omega,by go_num,below_drewN hnx _⟩
    case measure=>simp[intOf];omega
  . have g1:¬(k:Int)<(l.length:Int):=by omega
    go_wp2
    go_ret
    exact⟨rfl,hnx⟩
theorem zpd(S S2:Nat->Prop)(a:OA)(ca:Nat)(b:OA)(cb:Nat)(l:List Tu)(w:World)(ha:Gr TuE S w a ca l)(hb:Gr TuE S2 w b cb l) :
 Calls Tryz.prog 56 #[.slice a l.length ca,.slice b l.length cb] w fun e w'=>e=.returned (.bool true)/\Below w.heap.size w w':=by
 have k1:=ha.lenB
 have g1:((l.length:Int) != (l.length:Int))=false:=by simp
 obtain⟨W,hW⟩:∃W,W=w:=⟨_,rfl⟩
 rw[<-hW]at ha hb ⊢;clear hW
 go_enter Tryz.func56,Tryz.ntmps56
 go_wp2;clear g1
 go_loopw [5] (fun i wr=>∃k:Nat,k<=l.length/\i=.int .i64 k/\Below W.heap.size W wr) (fun i _=>l.length-(intOf i).toNat)
 case atStart=>exact⟨0,Nat.zero_le _,rfl,Below.refl _ _⟩
 case round =>
  obtain⟨k,hk,rfl,hB⟩:=hrel
  by_cases hkn:k<l.length
  . obtain⟨b1,o1,ra,rc,pa,pc,xa,xc,ya,yc,ea,hl1,ht1,c0,c1,c2,c3,c4⟩:=ha.tu (Below.refl _ _) k hkn
    obtain⟨b2,o2,ra',rc',pa',pc',xa',xc',ya',yc',eb,hl2,ht2,d0,d1,d2,d3,d4⟩:=hb.tu (Below.refl _ _) k hkn
    obtain⟨t,htt⟩:∃t,l.getD k Tu.none=t:=⟨_,rfl⟩
    rw[htt]at ht1 ht2 c0 c1 c2 c3 c4 d0 d1 d2 d3 d4;clear htt;obtain⟨n1,n2,n3,n4⟩:=ht1.len
    have HT1:Hid (∀U,Below W.heap.size W U->TuC S U ra rc pa pc xa xc ya yc t):=fun U hU=>ht1.below hU
    have HT2:Hid (∀U,Below W.heap.size W U->TuC S2 U ra' rc' pa' pc' xa' xc' ya' yc' t):=fun U hU=>ht2.below hU
    have zux:Hid (∀u,Below W.heap.size W u->u.cell? ⟨b1,o1+k*5,none⟩=some (.slice ra t.rg.length rc)/\u.cell? ⟨b1,o1+k*5+1,none⟩=some (.bool t.al)/\u.cell? ⟨b1,o1+k*5+2,none⟩=some (.slice pa t.pts.length pc)/\u.cell? ⟨b1,o1+k*5+3,none⟩=some (.slice xa t.dx.length xc)/\u.cell? ⟨b1,o1+k*5+4,none⟩=some (.slice ya t.dy.length yc)/\u.cell? ⟨b2,o2+k*5,none⟩=some (.slice ra' t.rg.length rc')/\u.cell? ⟨b2,o2+k*5+1,none⟩=some (.bool t.al)/\u.cell? ⟨b2,o2+k*5+2,none⟩=some (.slice pa' t.pts.length pc')/\u.cell? ⟨b2,o2+k*5+3,none⟩=some (.slice xa' t.dx.length xc')/\u.cell? ⟨b2,o2+k*5+4,none⟩=some (.slice ya' t.dy.length yc')):=fun u hU=>⟨(hU.cell (p:=⟨b1,o1+k*5,none⟩) hl1).trans c0,(hU.cell (p:=⟨b1,o1+k*5+1,none⟩) hl1).trans c1,(hU.cell (p:=⟨b1,o1+k*5+2,none⟩) hl1).trans c2,(hU.cell (p:=⟨b1,o1+k*5+3,none⟩) hl1).trans c3,(hU.cell (p:=⟨b1,o1+k*5+4,none⟩) hl1).trans c4,(hU.cell (p:=⟨b2,o2+k*5,none⟩) hl2).trans d0,(hU.cell (p:=⟨b2,o2+k*5+1,none⟩) hl2).trans d1,(hU.cell (p:=⟨b2,o2+k*5+2,none⟩) hl2).trans d2,(hU.cell (p:=⟨b2,o2+k*5+3,none⟩) hl2).trans d3,(hU.cell (p:=⟨b2,o2+k*5+4,none⟩) hl2).trans d4⟩
    have i1:(0:Int)<=(k:Int):=by omega
    have i2:(k:Int)<(l.length:Int):=by omega
    subst ea eb;clear ht1 ht2 c0 c1 c2 c3 c4 d0 d1 d2 d3 d4
    go_upto_region 6 with fail
    have hTN:=zux.out wr hB
    refine wp_region_held_drew (S:=(fun u=>u.cell? ⟨b1,o1+k*5,none⟩=some (.slice ra t.rg.length rc)/\u.cell? ⟨b1,o1+k*5+1,none⟩=some (.bool t.al)/\u.cell? ⟨b1,o1+k*5+2,none⟩=some (.slice pa t.pts.length pc)/\u.cell? ⟨b1,o1+k*5+3,none⟩=some (.slice xa t.dx.length xc)/\u.cell? ⟨b1,o1+k*5+4,none⟩=some (.slice ya t.dy.length yc)/\u.cell? ⟨b2,o2+k*5,none⟩=some (.slice ra' t.rg.length rc')/\u.cell? ⟨b2,o2+k*5+1,none⟩=some (.bool t.al)/\u.cell? ⟨b2,o2+k*5+2,none⟩=some (.slice pa' t.pts.length pc')/\u.cell? ⟨b2,o2+k*5+3,none⟩=some (.slice xa' t.dx.length xc')/\u.cell? ⟨b2,o2+k*5+4,none⟩=some (.slice ya' t.dy.length yc'))) (by kernel_rfl) ?_ (fun hH=>?_)
    . (try dsimp only)
      exact zux.out _ (hB.trans (Below.drew1.mono hB.size))
    have hdr:Below wr.heap.size wr wr.drew:=Below.drew1
    generalize wr.drew=ud at hdr hH ⊢
    replace hB:=hB.trans (hdr.mono hB.size)
    clear hdr hTN;refine hT 0 hH ?_;refine hT 1 hH ?_;refine hT 2 hH ?_;refine hT 3 hH ?_;refine hT 4 hH ?_;refine hT 5 hH ?_;refine hT 6 hH ?_;refine hT 7 hH ?_
    refine wpAnyH_ready (rs:=[8,9]) (by kernel_rfl) (by simp) (hCons (i:=8) rfl (by rfl) (fun K hK=>?_) (hCons (i:=9) rfl (by rfl) (fun K hK=>?_) AllReadyH.nil))
    . go_simp
      obtain⟨U1,hU,X6,hbA⟩:∃V,V=ud.alloc (.cells #[.slice none 0 0,.bool false,.slice none 0 0,.slice none 0 0,.slice none 0 0] 144)/\Bk 144 V ud.heap.size [.slice none 0 0,.bool false,.slice none 0 0,.slice none 0 0,.slice none 0 0]/\Below ud.heap.size ud V:=⟨_,rfl,Bk.new _ _ _,bl1 _⟩
      rw[<-hU]
      have hge6:W.heap.size<=ud.heap.size:=hB.size
      replace hB:=hB.trans (hbA.mono hB.size)
      clear hU hbA
      generalize ud.heap.size=g6 at *
      refine hK.out _ _ ?_ (fun hH=>?_)
      . (try dsimp only)
        exact zux.out _ hB
      clear hK K
      try simp only[Act.put,pZ]
      refine hCall (i:=9) rfl (by kernel_rfl) (by rfl) (fun K hK=>?_)
      go_simp
      obtain⟨U2,hU,X7,hbA⟩:∃V,V=U1.alloc (.cells #[.slice none 0 0,.bool false,.slice none 0 0,.slice none 0 0,.slice none 0 0] 144)/\Bk 144 V U1.heap.size [.slice none 0 0,.bool false,.slice none 0 0,.slice none 0 0,.slice none 0 0]/\Below U1.heap.size U1 V:=⟨_,rfl,Bk.new _ _ _,bl1 _⟩
      rw[<-hU]
      have hne:U1.heap.size≠g6:=by have:=X6.lt;omega
      replace X6:=X6.below hbA
      have hge7:W.heap.size<=U1.heap.size:=hB.size
      replace hB:=hB.trans (hbA.mono hB.size)
      clear hU hbA
      generalize U1.heap.size=g7 at *
      refine hK.out _ _ ?_ (fun hH=>?_)
      . (try dsimp only)
        exact zux.out _ hB
      clear hK K
      try simp only[Act.put,pZ]
      have hge:W.heap.size<=g6/\W.heap.size<=g7:=⟨hge6,hge7⟩
      refine hCall (i:=10) rfl (by kernel_rfl) (by rfl) (fun K hK=>?_)
      obtain⟨y0,y1,y2,y3,y4,f0,f1,f2,f3,f4⟩:=X6.five;go_simp
      replace X6:=X6.set5U (.slice ra t.rg.length rc) (.bool t.al) (.slice pa t.pts.length pc) (.slice xa t.dx.length xc) (.slice ya t.dy.length yc)
      replace X7:=X7.other5 (b:=g6) (hne) (.slice ra t.rg.length rc) (.bool t.al) (.slice pa t.pts.length pc) (.slice xa t.dx.length xc) (.slice ya t.dy.length yc)
      replace hB:=zdv (b:=g6) hB hge.1 (.slice ra t.rg.length rc) (.bool t.al) (.slice pa t.pts.length pc) (.slice xa t.dx.length xc) (.slice ya t.dy.length yc)
      clear y0 y1 y2 y3 y4 f0 f1 f2 f3 f4
      generalize (((((U2.setCell ⟨g6,0,none⟩ (.slice ra t.rg.length rc)).setCell ⟨g6,1,none⟩ (.bool t.al)).setCell ⟨g6,2,none⟩ (.slice pa t.pts.length pc)).setCell ⟨g6,3,none⟩ (.slice xa t.dx.length xc)).setCell ⟨g6,4,none⟩ (.slice ya t.dy.length yc))=U3 at *
      refine hK.out _ _ ?_ (fun hH=>?_)
      . (try dsimp only)
        exact zux.out _ hB
      clear hK K
      try simp only[Act.put,pZ]
      refine hCall (i:=11) rfl (by kernel_rfl) (by rfl) (fun K hK=>?_)
      obtain⟨y0,y1,y2,y3,y4,f0,f1,f2,f3,f4⟩:=X7.five;go_simp
      replace X7:=X7.set5U (.slice ra' t.rg.length rc') (.bool t.al) (.slice pa' t.pts.length pc') (.slice xa' t.dx.length xc') (.slice ya' t.dy.length yc')
      replace X6:=X6.other5 (b:=g7) (fun e=>hne e.symm) (.slice ra' t.rg.length rc') (.bool t.al) (.slice pa' t.pts.length pc') (.slice xa' t.dx.length xc') (.slice ya' t.dy.length yc')
      replace hB:=zdv (b:=g7) hB hge.2 (.slice ra' t.rg.length rc') (.bool t.al) (.slice pa' t.pts.length pc') (.slice xa' t.dx.length xc') (.slice ya' t.dy.length yc')
      clear y0 y1 y2 y3 y4 f0 f1 f2 f3 f4
      generalize (((((U3.setCell ⟨g7,0,none⟩ (.slice ra' t.rg.length rc')).setCell ⟨g7,1,none⟩ (.bool t.al)).setCell ⟨g7,2,none⟩ (.slice pa' t.pts.length pc')).setCell ⟨g7,3,none⟩ (.slice xa' t.dx.length xc')).setCell ⟨g7,4,none⟩ (.slice ya' t.dy.length yc'))=U4 at *
      refine hK.out _ _ ?_ (fun hH=>?_)
      . (try dsimp only)
        exact zux.out _ hB
      clear hK K
      try simp only[Act.put,pZ]
      refine wpAnyH_done (by kernel_rfl) ?_ _
      clear hH hne
      have h1:=zcm pa pc pa' pc' t.pts U4 (HT1.out U4 hB).pts (HT2.out U4 hB).pts
      have h2:=fun U hU=>zcm xa xc xa' xc' t.dx U (HT1.out U hU).dx (HT2.out U hU).dx
      have h3:=fun U hU=>zcm ya yc ya' yc' t.dy U (HT1.out U hU).dy (HT2.out U hU).dy
      have gl:((t.rg.length:Int) != (t.rg.length:Int))=false:=by simp
      have gb:(t.al != t.al)=false:=by simp
      obtain⟨y0,y1,y2,y3,y4,-⟩:=X6.five;obtain⟨z0,z1,z2,z3,z4,-⟩:=X7.five
      go_wp2_with fail
      refine h1.mono ?_
      rintro e v1 ⟨rfl,hb⟩;replace X6:=X6.below hb;replace X7:=X7.below hb
      replace hB:=hB.trans (hb.mono hB.size)
      clear h1 hb y0 y1 y2 y3 y4 z0 z1 z2 z3 z4;obtain⟨y0,y1,y2,y3,y4,-⟩:=X6.five;obtain⟨z0,z1,z2,z3,z4,-⟩:=X7.five
      go_wp2_with fail
      refine(h2 v1 hB).mono ?_
      rintro e v2 ⟨rfl,hb⟩;replace X6:=X6.below hb;replace X7:=X7.below hb
      replace hB:=hB.trans (hb.mono hB.size)
      clear h2 hb y0 y1 y2 y3 y4 z0 z1 z2 z3 z4;obtain⟨y0,y1,y2,y3,y4,-⟩:=X6.five;obtain⟨z0,z1,z2,z3,z4,-⟩:=X7.five
      go_wp2_with fail
      refine(h3 v2 hB).mono ?_
      rintro e v3 ⟨rfl,hb⟩;replace X6:=X6.below hb;replace X7:=X7.below hb
      replace hB:=hB.trans (hb.mono hB.size)
      clear h3 hb y0 y1 y2 y3 y4 z0 z1 z2 z3 z4;obtain⟨y0,y1,y2,y3,y4,-⟩:=X6.five;obtain⟨z0,z1,z2,z3,z4,-⟩:=X7.five
      have HX6:Hid (Bk 144 v3 g6 [.slice ra t.rg.length rc,.bool t.al,.slice pa t.pts.length pc,.slice xa t.dx.length xc,.slice ya t.dy.length yc]):=X6
      have HX7:Hid (Bk 144 v3 g7 [.slice ra' t.rg.length rc',.bool t.al,.slice pa' t.pts.length pc',.slice xa' t.dx.length xc',.slice ya' t.dy.length yc']):=X7
      have HP1:Hid (Tz v3 ra rc t.rg):=(HT1.out v3 hB).tz
      have HP2:Hid (Tz v3 ra' rc' t.rg):=(HT2.out v3 hB).tz
      have HBV:Hid (Below W.heap.size W v3):=hB
      clear X6 X7 hB;go_wp2;clear y0 y1 y2 y3 y4 z0 z1 z2 z3 z4 gl gb
      go_loopw [8] (fun i wr2=>∃j:Nat,j<=t.rg.length/\i=.int .i64 j/\Below v3.heap.size v3 wr2) (fun i _=>t.rg.length-(intOf i).toNat)
      case atStart=>exact⟨0,Nat.zero_le _,rfl,Below.refl _ _⟩
      case round =>
       obtain⟨j,hj,rfl,hny⟩:=hrel
       obtain⟨y0,-⟩:=(HX6.out.below hny).five
       obtain⟨z0,-⟩:=(HX7.out.below hny).five
       by_cases hjn:j<t.rg.length
       . obtain⟨b3,o3,ec,_,m0,m1,m2⟩:=HP1.out.at hny j hjn
         obtain⟨b4,o4,ed,_,d0,d1,d2⟩:=HP2.out.at hny j hjn
         generalize t.rg.getD j Te.none=te at *
         obtain⟨x,y,z⟩:=te;dsimp only at m0 m1 m2 d0 d1 d2;subst ec ed
         have i3:(0:Int)<=(j:Int):=by omega
         have i4:(j:Int)<(t.rg.length:Int):=by omega
         go_wp2_with fail
         go_quiet (fail)
         go_wp2
         go_roundw
         case rel=>exact⟨j+1,by omega,by go_num,below_drewN hny _⟩
         case measure=>simp[intOf];omega
       . have g1:¬(j:Int)<(t.rg.length:Int):=by omega
         have hBf:Below W.heap.size W wr:=HBV.out.trans (hny.mono HBV.out.size)
         go_wp2
         go_roundw
         case rel=>exact⟨k+1,by omega,by go_num,hBf⟩
         case measure=>simp[intOf];omega
    . go_simp
      obtain⟨U1,hU,X7,hbA⟩:∃V,V=ud.alloc (.cells #[.slice none 0 0,.bool false,.slice none 0 0,.slice none 0 0,.slice none 0 0] 144)/\Bk 144 V ud.heap.size [.slice none 0 0,.bool false,.slice none 0 0,.slice none 0 0,.slice none 0 0]/\Below ud.heap.size ud V:=⟨_,rfl,Bk.new _ _ _,bl1 _⟩
      rw[<-hU]
      have hge7:W.heap.size<=ud.heap.size:=hB.size
      replace hB:=hB.trans (hbA.mono hB.size)
      clear hU hbA
      generalize ud.heap.size=g7 at *
      refine hK.out _ _ ?_ (fun hH=>?_)
      . (try dsimp only)
        exact zux.out _ hB
      clear hK K
      try simp only[Act.put,pZ]
      refine hCall (i:=8) rfl (by kernel_rfl) (by rfl) (fun K hK=>?_)
      go_simp
      obtain⟨U2,hU,X6,hbA⟩:∃V,V=U1.alloc (.cells #[.slice none 0 0,.bool false,.slice none 0 0,.slice none 0 0,.slice none 0 0] 144)/\Bk 144 V U1.heap.size [.slice none 0 0,.bool false,.slice none 0 0,.slice none 0 0,.slice none 0 0]/\Below U1.heap.size U1 V:=⟨_,rfl,Bk.new _ _ _,bl1 _⟩
      rw[<-hU]
      have hne:U1.heap.size≠g7:=by have:=X7.lt;omega
      replace X7:=X7.below hbA
      have hge6:W.heap.size<=U1.heap.size:=hB.size
      replace hB:=hB.trans (hbA.mono hB.size)
      clear hU hbA
      generalize U1.heap.size=g6 at *
      refine hK.out _ _ ?_ (fun hH=>?_)
      . (try dsimp only)
        exact zux.out _ hB
      clear hK K
      try simp only[Act.put,pZ]
      have hge:W.heap.size<=g6/\W.heap.size<=g7:=⟨hge6,hge7⟩
      refine hCall (i:=10) rfl (by kernel_rfl) (by rfl) (fun K hK=>?_)
      obtain⟨y0,y1,y2,y3,y4,f0,f1,f2,f3,f4⟩:=X6.five;go_simp
      replace X6:=X6.set5U (.slice ra t.rg.length rc) (.bool t.al) (.slice pa t.pts.length pc) (.slice xa t.dx.length xc) (.slice ya t.dy.length yc)
      replace X7:=X7.other5 (b:=g6) (fun e=>hne e.symm) (.slice ra t.rg.length rc) (.bool t.al) (.slice pa t.pts.length pc) (.slice xa t.dx.length xc) (.slice ya t.dy.length yc)
      replace hB:=zdv (b:=g6) hB hge.1 (.slice ra t.rg.length rc) (.bool t.al) (.slice pa t.pts.length pc) (.slice xa t.dx.length xc) (.slice ya t.dy.length yc)
      clear y0 y1 y2 y3 y4 f0 f1 f2 f3 f4
      generalize (((((U2.setCell ⟨g6,0,none⟩ (.slice ra t.rg.length rc)).setCell ⟨g6,1,none⟩ (.bool t.al)).setCell ⟨g6,2,none⟩ (.slice pa t.pts.length pc)).setCell ⟨g6,3,none⟩ (.slice xa t.dx.length xc)).setCell ⟨g6,4,none⟩ (.slice ya t.dy.length yc))=U3 at *
      refine hK.out _ _ ?_ (fun hH=>?_)
      . (try dsimp only)
        exact zux.out _ hB
      clear hK K
      try simp only[Act.put,pZ]
      refine hCall (i:=11) rfl (by kernel_rfl) (by rfl) (fun K hK=>?_)
      obtain⟨y0,y1,y2,y3,y4,f0,f1,f2,f3,f4⟩:=X7.five;go_simp
      replace X7:=X7.set5U (.slice ra' t.rg.length rc') (.bool t.al) (.slice pa' t.pts.length pc') (.slice xa' t.dx.length xc') (.slice ya' t.dy.length yc')
      replace X6:=X6.other5 (b:=g7) (hne) (.slice ra' t.rg.length rc') (.bool t.al) (.slice pa' t.pts.length pc') (.slice xa' t.dx.length xc') (.slice ya' t.dy.length yc')
      replace hB:=zdv (b:=g7) hB hge.2 (.slice ra' t.rg.length rc') (.bool t.al) (.slice pa' t.pts.length pc') (.slice xa' t.dx.length xc') (.slice ya' t.dy.length yc')
      clear y0 y1 y2 y3 y4 f0 f1 f2 f3 f4
      generalize (((((U3.setCell ⟨g7,0,none⟩ (.slice ra' t.rg.length rc')).setCell ⟨g7,1,none⟩ (.bool t.al)).setCell ⟨g7,2,none⟩ (.slice pa' t.pts.length pc')).setCell ⟨g7,3,none⟩ (.slice xa' t.dx.length xc')).setCell ⟨g7,4,none⟩ (.slice ya' t.dy.length yc'))=U4 at *
      refine hK.out _ _ ?_ (fun hH=>?_)
      . (try dsimp only)
        exact zux.out _ hB
      clear hK K
      try simp only[Act.put,pZ]
      refine wpAnyH_done (by kernel_rfl) ?_ _
      clear hH hne
      have h1:=zcm pa pc pa' pc' t.pts U4 (HT1.out U4 hB).pts (HT2.out U4 hB).pts
      have h2:=fun U hU=>zcm xa xc xa' xc' t.dx U (HT1.out U hU).dx (HT2.out U hU).dx
      have h3:=fun U hU=>zcm ya yc ya' yc' t.dy U (HT1.out U hU).dy (HT2.out U hU).dy
      have gl:((t.rg.length:Int) != (t.rg.length:Int))=false:=by simp
      have gb:(t.al != t.al)=false:=by simp
      obtain⟨y0,y1,y2,y3,y4,-⟩:=X6.five;obtain⟨z0,z1,z2,z3,z4,-⟩:=X7.five
      go_wp2_with fail
      refine h1.mono ?_
      rintro e v1 ⟨rfl,hb⟩;replace X6:=X6.below hb;replace X7:=X7.below hb
      replace hB:=hB.trans (hb.mono hB.size)
      clear h1 hb y0 y1 y2 y3 y4 z0 z1 z2 z3 z4;obtain⟨y0,y1,y2,y3,y4,-⟩:=X6.five;obtain⟨z0,z1,z2,z3,z4,-⟩:=X7.five
      go_wp2_with fail
      refine(h2 v1 hB).mono ?_
      rintro e v2 ⟨rfl,hb⟩;replace X6:=X6.below hb;replace X7:=X7.below hb
      replace hB:=hB.trans (hb.mono hB.size)
      clear h2 hb y0 y1 y2 y3 y4 z0 z1 z2 z3 z4;obtain⟨y0,y1,y2,y3,y4,-⟩:=X6.five;obtain⟨z0,z1,z2,z3,z4,-⟩:=X7.five
      go_wp2_with fail
      refine(h3 v2 hB).mono ?_
      rintro e v3 ⟨rfl,hb⟩;replace X6:=X6.below hb;replace X7:=X7.below hb
      replace hB:=hB.trans (hb.mono hB.size)
      clear h3 hb y0 y1 y2 y3 y4 z0 z1 z2 z3 z4;obtain⟨y0,y1,y2,y3,y4,-⟩:=X6.five;obtain⟨z0,z1,z2,z3,z4,-⟩:=X7.five
      have HX6:Hid (Bk 144 v3 g6 [.slice ra t.rg.length rc,.bool t.al,.slice pa t.pts.length pc,.slice xa t.dx.length xc,.slice ya t.dy.length yc]):=X6
      have HX7:Hid (Bk 144 v3 g7 [.slice ra' t.rg.length rc',.bool t.al,.slice pa' t.pts.length pc',.slice xa' t.dx.length xc',.slice ya' t.dy.length yc']):=X7
      have HP1:Hid (Tz v3 ra rc t.rg):=(HT1.out v3 hB).tz
      have HP2:Hid (Tz v3 ra' rc' t.rg):=(HT2.out v3 hB).tz
      have HBV:Hid (Below W.heap.size W v3):=hB
      clear X6 X7 hB;go_wp2;clear y0 y1 y2 y3 y4 z0 z1 z2 z3 z4 gl gb
      go_loopw [8] (fun i wr2=>∃j:Nat,j<=t.rg.length/\i=.int .i64 j/\Below v3.heap.size v3 wr2) (fun i _=>t.rg.length-(intOf i).toNat)
      case atStart=>exact⟨0,Nat.zero_le _,rfl,Below.refl _ _⟩
      case round =>
       obtain⟨j,hj,rfl,hny⟩:=hrel
       obtain⟨y0,-⟩:=(HX6.out.below hny).five
       obtain⟨z0,-⟩:=(HX7.out.below hny).five
       by_cases hjn:j<t.rg.length
       . obtain⟨b3,o3,ec,_,m0,m1,m2⟩:=HP1.out.at hny j hjn
         obtain⟨b4,o4,ed,_,d0,d1,d2⟩:=HP2.out.at hny j hjn
         generalize t.rg.getD j Te.none=te at *
         obtain⟨x,y,z⟩:=te;dsimp only at m0 m1 m2 d0 d1 d2;subst ec ed
         have i3:(0:Int)<=(j:Int):=by omega
         have i4:(j:Int)<(t.rg.length:Int):=by omega
         go_wp2_with fail
         go_quiet (fail)
         go_wp2
         go_roundw
         case rel=>exact⟨j+1,by omega,by go_num,below_drewN hny _⟩
         case measure=>simp[intOf];omega
       . have g1:¬(j:Int)<(t.rg.length:Int):=by omega
         have hBf:Below W.heap.size W wr:=HBV.out.trans (hny.mono HBV.out.size)
         go_wp2
         go_roundw
         case rel=>exact⟨k+1,by omega,by go_num,hBf⟩
         case measure=>simp[intOf];omega
  . have g1:¬(k:Int)<(l.length:Int):=by omega
    go_wp2
    go_ret
    exact⟨rfl,hB⟩
