import Derived.Test.YtkmcodofnckdmaaGreatZK14
import Derived.Test.YtkmcodofnckdmaaGreatZK15
import Derived.Laws.EntriesVeiled
set_option maxHeartbeats 2000000
set_option maxRecDepth 100000
set_option linter.unusedSimpArgs false
set_option linter.unusedVariables false
namespace Go.Proofs.YtkmcodofnckdmaaGreat
open Go.RowKit Go.Maps
theorem zwu(T:List (List Rat)):T.map suQ=(List.range T.length).map (fun j=>suQ (T.getD j [])):=by
 refine List.ext_getElem (by simp) (fun j h1 h2=>?_)
 have hj:j<T.length:=by simpa using h1
 simp[List.getD,hj]
theorem z1q{n:Nat}(h:n<=41):lmb n<=900:=by unfold lmb;split <;> omega
theorem zjy(B:Nat->Prop)(v:Value)(T:List (List Rat))(w:World)(h:Rr B w v 20 T)(hl:T.length<=1000)(h1:∀i,i<T.length->1<=(T.getD i []).length/\(T.getD i []).length<=41) :
 Calls Tryz.prog 182 #[v] w fun e w'=>∃a' c',e=.returned (.slice a' (T.map suQ).length c')/\Rg w.heap.size w' a' c' 900 (T.map suQ)/\Below w.heap.size w w':=by
 obtain⟨va,vc,rfl,hv1,hv2⟩:=h.slice
 have HH:Hid (Rr B w (.slice va T.length vc) 20 T):=h
 have H1:Hid (∀i,i<T.length->1<=(T.getD i []).length/\(T.getD i []).length<=41):=h1
 rw[zwu]
 obtain⟨n,hnn⟩:∃n,T.length=n:=⟨_,rfl⟩
 have HL:Hid (T.length=n):=hnn
 rw[hnn]at hl hv1 ⊢
 unfold maxLen at hv2
 clear hnn h h1
 obtain⟨i0,hi0,hz0,hz1,hz2⟩:=info_parts zch
 have hmk:=run_make (P:=Tryz.prog) w 173 125 i0 rtZ Tryz.underlying173 hi0 hz0 .i64 .i64 0 (n:Int) (by omega) (by omega) (by rw[hz2];omega) (by omega)
 rw[hz1]at hmk
 simp only[Int.toNat_zero,Int.toNat_natCast]at hmk
 obtain⟨w1,hw1⟩:∃w1,w.alloc (.cells (madeCells rtZ.cells (n*3)) 125)=w1:=⟨_,rfl⟩
 have hI0:Ro 125 w.heap.size w1 (.slice (some ⟨w.heap.size,0,none⟩) 0 n) 900 ((List.range 0).map (fun j=>suQ (T.getD j []))):=by
  refine⟨[],?_,fun g hg=>?_,fun i hi=>by simp at hi⟩
  . rw[<-hw1]
    have:=World.ownsRow_made (base:=w.heap.size) (e:=125) (size:=3) w (madeCells rtZ.cells (n*3)) n (Nat.le_refl _) (by unfold maxLen;omega) (size_madeCells _ _)
    simpa using this
  . simp[Value.ownBlock]at hg
    subst hg;rw[<-hw1]
    exact NoI.of (heap_alloc_new w _) (zid _)
 have zn9:Below w.heap.size w w1:=by rw[<-hw1];exact bl1 _
 rw[hw1]at hmk;clear hw1 hi0 hz0 hz1 hz2
 go_enter Tryz.func182,Tryz.ntmps182
 go_wp2
 go_loopw [3,11] (fun v i wr=>∃k:Nat,k<=n/\i=.int .i64 k/\Ro 125 w.heap.size wr v 900 ((List.range k).map (fun j=>suQ (T.getD j [])))/\Below w.heap.size w wr) (fun _ i _=>n-(intOf i).toNat)
 case atStart=>exact⟨0,Nat.zero_le _,rfl,hI0,zn9⟩
 case round =>
  obtain⟨k,hk,rfl,hT,hB⟩:=hrel;obtain⟨a2,c2,rfl,hts⟩:=hT.rg
  have hlen:((List.range k).map (fun j=>suQ (T.getD j []))).length=k:=by simp
  have HLN:Hid (((List.range k).map (fun j=>suQ (T.getD j []))).length=k):=hlen
  rw[hlen]at hT ⊢
  have HT2:Hid (Ro 125 w.heap.size wr (.slice a2 k c2) 900 ((List.range k).map (fun j=>suQ (T.getD j [])))):=hT
  have HTS:Hid (Rg w.heap.size wr a2 c2 900 ((List.range k).map (fun j=>suQ (T.getD j [])))):=hts
  clear hT hts hmk hI0 zn9
  have hsz:=hB.size
  by_cases hkn:k<n
  . obtain⟨g,cap,u,ea,hg,_,_,_,d0,_,hu,_⟩:=(HH.out.below hB).at k (by rw[HL.out];exact hkn)
    injection ea with ea _ ec;subst ea ec;obtain⟨ua,uc,rfl,hrf⟩:=hu.rf
    obtain⟨n1,n2⟩:=H1.out k (by rw[HL.out];exact hkn)
    have HS:Hid (_):=zii (fun j=>suQ (T.getD j [])) k
    obtain⟨qs,hqs⟩:∃q,T.getD k []=q:=⟨_,rfl⟩
    rw[hqs]at d0 hrf n1 n2 HS
    have hsu:=zu5 qs.length ua uc qs wr rfl n1 (by omega) hrf.1
    have hlm:=z1q n2
    have i1:(0:Int)<=(k:Int):=by omega
    have i2:(k:Int)<(n:Int):=by omega
    generalize (List.range k).map (fun j=>suQ (T.getD j []))=L at *
    generalize suQ qs=z at *
    generalize lmb qs.length=lm at *
    generalize qs.length=ql at *
    clear hqs hrf hu
    go_wp2_with fail
    refine hsu.mono ?_
    rintro e u1 ⟨v1,rfl,hF1,hb1⟩;obtain⟨z1,x1,x2,x3,x4,x5,x6,rfl⟩:=hF1.cells3'
    obtain⟨V,hV,B4,hb4⟩:∃V,V=u1.alloc (.cells #[.bool z1,.slice x1 x2 x3,.slice x4 x5 x6] 125)/\Box 125 V u1.heap.size (.bool z1) (.slice x1 x2 x3) (.slice x4 x5 x6)/\Below u1.heap.size u1 V:=⟨_,rfl,Box.new _ _ _ _ _,bl1 _⟩
    have hbv:Below wr.heap.size wr V:=hb1.trans (hb4.mono hb1.size)
    obtain⟨r0,r1,r2,_⟩:=B4.cells
    have zba:=Rz.one B4.lt r0 r1 r2 ((hF1.below hb4).le hlm)
    have hown:=HT2.out.below hbv
    have hll:L.length+[z].length<=1000000:=by rw[hlen];simp;omega
    have hbs:w.heap.size<=V.heap.size:=Nat.le_trans hsz hbv.size
    have hBV:Below w.heap.size w V:=hB.trans (hbv.mono hsz)
    have z4s:∀g,(Value.slice a2 k c2).ownBlock=some g->w.heap.size<=g:=fun g hg=>(HT2.out.lo hg).1
    clear hF1 hb1 hb4 hbv B4 r0 r1 r2 hsu
    go_wp2_with (at_builtin;rw[<-hV];refine zbp 173 125 Tryz.underlying173 zch rfl _ _ rfl w.heap.size (.slice a2 k c2) 900 _ _ rfl hown _ 1 1 rfl rfl zba (fun e=>by cases e) (fun ad e=>by cases e;exact⟨_,_,rfl⟩) hll hbs ?_)
    intro v9 w9 hT9 hgrow _
    rw[<-hV]at hgrow
    have hB9:Below w.heap.size w w9:=hBV.grown hgrow hbs z4s
    rw[<-HS.out]at hT9;clear hgrow hbs hll HS zba hown hV;go_wp2
    go_roundw
    case rel=>exact⟨k+1,by omega,by go_num,hT9,hB9⟩
    case measure=>simp[intOf];omega
  . obtain rfl:k=n:=by omega
    have g4:¬(k:Int)<(k:Int):=by omega
    go_wp2
    go_ret
    exact⟨a2,c2,rfl,HTS.out,hB⟩
theorem Gi.mk0(w:World)(n:Nat)(hn:n<=1000000):Gi w.heap.size (w.alloc (.cells (madeCells #[.int .i64 0] n) 3)) (.slice (some ⟨w.heap.size,0,none⟩) 0 n) []:=by
 refine Gw.made ?_
 have:=World.ownsRow_made (base:=w.heap.size) (e:=3) (size:=1) w (madeCells #[.int .i64 0] n) n (Nat.le_refl _) (by unfold maxLen;omega) (by rw[size_madeCells];omega)
 have h2:(w.alloc (.cells (madeCells #[.int .i64 0] n) 3)).ownsRow w.heap.size 3 1 (.slice (some ⟨w.heap.size,0,none⟩) 0 n) 0 []:=by simpa using this
 exact h2
theorem zo4(S:Nat->Prop)(ra:OA)(rc:Nat)(pa:OA)(pc:Nat)(xa:OA)(xc:Nat)(ya:OA)(yc:Nat)(t:Tu)(w:World)(h:TuC S w ra rc pa pc xa xc ya yc t)(hn:t.dx.length<=100000) :
 Calls Tryz.prog 180 #[.agg #[.slice ra t.rg.length rc,.bool t.al,.slice pa t.pts.length pc,.slice xa t.dx.length xc,.slice ya t.dy.length yc]] w fun e w'=>∃a c,e=.returned (.slice a (nmd t).length c)/\Ri w' a c (nmd t)/\Below w.heap.size w w':=by
 obtain⟨W,hW,X1,hbW⟩:∃W,W=w.alloc (.cells #[.slice ra t.rg.length rc,.bool t.al,.slice pa t.pts.length pc,.slice xa t.dx.length xc,.slice ya t.dy.length yc] 144)/\Bk 144 W w.heap.size [.slice ra t.rg.length rc,.bool t.al,.slice pa t.pts.length pc,.slice xa t.dx.length xc,.slice ya t.dy.length yc]/\Below w.heap.size w W:=⟨_,rfl,Bk.new _ _ _,bl1 _⟩
 have hP:=(h.below hbW).pts
 cases ha:t.al with
 | false =>
  have HE:Hid (nmd t=t.pts):=by show _=_;unfold nmd;rw[if_neg (by rw[ha];decide)]
  rw[ha]at hW X1;obtain⟨p0,p1,p2,p3,p4,_⟩:=X1.five;rw[HE.out];clear ha X1 h
  generalize t.pts=pts at *
  go_enter Tryz.func180,Tryz.ntmps180
  go_upto_region 1 with fail
  rw[<-hW];clear hW;go_wp2
  go_ret
  exact⟨pa,pc,rfl,hP,hbW⟩
 | true =>
  have HE:Hid (nmd t=allI t.dx.length):=by show _=_;unfold nmd;rw[if_pos ha]
  rw[ha]at hW X1;obtain⟨p0,p1,p2,p3,p4,_⟩:=X1.five;rw[HE.out];clear ha h hP
  generalize t.dx.length=n at *
  obtain⟨i0,hi0,hz0,hz1,hz2⟩:=info_parts zcc
  have hmk:=run_make (P:=Tryz.prog) W 29 3 i0 (.int .i64 0) Tryz.underlying29 hi0 hz0 .i64 .i64 0 (n:Int) (by omega) (by omega) (by rw[hz2];omega) (by omega)
  rw[hz1]at hmk
  simp only[Int.toNat_zero,Int.toNat_natCast,Nat.mul_one]at hmk
  have hI0:=Gi.mk0 W n (by omega)
  have hB0:Below W.heap.size W (W.alloc (.cells (madeCells #[.int .i64 0] n) 3)):=bl1 _
  replace hmk:(Instr.makeSlice 29 (.int .i64 0) (.int .i64 (n:Int))).run Tryz.prog W=.ok (.slice (some ⟨W.heap.size,0,none⟩) 0 n) (W.alloc (.cells (madeCells #[.int .i64 0] n) 3)):=hmk
  generalize W.alloc (.cells (madeCells #[.int .i64 0] n) 3)=w1 at *
  have X2:=X1.below hB0
  obtain⟨q0,q1,q2,q3,q4,_⟩:=X2.five;clear hi0 hz0 hz1 hz2 X1
  go_enter Tryz.func180,Tryz.ntmps180
  go_upto_region 1 with fail
  rw[<-hW];clear hW;go_wp2
  go_loopw [3,17] (fun v i wr=>∃k:Nat,k<=n/\i=.int .i64 k/\Gi W.heap.size wr v (allI k)/\Below W.heap.size W wr) (fun _ i _=>n-(intOf i).toNat)
  case atStart=>exact⟨0,Nat.zero_le _,rfl,hI0,hB0⟩
  case round =>
   clear hI0 hB0 hmk X2 q0 q1 q2 q3 q4 p0 p1 p2 p3 p4;obtain⟨k,hk,rfl,hT,hB⟩:=hrel
   have hlen:=zjr k
   have HLN:Hid ((allI k).length=k):=hlen
   have HT2:Hid (Gi W.heap.size wr u3 (allI k)):=hT
   clear hT
   by_cases hkn:k<n
   . have i1:(0:Int)<=(k:Int):=by omega
     have i2:(k:Int)<(n:Int):=by omega
     have HS:Hid (allI (k+1)=allI k++[(k:Int)]):=zul k
     obtain⟨V,hV,c1,hbV,hlV⟩:∃V,V=wr.alloc (.cells #[.int .i64 (k:Int)] 3)/\V.cell? ⟨wr.heap.size,0,none⟩=some (.int .i64 (k:Int))/\Below wr.heap.size wr V/\wr.heap.size<V.heap.size:=⟨_,rfl,cell_of_row _ _ 0 _ _ (0,0) (heap_alloc_new _ _),bl1 _,by simp⟩
     have hown:=HT2.out.below hbV
     have hll:(allI k).length+1<=1000000:=by omega
     have hbs:W.heap.size<=V.heap.size:=Nat.le_trans hB.size hbV.size
     have hBV:Below W.heap.size W V:=hB.trans (hbV.mono hB.size)
     have hki:I64 (k:Int):=by unfold I64;omega
     generalize allI k=L at *
     clear hlen
     go_wp2_with (at_builtin;rw[<-hV];refine zaf rfl _ _ rfl W.heap.size u3 L rfl hown wr.heap.size (k:Int) rfl hlV c1 hki hll hbs ?_)
     intro v9 w9 hT9 hgrow _
     rw[<-hV]at hgrow
     have hB9:Below W.heap.size W w9:=hBV.grown hgrow hbs (fun g hg=>(hown.lo hg).1)
     rw[<-HS.out]at hT9;clear hgrow hbs hll HS hown hV c1 hlV;go_wp2
     go_roundw
     case rel=>exact⟨k+1,by omega,by go_num,hT9,hB9⟩
     case measure=>simp[intOf];omega
   . obtain rfl:k=n:=by omega
     have g4:¬(k:Int)<(k:Int):=by omega
     obtain⟨aa,cc,rfl,hra,-⟩:=HT2.out.slice
     have HRA:Hid (Ri wr aa cc (allI k)):=hra
     have zau:=hbW.trans (hB.mono hbW.size)
     clear hra HT2;go_wp2
     go_ret
     exact⟨aa,cc,rfl,HRA.out,zau⟩
theorem z1l(qs:List Rat):qs.map rnN=(List.range qs.length).map (fun j=>rnN (qs.getD j 0)):=by
 refine List.ext_getElem (by simp) (fun j h1 h2=>?_)
 have hj:j<qs.length:=by simpa using h1
 simp[List.getD,hj]
theorem zfe(a:OA)(ca:Nat)(qs:List Rat)(w:World)(h:Rz w a ca 900 qs)(hl:qs.length<=1000) :
 Calls Tryz.prog 119 #[.slice a qs.length ca] w fun e w'=>∃a' c',e=.returned (.tuple #[.slice a' (rnL qs).length c',.int .i64 (rnE qs)])/\Ri w' a' c' (rnL qs)/\Below w.heap.size w w':=by
 have HH:Hid (Rz w a ca 900 qs):=h
 have hcap:=h.1
 have HNO:Hid (∀k,k<qs.length->fldE (qs.getD k 0+1/2).floor=4->rnL qs=[]/\rnE qs=4):=fun k hk h4=>by
  have:=z34 hk (by rw[h4];decide)
  unfold rnL rnE
  rw[this]
  exact⟨rfl,rfl⟩
 have HYE:Hid ((∀k,k<qs.length->fldE (qs.getD k 0+1/2).floor=0)->rnL qs=(List.range qs.length).map (fun j=>rnN (qs.getD j 0))/\rnE qs=0):=fun h0=>by
  have:=z0o h0
  unfold rnL rnE
  rw[this,<-z1l]
  exact⟨rfl,rfl⟩
 obtain⟨n,hnn⟩:∃n,qs.length=n:=⟨_,rfl⟩
 have HL:Hid (qs.length=n):=hnn
 rw[hnn]at hl hcap HNO HYE ⊢;clear hnn h
 generalize rnL qs=RL at *
 generalize rnE qs=RE at *
 obtain⟨i0,hi0,hz0,hz1,hz2⟩:=info_parts zcc
 have hmk:=run_make (P:=Tryz.prog) w 29 3 i0 (.int .i64 0) Tryz.underlying29 hi0 hz0 .i64 .i64 0 (n:Int) (by omega) (by omega) (by rw[hz2];omega) (by omega)
 rw[hz1]at hmk
 simp only[Int.toNat_zero,Int.toNat_natCast,Nat.mul_one]at hmk
 have hI0:=Gi.mk0 w n (by omega)
 have hB0:Below w.heap.size w (w.alloc (.cells (madeCells #[.int .i64 0] n) 3)):=bl1 _
 replace hmk:(Instr.makeSlice 29 (.int .i64 0) (.int .i64 (n:Int))).run Tryz.prog w=.ok (.slice (some ⟨w.heap.size,0,none⟩) 0 n) (w.alloc (.cells (madeCells #[.int .i64 0] n) 3)):=hmk
 generalize w.alloc (.cells (madeCells #[.int .i64 0] n) 3)=w1 at *
 clear hi0 hz0 hz1 hz2
 go_enter Tryz.func119,Tryz.ntmps119
 go_wp2
 go_loopw [4,14] (fun v i wr=>∃k:Nat,k<=n/\i=.int .i64 k/\(∀j,j<k->fldE (qs.getD j 0+1/2).floor=0)/\Gi w.heap.size wr v ((List.range k).map (fun j=>rnN (qs.getD j 0)))/\Below w.heap.size w wr) (fun _ i _=>n-(intOf i).toNat)
 case atStart=>exact⟨0,Nat.zero_le _,rfl,(fun j hj=>by omega),hI0,hB0⟩
 case round =>
  clear hI0 hB0 hmk;obtain⟨k,hk,rfl,hok,hT,hB⟩:=hrel
  have HOK:Hid (∀j,j<k->fldE (qs.getD j 0+1/2).floor=0):=hok
  have HLN:Hid (((List.range k).map (fun j=>rnN (qs.getD j 0))).length=k):=by show _=_;simp
  have HT2:Hid (Gi w.heap.size wr u4 ((List.range k).map (fun j=>rnN (qs.getD j 0)))):=hT
  clear hT hok
  by_cases hkn:k<n
  . obtain⟨b,off,x,y,z,ea,hb,d0,d1,d2,hFj⟩:=HH.out.at hB k (by rw[HL.out];exact hkn)
    subst ea
    have HS:Hid (_):=zii (fun j=>rnN (qs.getD j 0)) k
    have HN:=HNO.out k hkn
    have hr1:=zrn (qs.getD k 0)
    have HU:=fun(h0:fldE (qs.getD k 0+1/2).floor=0)=>za4 HOK.out h0
    have h04:=zxn (qs.getD k 0+1/2).floor
    have hrn:fldN (qs.getD k 0+1/2).floor=rnN (qs.getD k 0):=rfl
    obtain⟨q,hq⟩:∃q,qs.getD k 0=q:=⟨_,rfl⟩
    rw[hq]at hFj HS HN hr1 HU h04 hrn;obtain⟨n9,y1,y2,y3,y4,y5,y6,e9⟩:=hFj.cells3'
    simp only[Value.agg.injEq,Array.mk.injEq,List.cons.injEq,and_true]at e9
    obtain⟨rfl,rfl,rfl⟩:=e9
    obtain⟨V,hV,B4,hb4⟩:∃V,V=wr.alloc (.cells #[.bool n9,.slice y1 y2 y3,.slice y4 y5 y6] 125)/\Box 125 V wr.heap.size (.bool n9) (.slice y1 y2 y3) (.slice y4 y5 y6)/\Below wr.heap.size wr V:=⟨_,rfl,Box.new _ _ _ _ _,bl1 _⟩
    have hfi:=ztr 900 q _ V (hFj.below hb4).ct (by decide) (by decide)
    rw[hrn]at hfi;obtain⟨r0,r1,r2,_⟩:=B4.cells
    have hBV:Below w.heap.size w V:=hB.trans (hb4.mono hB.size)
    have i1:(0:Int)<=(k:Int):=by omega
    have i2:(k:Int)<(n:Int):=by omega
    generalize (List.range k).map (fun j=>rnN (qs.getD j 0))=L at *
    generalize rnN q=z at *
    have HN:Hid (fldE (q+1/2).floor=4->RL=[]/\RE=4):=HN
    have HU:Hid (fldE (q+1/2).floor=0->∀j,j<k+1->fldE (qs.getD j 0+1/2).floor=0):=HU
    generalize fldE (q+1/2).floor=E at *
    have hown:=HT2.out.below hb4
    clear hq hrn hFj HT2
    go_upto_region 5 with fail
    rw[<-hV];clear hV d0 d1 d2 hb4
    go_wp2_with fail
    refine hfi.mono ?_
    rintro e m1 ⟨rfl,hb1⟩
    replace hBV:=hBV.trans (hb1.mono hBV.size)
    replace hown:=hown.below hb1;clear hb1 hfi r0 r1 r2
    rcases h04 with rfl|rfl
    . have HU2:Hid (∀j,j<k+1->fldE (qs.getD j 0+1/2).floor=0):=HU.out rfl
      obtain⟨V2,hV2,c1,hbV,hlV⟩:∃V,V=m1.alloc (.cells #[.int .i64 z] 3)/\V.cell? ⟨m1.heap.size,0,none⟩=some (.int .i64 z)/\Below m1.heap.size m1 V/\m1.heap.size<V.heap.size:=⟨_,rfl,cell_of_row _ _ 0 _ _ (0,0) (heap_alloc_new _ _),bl1 _,by simp⟩
      replace hown:=hown.below hbV
      have hll:L.length+1<=1000000:=by have:=HLN.out;omega
      have hbs:w.heap.size<=V2.heap.size:=Nat.le_trans hBV.size hbV.size
      replace hBV:Below w.heap.size w V2:=hBV.trans (hbV.mono hBV.size)
      have hki:I64 z:=by unfold I64;omega
      clear HU HN
      go_wp2_with (at_builtin;rw[<-hV2];refine zaf rfl _ _ rfl w.heap.size u4 L rfl hown m1.heap.size z rfl hlV c1 hki hll hbs ?_)
      intro v9 w9 hT9 hgrow _
      rw[<-hV2]at hgrow
      have hB9:Below w.heap.size w w9:=hBV.grown hgrow hbs (fun g hg=>(hown.lo hg).1)
      rw[<-HS.out]at hT9;clear hgrow hbs hll HS hown hV2 c1 hlV;go_wp2
      go_roundw
      case rel=>exact⟨k+1,by omega,by go_num,HU2.out,hT9,hB9⟩
      case measure=>simp[intOf];omega
    . have HF:Hid (RL=[]/\RE=4):=HN.out rfl
      clear HU HN;go_wp2
      go_ret2
      exact⟨none,0,by rw[HF.out.1,HF.out.2];rfl,by rw[HF.out.1];exact Gr.ri (Gr.nil El.int (fun _=>True) _ none 0 (Nat.zero_le _) (fun _=>rfl)),hBV⟩
  . obtain rfl:k=n:=by omega
    have g4:¬(k:Int)<(k:Int):=by omega
    obtain⟨aa,cc,rfl,hra,-⟩:=HT2.out.slice
    have HF:Hid (_):=HYE.out HOK.out
    have HRA:Hid (Ri wr aa cc RL):=by show Ri _ _ _ _;rw[HF.out.1];exact hra
    have HE2:Hid ((List.range k).map (fun j=>rnN (qs.getD j 0))=RL):=HF.out.1.symm
    have HE3:Hid (RE=0):=HF.out.2
    clear hra HT2 HF HYE HNO HOK
    generalize (List.range k).map (fun j=>rnN (qs.getD j 0))=L at *
    go_wp2
    go_ret2
    exact⟨aa,cc,by rw[HE3.out,<-HE2.out];rfl,HRA.out,hB⟩
def R22(base:Nat)(w:World)(vx vy:Value)(K:Nat)(X Y:List (List Rat)):Prop :=
 ∃BX BY:Nat->Prop,Rr BX w vx K X/\Rr BY w vy K Y/\(∀k,BX k->¬BY k)/\(∀k,BX k->base<=k/\k<w.heap.size)/\(∀k,BY k->base<=k/\k<w.heap.size)
theorem R22.nil(base:Nat)(w:World)(K:Nat):R22 base w (.slice none 0 0) (.slice none 0 0) K [] []:=⟨fun _=>False,fun _=>False,Rr.nil _ _ _,Rr.nil _ _ _,(fun k h=>h.elim),(fun k h=>h.elim),(fun k h=>h.elim)⟩
theorem R22.below{base:Nat}{w w':World}{vx vy:Value}{K:Nat}{X Y:List (List Rat)}(h:R22 base w vx vy K X Y)(hb:Below w.heap.size w w'):R22 base w' vx vy K X Y:=by
 obtain⟨BX,BY,h1,h2,h3,h4,h5⟩:=h
 exact⟨BX,BY,h1.below hb,h2.below hb,h3,(fun k hk=>⟨(h4 k hk).1,Nat.lt_of_lt_of_le (h4 k hk).2 hb.size⟩),(fun k hk=>⟨(h5 k hk).1,Nat.lt_of_lt_of_le (h5 k hk).2 hb.size⟩)⟩
theorem R22.swap{base:Nat}{w:World}{vx vy:Value}{K:Nat}{X Y:List (List Rat)}(h:R22 base w vx vy K X Y):R22 base w vy vx K Y X:=by
 obtain⟨BX,BY,h1,h2,h3,h4,h5⟩:=h
 exact⟨BY,BX,h2,h1,fun k hk hx=>h3 k hx hk,h5,h4⟩
theorem R22.lower{base base':Nat}{w:World}{vx vy:Value}{K:Nat}{X Y:List (List Rat)}(h:R22 base w vx vy K X Y)(hb:base'<=base):R22 base' w vx vy K X Y:=by
 obtain⟨BX,BY,h1,h2,h3,h4,h5⟩:=h
 exact⟨BX,BY,h1,h2,h3,(fun k hk=>⟨Nat.le_trans hb (h4 k hk).1,(h4 k hk).2⟩),(fun k hk=>⟨Nat.le_trans hb (h5 k hk).1,(h5 k hk).2⟩)⟩
theorem R22.turn{base:Nat}{w w':World}{vy vx':Value}{K:Nat}{Y X':List (List Rat)}{BX BY C D:Nat->Prop}(h2:Rr BY w vy K Y)(h3:∀k,BX k->¬BY k)(h4:∀k,BX k->base<=k/\k<w.heap.size)(h5:∀k,BY k->base<=k/\k<w.heap.size)(hx:Rr C w' vx' K X')(hC:∀k,C k->BX k\/w.heap.size<=k)(hk:Kn D w w')(hD:∀k,BY k->¬D k)(hb:base<=w.heap.size):R22 base w' vx' vy K X' Y:=by
 refine⟨fun k=>C k/\k<w'.heap.size,BY,hx.mono (fun k h1 h2=>⟨h1,h2⟩),h2.kn hk hD,fun k hk hy=>?_,fun k hk=>?_,fun k hy=>⟨(h5 k hy).1,Nat.lt_of_lt_of_le (h5 k hy).2 hk.size⟩⟩
 . rcases hC k hk.1 with h|h
   . exact h3 k h hy
   . have:=(h5 k hy).2
     omega
 . rcases hC k hk.1 with h|h
   . exact⟨(h4 k h).1,hk.2⟩
   . exact⟨Nat.le_trans hb h,hk.2⟩
theorem Bk.noI1{t:TypeId}{w:World}{g:Nat}{a:OA}{n c:Nat}(h:Bk t w g [.slice a n c]):NoI w g:=NoI.of h (fun v hv=>by simp at hv;rw[hv];rfl)
theorem Bk.one1{t:TypeId}{w:World}{g:Nat}{x:Value}(h:Bk t w g [x]):w.cell? ⟨g,0,none⟩=some x/\w.frozen? ⟨g,0,none⟩=false:=⟨h.cell 0 (by simp),h.fz 0⟩
theorem R22.put{t:TypeId}{base gx gy:Nat}{w V w9:World}{vy v':Value}{K:Nat}{X' Y:List (List Rat)}{BX BY:Nat->Prop}{xa:OA}{xn xc:Nat}(h2:Rr BY w vy K Y)(h3:∀k,BX k->¬BY k)(h4:∀k,BX k->base<=k/\k<w.heap.size)(h5:∀k,BY k->base<=k/\k<w.heap.size)(hbase:base<=w.heap.size)(hgx:gx<base)(hgy:gy<base)(hne:gx≠gy)(hbV:Below w.heap.size w V)(hkn:Kn BX V w9)(hR:Rr (fun k=>BX k\/w.heap.size<=k) w9 v' K X')(hx:Bk t w9 gx [.slice xa xn xc])(hy:Bk t w9 gy [vy]) :
 Bk t (w9.setCell ⟨gx,0,none⟩ v') gx [v']/\Bk t (w9.setCell ⟨gx,0,none⟩ v') gy [vy]/\R22 base (w9.setCell ⟨gx,0,none⟩ v') v' vy K X' Y/\Keep (fun k=>k<base/\k≠gx) w (w9.setCell ⟨gx,0,none⟩ v')/\base<=(w9.setCell ⟨gx,0,none⟩ v').heap.size:=by
 have hkw:Kn (fun k=>k=gx) w9 (w9.setCell ⟨gx,0,none⟩ v'):=Kn.set (B:=fun k=>k=gx) ⟨rfl,hx.noI1⟩ 0 _
 have k1:Kn (fun k=>BX k\/k=gx) w w9:=(Kn.of hbV).trans hkn (fun i hi _=>.inl hi)
 have k2:Kn (fun k=>BX k\/k=gx) w (w9.setCell ⟨gx,0,none⟩ v'):=k1.trans hkw (fun i hi _=>.inr hi)
 refine⟨hx.set 0 _,hy.other 0 _ (fun e=>hne e.symm),R22.turn h2 h3 h4 h5 (hR.kn hkw (fun k hk e=>?_)) (fun k hk=>hk) k2 (fun k hk hd=>?_) hbase,Keep.mono k2 (fun k hk=>⟨by omega,fun hc=>?_⟩),Nat.le_trans hbase k2.size⟩
 . rcases hk with hk|hk
   . have:=(h4 k hk).1;omega
   . omega
 . rcases hd with hd|hd
   . exact h3 k hd hk
   . have:=(h5 k hk).1;omega
 . rcases hc.1 with hd|hd
   . have:=(h4 k hd).1;omega
   . exact hk.2 hd
theorem zo7(base gx gy:Nat)(x y:Int)(xa:OA)(xc:Nat)(ya:OA)(yc:Nat)(X Y:List (List Rat))(w:World)(hX:Bk 230 w gx [.slice xa X.length xc])(hY:Bk 230 w gy [.slice ya Y.length yc])(h:R22 base w (.slice xa X.length xc) (.slice ya Y.length yc) 20 X Y)(hgx:gx<base)(hgy:gy<base)(hne:gx≠gy)(hbase:base<=w.heap.size)(hx:I64 x)(hy:I64 y)(hl1:X.length<=1000)(hl2:Y.length<=1000) :
 Calls Tryz.prog 225 #[.int .i64 x,.int .i64 y,.pointer (some ⟨gx,0,none⟩),.pointer (some ⟨gy,0,none⟩)] w fun e w'=>e=.returned (.tuple #[])/\∃xa' xc' ya' yc',Bk 230 w' gx [.slice xa' (X++[[(x:Rat)]]).length xc']/\Bk 230 w' gy [.slice ya' (Y++[[(y:Rat)]]).length yc']/\R22 base w' (.slice xa' (X++[[(x:Rat)]]).length xc') (.slice ya' (Y++[[(y:Rat)]]).length yc') 20 (X++[[(x:Rat)]]) (Y++[[(y:Rat)]])/\Keep (fun k=>k<base/\k≠gx/\k≠gy) w w'/\base<=w'.heap.size:=by
 unfold I64 at hx hy
 obtain⟨BX,BY,h1,h2,h3,h4,h5⟩:=h
 go_enter Tryz.func225,Tryz.ntmps225
 go_upto_region 0 with fail
 go_cut []from 6 to 11 (fun wx=>∃xa' xc',Bk 230 wx gx [.slice xa' (X++[[(x:Rat)]]).length xc']/\Bk 230 wx gy [.slice ya Y.length yc]/\R22 base wx (.slice xa' (X++[[(x:Rat)]]).length xc') (.slice ya Y.length yc) 20 (X++[[(x:Rat)]]) Y/\Keep (fun k=>k<base/\k≠gx) w wx/\base<=wx.heap.size)
 case first =>
  refine wp_region_held_drew (S:=(fun _=>True)) (by kernel_rfl) ?_ (fun hH=>?_)
  . (try dsimp only)
    all_goals go_keep
  have hbc:Below w.heap.size w w.drew:=Below.drew1
  generalize w.drew=ud at hbc hH ⊢
  refine hT 1 hH ?_
  refine wpAnyH_ready (rs:=[0,2]) (by kernel_rfl) (by simp) (hCons (i:=0) rfl (by rfl) (fun K hK=>?_) (hCons (i:=2) rfl (by rfl) (fun K hK=>?_) AllReadyH.nil))
  . obtain⟨c0,f0⟩:=(hX.below hbc).one1
    have hlt:=(hX.below hbc).lt
    go_simp
    refine hK.out _ _ ?_ (fun hH=>?_)
    . (try dsimp only)
      all_goals trivial
    clear hK K
    try simp only[Act.put,pZ]
    clear c0 f0 hlt
    refine hCall (i:=2) rfl (by kernel_rfl) (by rfl) (fun K hK=>?_)
    go_simp
    refine(zae x _ (by omega) (by omega)).mono ?_
    rintro e u1 ⟨v1,rfl,hF1,hb0⟩
    replace hF1:=hF1.le (show 2<=20 by decide)
    obtain⟨z1,x1,x2,x3,x4,x5,x6,rfl⟩:=hF1.cells3'
    replace hbc:=hbc.trans (hb0.mono hbc.size)
    have hs1:=hbc.size
    go_wp2_with fail
    refine hK.out _ _ ?_ (fun hH=>?_)
    . (try dsimp only)
      all_goals trivial
    clear hK K
    try simp only[Act.put,pZ]
    refine hCall (i:=3) rfl (by kernel_rfl) (by rfl) (fun K hK=>?_)
    go_simp
    obtain⟨V1,hV1,A1,hb1⟩:∃V,V=u1.alloc (.cells #[.bool z1,.slice x1 x2 x3,.slice x4 x5 x6] 125)/\Bk 125 V u1.heap.size [.bool z1,.slice x1 x2 x3,.slice x4 x5 x6]/\Below u1.heap.size u1 V:=⟨_,rfl,Bk.new _ _ _,bl1 _⟩
    rw[<-hV1];clear hV1
    have hF2:=hF1.below hb1
    replace hbc:=hbc.trans (hb1.mono hbc.size)
    have hs2:=hb1.size
    have hs3:=A1.lt
    refine hK.out _ _ ?_ (fun hH=>?_)
    . (try dsimp only)
      all_goals trivial
    clear hK K
    try simp only[Act.put,pZ]
    refine hCall (i:=4) rfl (by kernel_rfl) (by rfl) (fun K hK=>?_)
    go_simp
    obtain⟨V2,hV2,A2,hb2⟩:∃V,V=V1.alloc (.cells #[.slice (some ⟨u1.heap.size,0,none⟩) 1 1] 173)/\Bk 173 V V1.heap.size [.slice (some ⟨u1.heap.size,0,none⟩) 1 1]/\Below V1.heap.size V1 V:=⟨_,rfl,Bk.new _ _ _,bl1 _⟩
    rw[<-hV2];clear hV2
    have hrow:=Ro.one (A1.below hb2) (hF2.below hb2)
    replace hbc:=hbc.trans (hb2.mono hbc.size)
    have hs4:=hb2.size
    refine hK.out _ _ ?_ (fun hH=>?_)
    . (try dsimp only)
      all_goals trivial
    clear hK K
    try simp only[Act.put,pZ]
    have hr1:=h1.below hbc
    have BX2:=hX.below hbc
    have BY2:=hY.below hbc
    refine hCall (i:=5) rfl (by kernel_rfl) (by rfl) (fun K hK=>?_)
    refine zax _ _ rfl BX (fun k=>BX k\/w.heap.size<=k) _ 20 X rfl hr1 V1.heap.size rfl (.slice (some ⟨u1.heap.size,0,none⟩) 1 1) [(x:Rat)] A2.one1.1 hrow ⟨rfl,rfl⟩ (fun b e=>by
     have e:some u1.heap.size=some b:=e
     injection e with e
     exact⟨fun hb=>by have:=(h4 b hb).2;omega,.inr (by omega)⟩) (fun k hk=>.inl hk) (.inr (by omega)) (by omega) ?_
    intro v' w9 hR hkn _
    have BX3:=BX2.kn hkn (fun hb=>by have:=(h4 _ hb).1;omega)
    have BY3:=BY2.kn hkn (fun hb=>by have:=(h4 _ hb).1;omega)
    obtain⟨va',vc',rfl,-,-⟩:=hR.slice
    have zbs:=R22.put h2 h3 h4 h5 hbase (gx:=gx) (gy:=gy) (by omega) (by omega) (by omega) hbc hkn hR BX3 BY3
    refine hK.out _ _ ?_ (fun hH=>?_)
    . (try dsimp only)
      all_goals trivial
    clear hK K
    try simp only[Act.put,pZ]
    refine hCall (i:=6) rfl (by kernel_rfl) (by rfl) (fun K hK=>?_)
    obtain⟨c0,f0⟩:=BX3.one1
    have hlt:=BX3.lt
    obtain⟨nl,hnl⟩:∃n,(X++[[(x:Rat)]]).length=n:=⟨_,rfl⟩
    have HNL:Hid ((X++[[(x:Rat)]]).length=nl):=hnl
    rw[hnl]at zbs ⊢;clear hnl;go_simp
    generalize w9.setCell ⟨gx,0,none⟩ (.slice va' nl vc')=wz at zbs ⊢
    refine hK.out _ _ ?_ (fun hH=>?_)
    . (try dsimp only)
      all_goals trivial
    clear hK K
    try simp only[Act.put,pZ]
    refine wpAnyH_done (by kernel_rfl) ?_ _
    clear hH
    go_wp2_with fail
    go_meet
    rw[<-HNL.out]at zbs
    exact⟨va',vc',zbs⟩
  . go_simp
    refine(zae x _ (by omega) (by omega)).mono ?_
    rintro e u1 ⟨v1,rfl,hF1,hb0⟩
    replace hF1:=hF1.le (show 2<=20 by decide)
    obtain⟨z1,x1,x2,x3,x4,x5,x6,rfl⟩:=hF1.cells3'
    replace hbc:=hbc.trans (hb0.mono hbc.size)
    have hs1:=hbc.size
    go_wp2_with fail
    refine hK.out _ _ ?_ (fun hH=>?_)
    . (try dsimp only)
      all_goals trivial
    clear hK K
    try simp only[Act.put,pZ]
    refine wpAnyH_ready (rs:=[0,3]) (by kernel_rfl) (by simp) (hCons (i:=0) rfl (by rfl) (fun K hK=>?_) (hCons (i:=3) rfl (by rfl) (fun K hK=>?_) AllReadyH.nil))
    . obtain⟨c0,f0⟩:=(hX.below hbc).one1
      have hlt:=(hX.below hbc).lt
      go_simp
      refine hK.out _ _ ?_ (fun hH=>?_)
      . (try dsimp only)
        all_goals trivial
      clear hK K
      try simp only[Act.put,pZ]
      clear c0 f0 hlt
      refine hCall (i:=3) rfl (by kernel_rfl) (by rfl) (fun K hK=>?_)
      go_simp
      obtain⟨V1,hV1,A1,hb1⟩:∃V,V=u1.alloc (.cells #[.bool z1,.slice x1 x2 x3,.slice x4 x5 x6] 125)/\Bk 125 V u1.heap.size [.bool z1,.slice x1 x2 x3,.slice x4 x5 x6]/\Below u1.heap.size u1 V:=⟨_,rfl,Bk.new _ _ _,bl1 _⟩
      rw[<-hV1];clear hV1
      have hF2:=hF1.below hb1
      replace hbc:=hbc.trans (hb1.mono hbc.size)
      have hs2:=hb1.size
      have hs3:=A1.lt
      refine hK.out _ _ ?_ (fun hH=>?_)
      . (try dsimp only)
        all_goals trivial
      clear hK K
      try simp only[Act.put,pZ]
      refine hCall (i:=4) rfl (by kernel_rfl) (by rfl) (fun K hK=>?_)
      go_simp
      obtain⟨V2,hV2,A2,hb2⟩:∃V,V=V1.alloc (.cells #[.slice (some ⟨u1.heap.size,0,none⟩) 1 1] 173)/\Bk 173 V V1.heap.size [.slice (some ⟨u1.heap.size,0,none⟩) 1 1]/\Below V1.heap.size V1 V:=⟨_,rfl,Bk.new _ _ _,bl1 _⟩
      rw[<-hV2];clear hV2
      have hrow:=Ro.one (A1.below hb2) (hF2.below hb2)
      replace hbc:=hbc.trans (hb2.mono hbc.size)
      have hs4:=hb2.size
      refine hK.out _ _ ?_ (fun hH=>?_)
      . (try dsimp only)
        all_goals trivial
      clear hK K
      try simp only[Act.put,pZ]
      have hr1:=h1.below hbc
      have BX2:=hX.below hbc
      have BY2:=hY.below hbc
      refine hCall (i:=5) rfl (by kernel_rfl) (by rfl) (fun K hK=>?_)
      refine zax _ _ rfl BX (fun k=>BX k\/w.heap.size<=k) _ 20 X rfl hr1 V1.heap.size rfl (.slice (some ⟨u1.heap.size,0,none⟩) 1 1) [(x:Rat)] A2.one1.1 hrow ⟨rfl,rfl⟩ (fun b e=>by
       have e:some u1.heap.size=some b:=e
       injection e with e
       exact⟨fun hb=>by have:=(h4 b hb).2;omega,.inr (by omega)⟩) (fun k hk=>.inl hk) (.inr (by omega)) (by omega) ?_
      intro v' w9 hR hkn _
      have BX3:=BX2.kn hkn (fun hb=>by have:=(h4 _ hb).1;omega)
      have BY3:=BY2.kn hkn (fun hb=>by have:=(h4 _ hb).1;omega)
      obtain⟨va',vc',rfl,-,-⟩:=hR.slice
      have zbs:=R22.put h2 h3 h4 h5 hbase (gx:=gx) (gy:=gy) (by omega) (by omega) (by omega) hbc hkn hR BX3 BY3
      refine hK.out _ _ ?_ (fun hH=>?_)
      . (try dsimp only)
        all_goals trivial
      clear hK K
      try simp only[Act.put,pZ]
      refine hCall (i:=6) rfl (by kernel_rfl) (by rfl) (fun K hK=>?_)
      obtain⟨c0,f0⟩:=BX3.one1
      have hlt:=BX3.lt
      obtain⟨nl,hnl⟩:∃n,(X++[[(x:Rat)]]).length=n:=⟨_,rfl⟩
      have HNL:Hid ((X++[[(x:Rat)]]).length=nl):=hnl
      rw[hnl]at zbs ⊢;clear hnl;go_simp
      generalize w9.setCell ⟨gx,0,none⟩ (.slice va' nl vc')=wz at zbs ⊢
      refine hK.out _ _ ?_ (fun hH=>?_)
      . (try dsimp only)
        all_goals trivial
      clear hK K
      try simp only[Act.put,pZ]
      refine wpAnyH_done (by kernel_rfl) ?_ _
      clear hH
      go_wp2_with fail
      go_meet
      rw[<-HNL.out]at zbs
      exact⟨va',vc',zbs⟩
    . go_simp
      obtain⟨V1,hV1,A1,hb1⟩:∃V,V=u1.alloc (.cells #[.bool z1,.slice x1 x2 x3,.slice x4 x5 x6] 125)/\Bk 125 V u1.heap.size [.bool z1,.slice x1 x2 x3,.slice x4 x5 x6]/\Below u1.heap.size u1 V:=⟨_,rfl,Bk.new _ _ _,bl1 _⟩
      rw[<-hV1];clear hV1
      have hF2:=hF1.below hb1
      replace hbc:=hbc.trans (hb1.mono hbc.size)
      have hs2:=hb1.size
      have hs3:=A1.lt
      refine hK.out _ _ ?_ (fun hH=>?_)
      . (try dsimp only)
        all_goals trivial
      clear hK K
      try simp only[Act.put,pZ]
      refine wpAnyH_ready (rs:=[0,4]) (by kernel_rfl) (by simp) (hCons (i:=0) rfl (by rfl) (fun K hK=>?_) (hCons (i:=4) rfl (by rfl) (fun K hK=>?_) AllReadyH.nil))
      . obtain⟨c0,f0⟩:=(hX.below hbc).one1
        have hlt:=(hX.below hbc).lt
        go_simp
        refine hK.out _ _ ?_ (fun hH=>?_)
        . (try dsimp only)
          all_goals trivial
        clear hK K
        try simp only[Act.put,pZ]
        clear c0 f0 hlt
        refine hCall (i:=4) rfl (by kernel_rfl) (by rfl) (fun K hK=>?_)
        go_simp
        obtain⟨V2,hV2,A2,hb2⟩:∃V,V=V1.alloc (.cells #[.slice (some ⟨u1.heap.size,0,none⟩) 1 1] 173)/\Bk 173 V V1.heap.size [.slice (some ⟨u1.heap.size,0,none⟩) 1 1]/\Below V1.heap.size V1 V:=⟨_,rfl,Bk.new _ _ _,bl1 _⟩
        rw[<-hV2];clear hV2
        have hrow:=Ro.one (A1.below hb2) (hF2.below hb2)
        replace hbc:=hbc.trans (hb2.mono hbc.size)
        have hs4:=hb2.size
        refine hK.out _ _ ?_ (fun hH=>?_)
        . (try dsimp only)
          all_goals trivial
        clear hK K
        try simp only[Act.put,pZ]
        have hr1:=h1.below hbc
        have BX2:=hX.below hbc
        have BY2:=hY.below hbc
        refine hCall (i:=5) rfl (by kernel_rfl) (by rfl) (fun K hK=>?_)
        refine zax _ _ rfl BX (fun k=>BX k\/w.heap.size<=k) _ 20 X rfl hr1 V1.heap.size rfl (.slice (some ⟨u1.heap.size,0,none⟩) 1 1) [(x:Rat)] A2.one1.1 hrow ⟨rfl,rfl⟩ (fun b e=>by
         have e:some u1.heap.size=some b:=e
         injection e with e
         exact⟨fun hb=>by have:=(h4 b hb).2;omega,.inr (by omega)⟩) (fun k hk=>.inl hk) (.inr (by omega)) (by omega) ?_
        intro v' w9 hR hkn _
        have BX3:=BX2.kn hkn (fun hb=>by have:=(h4 _ hb).1;omega)
        have BY3:=BY2.kn hkn (fun hb=>by have:=(h4 _ hb).1;omega)
        obtain⟨va',vc',rfl,-,-⟩:=hR.slice
        have zbs:=R22.put h2 h3 h4 h5 hbase (gx:=gx) (gy:=gy) (by omega) (by omega) (by omega) hbc hkn hR BX3 BY3
        refine hK.out _ _ ?_ (fun hH=>?_)
        . (try dsimp only)
          all_goals trivial
        clear hK K
        try simp only[Act.put,pZ]
        refine hCall (i:=6) rfl (by kernel_rfl) (by rfl) (fun K hK=>?_)
        obtain⟨c0,f0⟩:=BX3.one1
        have hlt:=BX3.lt
        obtain⟨nl,hnl⟩:∃n,(X++[[(x:Rat)]]).length=n:=⟨_,rfl⟩
        have HNL:Hid ((X++[[(x:Rat)]]).length=nl):=hnl
        rw[hnl]at zbs ⊢;clear hnl;go_simp
        generalize w9.setCell ⟨gx,0,none⟩ (.slice va' nl vc')=wz at zbs ⊢
        refine hK.out _ _ ?_ (fun hH=>?_)
        . (try dsimp only)
          all_goals trivial
        clear hK K
        try simp only[Act.put,pZ]
        refine wpAnyH_done (by kernel_rfl) ?_ _
        clear hH
        go_wp2_with fail
        go_meet
        rw[<-HNL.out]at zbs
        exact⟨va',vc',zbs⟩
      . go_simp
        obtain⟨V2,hV2,A2,hb2⟩:∃V,V=V1.alloc (.cells #[.slice (some ⟨u1.heap.size,0,none⟩) 1 1] 173)/\Bk 173 V V1.heap.size [.slice (some ⟨u1.heap.size,0,none⟩) 1 1]/\Below V1.heap.size V1 V:=⟨_,rfl,Bk.new _ _ _,bl1 _⟩
        rw[<-hV2];clear hV2
        have hrow:=Ro.one (A1.below hb2) (hF2.below hb2)
        replace hbc:=hbc.trans (hb2.mono hbc.size)
        have hs4:=hb2.size
        refine hK.out _ _ ?_ (fun hH=>?_)
        . (try dsimp only)
          all_goals trivial
        clear hK K
        try simp only[Act.put,pZ]
        refine hCall (i:=0) rfl (by kernel_rfl) (by rfl) (fun K hK=>?_)
        obtain⟨c0,f0⟩:=(hX.below hbc).one1
        have hlt:=(hX.below hbc).lt
        go_simp
        refine hK.out _ _ ?_ (fun hH=>?_)
        . (try dsimp only)
          all_goals trivial
        clear hK K
        try simp only[Act.put,pZ]
        clear c0 f0 hlt
        have hr1:=h1.below hbc
        have BX2:=hX.below hbc
        have BY2:=hY.below hbc
        refine hCall (i:=5) rfl (by kernel_rfl) (by rfl) (fun K hK=>?_)
        refine zax _ _ rfl BX (fun k=>BX k\/w.heap.size<=k) _ 20 X rfl hr1 V1.heap.size rfl (.slice (some ⟨u1.heap.size,0,none⟩) 1 1) [(x:Rat)] A2.one1.1 hrow ⟨rfl,rfl⟩ (fun b e=>by
         have e:some u1.heap.size=some b:=e
         injection e with e
         exact⟨fun hb=>by have:=(h4 b hb).2;omega,.inr (by omega)⟩) (fun k hk=>.inl hk) (.inr (by omega)) (by omega) ?_
        intro v' w9 hR hkn _
        have BX3:=BX2.kn hkn (fun hb=>by have:=(h4 _ hb).1;omega)
        have BY3:=BY2.kn hkn (fun hb=>by have:=(h4 _ hb).1;omega)
        obtain⟨va',vc',rfl,-,-⟩:=hR.slice
        have zbs:=R22.put h2 h3 h4 h5 hbase (gx:=gx) (gy:=gy) (by omega) (by omega) (by omega) hbc hkn hR BX3 BY3
        refine hK.out _ _ ?_ (fun hH=>?_)
        . (try dsimp only)
          all_goals trivial
        clear hK K
        try simp only[Act.put,pZ]
        refine hCall (i:=6) rfl (by kernel_rfl) (by rfl) (fun K hK=>?_)
        obtain⟨c0,f0⟩:=BX3.one1
        have hlt:=BX3.lt
        obtain⟨nl,hnl⟩:∃n,(X++[[(x:Rat)]]).length=n:=⟨_,rfl⟩
        have HNL:Hid ((X++[[(x:Rat)]]).length=nl):=hnl
        rw[hnl]at zbs ⊢;clear hnl;go_simp
        generalize w9.setCell ⟨gx,0,none⟩ (.slice va' nl vc')=wz at zbs ⊢
        refine hK.out _ _ ?_ (fun hH=>?_)
        . (try dsimp only)
          all_goals trivial
        clear hK K
        try simp only[Act.put,pZ]
        refine wpAnyH_done (by kernel_rfl) ?_ _
        clear hH
        go_wp2_with fail
        go_meet
        rw[<-HNL.out]at zbs
        exact⟨va',vc',zbs⟩
 case rest =>
  obtain⟨xa2,xc2,hX2,hY2,h22,hkp,zn4⟩:=hcut;clear h1 h2 h3 h4 h5 hX hY hbase;obtain⟨BX',BY',h1,h2,h3,h4,h5⟩:=h22.swap
  obtain⟨X',hX'⟩:∃l,X++[[(x:Rat)]]=l:=⟨_,rfl⟩
  have HX':Hid (X++[[(x:Rat)]]=X'):=hX'
  rw[hX']at hX2 h22 h2;clear hX'
  go_upto_region 1 with fail
  refine wp_region_held_drew (S:=(fun _=>True)) (by kernel_rfl) ?_ (fun hH=>?_)
  . (try dsimp only)
    all_goals go_keep
  have hbc:Below wc.heap.size wc wc.drew:=Below.drew1
  generalize wc.drew=ud at hbc hH ⊢
  refine hT 1 hH ?_
  refine wpAnyH_ready (rs:=[0,2]) (by kernel_rfl) (by simp) (hCons (i:=0) rfl (by rfl) (fun K hK=>?_) (hCons (i:=2) rfl (by rfl) (fun K hK=>?_) AllReadyH.nil))
  . obtain⟨c0,f0⟩:=(hY2.below hbc).one1
    have hlt:=(hY2.below hbc).lt
    go_simp
    refine hK.out _ _ ?_ (fun hH=>?_)
    . (try dsimp only)
      all_goals trivial
    clear hK K
    try simp only[Act.put,pZ]
    clear c0 f0 hlt
    refine hCall (i:=2) rfl (by kernel_rfl) (by rfl) (fun K hK=>?_)
    go_simp
    refine(zae y _ (by omega) (by omega)).mono ?_
    rintro e u1 ⟨v1,rfl,hF1,hb0⟩
    replace hF1:=hF1.le (show 2<=20 by decide)
    obtain⟨z1,x1,x2,x3,x4,x5,x6,rfl⟩:=hF1.cells3'
    replace hbc:=hbc.trans (hb0.mono hbc.size)
    have hs1:=hbc.size
    go_wp2_with fail
    refine hK.out _ _ ?_ (fun hH=>?_)
    . (try dsimp only)
      all_goals trivial
    clear hK K
    try simp only[Act.put,pZ]
    refine hCall (i:=3) rfl (by kernel_rfl) (by rfl) (fun K hK=>?_)
    go_simp
    obtain⟨V1,hV1,A1,hb1⟩:∃V,V=u1.alloc (.cells #[.bool z1,.slice x1 x2 x3,.slice x4 x5 x6] 125)/\Bk 125 V u1.heap.size [.bool z1,.slice x1 x2 x3,.slice x4 x5 x6]/\Below u1.heap.size u1 V:=⟨_,rfl,Bk.new _ _ _,bl1 _⟩
    rw[<-hV1];clear hV1
    have hF2:=hF1.below hb1
    replace hbc:=hbc.trans (hb1.mono hbc.size)
    have hs2:=hb1.size
    have hs3:=A1.lt
    refine hK.out _ _ ?_ (fun hH=>?_)
    . (try dsimp only)
      all_goals trivial
    clear hK K
    try simp only[Act.put,pZ]
    refine hCall (i:=4) rfl (by kernel_rfl) (by rfl) (fun K hK=>?_)
    go_simp
    obtain⟨V2,hV2,A2,hb2⟩:∃V,V=V1.alloc (.cells #[.slice (some ⟨u1.heap.size,0,none⟩) 1 1] 173)/\Bk 173 V V1.heap.size [.slice (some ⟨u1.heap.size,0,none⟩) 1 1]/\Below V1.heap.size V1 V:=⟨_,rfl,Bk.new _ _ _,bl1 _⟩
    rw[<-hV2];clear hV2
    have hrow:=Ro.one (A1.below hb2) (hF2.below hb2)
    replace hbc:=hbc.trans (hb2.mono hbc.size)
    have hs4:=hb2.size
    refine hK.out _ _ ?_ (fun hH=>?_)
    . (try dsimp only)
      all_goals trivial
    clear hK K
    try simp only[Act.put,pZ]
    have hr1:=h1.below hbc
    have BX2:=hY2.below hbc
    have BY2:=hX2.below hbc
    refine hCall (i:=5) rfl (by kernel_rfl) (by rfl) (fun K hK=>?_)
    refine zax _ _ rfl BX' (fun k=>BX' k\/wc.heap.size<=k) _ 20 Y rfl hr1 V1.heap.size rfl (.slice (some ⟨u1.heap.size,0,none⟩) 1 1) [(y:Rat)] A2.one1.1 hrow ⟨rfl,rfl⟩ (fun b e=>by
     have e:some u1.heap.size=some b:=e
     injection e with e
     exact⟨fun hb=>by have:=(h4 b hb).2;omega,.inr (by omega)⟩) (fun k hk=>.inl hk) (.inr (by omega)) (by omega) ?_
    intro v' w9 hR hkn _
    have BX3:=BX2.kn hkn (fun hb=>by have:=(h4 _ hb).1;omega)
    have BY3:=BY2.kn hkn (fun hb=>by have:=(h4 _ hb).1;omega)
    obtain⟨va',vc',rfl,-,-⟩:=hR.slice
    have zbs:=R22.put h2 h3 h4 h5 zn4 (gx:=gy) (gy:=gx) (by omega) (by omega) (by omega) hbc hkn hR BX3 BY3
    refine hK.out _ _ ?_ (fun hH=>?_)
    . (try dsimp only)
      all_goals trivial
    clear hK K
    try simp only[Act.put,pZ]
    refine hCall (i:=6) rfl (by kernel_rfl) (by rfl) (fun K hK=>?_)
    obtain⟨c0,f0⟩:=BX3.one1
    have hlt:=BX3.lt
    obtain⟨nl,hnl⟩:∃n,(Y++[[(y:Rat)]]).length=n:=⟨_,rfl⟩
    have HNL:Hid ((Y++[[(y:Rat)]]).length=nl):=hnl
    rw[hnl]at zbs ⊢;clear hnl;go_simp
    generalize w9.setCell ⟨gy,0,none⟩ (.slice va' nl vc')=wz at zbs ⊢
    refine hK.out _ _ ?_ (fun hH=>?_)
    . (try dsimp only)
      all_goals trivial
    clear hK K
    try simp only[Act.put,pZ]
    refine wpAnyH_done (by kernel_rfl) ?_ _
    clear hH;clear hX2 hY2 BX2 BY2 BX3 BY3;go_wp2
    go_end0
    rw[<-HNL.out,<-HX'.out]at zbs
    exact⟨rfl,xa2,xc2,va',vc',zbs.2.1,zbs.1,zbs.2.2.1.swap,Keep.trans (hkp.mono (fun k hk=>⟨hk.1,hk.2.1⟩)) (zbs.2.2.2.1.mono (fun k hk=>⟨hk.1,hk.2.2⟩)),zbs.2.2.2.2⟩
  . go_simp
    refine(zae y _ (by omega) (by omega)).mono ?_
    rintro e u1 ⟨v1,rfl,hF1,hb0⟩
    replace hF1:=hF1.le (show 2<=20 by decide)
    obtain⟨z1,x1,x2,x3,x4,x5,x6,rfl⟩:=hF1.cells3'
    replace hbc:=hbc.trans (hb0.mono hbc.size)
    have hs1:=hbc.size
    go_wp2_with fail
    refine hK.out _ _ ?_ (fun hH=>?_)
    . (try dsimp only)
      all_goals trivial
    clear hK K
    try simp only[Act.put,pZ]
    refine wpAnyH_ready (rs:=[0,3]) (by kernel_rfl) (by simp) (hCons (i:=0) rfl (by rfl) (fun K hK=>?_) (hCons (i:=3) rfl (by rfl) (fun K hK=>?_) AllReadyH.nil))
    . obtain⟨c0,f0⟩:=(hY2.below hbc).one1
      have hlt:=(hY2.below hbc).lt
      go_simp
      refine hK.out _ _ ?_ (fun hH=>?_)
      . (try dsimp only)
        all_goals trivial
      clear hK K
      try simp only[Act.put,pZ]
      clear c0 f0 hlt
      refine hCall (i:=3) rfl (by kernel_rfl) (by rfl) (fun K hK=>?_)
      go_simp
      obtain⟨V1,hV1,A1,hb1⟩:∃V,V=u1.alloc (.cells #[.bool z1,.slice x1 x2 x3,.slice x4 x5 x6] 125)/\Bk 125 V u1.heap.size [.bool z1,.slice x1 x2 x3,.slice x4 x5 x6]/\Below u1.heap.size u1 V:=⟨_,rfl,Bk.new _ _ _,bl1 _⟩
      rw[<-hV1];clear hV1
      have hF2:=hF1.below hb1
      replace hbc:=hbc.trans (hb1.mono hbc.size)
      have hs2:=hb1.size
      have hs3:=A1.lt
      refine hK.out _ _ ?_ (fun hH=>?_)
      . (try dsimp only)
        all_goals trivial
      clear hK K
      try simp only[Act.put,pZ]
      refine hCall (i:=4) rfl (by kernel_rfl) (by rfl) (fun K hK=>?_)
      go_simp
      obtain⟨V2,hV2,A2,hb2⟩:∃V,V=V1.alloc (.cells #[.slice (some ⟨u1.heap.size,0,none⟩) 1 1] 173)/\Bk 173 V V1.heap.size [.slice (some ⟨u1.heap.size,0,none⟩) 1 1]/\Below V1.heap.size V1 V:=⟨_,rfl,Bk.new _ _ _,bl1 _⟩
      rw[<-hV2];clear hV2
      have hrow:=Ro.one (A1.below hb2) (hF2.below hb2)
      replace hbc:=hbc.trans (hb2.mono hbc.size)
      have hs4:=hb2.size
      refine hK.out _ _ ?_ (fun hH=>?_)
      . (try dsimp only)
        all_goals trivial
      clear hK K
      try simp only[Act.put,pZ]
      have hr1:=h1.below hbc
      have BX2:=hY2.below hbc
      have BY2:=hX2.below hbc
      refine hCall (i:=5) rfl (by kernel_rfl) (by rfl) (fun K hK=>?_)
      refine zax _ _ rfl BX' (fun k=>BX' k\/wc.heap.size<=k) _ 20 Y rfl hr1 V1.heap.size rfl (.slice (some ⟨u1.heap.size,0,none⟩) 1 1) [(y:Rat)] A2.one1.1 hrow ⟨rfl,rfl⟩ (fun b e=>by
       have e:some u1.heap.size=some b:=e
       injection e with e
       exact⟨fun hb=>by have:=(h4 b hb).2;omega,.inr (by omega)⟩) (fun k hk=>.inl hk) (.inr (by omega)) (by omega) ?_
      intro v' w9 hR hkn _
      have BX3:=BX2.kn hkn (fun hb=>by have:=(h4 _ hb).1;omega)
      have BY3:=BY2.kn hkn (fun hb=>by have:=(h4 _ hb).1;omega)
      obtain⟨va',vc',rfl,-,-⟩:=hR.slice
      have zbs:=R22.put h2 h3 h4 h5 zn4 (gx:=gy) (gy:=gx) (by omega) (by omega) (by omega) hbc hkn hR BX3 BY3
      refine hK.out _ _ ?_ (fun hH=>?_)
      . (try dsimp only)
        all_goals trivial
      clear hK K
      try simp only[Act.put,pZ]
      refine hCall (i:=6) rfl (by kernel_rfl) (by rfl) (fun K hK=>?_)
      obtain⟨c0,f0⟩:=BX3.one1
      have hlt:=BX3.lt
      obtain⟨nl,hnl⟩:∃n,(Y++[[(y:Rat)]]).length=n:=⟨_,rfl⟩
      have HNL:Hid ((Y++[[(y:Rat)]]).length=nl):=hnl
      rw[hnl]at zbs ⊢;clear hnl;go_simp
      generalize w9.setCell ⟨gy,0,none⟩ (.slice va' nl vc')=wz at zbs ⊢
      refine hK.out _ _ ?_ (fun hH=>?_)
      . (try dsimp only)
        all_goals trivial
      clear hK K
      try simp only[Act.put,pZ]
      refine wpAnyH_done (by kernel_rfl) ?_ _
      clear hH;clear hX2 hY2 BX2 BY2 BX3 BY3;go_wp2
      go_end0
      rw[<-HNL.out,<-HX'.out]at zbs
      exact⟨rfl,xa2,xc2,va',vc',zbs.2.1,zbs.1,zbs.2.2.1.swap,Keep.trans (hkp.mono (fun k hk=>⟨hk.1,hk.2.1⟩)) (zbs.2.2.2.1.mono (fun k hk=>⟨hk.1,hk.2.2⟩)),zbs.2.2.2.2⟩
    . go_simp
      obtain⟨V1,hV1,A1,hb1⟩:∃V,V=u1.alloc (.cells #[.bool z1,.slice x1 x2 x3,.slice x4 x5 x6] 125)/\Bk 125 V u1.heap.size [.bool z1,.slice x1 x2 x3,.slice x4 x5 x6]/\Below u1.heap.size u1 V:=⟨_,rfl,Bk.new _ _ _,bl1 _⟩
      rw[<-hV1];clear hV1
      have hF2:=hF1.below hb1
      replace hbc:=hbc.trans (hb1.mono hbc.size)
      have hs2:=hb1.size
      have hs3:=A1.lt
      refine hK.out _ _ ?_ (fun hH=>?_)
      . (try dsimp only)
        all_goals trivial
      clear hK K
      try simp only[Act.put,pZ]
      refine wpAnyH_ready (rs:=[0,4]) (by kernel_rfl) (by simp) (hCons (i:=0) rfl (by rfl) (fun K hK=>?_) (hCons (i:=4) rfl (by rfl) (fun K hK=>?_) AllReadyH.nil))
      . obtain⟨c0,f0⟩:=(hY2.below hbc).one1
        have hlt:=(hY2.below hbc).lt
        go_simp
        refine hK.out _ _ ?_ (fun hH=>?_)
        . (try dsimp only)
          all_goals trivial
        clear hK K
        try simp only[Act.put,pZ]
        clear c0 f0 hlt
        refine hCall (i:=4) rfl (by kernel_rfl) (by rfl) (fun K hK=>?_)
        go_simp
        obtain⟨V2,hV2,A2,hb2⟩:∃V,V=V1.alloc (.cells #[.slice (some ⟨u1.heap.size,0,none⟩) 1 1] 173)/\Bk 173 V V1.heap.size [.slice (some ⟨u1.heap.size,0,none⟩) 1 1]/\Below V1.heap.size V1 V:=⟨_,rfl,Bk.new _ _ _,bl1 _⟩
        rw[<-hV2];clear hV2
        have hrow:=Ro.one (A1.below hb2) (hF2.below hb2)
        replace hbc:=hbc.trans (hb2.mono hbc.size)
        have hs4:=hb2.size
        refine hK.out _ _ ?_ (fun hH=>?_)
        . (try dsimp only)
          all_goals trivial
        clear hK K
        try simp only[Act.put,pZ]
        have hr1:=h1.below hbc
        have BX2:=hY2.below hbc
        have BY2:=hX2.below hbc
        refine hCall (i:=5) rfl (by kernel_rfl) (by rfl) (fun K hK=>?_)
        refine zax _ _ rfl BX' (fun k=>BX' k\/wc.heap.size<=k) _ 20 Y rfl hr1 V1.heap.size rfl (.slice (some ⟨u1.heap.size,0,none⟩) 1 1) [(y:Rat)] A2.one1.1 hrow ⟨rfl,rfl⟩ (fun b e=>by
         have e:some u1.heap.size=some b:=e
         injection e with e
         exact⟨fun hb=>by have:=(h4 b hb).2;omega,.inr (by omega)⟩) (fun k hk=>.inl hk) (.inr (by omega)) (by omega) ?_
        intro v' w9 hR hkn _
        have BX3:=BX2.kn hkn (fun hb=>by have:=(h4 _ hb).1;omega)
        have BY3:=BY2.kn hkn (fun hb=>by have:=(h4 _ hb).1;omega)
        obtain⟨va',vc',rfl,-,-⟩:=hR.slice
        have zbs:=R22.put h2 h3 h4 h5 zn4 (gx:=gy) (gy:=gx) (by omega) (by omega) (by omega) hbc hkn hR BX3 BY3
        refine hK.out _ _ ?_ (fun hH=>?_)
        . (try dsimp only)
          all_goals trivial
        clear hK K
        try simp only[Act.put,pZ]
        refine hCall (i:=6) rfl (by kernel_rfl) (by rfl) (fun K hK=>?_)
        obtain⟨c0,f0⟩:=BX3.one1
        have hlt:=BX3.lt
        obtain⟨nl,hnl⟩:∃n,(Y++[[(y:Rat)]]).length=n:=⟨_,rfl⟩
        have HNL:Hid ((Y++[[(y:Rat)]]).length=nl):=hnl
        rw[hnl]at zbs ⊢;clear hnl;go_simp
        generalize w9.setCell ⟨gy,0,none⟩ (.slice va' nl vc')=wz at zbs ⊢
        refine hK.out _ _ ?_ (fun hH=>?_)
        . (try dsimp only)
          all_goals trivial
        clear hK K
        try simp only[Act.put,pZ]
        refine wpAnyH_done (by kernel_rfl) ?_ _
        clear hH;clear hX2 hY2 BX2 BY2 BX3 BY3;go_wp2
        go_end0
        rw[<-HNL.out,<-HX'.out]at zbs
        exact⟨rfl,xa2,xc2,va',vc',zbs.2.1,zbs.1,zbs.2.2.1.swap,Keep.trans (hkp.mono (fun k hk=>⟨hk.1,hk.2.1⟩)) (zbs.2.2.2.1.mono (fun k hk=>⟨hk.1,hk.2.2⟩)),zbs.2.2.2.2⟩
      . go_simp
        obtain⟨V2,hV2,A2,hb2⟩:∃V,V=V1.alloc (.cells #[.slice (some ⟨u1.heap.size,0,none⟩) 1 1] 173)/\Bk 173 V V1.heap.size [.slice (some ⟨u1.heap.size,0,none⟩) 1 1]/\Below V1.heap.size V1 V:=⟨_,rfl,Bk.new _ _ _,bl1 _⟩
        rw[<-hV2];clear hV2
        have hrow:=Ro.one (A1.below hb2) (hF2.below hb2)
        replace hbc:=hbc.trans (hb2.mono hbc.size)
        have hs4:=hb2.size
        refine hK.out _ _ ?_ (fun hH=>?_)
        . (try dsimp only)
          all_goals trivial
        clear hK K
        try simp only[Act.put,pZ]
        refine hCall (i:=0) rfl (by kernel_rfl) (by rfl) (fun K hK=>?_)
        obtain⟨c0,f0⟩:=(hY2.below hbc).one1
        have hlt:=(hY2.below hbc).lt
        go_simp
        refine hK.out _ _ ?_ (fun hH=>?_)
        . (try dsimp only)
          all_goals trivial
        clear hK K
        try simp only[Act.put,pZ]
        clear c0 f0 hlt
        have hr1:=h1.below hbc
        have BX2:=hY2.below hbc
        have BY2:=hX2.below hbc
        refine hCall (i:=5) rfl (by kernel_rfl) (by rfl) (fun K hK=>?_)
        refine zax _ _ rfl BX' (fun k=>BX' k\/wc.heap.size<=k) _ 20 Y rfl hr1 V1.heap.size rfl (.slice (some ⟨u1.heap.size,0,none⟩) 1 1) [(y:Rat)] A2.one1.1 hrow ⟨rfl,rfl⟩ (fun b e=>by
         have e:some u1.heap.size=some b:=e
         injection e with e
         exact⟨fun hb=>by have:=(h4 b hb).2;omega,.inr (by omega)⟩) (fun k hk=>.inl hk) (.inr (by omega)) (by omega) ?_
        intro v' w9 hR hkn _
        have BX3:=BX2.kn hkn (fun hb=>by have:=(h4 _ hb).1;omega)
        have BY3:=BY2.kn hkn (fun hb=>by have:=(h4 _ hb).1;omega)
        obtain⟨va',vc',rfl,-,-⟩:=hR.slice
        have zbs:=R22.put h2 h3 h4 h5 zn4 (gx:=gy) (gy:=gx) (by omega) (by omega) (by omega) hbc hkn hR BX3 BY3
        refine hK.out _ _ ?_ (fun hH=>?_)
        . (try dsimp only)
          all_goals trivial
        clear hK K
        try simp only[Act.put,pZ]
        refine hCall (i:=6) rfl (by kernel_rfl) (by rfl) (fun K hK=>?_)
        obtain⟨c0,f0⟩:=BX3.one1
        have hlt:=BX3.lt
        obtain⟨nl,hnl⟩:∃n,(Y++[[(y:Rat)]]).length=n:=⟨_,rfl⟩
        have HNL:Hid ((Y++[[(y:Rat)]]).length=nl):=hnl
        rw[hnl]at zbs ⊢;clear hnl;go_simp
        generalize w9.setCell ⟨gy,0,none⟩ (.slice va' nl vc')=wz at zbs ⊢
        refine hK.out _ _ ?_ (fun hH=>?_)
        . (try dsimp only)
          all_goals trivial
        clear hK K
        try simp only[Act.put,pZ]
        refine wpAnyH_done (by kernel_rfl) ?_ _
        clear hH;clear hX2 hY2 BX2 BY2 BX3 BY3;go_wp2
        go_end0
        rw[<-HNL.out,<-HX'.out]at zbs
        exact⟨rfl,xa2,xc2,va',vc',zbs.2.1,zbs.1,zbs.2.2.1.swap,Keep.trans (hkp.mono (fun k hk=>⟨hk.1,hk.2.1⟩)) (zbs.2.2.2.1.mono (fun k hk=>⟨hk.1,hk.2.2⟩)),zbs.2.2.2.2⟩
