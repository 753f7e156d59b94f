import Derived.Test.YtkmcodofnckdmaaGreatZK30
set_option maxHeartbeats 8000000
set_option maxRecDepth 100000
set_option linter.unusedSimpArgs false
set_option linter.unusedVariables false
namespace Go.Proofs.YtkmcodofnckdmaaGreat
open Go.RowKit Go.Maps
theorem zth{l:List Gl}{s:Sr}{ax:Int}(h:¬(1<=l.length/\l.length<=100)):foG l s ax=false:=by unfold foG;rw[decide_eq_false h];rfl
theorem z2m{l:List Gl}{s:Sr}{ax:Int}(h:stB s ax=false):foG l s ax=false:=by unfold foG;rw[h];simp
theorem ztg{l:List Gl}{s:Sr}{ax:Int}{k:Nat}(hk:k<l.length)(h:foGx l s ax k=false):foG l s ax=false:=by
 cases hf:foG l s ax with
 | false=>rfl
 | true =>
  have:=(zcd.1 hf).2.2 k hk
  rw[h]at this
  cases this
theorem zkw(S:Nat->Prop)(a:OA)(ca:Nat)(l:List Gl)(ga:OA)(gc:Nat)(ma:OA)(mc:Nat)(s:Sr)(ax:Int)(w:World)(hl:Gr GlE S w a ca l)(hps:∀x∈l,x.o.ps.length<=12)(hg:Tzz w ga gc s.rg)(hm:Rii w ma mc s.rw)(hi:I64 ax) :
 Calls Tryz.prog 27 #[.slice a l.length ca,.agg #[.slice ga s.rg.length gc,.slice ma s.rw.length mc],.int .i64 ax] w fun e w'=>e=.returned (.bool (foG l s ax))/\Below w.heap.size w w':=by
 have kl:=hl.lenB
 have k2:=hm.lenB
 obtain⟨W,hW,X1,hbW⟩:∃W,W=w.alloc (.cells #[.slice ga s.rg.length gc,.slice ma s.rw.length mc] 26)/\Bk 26 W w.heap.size [.slice ga s.rg.length gc,.slice ma s.rw.length mc]/\Below w.heap.size w W:=⟨_,rfl,Bk.new _ _ _,bl1 _⟩
 obtain⟨x0,x1,_⟩:=X1.two
 by_cases hn0:l.length<1
 . have HF:Hid (foG l s ax=false):=zth (by omega)
   have g1:decide ((l.length:Int)<1)=true:=decide_eq_true (by omega)
   have g2:(l.length:Int)<1:=by omega
   go_enter Tryz.func27,Tryz.ntmps27
   go_upto_region 1 with fail
   rw[<-hW];clear hW;go_wp2
   go_ret
   exact⟨zaa HF.out.symm,hbW⟩
 have g1:decide ((l.length:Int)<1)=false:=decide_eq_false (by omega)
 by_cases hn1:100<l.length
 . have HF:Hid (foG l s ax=false):=zth (by omega)
   have g2:decide ((100:Int)<(l.length:Int))=true:=decide_eq_true (by omega)
   go_enter Tryz.func27,Tryz.ntmps27
   go_upto_region 1 with fail
   rw[<-hW];clear hW;go_wp2
   go_ret
   exact⟨zaa HF.out.symm,hbW⟩
 have g2:decide ((100:Int)<(l.length:Int))=false:=decide_eq_false (by omega)
 have hsf:=zqa ga gc ma mc s ax W (hg.below hbW) (hm.below hbW)
 cases hst:stB s ax with
 | false =>
  rw[hst]at hsf
  have HF:Hid (foG l s ax=false):=z2m hst
  clear hst
  go_enter Tryz.func27,Tryz.ntmps27
  go_upto_region 1 with fail
  rw[<-hW];clear hW
  go_wp2_with fail
  refine hsf.mono ?_
  rintro e u ⟨rfl,hb⟩
  replace hbW:=hbW.trans (hb.mono hbW.size)
  clear hsf hb;go_wp2
  go_ret
  exact⟨zaa HF.out.symm,hbW⟩
 | true =>
 rw[hst]at hsf
 have HST:Hid (stB s ax=true):=hst
 clear hst
 go_enter Tryz.func27,Tryz.ntmps27
 go_upto_region 1 with fail
 rw[<-hW];clear hW
 go_wp2_with fail
 refine hsf.mono ?_
 rintro e u1 ⟨rfl,hb⟩
 replace hl:=(hl.below hbW).below hb
 replace X1:=X1.below hb
 replace hbW:=hbW.trans (hb.mono hbW.size)
 clear hsf hb x0 x1 hg hm g1 g2
 go_wp2_with fail
 refine(zd6 a l.length ca u1).mono ?_
 rintro e V ⟨rfl,hSv,hMp,hbV⟩
 have HL:Hid (Gr GlE S u1 a ca l):=hl
 have HX1:Hid (Bk 26 u1 w.heap.size [.slice ga s.rg.length gc,.slice ma s.rw.length mc]):=X1
 have HBW:Hid (Below w.heap.size w u1):=hbW
 have HPS:Hid (∀x∈l,x.o.ps.length<=12):=hps
 clear hl X1 hbW hps;go_wp2
 go_loopw [30] (fun i wr=>∃(k n':Nat) (F':Int->Option Value),k<=l.length/\i=.int .i64 k/\Hid (∀j,j<k->foGx l s ax j=true)/\Bk 119 wr (u1.heap.size+1) [.slice a l.length ca,.map (some u1.heap.size)]/\Mp wr u1.heap.size n' F'/\Hid (KnG l F')/\Hid (n'<=k*4000000)/\Below u1.heap.size u1 wr) (fun i _=>l.length-(intOf i).toNat)
 case atStart=>exact⟨0,0,_,Nat.zero_le _,rfl,(fun j hj=>by omega),hSv,hMp,KnG.nil l,Nat.zero_le _,hbV⟩
 case round =>
  clear hSv hMp hbV;obtain⟨k,n1,F1,hk,rfl,HOK,hSv,hMp,HKN,HN,hB⟩:=hrel
  have hBw:Below w.heap.size w wr:=HBW.out.trans (hB.mono HBW.out.size)
  by_cases hkn:k<l.length
  . obtain⟨b1,off,xa,xc,pa,pc,ta,tc,ea,hb1,hGC,c0,c1,c2,c3,c4,c5⟩:=HL.out.gl hB k hkn
    subst ea
    have hBad:∀q:Bool,foGx l s ax k=false->foG l s ax=false:=fun _ h=>ztg hkn h
    have zyi:Hid (foGx l s ax k=false->foG l s ax=false):=ztg hkn
    have HX:Hid (foGx l s ax k=((dq l 6 (k:Int)).isSome&&(decide (szG l (k:Int)<=2000)&&(foT (l.getD k Gl.none).o (l.getD k Gl.none).ts ax&&fiS s (l.getD k Gl.none).ab (l.getD k Gl.none).ar)))):=rfl
    clear hBad
    obtain⟨x,hx⟩:∃x,l.getD k Gl.none=x:=⟨_,rfl⟩
    rw[hx]at hGC c0 c1 c2 c3 c4 c5 HX
    have i1:(0:Int)<=(k:Int):=by omega
    have i2:(k:Int)<(l.length:Int):=by omega
    have kcs:=hGC.cs.lenB
    have kps:=hGC.ps.lenB
    have kts:=hGC.ts.lenB
    obtain⟨U,hU,XG,hbU⟩:∃U,U=wr.alloc (.cells #[.slice xa x.o.cs.length xc,.slice pa x.o.ps.length pc,.slice ta x.ts.length tc,.int .i64 x.ab,.int .i64 x.ar,.bool x.mr] 62)/\Bk 62 U wr.heap.size [.slice xa x.o.cs.length xc,.slice pa x.o.ps.length pc,.slice ta x.ts.length tc,.int .i64 x.ab,.int .i64 x.ar,.bool x.mr]/\Below wr.heap.size wr U:=⟨_,rfl,Bk.new _ _ _,bl1 _⟩
    have hG2:=hGC.below hbU
    have hto:=zdt S xa xc pa pc x.o S ta tc x.ts ax U hG2.cs hG2.ps hG2.ts hi
    replace hSv:=hSv.below hbU;replace hMp:=hMp.below hbU
    replace hB:=hB.trans (hbU.mono hB.size)
    replace hBw:=hBw.trans (hbU.mono hBw.size)
    obtain⟨q0,q1,q2,q3,q4,q5,_⟩:=XG.six
    go_upto_region 7 with fail
    rw[<-hU];clear hU c0 c1 c2 c3 c4 c5 hx
    cases hf1:foT x.o x.ts ax with
    | false =>
     rw[hf1]at hto
     have HF:Hid (foG l s ax=false):=zyi.out (by rw[HX.out,hf1];simp)
     clear hf1 HX zyi
     go_wp2_with fail
     refine hto.mono ?_
     rintro e u2 ⟨rfl,hb⟩
     replace hBw:=hBw.trans (hb.mono hBw.size)
     clear hto hb;go_wp2
     go_ret
     exact⟨zaa HF.out.symm,hBw⟩
    | true =>
    rw[hf1]at hto
    replace HX:Hid (foGx l s ax k=((dq l 6 (k:Int)).isSome&&(decide (szG l (k:Int)<=2000)&&fiS s x.ab x.ar))):=by show _=_;rw[HX.out,hf1,Bool.true_and]
    clear hf1
    go_wp2_with fail
    refine hto.mono ?_
    rintro e u2 ⟨rfl,hb⟩;replace hSv:=hSv.below hb;replace hMp:=hMp.below hb;replace XG:=XG.below hb
    replace hB:=hB.trans (hb.mono hB.size)
    replace hBw:=hBw.trans (hb.mono hBw.size)
    have hX1:=HX1.out.below hB
    obtain⟨x0,x1,_⟩:=hX1.two;clear q0 q1 q2 q3 q4 q5 hto hb;obtain⟨q0,q1,q2,q3,q4,q5,_⟩:=XG.six
    have hfi:=zud ga gc ma mc s x.ab x.ar u2 k2 hGC.2.2.2.1 hGC.2.2.2.2
    cases hf2:fiS s x.ab x.ar with
    | false =>
     rw[hf2]at hfi
     have HF:Hid (foG l s ax=false):=zyi.out (by rw[HX.out,hf2];simp)
     clear hf2 HX zyi
     go_wp2_with fail
     refine hfi.mono ?_
     rintro e u3 ⟨rfl,hb⟩
     replace hBw:=hBw.trans (hb.mono hBw.size)
     clear hfi hb;go_wp2
     go_ret
     exact⟨zaa HF.out.symm,hBw⟩
    | true =>
    rw[hf2]at hfi
    replace HX:Hid (foGx l s ax k=((dq l 6 (k:Int)).isSome&&decide (szG l (k:Int)<=2000))):=by show _=_;rw[HX.out,hf2,Bool.and_true]
    clear hf2
    go_wp2_with fail
    refine hfi.mono ?_
    rintro e u3 ⟨rfl,hb⟩;replace hSv:=hSv.below hb;replace hMp:=hMp.below hb
    replace hB:=hB.trans (hb.mono hB.size)
    replace hBw:=hBw.trans (hb.mono hBw.size)
    clear q0 q1 q2 q3 q4 q5 hfi hb x0 x1 hX1 XG hGC hG2 hbU
    have hof:=ztd u1 S _ ca l HL.out HPS.out (u1.heap.size+1) u1.heap.size (Nat.le_refl _) (by omega) 7 0 rfl (k:Int) n1 F1 u3 ⟨by omega,by omega⟩ (by
     have h1:=tk_le (Nat.le_refl 7)
     have h2:=HN.out
     omega) hB hSv hMp HKN.out
    rw[show((0:Nat):Int)=0 from rfl]at hof
    go_wp2_with fail
    refine hof.mono ?_
    rintro e u4 ⟨z18,⟨n2,F2,z45,hKN2,hn2⟩,hKp⟩
    replace hSv:=hSv.kp hKp (by omega)
    have hb4:=hKp.below hB.size (Nat.le_refl _)
    replace hB:=hB.trans hb4
    replace hBw:=hBw.trans (hb4.mono HBW.out.size)
    have HN2:Hid (n2<=(k+1)*4000000):=by
     have h1:=tk_le (Nat.le_refl 7)
     have h2:=HN.out
     show _<=_
     omega
    have HKN2:Hid (KnG l F2):=hKN2
    clear hof hb4 hKp hMp hKN2 HN HKN hn2
    rcases z18 with ⟨dk,hdk,rfl⟩|⟨z4x,rfl⟩
    . obtain⟨sz,hsz⟩:∃z,szG l (k:Int)=z:=⟨_,rfl⟩
      rw[hsz,hdk]at HX;rw[hsz]
      obtain⟨U2,hU2,XE,zks⟩:∃U,U=u4.alloc (.cells #[.int .i64 (dk:Int),.int .i64 (sz:Int)] 71)/\Bk 71 U u4.heap.size [.int .i64 (dk:Int),.int .i64 (sz:Int)]/\Below u4.heap.size u4 U:=⟨_,rfl,Bk.new _ _ _,bl1 _⟩
      replace hSv:=hSv.below zks;replace z45:=z45.below zks
      replace hB:=hB.trans (zks.mono hB.size)
      replace hBw:=hBw.trans (zks.mono hBw.size)
      obtain⟨e0,e1,_⟩:=XE.two
      go_upto_region 10 with fail
      rw[<-hU2];clear hU2 hdk hsz zks
      by_cases hs2:sz<=2000
      . have g5:decide ((2000:Int)<(sz:Int))=false:=decide_eq_false (by omega)
        have zea:Hid (∀j,j<k+1->foGx l s ax j=true):=fun j hj=>by
         rcases Nat.lt_or_ge j k with h1|h1
         . exact HOK.out j h1
         . rw[show j=k by omega,HX.out,decide_eq_true hs2];rfl
        clear HX zyi HOK XE;go_wp2
        go_roundw
        case rel=>exact⟨k+1,n2,F2,by omega,by go_num,zea,hSv,z45,HKN2,HN2,hB⟩
        case measure=>simp[intOf];omega
      . have g5:decide ((2000:Int)<(sz:Int))=true:=decide_eq_true (by omega)
        have HF:Hid (foG l s ax=false):=zyi.out (by rw[HX.out,decide_eq_false hs2];rfl)
        clear HX zyi HOK XE hSv z45;go_wp2
        go_ret
        exact⟨zaa HF.out.symm,hBw⟩
    . have HF:Hid (foG l s ax=false):=zyi.out (by rw[HX.out,zsn z4x];rfl)
      have hBf:Below w.heap.size w (u4.alloc (.cells #[.int .i64 0,.int .i64 0] 71)):=hBw.trans ((bl1 _).mono hBw.size)
      clear HX zyi HOK hSv z45 z4x hBw;go_wp2
      go_ret
      exact⟨zaa HF.out.symm,hBf⟩
  . have ek:k=l.length:=by omega
    have HF:Hid (foG l s ax=true):=zcd.2 ⟨⟨by omega,by omega⟩,HST.out,fun j hj=>HOK.out j (by omega)⟩
    have g4:¬(k:Int)<(l.length:Int):=by omega
    clear HOK hSv hMp;go_wp2
    go_ret
    exact⟨zaa HF.out.symm,hBw⟩
theorem zxd{l:List Gl}{k:Nat}(hk:k<l.length)(P:LN):P++glsB (l.take (k+1))=P++glsB (l.take k)++glB (l.getD k Gl.none):=by
 rw[zaj (d:=Gl.none) hk,zbt,zi6,List.append_assoc]
theorem ztt{s:Sr}{ab ar:Int}(h:fiS s ab ar=true):(-32768<=ab/\ab<=32767)/\-32768<=ar/\ar<=32767:=by
 obtain⟨h1,h2⟩:=zts.1 h
 omega
theorem z48{l:List Gl}{k:Nat}(hk:k<l.length)(h0:frE (l.take k)=0):(wrOE (l.getD k Gl.none).o≠0->frE l=wrOE (l.getD k Gl.none).o)/\(wrOE (l.getD k Gl.none).o=0->frE (l.take (k+1))=0):=by
 have h1:frE (l.take (k+1))=wrOE (l.getD k Gl.none).o:=by
  rw[zaj (d:=Gl.none) hk,ze6,if_pos h0]
  simp[frE]
  intro e
  exact e.symm
 refine⟨fun h=>?_,fun h=>h1.trans h⟩
 have h2:frE l=frE (l.take (k+1)++l.drop (k+1)):=by rw[List.take_append_drop]
 rw[h2,ze6,if_neg (by rw[h1];exact h),h1]
theorem z3r{l:List Gl}{s:Sr}{ax:Int}(h:foG l s ax=false):wrGB l s ax=[]/\wrGE l s ax=1:=by
 have h1:wrGE l s ax=1:=by unfold wrGE;rw[h];rfl
 refine⟨?_,h1⟩
 unfold wrGB
 rw[if_neg (by rw[h1];decide)]
theorem zzy{l:List Gl}{s:Sr}{ax:Int}(h:foG l s ax=true)(hf:frE l≠0):wrGB l s ax=[]/\wrGE l s ax=frE l:=by
 have h1:wrGE l s ax=frE l:=by unfold wrGE;rw[h,if_pos rfl,if_neg hf]
 refine⟨?_,h1⟩
 unfold wrGB
 rw[if_neg (by rw[h1];exact hf)]
theorem zzx{l:List Gl}{s:Sr}{ax:Int}(h:foG l s ax=true)(hf:frE l=0)(hs:(gsB l).length<=1048000):wrGB l s ax=gsB l/\wrGE l s ax=0:=by
 have h1:wrGE l s ax=0:=za3.2 ⟨h,hf,by omega⟩
 refine⟨?_,h1⟩
 unfold wrGB
 rw[if_pos h1]
theorem ze5(S:Nat->Prop)(a:OA)(ca:Nat)(l:List Gl)(ga:OA)(gc:Nat)(ma:OA)(mc:Nat)(s:Sr)(ax:Int)(w:World)(hl:Gr GlE S w a ca l)(hps:∀x∈l,x.o.ps.length<=12)(hg:Tzz w ga gc s.rg)(hm:Rii w ma mc s.rw)(hi:I64 ax)(hsz:foG l s ax=true->(gsB l).length<=1048000) :
 Calls Tryz.prog 21 #[.slice a l.length ca,.agg #[.slice ga s.rg.length gc,.slice ma s.rw.length mc],.int .i64 ax] w fun e w'=>∃a' c',e=.returned (.tuple #[.slice a' (wrGB l s ax).length c',.int .i64 (wrGE l s ax)])/\Rw 5 w.heap.size w' a' c' (wrGB l s ax)/\Below w.heap.size w w':=by
 have kl:=hl.lenB
 have k2:=hm.lenB
 have k3:=hg.lenB
 obtain⟨W,hW,X1,hbW⟩:∃W,W=w.alloc (.cells #[.slice ga s.rg.length gc,.slice ma s.rw.length mc] 26)/\Bk 26 W w.heap.size [.slice ga s.rg.length gc,.slice ma s.rw.length mc]/\Below w.heap.size w W:=⟨_,rfl,Bk.new _ _ _,bl1 _⟩
 obtain⟨p0,p1,_⟩:=X1.two
 have hf1:=zkw S a ca l ga gc ma mc s ax W (hl.below hbW) hps (hg.below hbW) (hm.below hbW) hi
 cases hfo:foG l s ax with
 | false =>
  rw[hfo]at hf1
  have HN:Hid (_):=z3r hfo
  clear hfo hsz
  go_enter Tryz.func21,Tryz.ntmps21
  go_upto_region 1 with fail
  rw[<-hW];clear hW
  go_wp2_with fail
  refine hf1.mono ?_
  rintro e u ⟨rfl,hb1⟩
  have zau:=hbW.trans (hb1.mono hbW.size)
  clear hf1 p0 p1;go_wp2
  go_ret2
  exact⟨none,0,by rw[HN.out.1,HN.out.2];rfl,by rw[HN.out.1];exact Rw.nil _ _,zau⟩
 | true =>
 rw[hfo]at hf1
 have hss:=hsz hfo
 have HSS:Hid ((gsB l).length<=1048000):=hss
 have HFO:Hid (foG l s ax=true):=hfo
 obtain⟨⟨hF1,hF2⟩,-,hF4⟩:=zcd.1 hfo
 have HEL:Hid (∀k,k<l.length->foT (l.getD k Gl.none).o (l.getD k Gl.none).ts ax=true/\((-32768<=(l.getD k Gl.none).ab/\(l.getD k Gl.none).ab<=32767)/\-32768<=(l.getD k Gl.none).ar/\(l.getD k Gl.none).ar<=32767)):=fun k hk=>by
  obtain⟨-,-,h1,h2⟩:=zf2.1 (hF4 k hk)
  exact⟨h1,ztt h2⟩
 have HTE:Hid (gsB l=be2 ((l.length:Nat):Int)++glsB l):=rfl
 have HTK:Hid (∀k,2+(glsB (l.take k)).length<=1048000):=fun k=>by
  have h1:=HSS.out
  have h2:glsB l=glsB (l.take k)++glsB (l.drop k):=by rw[<-zbt,List.take_append_drop]
  unfold gsB at h1
  rw[List.length_append,h2,List.length_append]at h1
  simp[be2]at h1
  omega
 clear hfo hsz hss hF4
 go_enter Tryz.func21,Tryz.ntmps21
 go_upto_region 1 with fail
 rw[<-hW];clear hW
 go_wp2_with fail
 refine hf1.mono ?_
 rintro e u ⟨rfl,hb1⟩
 have HL:Hid (Gr GlE (fun k=>k<u.heap.size) u a ca l):=((hl.below hbW).below hb1).wide (fun k _ h=>h)
 have HBW:Hid (Below w.heap.size w u):=hbW.trans (hb1.mono hbW.size)
 have hP0:=ziv u (· < u.heap.size) (fun _ h=>h)
 have hB0:=bl1 (w:=u) (.cells #[.slice none 0 0,.int .i64 0,.map none,.bool false] 90)
 clear hl hg hm hf1 hb1 X1 hbW p0 p1
 go_wp2_with fail
 refine(zao u.heap.size _ _ (l.length:Int) _ hP0 ⟨by omega,by omega⟩ (by decide)).mono ?_
 rintro e u1 ⟨rfl,hP1,hK1⟩
 rw[show St.zero=⟨[],[],false⟩from rfl,zbx (by omega) (by omega),List.nil_append]at hP1
 have hB1:Below u.heap.size u u1:=hB0.trans (hK1.below (fun k hk=>hk))
 obtain⟨Q,hQ⟩:∃Q,be2 ((l.length:Nat):Int)=Q:=⟨_,rfl⟩
 have HQL:Hid (Q.length=2):=by show _=_;rw[<-hQ];rfl
 rw[hQ]at hP1 HTE
 have hI:Pc u1 u.heap.size (· < u.heap.size) ⟨Q++glsB (l.take 0),[],false⟩:=by
  rw[List.take_zero,glsB,List.append_nil]
  exact hP1
 obtain⟨B,hBB⟩:∃g,u.heap.size=g:=⟨_,rfl⟩
 have HBB:Hid (u.heap.size=B):=hBB
 rw[hBB]at hI hB1 HL ⊢;clear hP0 hK1 hB0 hP1 hQ hBB;go_wp2
 go_loopw [25] (fun i wr=>∃k:Nat,k<=l.length/\i=.int .i64 k/\Pc wr B (· < B) ⟨Q++glsB (l.take k),[],false⟩/\Hid (frE (l.take k)=0)/\Below B u wr) (fun i _=>l.length-(intOf i).toNat)
 case atStart=>exact⟨0,Nat.zero_le _,rfl,hI,rfl,hB1⟩
 case round =>
  clear hI hB1;obtain⟨k,hk,rfl,hP,HF0,hB⟩:=hrel
  have hBs:B<=wr.heap.size:=by have:=hB.size;rw[HBB.out]at this;exact this
  have hBw:Below w.heap.size w wr:=HBW.out.trans (hB.mono (by have:=HBW.out.size;rw[HBB.out]at this;exact this))
  by_cases hkn:k<l.length
  . obtain⟨b,off,xa,xc,qa,qc,ta,tc,ea,hb,hGC,d0,d1,d2,d3,d4,d5⟩:=HL.out.gl (by rw[HBB.out];exact hB) k hkn
    obtain⟨hE1,hE2,hE3⟩:=HEL.out k hkn
    have HSJ:Hid (_):=zxd hkn Q
    have hlj:=HTK.out (k+1)
    have HFE:Hid (_):=z48 hkn HF0.out
    have hlk:(Q++glsB (l.take k)).length+(glB (l.getD k Gl.none)).length<=1048000:=by
     have h1:=congrArg List.length HSJ.out
     rw[List.length_append,List.length_append,HQL.out]at h1
     omega
    obtain⟨x,hx⟩:∃x,l.getD k Gl.none=x:=⟨_,rfl⟩
    rw[hx]at hGC d0 d1 d2 d3 d4 d5 hE1 hE2 hE3 HSJ HFE hlk
    obtain⟨b2,hb2⟩:∃b2,Q++glsB (l.take k)=b2:=⟨_,rfl⟩
    rw[hb2]at hP HSJ hlk;subst ea
    have i1:(0:Int)<=(k:Int):=by omega
    have i2:(k:Int)<(l.length:Int):=by omega
    obtain⟨V,hV,X0,hb0⟩:∃V,V=wr.alloc (.cells #[.slice xa x.o.cs.length xc,.slice qa x.o.ps.length qc,.slice ta x.ts.length tc,.int .i64 x.ab,.int .i64 x.ar,.bool x.mr] 62)/\Bk 62 V wr.heap.size [.slice xa x.o.cs.length xc,.slice qa x.o.ps.length qc,.slice ta x.ts.length tc,.int .i64 x.ab,.int .i64 x.ar,.bool x.mr]/\Below wr.heap.size wr V:=⟨_,rfl,Bk.new _ _ _,bl1 _⟩
    have hBV:Below B u V:=hB.trans (hb0.mono hBs)
    have hput:=ztc B (· < B) b2 _ xa xc qa qc ta tc x ax V (hP.below hb0) (hGC.below hb0) hi hE1 ⟨by omega,by omega⟩ ⟨by omega,by omega⟩ hlk
    rw[<-HSJ.out]at hput;obtain⟨q0,q1,q2,q3,q4,q5,_⟩:=X0.six;clear hx hb2 hP hGC hlj hlk
    go_upto_region 8 with fail
    rw[<-hV];clear hV d0 d1 d2 d3 d4 d5 hb0
    go_wp2_with fail
    refine hput.mono ?_
    rintro e v4 ⟨rfl,hP4,hk4⟩
    have hB4:Below B u v4:=hBV.trans (hk4.below (fun k hk=>hk))
    have hBw4:Below w.heap.size w v4:=HBW.out.trans (hB4.mono (by have:=HBW.out.size;rw[HBB.out]at this;exact this))
    clear hput q0 q1 q2 q3 q4 q5 hk4 X0 HSJ hB hBV hBw
    by_cases he:wrOE x.o=0
    rotate_left
    . have g1:(wrOE x.o != 0)=true:=bne_iff_ne.2 he
      have HN:Hid (wrGB l s ax=[]/\wrGE l s ax=wrOE x.o):=by
       have h1:=HFE.out.1 he
       have h2:=zzy HFO.out (by rw[h1];exact he)
       exact⟨h2.1,h2.2.trans h1⟩
      clear he hP4 HFE;go_wp2
      go_ret2
      exact⟨none,0,by rw[HN.out.1,HN.out.2];rfl,by rw[HN.out.1];exact Rw.nil _ _,hBw4⟩
    have HP5:Hid (Pc v4 B (· < B) ⟨Q++glsB (l.take (k+1)),[],false⟩):=hP4 he
    have HF5:Hid (frE (l.take (k+1))=0):=HFE.out.2 he
    rw[he];clear hP4 HFE he HF0;go_wp2
    go_roundw
    case rel=>exact⟨k+1,by omega,by go_num,HP5.out,HF5,hB4⟩
    case measure=>simp[intOf];omega
  . obtain rfl:k=l.length:=by omega
    have g4:¬(l.length:Int)<(l.length:Int):=by omega
    have HF9:Hid (frE l=0):=by
     have h:=HF0.out
     rw[List.take_length]at h
     exact h
    rw[List.take_length,<-HTE.out]at hP
    have hall:=zfd B _ _ _ hP (Nat.le_trans HSS.out (by decide))
    have ea:allB ⟨gsB l,[],false⟩=gsB l:=by simp[allB]
    have eb:allE ⟨gsB l,[],false⟩=0:=rfl
    rw[ea,eb]at hall
    have HN:Hid (_):=zzx HFO.out HF9.out HSS.out
    have hbz:=hBw.size
    clear hP ea eb
    go_wp2_with fail
    refine hall.mono ?_
    rintro e u9 ⟨a9,c9,rfl,hr9,hb9⟩
    have hB9:=hBw.trans (hb9.mono hBw.size)
    clear hall;go_wp2
    go_ret2
    exact⟨a9,c9,by rw[HN.out.1,HN.out.2];rfl,by rw[HN.out.1];exact hr9.mono hbz,hB9⟩
def blkP(xs:LN)(p:Nat):Nat:=if inB xs.length ((p:Int)+4) (nmV xs (p:Int) 4:Int)=true then p+4+nmV xs (p:Int) 4 else p
theorem zkv(sb:Nat)(a:OA)(cap:Nat)(xs:LN)(p:Nat)(w:World)(hX:Bk 101 w sb [.slice a xs.length cap,.int .i64 (p:Int)])(hr:Rb w a cap xs)(hl:xs.length<=1048576)(hp:p<=2000000) :
 Calls Tryz.prog 88 #[.pointer (some ⟨sb,0,none⟩)] w fun e w'=>∃(a1:OA) (c1 p':Nat),e=.returned (.slice a1 (cutV xs ((p:Int)+4) (nmV xs (p:Int) 4:Int)).length c1)/\Rb w' a1 c1 (cutV xs ((p:Int)+4) (nmV xs (p:Int) 4:Int))/\(∀b o,a1=some ⟨b,o,none⟩->w.heap.size<=b)/\Bk 101 w' sb [.slice a xs.length cap,.int .i64 (p':Int)]/\Hid (p'=blkP xs p)/\Kp sb w w':=by
 obtain⟨q0,q1,-⟩:=hX.two
 have hsl:=hX.lt
 have hcp:=hr.cap
 have hu:=fun U (hU:Below w.heap.size w U)=>zz0 a cap xs (p:Int) U (hr.below hU) ⟨by omega,by omega⟩
 have hnb:nmV xs (p:Int) 4<=4294967295:=by have:=zbd hr.lim (p:Int) 4;omega
 have hc:=fun U (hU:Below w.heap.size w U)=>z25 a cap xs ((p+4:Nat):Int) (nmV xs (p:Int) 4:Int) U (hr.below hU) ⟨by omega,by omega⟩ ⟨by omega,by omega⟩ (by omega)
 have HBP1:Hid (inB xs.length ((p:Int)+4) (nmV xs (p:Int) 4:Int)=true->p+4+nmV xs (p:Int) 4=blkP xs p):=fun h=>by unfold blkP;rw[if_pos h]
 have HBP0:Hid (inB xs.length ((p:Int)+4) (nmV xs (p:Int) 4:Int)=false->p=blkP xs p):=fun h=>by unfold blkP;rw[if_neg (by rw[h];decide)]
 generalize nmV xs (p:Int) 4=n at *
 have hw4:IntKind.i64.wrap ((p:Int)+4)=((p+4:Nat):Int):=by rw[zbb (by omega) (by omega)];omega
 go_enter Tryz.func88,Tryz.ntmps88
 go_upto_region 1 with fail
 refine wp_region_held_drew (S:=fun w9=>w9.cell? ⟨sb,0,none⟩=some (.slice a xs.length cap)/\w9.cell? ⟨sb,1,none⟩=some (.int .i64 (p:Int))) (by kernel_rfl) ?_ (fun hH=>?_)
 . (try dsimp only)
   go_keep
 have hdr:Below w.heap.size w w.drew:=Below.drew1
 generalize w.drew=Z at hdr hH ⊢
 refine hT 0 hH ?_;refine hT 1 hH ?_;refine hT 2 hH ?_;refine hT 3 hH ?_;refine hT 4 hH ?_;refine hT 5 hH ?_;refine hT 6 hH ?_;refine hT 7 hH ?_
 refine hCall (i:=8) rfl (by kernel_rfl) (by rfl) (fun K hK=>?_)
 go_simp
 refine(hu _ hdr).mono ?_
 rintro e u ⟨rfl,rfl⟩
 go_wp2_with fail
 refine hK.out _ _ ?_ (fun hH=>?_)
 . (try dsimp only)
   exact hH
 clear hK K
 try simp only[Act.put,pZ]
 refine hT 9 hH ?_;refine hT 10 hH ?_;refine hT 11 hH ?_;refine hT 12 hH ?_;refine hT 13 hH ?_
 refine wpAnyH_done (by kernel_rfl) ?_ _
 clear hu q0 q1;obtain⟨q0,q1⟩:=hH
 go_upto_region 2 with fail
 refine wp_region_held_drew (S:=fun w9=>w9.cell? ⟨sb,0,none⟩=some (.slice a xs.length cap)/\w9.cell? ⟨sb,1,none⟩=some (.int .i64 (p:Int))) (by kernel_rfl) ?_ (fun hH=>?_)
 . (try dsimp only)
   go_keep
 have hdr2:Below Z.heap.size Z Z.drew:=Below.drew1
 replace hdr:=hdr.trans (hdr2.mono hdr.size)
 generalize Z.drew=Z2 at hdr hH ⊢
 clear hdr2 q0 q1;refine hT 0 hH ?_;refine hT 1 hH ?_;refine hT 2 hH ?_;refine hT 3 hH ?_;refine hT 4 hH ?_;refine hT 5 hH ?_;refine hT 6 hH ?_;refine hT 7 hH ?_;refine hT 8 hH ?_;refine hT 9 hH ?_
 try rw[hw4]
 refine hCall (i:=10) rfl (by kernel_rfl) (by rfl) (fun K hK=>?_)
 go_simp
 refine(hc _ hdr).mono ?_
 rintro e u ⟨a1,c1,rfl,hr1,hb1⟩
 have hbw:=hdr.trans (hb1.mono hdr.size)
 have hXu:=hX.below hbw
 have hds:=hdr.size
 have hbs:=hb1.size
 go_wp2_with fail
 refine hK.out _ _ ?_ (fun hH=>?_)
 . (try dsimp only)
   exact⟨hXu.two.1,hXu.two.2.1⟩
 clear hK K
 try simp only[Act.put,pZ]
 refine hT 11 hH ?_;refine hT 12 hH ?_;refine hT 13 hH ?_;refine hT 14 hH ?_;refine hT 15 hH ?_
 refine wpAnyH_done (by kernel_rfl) ?_ _
 clear hH hc
 have hlo:∀b o,a1=some ⟨b,o,none⟩->w.heap.size<=b:=fun b o e=>Nat.le_trans hds (hr1.lo15 b o e)
 have hrb:=hr1.rd
 have e4:((p+4:Nat):Int)=(p:Int)+4:=by omega
 have e7:((p+4+n:Nat):Int)=(p:Int)+(4+(n:Int)):=by omega
 have e8:(p:Int)+4+(n:Int)=(p:Int)+(4+(n:Int)):=by omega
 rw[e4]at hrb;obtain⟨q0,q1,f0,f1⟩:=hXu.two
 have HKw:Hid (Kp sb w u):=Kp.of hbw
 have HXU:Hid (Bk 101 u sb [.slice a xs.length cap,.int .i64 (p:Int)]):=hXu
 have HR1:Hid (Rb u a1 c1 (cutV xs ((p:Int)+4) (n:Int))):=hrb
 have HE8:Hid ((p:Int)+4+(n:Int)=(p:Int)+(4+(n:Int))):=e8
 try rw[e4]
 try rw[e7]
 clear e4 e7 e8 hw4
 cases hin:inB xs.length ((p:Int)+4) (n:Int) with
 | false =>
  have HQ:Hid (p=blkP xs p):=HBP0.out hin
  clear hin hX hdr hb1 hbw hXu hr1 hr hrb;go_wp2
  go_ret
  exact⟨a1,c1,p,rfl,HR1.out,hlo,HXU.out,HQ,HKw.out⟩
 | true =>
  have HQ:Hid (p+4+n=blkP xs p):=HBP1.out hin
  have hw5:IntKind.i64.wrap (4+(n:Int))=4+(n:Int):=zbb (by omega) (by omega)
  have hw6:IntKind.i64.wrap ((p:Int)+(4+(n:Int)))=(p:Int)+(4+(n:Int)):=zbb (by omega) (by omega)
  have HB2:Hid (Bk 101 (u.setCell ⟨sb,1,none⟩ (.int .i64 ((p:Int)+(4+(n:Int))))) sb [.slice a xs.length cap,.int .i64 ((p:Int)+(4+(n:Int)))]):=HXU.out.set 1 _
  have HR2:Hid (Rb (u.setCell ⟨sb,1,none⟩ (.int .i64 ((p:Int)+(4+(n:Int))))) a1 c1 (cutV xs ((p:Int)+4) (n:Int))):=hrb.kept (Keep.setCell (Keep.refl (fun k=>k≠sb) u) (p:=⟨sb,1,none⟩) (fun h=>h rfl) _) (fun b o e=>by
   show b≠sb
   have:=hlo b o e
   omega)
  have HK2:Hid (Kp sb w (u.setCell ⟨sb,1,none⟩ (.int .i64 ((p:Int)+(4+(n:Int)))))):=HKw.out.setCell 1 _
  clear hin hX hdr hb1 hbw hXu hr1 hr hrb;go_wp2
  try rw[hw5]
  try rw[hw6]
  go_ret
  refine⟨a1,c1,p+4+n,rfl,HR2.out,hlo,?_,HQ,HK2.out⟩
  rw[show((p+4+n:Nat):Int)=(p:Int)+(4+(n:Int)) by omega]
  exact HB2.out
theorem zil{X:LN}(h:rdOE X=0):wrOE (rdOL X)=0/\wrOB (rdOL X)=X:=by
 unfold rdOE at h
 by_cases hk:rdOk X=true
 . unfold rdOL
   rw[if_pos hk]
   exact zik.1 hk
 . rw[if_neg hk]at h
   exact absurd h (by decide)
theorem zft{X:LN}{o:Ol}{ax:Int}(h:rdTE X o ax=0):foT o (rdTL X o ax) ax=true/\tuBt (rdTL X o ax)=X:=by
 unfold rdTE at h
 by_cases hk:rdTOk X o ax=true
 . exact z36 hk
 . rw[if_neg hk]at h
   exact absurd h (by decide)
theorem zgp{b:LN}{ax:Int}{p:Nat}{x:Gl}{q:Nat}(h:rdGl b ax p=some (x,q)):q=g4 b p+5/\g4 b p+5<=b.length/\rdOE (gOb b p)=0/\rdTE (gTb b p) (rdOL (gOb b p)) ax=0/\x=⟨rdOL (gOb b p),rdTL (gTb b p) (rdOL (gOb b p)) ax,sx16 (nmV b (g4 b p:Int) 2),sx16 (nmV b ((g4 b p+2:Nat):Int) 2),decide (nmV b ((g4 b p+4:Nat):Int) 1=1)⟩:=by
 unfold rdGl at h
 by_cases hk:g4 b p+5<=b.length/\rdOE (gOb b p)=0/\rdTE (gTb b p) (rdOL (gOb b p)) ax=0
 . rw[if_pos hk]at h
   injection h with h;injection h with h1 h2
   exact⟨h2.symm,hk.1,hk.2.1,hk.2.2,h1.symm⟩
 . rw[if_neg hk]at h
   cases h
theorem zv2{b:LN}{ax:Int}{p:Nat}(h1:g4 b p+5<=b.length)(h2:rdOE (gOb b p)=0)(h3:rdTE (gTb b p) (rdOL (gOb b p)) ax=0):rdGl b ax p=some (⟨rdOL (gOb b p),rdTL (gTb b p) (rdOL (gOb b p)) ax,sx16 (nmV b (g4 b p:Int) 2),sx16 (nmV b ((g4 b p+2:Nat):Int) 2),decide (nmV b ((g4 b p+4:Nat):Int) 1=1)⟩,g4 b p+5):=by
 unfold rdGl
 rw[if_pos ⟨h1,h2,h3⟩]
theorem zlo{b:LN}{ax:Int}{p:Nat}(h:¬(g4 b p+5<=b.length/\rdOE (gOb b p)=0/\rdTE (gTb b p) (rdOL (gOb b p)) ax=0)):rdGl b ax p=none:=by
 unfold rdGl
 rw[if_neg h]
theorem cutB{b:LN}(hb:Byt b)(p n:Nat):Byt ((b.drop p).take n):=fun x hx=>hb x (List.mem_of_mem_drop (List.mem_of_mem_take hx))
theorem zhr{b:LN}{p n:Nat}(h:p+n<=b.length):nmV b (p:Int) n=V8 ((b.drop p).take n):=by
 have e:inB b.length (p:Int) n=true:=by simp only[inB,decide_eq_true_iff];omega
 rw[nmV,if_pos e,Int.toNat_natCast]
theorem zt6{b:LN}{p n:Nat}(h:p+n<=b.length):cutV b (p:Int) (n:Int)=(b.drop p).take n:=by
 rw[zf5 (by simp only[inB,decide_eq_true_iff];omega),Int.toNat_natCast,Int.toNat_natCast]
theorem zzn{xs:LN}(h:Byt xs)(hl:xs.length=4):be4 ((V8 xs:Nat):Int)=xs:=by
 match xs,hl with
 | [a,b,c,d],_ =>
  have ha:=h a (by simp)
  have hb:=h b (by simp)
  have hc:=h c (by simp)
  have hd:=h d (by simp)
  have e:V8 [a,b,c,d]=16777216*a+(65536*b+(256*c+d)):=by simp only[V8,List.foldl_cons,List.foldl_nil];omega
  rw[e]
  simp only[be4,List.cons.injEq,and_true]
  refine⟨by omega,by omega,by omega,by omega⟩
theorem z5o{xs:LN}(h:Byt xs)(hl:xs.length=1):be1 ((V8 xs:Nat):Int)=xs:=by
 match xs,hl with
 | [a],_ =>
  have ha:=h a (by simp)
  have e:V8 [a]=a:=by simp only[V8,List.foldl_cons,List.foldl_nil];omega
  rw[e]
  simp only[be1,List.cons.injEq,and_true]
  omega
theorem tkdr(b:LN){p m n r:Nat}(h:r=p+m):(b.drop p).take m++(b.drop r).take n=(b.drop p).take (m+n):=by
 rw[h,List.take_add,List.drop_drop]
theorem zxi{b:LN}(hb:Byt b){ax:Int}{p:Nat}{x:Gl}{q:Nat}(h:rdGl b ax p=some (x,q))(hm:nmV b ((g4 b p+4:Nat):Int) 1<=1):glB x=(b.drop p).take (q-p)/\p<=q/\q<=b.length/\wrOE x.o=0:=by
 obtain⟨h1,h2,h3,h4,rfl⟩:=zgp h
 obtain⟨o1,o2⟩:=zil h3
 obtain⟨t1,t2⟩:=zft h4
 have e4:g4 b p=p+4+g1 b p+4+g3 b p:=rfl
 have e2:g2 b p=p+4+g1 b p:=rfl
 refine⟨?_,by omega,by omega,o1⟩
 unfold glB
 dsimp only
 rw[o2,t2]
 have c1:gOb b p=(b.drop (p+4)).take (g1 b p):=zt6 (by omega)
 have c2:gTb b p=(b.drop (g2 b p+4)).take (g3 b p):=zt6 (by omega)
 have l1:(gOb b p).length=g1 b p:=by rw[c1,List.length_take,List.length_drop];omega
 have l2:(gTb b p).length=g3 b p:=by rw[c2,List.length_take,List.length_drop];omega
 have b1:be4 ((g1 b p:Nat):Int)=(b.drop p).take 4:=by
  unfold g1
  rw[zhr (by omega)]
  exact zzn (cutB hb _ _) (by rw[List.length_take,List.length_drop];omega)
 have b2:be4 ((g3 b p:Nat):Int)=(b.drop (g2 b p)).take 4:=by
  unfold g3
  rw[zhr (by omega)]
  exact zzn (cutB hb _ _) (by rw[List.length_take,List.length_drop];omega)
 have b3:be2 (sx16 (nmV b (g4 b p:Int) 2))=(b.drop (g4 b p)).take 2:=by
  rw[zhr (by omega)]
  exact zzm (cutB hb _ _) (by rw[List.length_take,List.length_drop];omega)
 have b4:be2 (sx16 (nmV b ((g4 b p+2:Nat):Int) 2))=(b.drop (g4 b p+2)).take 2:=by
  rw[zhr (by omega)]
  exact zzm (cutB hb _ _) (by rw[List.length_take,List.length_drop];omega)
 have b5:be1 (if decide (nmV b ((g4 b p+4:Nat):Int) 1=1)=true then 1 else 0)=(b.drop (g4 b p+4)).take 1:=by
  have e5:(if decide (nmV b ((g4 b p+4:Nat):Int) 1=1)=true then (1:Int)else 0)=((nmV b ((g4 b p+4:Nat):Int) 1:Nat):Int):=by
   split
   . rename_i hh
     have:=of_decide_eq_true hh
     omega
   . rename_i hh
     have:¬nmV b ((g4 b p+4:Nat):Int) 1=1:=fun h=>hh (decide_eq_true h)
     omega
  rw[e5,zhr (by omega)]
  exact z5o (cutB hb _ _) (by rw[List.length_take,List.length_drop];omega)
 rw[l1,l2,b1,b2,b3,b4,b5,c1,c2]
 rw[tkdr b (p:=g4 b p+2) (r:=g4 b p+4) (m:=2) rfl,tkdr b (p:=g4 b p) (r:=g4 b p+2) (m:=2) rfl,tkdr b (p:=g2 b p+4) (r:=g4 b p) (m:=g3 b p) rfl,tkdr b (p:=g2 b p) (r:=g2 b p+4) (m:=4) rfl,tkdr b (p:=p+4) (r:=g2 b p) (m:=g1 b p) rfl,tkdr b (p:=p) (r:=p+4) (m:=4) rfl]
 congr 1
 omega
structure KgI(b:LN)(ax:Int)(k:Nat)(l:List Gl)(q:Nat):Prop where
 rd:rdGk b ax k=some (l,q)
 bs:glsB l=(b.drop 2).take (q-2)
 lo:2<=q
 fr:frE l=0
 hi:0<k->q<=b.length
theorem KgI.zero(b:LN)(ax:Int):KgI b ax 0 [] 2:=⟨rfl,rfl,Nat.le_refl _,rfl,fun h=>absurd h (by decide)⟩
theorem zr2{b:LN}{ax:Int}{k:Nat}{l:List Gl}{q:Nat}(h:rdGk b ax k=some (l,q)){x:Gl}{q2:Nat}(ht:rdGl b ax q=some (x,q2)):rdGk b ax (k+1)=some (l++[x],q2):=by
 rw[rdGk,h,Option.bind_some]
 dsimp only
 rw[ht]
 rfl
theorem zr3{b:LN}{ax:Int}{k:Nat}{l:List Gl}{q:Nat}(h:rdGk b ax k=some (l,q))(ht:rdGl b ax q=none):rdGk b ax (k+1)=none:=by
 rw[rdGk,h,Option.bind_some]
 dsimp only
 rw[ht]
 rfl
theorem KgI.succ{b:LN}(hb:Byt b){ax:Int}{k:Nat}{l:List Gl}{q:Nat}(h:KgI b ax k l q){x:Gl}{q2:Nat}(ht:rdGl b ax q=some (x,q2))(hm:nmV b ((g4 b q+4:Nat):Int) 1<=1):KgI b ax (k+1) (l++[x]) q2:=by
 obtain⟨r1,r2,r3,r4⟩:=zxi hb ht hm
 have h3:=h.lo
 refine⟨zr2 h.rd ht,?_,by omega,?_,fun _=>r3⟩
 . rw[zbt,zi6,h.bs,r1,tkdr b (by omega)]
   congr 1
   omega
 . rw[ze6,if_pos h.fr]
   simp[frE,r4]
theorem zwm{xs:LN}(h:0<nmV xs 0 2):2<=xs.length:=by
 unfold nmV at h
 cases hi:inB xs.length 0 2 with
 | false=>rw[show inB xs.length 0 ((2:Nat):Int)=false from hi]at h;simp at h
 | true=>simp[inB]at hi;omega
theorem KgI.good{b:LN}(hb:Byt b){s:Sr}{ax:Int}{l:List Gl}(h:KgI b ax (nmV b 0 2) l b.length)(hf:foG l s ax=true)(hl:b.length<=1048576):rdGL b s ax=l/\rdGE b s ax=0:=by
 have h1:=zim h.rd
 have h2:=(zcd.1 hf).1.1
 have h3:=zwm (xs:=b) (by omega)
 have e1:be2 ((l.length:Nat):Int)=b.take 2:=by
  rw[h1]
  have e:=zhr (b:=b) (p:=0) (n:=2) (by omega)
  rw[show((0:Nat):Int)=0 from rfl,List.drop_zero]at e
  rw[e]
  exact be_V8 (fun x hx=>hb x (List.mem_of_mem_take hx)) (by rw[List.length_take];omega)
 have e2:gsB l=b:=by
  unfold gsB
  rw[e1,h.bs,show(b.drop 2).take (b.length-2)=b.drop 2 from List.take_of_length_le (by rw[List.length_drop];omega),List.take_append_drop]
 exact zj8 h.rd (za3.2 ⟨hf,h.fr,by rw[e2];exact hl⟩) e2
theorem KgI.bad1{b:LN}{s:Sr}{ax:Int}{k:Nat}{l:List Gl}{q:Nat}(h:KgI b ax k l q)(hk:k<nmV b 0 2)(ht:rdGl b ax q=none):rdGOk b s ax=false:=zrz (zr3 h.rd ht) hk
theorem zr5{b:LN}{s:Sr}{ax:Int}{k:Nat}{l:List Gl}{q:Nat}(h:KgI b ax k l q)(hk:k<=nmV b 0 2)(ho:rdGOk b s ax=true):∃m:List Gl,wrGE m s ax=0/\gsB m=b/\m.length=nmV b 0 2/\l=m.take k/\q=2+(glsB (m.take k)).length:=by
 obtain⟨h1,h2⟩:=zrx ho
 have h3:=(zcd.1 (za3.1 h1).1).1.2
 generalize rdGL b s ax=m at h1 h2 h3
 have h4:m.length=nmV b 0 2:=by rw[<-h2,zlt h3]
 have h5:=zgq h1 k (by omega)
 rw[h2,h.rd]at h5;injection h5 with h5;injection h5 with h6 h7
 exact⟨m,h1,h2,h4,h6,h7⟩
theorem KgI.bad3{b:LN}{s:Sr}{ax:Int}{l:List Gl}{q:Nat}(h:KgI b ax (nmV b 0 2) l q)(hq:q≠b.length):rdGOk b s ax=false:=by
 cases ho:rdGOk b s ax with
 | false=>rfl
 | true =>
  obtain⟨m,h1,h2,h3,h4,h5⟩:=zr5 h (Nat.le_refl _) ho
  rw[<-h3,List.take_length]at h5
  refine absurd ?_ hq
  rw[h5,<-h2,gsB,List.length_append]
  rfl
theorem KgI.bad4{b:LN}{s:Sr}{ax:Int}{l:List Gl}{q:Nat}(h:KgI b ax (nmV b 0 2) l q)(hf:foG l s ax=false):rdGOk b s ax=false:=zry h.rd (Or.inl (fun e=>by rw[(za3.1 e).1]at hf;cases hf))
theorem zyt{b:LN}{s:Sr}{ax:Int}{m:List Gl}{k:Nat}(h1:wrGE m s ax=0)(h2:gsB m=b)(hk:k<m.length):∃A Z:LN,b=A++(glB (m.getD k Gl.none)++Z)/\A.length=2+(glsB (m.take k)).length/\rdGl b ax (2+(glsB (m.take k)).length)=some (m.getD k Gl.none,2+(glsB (m.take k)).length+(glB (m.getD k Gl.none)).length)/\foT (m.getD k Gl.none).o (m.getD k Gl.none).ts ax=true:=by
 obtain⟨h3,h4,h5⟩:=za3.1 h1
 obtain⟨h6,h7,h8⟩:=zcd.1 h3
 have hgk:m.getD k Gl.none=m[k]:=by simp[List.getD,hk]
 have hb:b=(be2 ((m.length:Nat):Int)++glsB (m.take k))++(glB (m.getD k Gl.none)++glsB (m.drop (k+1))):=by
  have es:m=m.take k++m[k]::m.drop (k+1):=by simp
  rw[<-h2]
  unfold gsB
  rw[List.append_assoc]
  congr 1
  rw[hgk]
  conv=>lhs;rw[es,zbt,glsB]
 obtain⟨f1,f2,f3,f4⟩:=zf2.1 (h8 k hk)
 exact⟨_,_,hb,by rw[List.length_append];rfl,zj9 hb (by rw[List.length_append];rfl) (zf0.1 h4 _ (by rw[hgk];exact List.getElem_mem _)) f3 f4,f3⟩
theorem KgI.bad2{b:LN}{s:Sr}{ax:Int}{k:Nat}{l:List Gl}{q:Nat}(h:KgI b ax k l q)(hk:k<nmV b 0 2){x:Gl}{q2:Nat}(ht:rdGl b ax q=some (x,q2))(hm:¬nmV b ((g4 b q+4:Nat):Int) 1<=1):rdGOk b s ax=false:=by
 cases ho:rdGOk b s ax with
 | false=>rfl
 | true =>
  obtain⟨m,h1,h2,h3,h4,h5⟩:=zr5 h (Nat.le_of_lt hk) ho
  obtain⟨A,Z,e1,e2,e3,-⟩:=zyt (k:=k) h1 h2 (by omega)
  rw[<-h5]at e2 e3
  have e4:=(zgp e3).1
  refine absurd ?_ hm
  generalize m.getD k Gl.none=y at e1 e3 e4
  have e5:b=(A++(be4 (((wrOB y.o).length:Nat):Int)++(wrOB y.o++(be4 (((tuBt y.ts).length:Nat):Int)++(tuBt y.ts++(be2 y.ab++be2 y.ar))))))++(be1 (if y.mr then 1 else 0)++Z):=by
   rw[e1,glB]
   simp only[List.append_assoc]
  have e6:(A++(be4 (((wrOB y.o).length:Nat):Int)++(wrOB y.o++(be4 (((tuBt y.ts).length:Nat):Int)++(tuBt y.ts++(be2 y.ab++be2 y.ar)))))).length=g4 b q+4:=by
   have h6:=zi7 y
   simp only[List.length_append]
   rw[show(be4 (((wrOB y.o).length:Nat):Int)).length=4 from rfl,show(be4 (((tuBt y.ts).length:Nat):Int)).length=4 from rfl,show(be2 y.ab).length=2 from rfl,show(be2 y.ar).length=2 from rfl]
   omega
  rw[zbm (n:=1) e5 e6 rfl]
  cases y.mr <;> decide
theorem zze{b:LN}{ax:Int}{p:Nat}(n:Nat)(h:b.length<=n):(gTb b p).length<=n:=by
 unfold gTb
 cases hi:inB b.length ((g2 b p+4:Nat):Int) (g3 b p:Int) with
 | false=>rw[zmf hi];exact Nat.zero_le _
 | true =>
  rw[zf5 hi,List.length_take,List.length_drop]
  omega
theorem gT_wr{m:List Gl}{s:Sr}{ax:Int}(h:wrGE m s ax=0){k:Nat}{l:List Gl}{q:Nat}(hr:rdGk (gsB m) ax k=some (l,q))(hk:k<nmV (gsB m) 0 2):(gTb (gsB m) q).length<=100000:=by
 have h3:=(zcd.1 (za3.1 h).1).1.2
 rw[zlt h3]at hk
 have h5:=zgq h k (by omega)
 rw[hr]at h5;injection h5 with h5;injection h5 with h6 h7
 obtain⟨A,Z,e1,e2,e3,e4⟩:=zyt (k:=k) h rfl hk
 rw[<-h7]at e3
 obtain⟨-,-,r1,r2,r3⟩:=zgp e3
 obtain⟨t1,t2⟩:=zft r2
 rw[<-t2]
 exact Nat.le_trans (zge t1) (by decide)
theorem Rb.from{w:World}{a:OA}{cap:Nat}{xs:LN}(h:Rb w a cap xs)(n:Nat)(hn:n<=xs.length):Rb w (if cap=n then a else a.map (fun x=>x.add n)) (cap-n) (xs.drop n):=by
 by_cases h0:n<xs.length
 . have:=h.le
   rw[if_neg (by omega)]
   have hc:=h.cut n (xs.length-n) (by omega)
   rwa [List.take_of_length_le (by rw[List.length_drop];exact Nat.le_refl _)]at hc
 . have e:xs.drop n=[]:=List.drop_eq_nil_of_le (by omega)
   rw[e]
   refine Rb.nil _ _ _ (Nat.le_trans (Nat.sub_le _ _) h.cap) (fun e2=>?_)
   have h4:=h.2.2.2.1
   by_cases hc:cap=n
   . omega
   . rw[if_neg hc]at e2
     have:=h4 (by cases a with | none=>rfl | some x=>cases e2)
     omega
theorem Ri.keepU{w w':World}{a:OA}{cap:Nat}{l:LI}(h:Ri w a cap l)(hs:w.heap.size<=w'.heap.size)(hb:∀b o,a=some ⟨b,o,none⟩->w'.heap[b]?=w.heap[b]?):Ri w' a cap l:=by
 obtain⟨h1,h2,h3,h4⟩:=h
 refine⟨h1,h2,h3,?_⟩
 rcases h4 with h4|⟨b,off,e,h5,h6⟩
 . exact .inl h4
 . exact .inr ⟨b,off,e,Nat.lt_of_lt_of_le h5 hs,fun i hi=>(World.cell?_of_block (w:=w) (a:=⟨b,off+i,none⟩) (hb b off e)).trans (h6 i hi)⟩
theorem Kp.new{g b:Nat}{a w:World}(h:Kp g a w)(hb:a.heap.size<=b)(j:Nat)(z:Value):Kp g a (w.setCell ⟨b,j,none⟩ z):=Keep.setCell h (p:=⟨b,j,none⟩) (fun e=>Nat.not_lt.2 hb e.1) z
theorem Rb.blk{w:World}{a:OA}{cap:Nat}{xs:LN}(h:Rb w a cap xs)(hne:xs≠[]){b o:Nat}(e:a=some ⟨b,o,none⟩):b<w.heap.size:=by
 rcases h.2.2.2.2 with h0|⟨b',o',e',hb,_⟩
 . exact absurd h0 hne
 . rw[e]at e'
   cases e'
   exact hb
theorem Sc.of{t:TypeId}{w u:World}{g:Nat}{pa:OA}{pc:Nat}{xs:LN}{p q:Nat}(h:Sc t w g pa pc xs p)(hk:Kp g w u)(hb:Bk t u g [.slice pa xs.length pc,.int .i64 (q:Int)]):Sc t u g pa pc xs q :=
 ⟨hb,h.rb.keep' hk.size (fun b o hlt e hne=>hk.block hlt (h.2.2 b o e hne)),h.2.2⟩
theorem Gw.setB{α:Type}{E:El α}{t u:TypeId}{base g:Nat}{w:World}{v:Value}{l:List α}{cs:LV}(h:Gw E t base (fun _=>False) w v l)(hb:Bk u w g cs)(ht:u≠t)(j:Nat)(z:Value):Gw E t base (fun _=>False) (w.setCell ⟨g,j,none⟩ z) v l:=h.kp hb ht ((Kp.refl g w).setCell j z)
def nv3(z0 z1 z2:Int)(k:Nat):LV:=[.int .i64 (if 0<k then z0 else 0),.int .i64 (if 1<k then z1 else 0),.int .i64 (if 2<k then z2 else 0)]
def zAt(b:LN)(p k:Nat):Int:=sx16 (nmV b ((p+2*k:Nat):Int) 2)
theorem z08(b:LN)(p k:Nat)(hk:k<3):(nv3 (zAt b p 0) (zAt b p 1) (zAt b p 2) k).set k (.int .i64 (zAt b p k))=nv3 (zAt b p 0) (zAt b p 1) (zAt b p 2) (k+1):=by
 match k,hk with
 | 0,_=>simp[nv3]
 | 1,_=>simp[nv3]
 | 2,_=>simp[nv3]
theorem z09(z0 z1 z2:Int)(k:Nat)(hk:k<3)(j:Nat)(hj:j<3):∃z,(nv3 z0 z1 z2 k)[j]?=some (.int .i64 z):=by
 match j,hj with
 | 0,_=>exact⟨_,rfl⟩
 | 1,_=>exact⟨_,rfl⟩
 | 2,_=>exact⟨_,rfl⟩
theorem zd1{b:LN}(hb:Byt b)(p k:Nat):-32768<=zAt b p k/\zAt b p k<=32767:=by
 have:=zbd hb ((p+2*k:Nat):Int) 2
 unfold zAt sx16
 split <;> omega
theorem zyn(b:LN)(p:Nat):teAt b p=⟨zAt b p 0,zAt b p 1,zAt b p 2⟩:=rfl
theorem zqs(g:Nat)(pa:OA)(pc:Nat)(xs:LN)(p:Nat)(w:World)(h:Sc 203 w g pa pc xs p)(hp:p<=1000000) :
 Calls Tryz.prog 194 #[pg g] w fun e w'=>e=.returned (.agg #[.int .i64 (teAt xs p).st,.int .i64 (teAt xs p).pk,.int .i64 (teAt xs p).en])/\Sc 203 w' g pa pc xs (p+6)/\Kp g w w':=by
 have HTZ:Hid (teAt xs p=⟨zAt xs p 0,zAt xs p 1,zAt xs p 2⟩):=zyn xs p
 rw[HTZ.out]
 have hglt:=h.bk.lt
 obtain⟨W,hW,XT,XN,hbW⟩:∃W,W=(w.alloc (.cells #[.int .i64 0,.int .i64 0,.int .i64 0] 146)).alloc (.cells #[.int .i64 0,.int .i64 0,.int .i64 0] 284)/\Bk 146 W w.heap.size [.int .i64 0,.int .i64 0,.int .i64 0]/\Bk 284 W (w.heap.size+1) [.int .i64 0,.int .i64 0,.int .i64 0]/\Below w.heap.size w W :=
  ⟨_,rfl,(Bk.new _ _ [.int .i64 0,.int .i64 0,.int .i64 0]).below (bl1 _),Bk.new1 _ _ _ [.int .i64 0,.int .i64 0,.int .i64 0],(bl1 _).alloc (by simp) _⟩
 have hN0:Bk 284 W (w.heap.size+1) (nv3 (zAt xs p 0) (zAt xs p 1) (zAt xs p 2) 0):=XN
 have HS0:Hid (Sc 203 w g pa pc xs p):=h
 have hS0:Sc 203 W g pa pc xs (p+2*0):=h.below hbW
 have hK0:Kp g w W:=Kp.of hbW
 have HBY:Hid (Byt xs):=h.rb.lim
 clear h XN hbW
 obtain⟨gt,hgt⟩:∃n,w.heap.size=n:=⟨_,rfl⟩
 have HGT:Hid (w.heap.size=gt):=hgt
 rw[hgt]at XT hN0 hglt
 go_enter Tryz.func194,Tryz.ntmps194
 go_upto_region 2 with fail
 rw[<-hW];clear hW;go_wp2;clear hgt
 go_loopw [5] (fun i wr=>∃k:Nat,k<=3/\i=.int .i64 k/\Sc 203 wr g pa pc xs (p+2*k)/\Bk 284 wr (gt+1) (nv3 (zAt xs p 0) (zAt xs p 1) (zAt xs p 2) k)/\Bk 146 wr gt [.int .i64 0,.int .i64 0,.int .i64 0]/\Kp g w wr) (fun i _=>3-(intOf i).toNat)
 case atStart=>exact⟨0,Nat.zero_le _,rfl,hS0,hN0,XT,hK0⟩
 case round =>
  clear hS0 hN0 XT hK0;obtain⟨k,hk,rfl,hS,hN,hX,hKp⟩:=hrel
  by_cases hkn:k<3
  . have hF:=fun U (hr:Rb U pa pc xs)=>zgw pa pc xs ((p+2*k:Nat):Int) U hr ⟨by omega,by omega⟩
    have HZ:Hid (sx16 (nmV xs ((p+2*k:Nat):Int) 2)=zAt xs p k):=rfl
    simp only[HZ.out]at hF
    have hzb:=zd1 HBY.out p k
    have HNX:Hid (_):=z08 xs p k hkn
    obtain⟨zo,hzo⟩:=z09 (zAt xs p 0) (zAt xs p 1) (zAt xs p 2) k hkn k hkn
    generalize zAt xs p k=zk at *
    generalize inB xs.length ((p+2*k:Nat):Int) 2=qb at hF
    obtain⟨q,hq⟩:∃q,p+2*k=q:=⟨_,rfl⟩
    have HQ2:Hid (p+2*(k+1)=q+2):=by show _=_;omega
    have hq6:q<=1000010:=by omega
    rw[hq]at hS hF;clear hq;obtain⟨x0,x1,_⟩:=hS.bk.two
    have i1:(0:Int)<=(k:Int):=by omega
    have i2:(k:Int)<3:=by omega
    go_upto_region 5 with fail
    refine wp_region_held_drew (S:=(fun u=>u.cell? ⟨g,0,none⟩=some (.slice pa xs.length pc)/\u.cell? ⟨g,1,none⟩=some (.int .i64 (q:Int)))) (by kernel_rfl) ?_ (fun hH=>?_)
    . (try dsimp only)
      go_keep
    have hdr:Below wr.heap.size wr wr.drew:=Below.drew1
    replace hKp:Kp g w wr.drew:=hKp.drew
    generalize wr.drew=ud at hdr hKp hH ⊢
    replace hS:=hS.below hdr;replace hN:=hN.below hdr;replace hX:=hX.below hdr;clear hdr x0 x1;refine hT 0 hH ?_;refine hT 1 hH ?_;refine hT 2 hH ?_;refine hT 3 hH ?_;refine hT 4 hH ?_;refine hT 5 hH ?_;refine hT 6 hH ?_;refine hT 7 hH ?_;refine hT 8 hH ?_
    refine hCall (i:=9) rfl (by kernel_rfl) (by rfl) (fun K hK=>?_)
    go_simp
    refine(hF _ hS.rb).mono ?_
    rintro e u1 ⟨rfl,rfl⟩
    go_wp2_with fail
    refine hK.out _ _ ?_ (fun hH=>?_)
    . (try dsimp only)
      exact hH
    clear hK K
    try simp only[Act.put,pZ]
    refine hT 10 hH ?_;refine hT 11 hH ?_;refine hT 12 hH ?_;refine hT 13 hH ?_
    refine hCall (i:=14) rfl (by kernel_rfl) (by rfl) (fun K hK=>?_)
    have hce:=(hN.cell k (by simpa [nv3] using hkn)).trans hzo
    have hfz:=hN.fz k
    go_simp
    have hN2:=hN.set k (.int .i64 zk)
    rw[HNX.out]at hN2
    have hS2:Sc 203 (ud.setCell ⟨gt+1,k,none⟩ (.int .i64 zk)) g pa pc xs q:=HS0.out.of (hKp.new (by rw[HGT.out];omega) k _) (hS.bk.other k _ (by omega))
    have hX2:=hX.other k (.int .i64 zk) (b:=gt+1) (by omega)
    have hK2:Kp g w (ud.setCell ⟨gt+1,k,none⟩ (.int .i64 zk)):=hKp.new (by rw[HGT.out];omega) k _
    clear hN hS hX hKp hce hfz hzo HNX
    generalize ud.setCell ⟨gt+1,k,none⟩ (.int .i64 zk)=u2 at *
    obtain⟨x0,x1,_⟩:=hS2.bk.two
    refine hK.out _ _ ?_ (fun hH=>?_)
    . (try dsimp only)
      exact⟨x0,x1⟩
    clear hK K
    try simp only[Act.put,pZ]
    refine wpAnyH_done (by kernel_rfl) ?_ _
    clear hH;obtain⟨-,-,f0,f1⟩:=hS2.bk.two
    have hpn:(q:Int)+2=((q+2:Nat):Int):=by omega
    have HS:Hid (Sc 203 (u2.setCell ⟨g,1,none⟩ (.int .i64 ((q+2:Nat):Int))) g pa pc xs (q+2)):=hS2.step (q+2)
    have HK2:Hid (Kp g w (u2.setCell ⟨g,1,none⟩ (.int .i64 ((q+2:Nat):Int)))):=hK2.setCell 1 _
    have HN3:Hid (Bk 284 (u2.setCell ⟨g,1,none⟩ (.int .i64 ((q+2:Nat):Int))) (gt+1) (nv3 (zAt xs p 0) (zAt xs p 1) (zAt xs p 2) (k+1))):=hN2.other 1 _ (by omega)
    have HX3:Hid (Bk 146 (u2.setCell ⟨g,1,none⟩ (.int .i64 ((q+2:Nat):Int))) gt [.int .i64 0,.int .i64 0,.int .i64 0]):=hX2.other 1 _ (by omega)
    obtain⟨m,hm⟩:∃m:Nat,q+2=m:=⟨_,rfl⟩
    have hml:m<=1000012:=by omega
    rw[hm]at hpn HS HK2 HN3 HX3 HQ2;clear hm hN2 hS2 hX2 hK2;go_wp2
    go_roundw
    case rel=>exact⟨k+1,by omega,by go_num,by rw[HQ2.out];exact HS.out,HN3.out,HX3.out,HK2.out⟩
    case measure=>simp[intOf];omega
  . obtain rfl:k=3:=by omega
    obtain⟨n0,n1,n2,_⟩:=(show Bk 284 wr (gt+1) [.int .i64 (zAt xs p 0),.int .i64 (zAt xs p 1),.int .i64 (zAt xs p 2)]from hN).three
    obtain⟨y0,y1,y2,f0,f1,f2⟩:=hX.three
    have bz0:=zd1 HBY.out p 0
    have bz1:=zd1 HBY.out p 1
    have bz2:=zd1 HBY.out p 2
    have hX3:=((hX.set 0 (.int .i64 (zAt xs p 0))).set 1 (.int .i64 (zAt xs p 1))).set 2 (.int .i64 (zAt xs p 2))
    have hk3:Kp g w (((wr.setCell ⟨gt,0,none⟩ (.int .i64 (zAt xs p 0))).setCell ⟨gt,1,none⟩ (.int .i64 (zAt xs p 1))).setCell ⟨gt,2,none⟩ (.int .i64 (zAt xs p 2))):=((hKp.new (by rw[HGT.out];omega) 0 _).new (by rw[HGT.out];omega) 1 _).new (by rw[HGT.out];omega) 2 _
    have hS3:=HS0.out.of hk3 (((hS.bk.other 0 (.int .i64 (zAt xs p 0)) (b:=gt) (by omega)).other 1 (.int .i64 (zAt xs p 1)) (b:=gt) (by omega)).other 2 (.int .i64 (zAt xs p 2)) (b:=gt) (by omega))
    have HF:Hid (Sc 203 (((wr.setCell ⟨gt,0,none⟩ (.int .i64 (zAt xs p 0))).setCell ⟨gt,1,none⟩ (.int .i64 (zAt xs p 1))).setCell ⟨gt,2,none⟩ (.int .i64 (zAt xs p 2))) g pa pc xs (p+6)/\Kp g w (((wr.setCell ⟨gt,0,none⟩ (.int .i64 (zAt xs p 0))).setCell ⟨gt,1,none⟩ (.int .i64 (zAt xs p 1))).setCell ⟨gt,2,none⟩ (.int .i64 (zAt xs p 2)))):=⟨hS3,hk3⟩
    have HX3:Hid (_):=hX3.three
    clear hS3 hk3 hS hKp hN hX3 HTZ;go_wp2
    refine bodyPost_ret (v:=.agg #[.int .i64 (zAt xs p 0),.int .i64 (zAt xs p 1),.int .i64 (zAt xs p 2)]) (by obtain⟨r0,r1,r2,_⟩:=HX3.out;simp[results,Tryz.results194,go_sem,r0,r1,r2]) rfl ⟨rfl,HF.out.1,HF.out.2⟩
theorem z00(b:LN)(n:Int):∃q:Nat,rcN b n=(q:Int)/\q<=b.length/\(rcN b n).toNat=q:=by
 unfold rcN
 cases h:rcO b n with
 | none=>exact⟨0,rfl,Nat.zero_le _,rfl⟩
 | some r =>
  refine⟨r.2,rfl,?_,rfl⟩
  unfold rcO at h
  split at h
  . exact(zio _ _ _ _ _ _ _ (show rdF RC b n.toNat 0 n.toNat=some (r.1,r.2)from h)).2.2 (Nat.zero_le _)
  . cases h
theorem z4b(b:LN)(n:Int):(rcE b n==0)=(rcO b n).isSome:=by
 unfold rcE
 cases rcO b n with
 | none =>
  show((if 0<=n/\n<=2000 then (2:Int)else 4)==0)=false
  split <;> decide
 | some r=>rfl
theorem zfr(g:Nat)(pa:OA)(pc:Nat)(xs:LN)(p:Nat)(n:Int)(w:World)(h:Sc 203 w g pa pc xs p)(hp:p<=xs.length)(hl:xs.length<=100000)(hn:I64 n) :
 Calls Tryz.prog 196 #[pg g,.int .i64 n] w fun e w'=>∃a' c',e=.returned (.tuple #[.slice a' (rcL (xs.drop p) n).length c',.bool (rcO (xs.drop p) n).isSome])/\Ri w' a' c' (rcL (xs.drop p) n)/\(∀b o,a'=some ⟨b,o,none⟩->w.heap.size<=b)/\(a'=none->c'=0)/\Sc 203 w' g pa pc xs (p+(rcN (xs.drop p) n).toNat)/\Kp g w w':=by
 have HDL:Hid ((xs.drop p).length=xs.length-p):=List.length_drop ..
 have hglt:=h.bk.lt
 have hF:=fun U (hr:Rb U pa pc xs)=>zcp _ _ (xs.drop p) n U (hr.from p hp) (by rw[HDL.out];omega) hn
 rw[HDL.out]at hF
 have HPA:Hid ((if pc=p then pa else pa.map (fun x=>x.add p))=(if pc=p then pa else pa.map (fun x=>x.add p))):=rfl
 obtain⟨pa2,z1x⟩:∃x,(if pc=p then pa else pa.map (fun x=>x.add p))=x:=⟨_,rfl⟩
 rw[z1x]at hF
 replace HPA:Hid ((if pc=p then pa else pa.map (fun x=>x.add p))=pa2):=z1x
 obtain⟨q,hq1,hq2,hq3⟩:=z00 (xs.drop p) n
 have HE:=z4b (xs.drop p) n
 rw[HDL.out]at hq2;rw[hq3];rw[hq1]at hF
 have hpc:=h.rb.le
 have hpm:=h.rb.cap
 unfold maxLen at hpm
 obtain⟨b2,hb2⟩:∃b,xs.drop p=b:=⟨_,rfl⟩
 rw[hb2]at hF HE ⊢;rw[<-HE];clear hb2 hq1 hq3 HE z1x
 obtain⟨er,her⟩:∃x,rcE b2 n=x:=⟨_,rfl⟩
 rw[her]at hF ⊢;clear her;obtain⟨x0,x1,_⟩:=h.bk.two
 go_enter Tryz.func196,Tryz.ntmps196
 go_upto_region 1 with fail
 refine wp_region_held_drew (S:=(fun u=>u.cell? ⟨g,0,none⟩=some (.slice pa xs.length pc)/\u.cell? ⟨g,1,none⟩=some (.int .i64 (p:Int)))) (by kernel_rfl) ?_ (fun hH=>?_)
 . (try dsimp only)
   go_keep
 have hdr:Below w.heap.size w w.drew:=Below.drew1
 have hkp:Kp g w w.drew:=(Kp.refl g w).drew
 have hsd:w.heap.size<=w.drew.heap.size:=hdr.size
 generalize w.drew=ud at hdr hkp hH hsd ⊢
 replace h:=h.below hdr;clear hdr x0 x1;refine hT 0 hH ?_;refine hT 1 hH ?_;refine hT 2 hH ?_;refine hT 3 hH ?_;refine hT 4 hH ?_;refine hT 5 hH ?_;refine hT 6 hH ?_;refine hT 7 hH ?_
 refine hTake (i:=8) (v:=.slice pa2 (xs.length-p) (pc-p)) rfl (by kernel_rfl) (by kernel_rfl) (by kernel_rfl) (fun _ _ _ h=>h) (Or.inl ⟨by rfl,?y1⟩) hH ?r1
 case y1 =>
  intro w9 hSw
  (try dsimp only at hSw)
  go_simp
  exact HPA.out
 try simp only[Act.put,pZ]
 refine hT 9 hH ?_
 refine hCall (i:=10) rfl (by kernel_rfl) (by rfl) (fun K hK=>?_)
 go_simp
 refine(hF _ h.rb).mono ?_
 rintro e u1 ⟨a1,c1,rfl,hri,hlo,hno,hb1⟩;replace h:=h.below hb1
 replace hkp:=hkp.trans (Kp.of hb1)
 obtain⟨x0,x1,_⟩:=h.bk.two
 go_wp2_with fail
 refine hK.out _ _ ?_ (fun hH=>?_)
 . (try dsimp only)
   exact⟨x0,x1⟩
 clear hK K x0 x1
 try simp only[Act.put,pZ]
 refine hT 11 hH ?_;refine hT 12 hH ?_;refine hT 13 hH ?_;refine hT 14 hH ?_;refine hT 15 hH ?_;refine hT 16 hH ?_;refine hT 17 hH ?_
 refine wpAnyH_done (by kernel_rfl) ?_ _
 clear hH;obtain⟨x0,x1,f0,f1⟩:=h.bk.two
 have hpn:(p:Int)+(q:Int)=((p+q:Nat):Int):=by omega
 have HS:Hid (Sc 203 (u1.setCell ⟨g,1,none⟩ (.int .i64 ((p+q:Nat):Int))) g pa pc xs (p+q)):=h.step (p+q)
 have HK2:Hid (Kp g w (u1.setCell ⟨g,1,none⟩ (.int .i64 ((p+q:Nat):Int)))):=hkp.setCell 1 _
 have HR2:Hid (Ri (u1.setCell ⟨g,1,none⟩ (.int .i64 ((p+q:Nat):Int))) a1 c1 (rcL b2 n)/\(∀b o,a1=some ⟨b,o,none⟩->w.heap.size<=b)/\(a1=none->c1=0)) :=
  ⟨hri.keepU (by simp[World.setCell]) (fun b o e=>Below.heap_setCell _ _ _ _ (fun e2=>by have:=hlo b o e;have e3:b=g:=e2;omega)),fun b o e=>Nat.le_trans hsd (hlo b o e),hno⟩
 have hmm:p+q<=200000:=by omega
 obtain⟨m,hm⟩:∃m:Nat,p+q=m:=⟨_,rfl⟩
 rw[hm]at hpn HS HK2 HR2 hmm
 have HM:Hid (p+q=m):=hm
 clear hm h hkp hri hlo hno hb1 hF hsd;go_wp2
 go_ret2
 exact⟨a1,c1,rfl,HR2.out.1,HR2.out.2.1,HR2.out.2.2,by rw[HM.out];exact HS.out,HK2.out⟩
