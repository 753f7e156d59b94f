import Derived.Test.YtkmcodofnckdmaaGreatZK19
set_option maxHeartbeats 4000000
set_option maxRecDepth 100000
set_option linter.unusedSimpArgs false
set_option linter.unusedVariables false
namespace Go.Proofs.YtkmcodofnckdmaaGreat
open Go.RowKit Go.Maps
theorem at_1{o:Ol}{l:List Tu}{cs:LI}(h:foT o l (cs.length:Int)=false):atO o l cs=Ol.none/\atE o l cs=1:=by
 unfold atO atE atOk
 rw[h]
 exact⟨rfl,rfl⟩
theorem at_2{o:Ol}{l:List Tu}{cs:LI}(h:foT o l (cs.length:Int)=true)(hx:rnB (exL Pn.x Pa.dx Tu.dx o l cs)=false):atO o l cs=Ol.none/\atE o l cs=4:=by
 unfold atO atE atOk
 rw[h,hx]
 exact⟨rfl,rfl⟩
theorem at_3{o:Ol}{l:List Tu}{cs:LI}(h:foT o l (cs.length:Int)=true)(hx:rnB (exL Pn.x Pa.dx Tu.dx o l cs)=true)(hy:rnB (exL Pn.y Pa.dy Tu.dy o l cs)=false):atO o l cs=Ol.none/\atE o l cs=4:=by
 unfold atO atE atOk
 rw[h,hx,hy]
 exact⟨rfl,rfl⟩
theorem at_4{o:Ol}{l:List Tu}{cs:LI}(h:foT o l (cs.length:Int)=true)(hx:rnB (exL Pn.x Pa.dx Tu.dx o l cs)=true)(hy:rnB (exL Pn.y Pa.dy Tu.dy o l cs)=true):atO o l cs=reO o ((exL Pn.x Pa.dx Tu.dx o l cs).map rnN) ((exL Pn.y Pa.dy Tu.dy o l cs).map rnN)/\atE o l cs=0:=by
 unfold atO atE atOk
 rw[h,hx,hy]
 exact⟨rfl,rfl⟩
theorem rn_no{qs:List Rat}(h:rnB qs=false):rnL qs=[]/\rnE qs=4:=by unfold rnL rnE;rw[h];exact⟨rfl,rfl⟩
theorem znd{qs:List Rat}(h:rnB qs=true):rnL qs=qs.map rnN/\rnE qs=0:=by unfold rnL rnE;rw[h];exact⟨rfl,rfl⟩
theorem zu8(S:Nat->Prop)(a:OA)(ca:Nat)(b:OA)(cb:Nat)(o:Ol)(S2:Nat->Prop)(la:OA)(lc:Nat)(l:List Tu)(ga:OA)(gc:Nat)(cs:LI)(w:World)(hc:Gr PnE.row S w a ca o.cs)(hp:Gr PaE S w b cb o.ps)(hl:Gr TuE S2 w la lc l)(hg:Ri w ga gc cs) :
 Calls Tryz.prog 71 #[.agg #[.slice a o.cs.length ca,.slice b o.ps.length cb],.slice la l.length lc,.slice ga cs.length gc] w fun e w'=>∃a1 c1 a2 c2,e=.returned (.tuple #[.agg #[.slice a1 (atO o l cs).cs.length c1,.slice a2 (atO o l cs).ps.length c2],.int .i64 (atE o l cs)])/\∃L:List (Nat×List Pn),Gw PkE 63 w.heap.size (fun k=>w.heap.size<=k) w' (.slice a1 (atO o l cs).cs.length c1) L/\L.map Prod.snd=(atO o l cs).cs/\(L.map Prod.fst).Nodup/\Gw PaE 54 w.heap.size (fun _=>False) w' (.slice a2 (atO o l cs).ps.length c2) (atO o l cs).ps/\Below w.heap.size w w':=by
 obtain⟨W,hW,X1,X6,hbW⟩:∃W,W=(w.alloc (.cells #[.slice a o.cs.length ca,.slice b o.ps.length cb] 57)).alloc (.cells #[.slice none 0 0,.slice none 0 0] 57)/\Bk 57 W w.heap.size [.slice a o.cs.length ca,.slice b o.ps.length cb]/\Bk 57 W (w.heap.size+1) [.slice none 0 0,.slice none 0 0]/\Below w.heap.size w W :=
  ⟨_,rfl,(Bk.new _ _ [.slice a o.cs.length ca,.slice b o.ps.length cb]).below (al1 _),Bk.new1 _ _ _ [.slice none 0 0,.slice none 0 0],bl2 _ _⟩
 replace hc:=hc.below hbW;replace hp:=hp.below hbW;replace hl:=hl.below hbW;replace hg:=hg.below hbW;obtain⟨p0,p1,_⟩:=X1.two
 have hex:=zo5 S a ca b cb o S2 la lc l ga gc cs W hc hp hl hg
 have HNO:Hid (∀(E:Int) (U:World),atO o l cs=Ol.none/\atE o l cs=E->Bk 57 U (w.heap.size+1) [.slice none 0 0,.slice none 0 0]->Below w.heap.size w U->∃a1 c1 a2 c2,(Ending.returned (.tuple #[.agg #[.slice none 0 0,.slice none 0 0],.int .i64 E]))=.returned (.tuple #[.agg #[.slice a1 (atO o l cs).cs.length c1,.slice a2 (atO o l cs).ps.length c2],.int .i64 (atE o l cs)])/\∃L:List (Nat×List Pn),Gw PkE 63 w.heap.size (fun k=>w.heap.size<=k) ((U.setCell ⟨w.heap.size+1,0,none⟩ (.slice none 0 0)).setCell ⟨w.heap.size+1,1,none⟩ (.slice none 0 0)) (.slice a1 (atO o l cs).cs.length c1) L/\L.map Prod.snd=(atO o l cs).cs/\(L.map Prod.fst).Nodup/\Gw PaE 54 w.heap.size (fun _=>False) ((U.setCell ⟨w.heap.size+1,0,none⟩ (.slice none 0 0)).setCell ⟨w.heap.size+1,1,none⟩ (.slice none 0 0)) (.slice a2 (atO o l cs).ps.length c2) (atO o l cs).ps/\Below w.heap.size w ((U.setCell ⟨w.heap.size+1,0,none⟩ (.slice none 0 0)).setCell ⟨w.heap.size+1,1,none⟩ (.slice none 0 0))):=by
  intro E U h hX hb
  rw[h.1,h.2]
  exact⟨none,0,none,0,rfl,[],Gw.nil _ _ _ _ _,rfl,List.nodup_nil,Gw.nil _ _ _ _ _,(hb.setCell (p:=⟨w.heap.size+1,0,none⟩) (by show _<=w.heap.size+1;omega) _).setCell (p:=⟨w.heap.size+1,1,none⟩) (by show _<=w.heap.size+1;omega) _⟩
 have HGO:Hid (atO o l cs=reO o ((exL Pn.x Pa.dx Tu.dx o l cs).map rnN) ((exL Pn.y Pa.dy Tu.dy o l cs).map rnN)/\atE o l cs=0->∀(U:World) a1 c1 a2 c2 (L:List (Nat×List Pn)),Gw PkE 63 w.heap.size (fun k=>w.heap.size<=k) U (.slice a1 (reO o ((exL Pn.x Pa.dx Tu.dx o l cs).map rnN) ((exL Pn.y Pa.dy Tu.dy o l cs).map rnN)).cs.length c1) L->L.map Prod.snd=(reO o ((exL Pn.x Pa.dx Tu.dx o l cs).map rnN) ((exL Pn.y Pa.dy Tu.dy o l cs).map rnN)).cs->(L.map Prod.fst).Nodup->Gw PaE 54 w.heap.size (fun _=>False) U (.slice a2 (reO o ((exL Pn.x Pa.dx Tu.dx o l cs).map rnN) ((exL Pn.y Pa.dy Tu.dy o l cs).map rnN)).ps.length c2) (reO o ((exL Pn.x Pa.dx Tu.dx o l cs).map rnN) ((exL Pn.y Pa.dy Tu.dy o l cs).map rnN)).ps->Below w.heap.size w U->∃a1' c1' a2' c2',(Ending.returned (.tuple #[.agg #[.slice a1 (reO o ((exL Pn.x Pa.dx Tu.dx o l cs).map rnN) ((exL Pn.y Pa.dy Tu.dy o l cs).map rnN)).cs.length c1,.slice a2 (reO o ((exL Pn.x Pa.dx Tu.dx o l cs).map rnN) ((exL Pn.y Pa.dy Tu.dy o l cs).map rnN)).ps.length c2],.int .i64 0]))=.returned (.tuple #[.agg #[.slice a1' (atO o l cs).cs.length c1',.slice a2' (atO o l cs).ps.length c2'],.int .i64 (atE o l cs)])/\∃L':List (Nat×List Pn),Gw PkE 63 w.heap.size (fun k=>w.heap.size<=k) U (.slice a1' (atO o l cs).cs.length c1') L'/\L'.map Prod.snd=(atO o l cs).cs/\(L'.map Prod.fst).Nodup/\Gw PaE 54 w.heap.size (fun _=>False) U (.slice a2' (atO o l cs).ps.length c2') (atO o l cs).ps/\Below w.heap.size w U):=by
  intro h U a1 c1 a2 c2 L k1 k4 k5 k2 k3
  rw[h.1,h.2]
  exact⟨a1,c1,a2,c2,rfl,L,k1,k4,k5,k2,k3⟩
 have HFO:=fun(h:foT o l (cs.length:Int)=true)=>zbc.1 h
 cases hfo:foT o l (cs.length:Int) with
 | false =>
  rw[zol hfo,zol hfo,zzh hfo]at hex
  have HF:Hid (_):=at_1 hfo
  clear hfo HFO HGO
  go_enter Tryz.func71,Tryz.ntmps71
  go_upto_region 1 with fail
  rw[<-hW];clear hW
  go_wp2_with fail
  refine hex.mono ?_
  rintro e m1 ⟨a1,c1,a2,c2,rfl,hz1,hz2,hb1⟩;replace X6:=X6.below hb1
  replace hbW:=hbW.trans (hb1.mono hbW.size)
  have zau:=HNO.out 1 m1 HF.out X6 hbW
  have A:=X6.set2U (.slice none 0 0) (.slice none 0 0)
  obtain⟨z0,z1,f0,f1⟩:=X6.two
  have hlt:=X6.lt
  clear hb1 hex hz1 hz2 HNO HF;go_wp2
  exact bodyPost_ret (v:=.tuple #[.agg #[.slice none 0 0,.slice none 0 0],.int .i64 1]) (by obtain⟨r0,r1,_⟩:=A.two;simp[results,Tryz.results71,go_sem,r0,r1]) rfl zau
 | true =>
 rw[zjf hfo,zjf hfo,ztx hfo]at hex
 obtain⟨hF1,hF2,hF3,hF4⟩:=HFO hfo
 have hFO:=za1.1 hF1
 have HOL:Hid (o.cs.flatten.length<=80/\o.ps.length<=6/\o.cs.length<=10):=⟨hFO.2.2.2.2.1,hFO.2.2.1,hFO.2.1⟩
 have hcn:=zfl hF1
 have HLX:Hid ((exL Pn.x Pa.dx Tu.dx o l cs).length=cntO o):=zje _ _ _ _ _ _
 have HLY:Hid ((exL Pn.y Pa.dy Tu.dy o l cs).length=cntO o):=zje _ _ _ _ _ _
 have HA2:Hid (rnB (exL Pn.x Pa.dx Tu.dx o l cs)=false->_):=at_2 hfo
 have HA3:Hid (rnB (exL Pn.x Pa.dx Tu.dx o l cs)=true->rnB (exL Pn.y Pa.dy Tu.dy o l cs)=false->_):=at_3 hfo
 have HA4:Hid (rnB (exL Pn.x Pa.dx Tu.dx o l cs)=true->rnB (exL Pn.y Pa.dy Tu.dy o l cs)=true->_):=at_4 hfo
 clear HFO hFO hF1 hF2 hF3 hF4 hfo
 generalize exL Pn.x Pa.dx Tu.dx o l cs=EX at *
 generalize exL Pn.y Pa.dy Tu.dy o l cs=EY at *
 go_enter Tryz.func71,Tryz.ntmps71
 go_upto_region 1 with fail
 rw[<-hW];clear hW
 go_wp2_with fail
 refine hex.mono ?_
 rintro e m1 ⟨a1,c1,a2,c2,rfl,hz1,hz2,hb1⟩;replace X6:=X6.below hb1;replace X1:=X1.below hb1;replace hc:=hc.below hb1;replace hp:=hp.below hb1
 replace hbW:=hbW.trans (hb1.mono hbW.size)
 clear hb1 hex p0 p1 hl hg
 have hr1:=zfe a1 c1 EX m1 hz1.1.1 (by rw[HLX.out];omega)
 cases hbx:rnB EX with
 | false =>
  rw[(rn_no hbx).1,(rn_no hbx).2]at hr1
  have HF:Hid (_):=HA2.out hbx
  clear HA2 HA3 HA4 HGO hbx
  go_wp2_with fail
  refine hr1.mono ?_
  rintro e m2 ⟨a3,c3,rfl,hri,hb1⟩;replace X6:=X6.below hb1
  replace hbW:=hbW.trans (hb1.mono hbW.size)
  have zau:=HNO.out 4 m2 HF.out X6 hbW
  have A:=X6.set2U (.slice none 0 0) (.slice none 0 0)
  obtain⟨z0,z1,f0,f1⟩:=X6.two
  have hlt:=X6.lt
  clear hb1 hr1 hz1 hz2 HNO HF;go_wp2
  exact bodyPost_ret (v:=.tuple #[.agg #[.slice none 0 0,.slice none 0 0],.int .i64 4]) (by obtain⟨r0,r1,_⟩:=A.two;simp[results,Tryz.results71,go_sem,r0,r1]) rfl zau
 | true =>
 rw[(znd hbx).1,(znd hbx).2]at hr1
 replace HA3:Hid (rnB EY=false->_):=HA3.out hbx
 replace HA4:Hid (rnB EY=true->_):=HA4.out hbx
 clear hbx HA2
 go_wp2_with fail
 refine hr1.mono ?_
 rintro e m2 ⟨a3,c3,rfl,hri,hb1⟩;replace X6:=X6.below hb1;replace X1:=X1.below hb1;replace hc:=hc.below hb1;replace hp:=hp.below hb1;replace hz2:=hz2.below hb1
 replace hbW:=hbW.trans (hb1.mono hbW.size)
 clear hb1 hr1 hz1
 have hr1:=zfe a2 c2 EY m2 hz2.1.1 (by rw[HLY.out];omega)
 cases hby:rnB EY with
 | false =>
  rw[(rn_no hby).1,(rn_no hby).2]at hr1
  have HF:Hid (_):=HA3.out hby
  clear HA3 HA4 HGO hby
  go_wp2_with fail
  refine hr1.mono ?_
  rintro e m3 ⟨a4,c4,rfl,zlz,hb1⟩;replace X6:=X6.below hb1
  replace hbW:=hbW.trans (hb1.mono hbW.size)
  have zau:=HNO.out 4 m3 HF.out X6 hbW
  have A:=X6.set2U (.slice none 0 0) (.slice none 0 0)
  obtain⟨z0,z1,f0,f1⟩:=X6.two
  have hlt:=X6.lt
  clear hb1 hr1 hz2 HNO HF;go_wp2
  exact bodyPost_ret (v:=.tuple #[.agg #[.slice none 0 0,.slice none 0 0],.int .i64 4]) (by obtain⟨r0,r1,_⟩:=A.two;simp[results,Tryz.results71,go_sem,r0,r1]) rfl zau
 | true =>
 rw[(znd hby).1,(znd hby).2]at hr1
 have HG4:Hid (_):=HGO.out (HA4.out hby)
 clear hby HA3 HA4 HNO HGO
 have hl1:(EX.map rnN).length=cntO o:=by rw[List.length_map];exact HLX.out
 have hl2:(EY.map rnN).length=cntO o:=by rw[List.length_map];exact HLY.out
 have hrn:=fun a4 c4 U h1 h2 h3 h4=>zlg S a ca b cb o a3 c3 (EX.map rnN) a4 c4 (EY.map rnN) U h1 h2 h3 h4 hl1 hl2 (by have:=HOL.out;omega) (by have:=HOL.out;omega) (by have:=HOL.out;omega)
 clear hl1 hl2 HLX HLY
 generalize EX.map rnN=NX at *
 generalize EY.map rnN=NY at *
 generalize reO o NX NY=ro at *
 go_wp2_with fail
 refine hr1.mono ?_
 rintro e m3 ⟨a4,c4,rfl,zlz,hb1⟩;replace X6:=X6.below hb1;replace X1:=X1.below hb1;replace hc:=hc.below hb1;replace hp:=hp.below hb1;replace hri:=hri.below hb1
 replace hbW:=hbW.trans (hb1.mono hbW.size)
 clear hb1 hr1 hz2;obtain⟨p0,p1,_⟩:=X1.two
 go_wp2_with fail
 refine(hrn a4 c4 _ hc hp hri zlz).mono ?_
 rintro e m4 ⟨a5,c5,a6,c6,rfl,L,hg1,HLS,HLN,hg2,hb1⟩
 replace HLS:Hid (L.map Prod.snd=ro.cs):=HLS
 replace HLN:Hid ((L.map Prod.fst).Nodup):=HLN
 have hsl:=X6.lt
 replace X6:=X6.below hb1
 have hsl2:=X6.lt
 obtain⟨z0,z1,f0,f1⟩:=X6.two
 have A:=X6.set2U (.slice a5 ro.cs.length c5) (.slice a6 ro.ps.length c6)
 replace hbW:=hbW.trans (hb1.mono hbW.size)
 have hU1:Gw PkE 63 w.heap.size (fun k=>w.heap.size<=k) ((m4.setCell ⟨w.heap.size+1,0,none⟩ (.slice a5 ro.cs.length c5)).setCell ⟨w.heap.size+1,1,none⟩ (.slice a6 ro.ps.length c6)) (.slice a5 ro.cs.length c5) L:=(hg1.stay (by rw[zbi];exact Nat.le_refl _) (fun k hk _ hl=>⟨by omega,zac _ _ (by omega)⟩) (fun k hk=>zac _ _ (by have:=(hg1.lo hk).1;omega))).low (by omega)
 have hU2:Gw PaE 54 w.heap.size (fun _=>False) ((m4.setCell ⟨w.heap.size+1,0,none⟩ (.slice a5 ro.cs.length c5)).setCell ⟨w.heap.size+1,1,none⟩ (.slice a6 ro.ps.length c6)) (.slice a6 ro.ps.length c6) ro.ps:=(hg2.stay (by rw[zbi];exact Nat.le_refl _) (fun k hk=>hk.elim) (fun k hk=>zac _ _ (by have:=(hg2.lo hk).1;omega))).low (by omega)
 have hU3:Below w.heap.size w ((m4.setCell ⟨w.heap.size+1,0,none⟩ (.slice a5 ro.cs.length c5)).setCell ⟨w.heap.size+1,1,none⟩ (.slice a6 ro.ps.length c6)):=(hbW.setCell (p:=⟨w.heap.size+1,0,none⟩) (by show _<=w.heap.size+1;omega) _).setCell (p:=⟨w.heap.size+1,1,none⟩) (by show _<=w.heap.size+1;omega) _
 have zau:=HG4.out _ a5 c5 a6 c6 L hU1 HLS.out HLN.out hU2 hU3
 clear hU1 hU2 hU3 hg1 hg2 hb1 hrn HG4 HLS HLN hri zlz hc hp p0 p1;go_wp2
 exact bodyPost_ret (v:=.tuple #[.agg #[.slice a5 ro.cs.length c5,.slice a6 ro.ps.length c6],.int .i64 0]) (by obtain⟨r0,r1,_⟩:=A.two;simp[results,Tryz.results71,go_sem,r0,r1]) rfl zau
def mvQ(dx dy:Int)(p:Pn):Pn:=⟨p.x+dx,p.y+dy,p.on⟩
def mvC(dx dy:Int)(cs:List (List Pn)):List (List Pn):=cs.map (fun c=>c.map (mvQ dx dy))
theorem zpk(dx dy:Int)(a b:List (List Pn)):mvC dx dy (a++b)=mvC dx dy a++mvC dx dy b:=List.map_append
theorem zi1(dx dy:Int)(cs:List (List Pn)):(mvC dx dy cs).length=cs.length:=List.length_map ..
theorem zwr(dx dy:Int):∀cs:List (List Pn),(mvC dx dy cs).flatten.length=cs.flatten.length:=by
 intro cs
 induction cs with
 | nil=>rfl
 | cons c cs ih =>
  show((c.map (mvQ dx dy))++(mvC dx dy cs).flatten).length=(c++cs.flatten).length
  rw[List.length_append,List.length_append,List.length_map,ih]
abbrev Fl:=List (List Pn)×Int
def flP(f:Int->Fl):List Pa->Fl
 | []=>([],0)
 | p::ps=>if (f p.g).2=0 then (if (flP f ps).2=0 then (mvC p.dx p.dy (f p.g).1++(flP f ps).1,0)else ([],(flP f ps).2))else ([],(f p.g).2)
theorem z2q{f:Int->Fl}:∀ {ps:List Pa},(flP f ps).2≠0->flP f ps=([],(flP f ps).2):=by
 intro ps
 cases ps with
 | nil=>intro h;exact absurd rfl h
 | cons p ps =>
  intro h
  rw[flP]at h ⊢
  by_cases h1:(f p.g).2=0
  . rw[if_pos h1]at h ⊢
    by_cases h2:(flP f ps).2=0
    . rw[if_pos h2]at h;exact absurd rfl h
    . rw[if_neg h2]
  . rw[if_neg h1]
theorem zhw(f:Int->Fl):∀a b:List Pa,flP f (a++b)=if (flP f a).2=0 then (if (flP f b).2=0 then ((flP f a).1++(flP f b).1,0)else ([],(flP f b).2))else ([],(flP f a).2):=by
 intro a b
 induction a with
 | nil =>
  rw[List.nil_append,flP,if_pos rfl,List.nil_append]
  by_cases h:(flP f b).2=0
  . rw[if_pos h];exact Prod.ext rfl h
  . rw[if_neg h];exact z2q h
 | cons p a ih =>
  rw[List.cons_append,flP,ih,flP]
  by_cases h1:(f p.g).2=0
  . rw[if_pos h1,if_pos h1]
    by_cases h2:(flP f a).2=0
    . rw[if_pos h2,if_pos h2]
      by_cases h3:(flP f b).2=0
      . rw[if_pos h3,if_pos rfl,if_pos rfl,if_pos h3,List.append_assoc]
      . rw[if_neg h3,if_neg h3,if_pos rfl,if_neg h3]
    . rw[if_neg h2,if_neg h2,if_neg h2,if_neg h2]
  . rw[if_neg h1,if_neg h1,if_neg h1]
theorem z2o(f:Int->Fl)(p:Pa):flP f [p]=if (f p.g).2=0 then (mvC p.dx p.dy (f p.g).1,0)else ([],(f p.g).2):=by
 rw[flP]
 by_cases h:(f p.g).2=0
 . rw[if_pos h,if_pos h,flP,if_pos rfl,List.append_nil]
 . rw[if_neg h,if_neg h]
theorem zkz{f f':Int->Fl}:∀ {ps:List Pa},(∀p∈ps,f p.g=f' p.g)->flP f ps=flP f' ps:=by
 intro ps
 induction ps with
 | nil=>intro _;rfl
 | cons p ps ih=>intro h;rw[flP,flP,h p (by simp),ih (fun q hq=>h q (by simp[hq]))]
def flX(f:Int->Fl)(x:Gl)(cs:LI):Fl :=
 if atE x.o x.ts cs=0 then (if (flP f (atO x.o x.ts cs).ps).2=0 then ((atO x.o x.ts cs).cs++(flP f (atO x.o x.ts cs).ps).1,0)else ([],(flP f (atO x.o x.ts cs).ps).2))else ([],atE x.o x.ts cs)
def flG(l:List Gl)(cs:LI):Nat->Int->Fl
 | 0,g=>match gAt l g with | none=>([],5) | some x=>flX (fun _=>([],6)) x cs
 | n+1,g=>match gAt l g with | none=>([],5) | some x=>flX (flG l cs n) x cs
def flf(l:List Gl)(cs:LI):Nat->Int->Fl
 | 0=>fun _=>([],6)
 | n+1=>flG l cs n
theorem zfi{l:List Gl}{cs:LI}{n:Nat}{g:Int}{x:Gl}(h:gAt l g=some x):flG l cs n g=flX (flf l cs n) x cs:=by
 cases n with
 | zero=>rw[flG,h];rfl
 | succ n=>rw[flG,h];rfl
theorem z2n{f:Int->Fl}{x:Gl}{cs:LI}(h:(flX f x cs).2≠0):flX f x cs=([],(flX f x cs).2):=by
 unfold flX at h ⊢
 by_cases h1:atE x.o x.ts cs=0
 . rw[if_pos h1]at h ⊢
   by_cases h2:(flP f (atO x.o x.ts cs).ps).2=0
   . rw[if_pos h2]at h;exact absurd rfl h
   . rw[if_neg h2]
 . rw[if_neg h1]
theorem ztp{l:List Gl}{cs:LI}{n:Nat}{g:Int}(h:(flG l cs n g).2≠0):flG l cs n g=([],(flG l cs n g).2):=by
 cases hx:gAt l g with
 | none =>
  have e:flG l cs n g=([],5):=by cases n <;> rw[flG,hx]
  rw[e]
 | some x =>
  rw[zfi hx]at h ⊢
  exact z2n h
theorem at_ok{o:Ol}{l:List Tu}{cs:LI}(h:atE o l cs=0):foT o l (cs.length:Int)=true/\atO o l cs=reO o ((exL Pn.x Pa.dx Tu.dx o l cs).map rnN) ((exL Pn.y Pa.dy Tu.dy o l cs).map rnN):=by
 unfold atE at h
 by_cases h1:foT o l (cs.length:Int)=true
 . rw[if_pos h1]at h
   by_cases h2:atOk o l cs=true
   . refine⟨h1,?_⟩
     unfold atO
     rw[if_pos h2]
   . rw[if_neg h2]at h;exact absurd h (by decide)
 . rw[if_neg h1]at h;exact absurd h (by decide)
theorem at_parts{o:Ol}{l:List Tu}{cs:LI}(h:atE o l cs=0){p:Pa}(hp:p∈(atO o l cs).ps):∃q∈o.ps,q.g=p.g:=by
 rw[(at_ok h).2]at hp
 have hp':p∈(List.range o.ps.length).map (reA o.cs.flatten.length o.ps ((exL Pn.x Pa.dx Tu.dx o l cs).map rnN) ((exL Pn.y Pa.dy Tu.dy o l cs).map rnN)):=hp
 obtain⟨k,hk,e⟩:=List.mem_map.1 hp'
 have hk':k<o.ps.length:=List.mem_range.1 hk
 refine⟨o.ps.getD k Pa.none,?_,?_⟩
 . rw[List.getD_eq_getElem?_getD,List.getElem?_eq_getElem hk',Option.getD_some]
   exact List.getElem_mem hk'
 . rw[<-e];rfl
theorem ztl{α β:Type}:∀ {a:List (List α)} {b:List (List β)},a.map List.length=b.map List.length->a.flatten.length=b.flatten.length:=by
 intro a
 induction a with
 | nil =>
  intro b h
  cases b with
  | nil=>rfl
  | cons x b=>simp at h
 | cons x a ih =>
  intro b h
  cases b with
  | nil=>simp at h
  | cons y b =>
   simp only[List.map_cons,List.cons.injEq]at h
   show(x++a.flatten).length=(y++b.flatten).length
   rw[List.length_append,List.length_append,h.1,ih h.2]
theorem z0s(o:Ol)(nx ny:LI):(reO o nx ny).cs.flatten.length=o.cs.flatten.length:=by
 refine ztl ?_
 show((List.range o.cs.length).map (reC o.cs nx ny)).map List.length=o.cs.map List.length
 refine List.ext_getElem (by simp) (fun i h1 h2=>?_)
 have hi:i<o.cs.length:=by simpa using h2
 simp[reC,List.getD,hi]
theorem at_flat{o:Ol}{l:List Tu}{cs:LI}(h:atE o l cs=0):(atO o l cs).cs.flatten.length=o.cs.flatten.length:=by
 rw[(at_ok h).2]
 exact z0s _ _ _
theorem zoi{l:List Gl}{cs:LI}:∀ {d m:Nat} {g:Int},dq l d g=some d->d<=m->flG l cs m g=flG l cs d g:=by
 intro d
 induction d using Nat.strongRecOn with
 | ind d ih =>
  intro m g h hm
  obtain⟨x,h1,h2⟩:=zbg.1 h
  rw[zfi h1,zfi h1]
  unfold flX
  by_cases he:atE x.o x.ts cs=0
  . rw[if_pos he,if_pos he]
    rw[zkz (f:=flf l cs m) (f':=flf l cs d) (fun p hp=>?_)]
    obtain⟨q,hq,e⟩:=at_parts he hp
    obtain⟨k,h3,h4⟩:=ze8 h h1 q hq
    rw[e]at h3
    obtain⟨d',rfl⟩:∃k,d=k+1:=⟨d-1,by omega⟩
    obtain⟨m',rfl⟩:∃k,m=k+1:=⟨m-1,by omega⟩
    show flG l cs m' p.g=flG l cs d' p.g
    have k1:flG l cs m' p.g=flG l cs k p.g:=ih k h4 h3 (by omega)
    have k2:flG l cs d' p.g=flG l cs k p.g:=ih k h4 h3 (by omega)
    rw[k1,k2]
  . rw[if_neg he,if_neg he]
theorem zog{f:Int->Fl}{s:Int->Nat}:∀ {ps:List Pa},(∀p∈ps,(f p.g).2=0->(f p.g).1.flatten.length=s p.g)->(flP f ps).2=0->(flP f ps).1.flatten.length=sqs s ps:=by
 intro ps
 induction ps with
 | nil=>intro _ _;rfl
 | cons p ps ih =>
  intro hm h
  rw[flP]at h ⊢
  by_cases h1:(f p.g).2=0
  . rw[if_pos h1]at h ⊢
    by_cases h2:(flP f ps).2=0
    . rw[if_pos h2]
      show(mvC p.dx p.dy (f p.g).1++(flP f ps).1).flatten.length=_
      rw[List.flatten_append,List.length_append,zwr,hm p (by simp) h1,ih (fun q hq=>hm q (by simp[hq])) h2,sqs]
    . rw[if_neg h2]at h;exact absurd h h2
  . rw[if_neg h1]at h;exact absurd h h1
theorem zyo{f:Int->Nat}:∀ {a b:List Pa},a.map Pa.g=b.map Pa.g->sqs f a=sqs f b:=by
 intro a
 induction a with
 | nil =>
  intro b h
  cases b with
  | nil=>rfl
  | cons x b=>simp at h
 | cons x a ih =>
  intro b h
  cases b with
  | nil=>simp at h
  | cons y b =>
   simp only[List.map_cons,List.cons.injEq]at h
   rw[sqs,sqs,h.1,ih h.2]
theorem at_gs{o:Ol}{l:List Tu}{cs:LI}(h:atE o l cs=0):(atO o l cs).ps.map Pa.g=o.ps.map Pa.g:=by
 rw[(at_ok h).2]
 show((List.range o.ps.length).map (reA _ o.ps _ _)).map Pa.g=_
 refine List.ext_getElem (by simp) (fun i h1 h2=>?_)
 have hi:i<o.ps.length:=by simpa using h2
 simp[reA,List.getD,hi]
theorem zxs{l:List Gl}{cs:LI}:∀ {n:Nat} {g:Int},(flG l cs n g).2=0->(flG l cs n g).1.flatten.length=sq l n g:=by
 intro n
 induction n with
 | zero =>
  intro g h
  cases hx:gAt l g with
  | none=>rw[flG,hx]at h;exact absurd (show(5:Int)=0 from h) (by decide)
  | some x =>
   rw[zfi hx]at h ⊢;rw[sq_at hx]
   unfold flX at h ⊢
   by_cases he:atE x.o x.ts cs=0
   . rw[if_pos he]at h ⊢
     by_cases h2:(flP (flf l cs 0) (atO x.o x.ts cs).ps).2=0
     . rw[if_pos h2]
       show((atO x.o x.ts cs).cs++_).flatten.length=_
       rw[List.flatten_append,List.length_append,at_flat he,zog (f:=flf l cs 0) (s:=sqf l 0) (fun p _ hp=>absurd hp (by show ¬(6:Int)=0;decide)) h2,zyo (at_gs he)]
       rfl
     . rw[if_neg h2]at h;exact absurd h h2
   . rw[if_neg he]at h;exact absurd h he
 | succ n ih =>
  intro g h
  cases hx:gAt l g with
  | none=>rw[flG,hx]at h;exact absurd (show(5:Int)=0 from h) (by decide)
  | some x =>
   rw[zfi hx]at h ⊢;rw[sq_at hx]
   unfold flX at h ⊢
   by_cases he:atE x.o x.ts cs=0
   . rw[if_pos he]at h ⊢
     by_cases h2:(flP (flf l cs (n+1)) (atO x.o x.ts cs).ps).2=0
     . rw[if_pos h2]
       show((atO x.o x.ts cs).cs++_).flatten.length=_
       rw[List.flatten_append,List.length_append,at_flat he,zog (f:=flf l cs (n+1)) (s:=sqf l (n+1)) (fun p _ hp=>ih hp) h2,zyo (at_gs he)]
       rfl
     . rw[if_neg h2]at h;exact absurd h h2
   . rw[if_neg he]at h;exact absurd h he
def glE(l:List Gl)(g:Int)(cs:LI):Int:=if (gAt l g).isNone then 5 else if (dq l 6 g).isNone then 6 else if 2000<szG l g then 3 else (flG l cs 6 g).2
def glC(l:List Gl)(g:Int)(cs:LI):List (List Pn):=if glE l g cs=0 then (flG l cs 6 g).1 else []
theorem zzj{l:List Gl}{n:Nat}{g:Int}{d:Nat}(h:dq l n g=some d):(gAt l g).isNone=false:=by
 obtain⟨x,h1,_⟩:=zbg.1 h
 rw[h1]
 rfl
theorem zxe{l:List Gl}{g:Int}{d:Nat}{cs:LI}(h:dq l 6 g=some d)(hs:szG l g<=2000):glE l g cs=(flG l cs 6 g).2/\glC l g cs=(flG l cs 6 g).1:=by
 have e:glE l g cs=(flG l cs 6 g).2:=by
  unfold glE
  rw[zzj h,h,if_neg (by decide),if_neg (by simp),if_neg (by omega)]
 refine⟨e,?_⟩
 unfold glC
 rw[e]
 by_cases h0:(flG l cs 6 g).2=0
 . rw[if_pos h0]
 . rw[if_neg h0,ztp h0]
theorem zxf{l:List Gl}{g:Int}{cs:LI}(h:gAt l g=none):glE l g cs=5/\glC l g cs=[]:=by
 have e:glE l g cs=5:=by unfold glE;rw[h];rfl
 exact⟨e,by unfold glC;rw[e];rfl⟩
theorem zxh{l:List Gl}{g:Int}{x:Gl}{cs:LI}(hx:gAt l g=some x)(h:dq l 6 g=none):glE l g cs=6/\glC l g cs=[]:=by
 have e:glE l g cs=6:=by unfold glE;rw[hx,h];rfl
 exact⟨e,by unfold glC;rw[e];rfl⟩
theorem zxg{l:List Gl}{g:Int}{d:Nat}{cs:LI}(h:dq l 6 g=some d)(hs:2000<szG l g):glE l g cs=3/\glC l g cs=[]:=by
 have e:glE l g cs=3:=by
  unfold glE
  rw[zzj h,h,if_neg (by decide),if_neg (by simp),if_pos hs]
 exact⟨e,by unfold glC;rw[e];rfl⟩
def teE(t:Te):LN:=be2 t.st++(be2 t.pk++be2 t.en)
def tesE:List Te->LN
 | []=>[]
 | t::l=>teE t++tesE l
theorem zgg(l m:List Te):tesE (l++m)=tesE l++tesE m:=by
 induction l with
 | nil=>rfl
 | cons t l ih=>rw[List.cons_append,tesE,tesE,ih,List.append_assoc]
theorem zz8(t:Te):(teE t).length=6:=rfl
theorem zcr(l:List Te):(tesE l).length=6*l.length:=by
 induction l with
 | nil=>rfl
 | cons t l ih=>rw[tesE,List.length_append,ih,zz8,List.length_cons];omega
def teAt(b:LN)(p:Nat):Te:=⟨sx16 (nmV b (p:Int) 2),sx16 (nmV b ((p+2:Nat):Int) 2),sx16 (nmV b ((p+4:Nat):Int) 2)⟩
def tesAt(b:LN)(p n:Nat):List Te:=(List.range n).map (fun i=>teAt b (p+6*i))
theorem za5(b:LN)(p n:Nat):(tesAt b p n).length=n:=by simp[tesAt]
theorem zo9(b:LN)(p n:Nat):tesAt b p (n+1)=tesAt b p n++[teAt b (p+6*n)]:=by simp[tesAt,List.range_succ]
theorem zvc{b A Z:LN}{p:Nat}{t:Te}(hb:b=A++(teE t++Z))(hp:A.length=p)(h:tfB t=true):teAt b p=t:=by
 have hf:=zd3.1 h
 unfold TfT at hf
 have b1:b=A++(be2 t.st++(be2 t.pk++(be2 t.en++Z))):=by rw[hb,teE];simp only[List.append_assoc]
 have b2:b=(A++be2 t.st)++(be2 t.pk++(be2 t.en++Z)):=by rw[b1];simp only[List.append_assoc]
 have b3:b=(A++be2 t.st++be2 t.pk)++(be2 t.en++Z):=by rw[b1];simp only[List.append_assoc]
 have v1:=zbm (q:=p) (n:=2) b1 hp rfl
 have v2:=zbm (q:=p+2) (n:=2) b2 (by rw[List.length_append,be2L,hp]) rfl
 have v3:=zbm (q:=p+4) (n:=2) b3 (by rw[List.length_append,List.length_append,be2L,be2L,hp]) rfl
 obtain⟨st,pk,en⟩:=t
 dsimp only at *
 rw[teAt,v1,v2,v3,zec (by omega) (by omega),zec (by omega) (by omega),zec (by omega) (by omega)]
theorem zq6{b:LN}:∀ {l:List Te} {A Z:LN} {p:Nat},b=A++(tesE l++Z)->A.length=p->l.all tfB=true->tesAt b p l.length=l:=by
 intro l A Z p hb hp hl
 apply List.ext_getElem
 . simp[tesAt]
 . intro i h1 h2
   simp only[tesAt,List.getElem_map,List.getElem_range]
   have es:l=l.take i++l[i]::l.drop (i+1):=by simp
   have hi:(l.take i).length=i:=by simp;omega
   refine zvc (A:=A++tesE (l.take i)) (Z:=tesE (l.drop (i+1))++Z) ?_ (by rw[List.length_append,zcr,hi,hp]) (List.all_eq_true.1 hl _ (List.getElem_mem h2))
   have e2:tesE l=tesE (l.take i)++(teE l[i]++tesE (l.drop (i+1))):=by
    conv=>lhs;rw[es,zgg,tesE]
   rw[hb,e2]
   simp only[List.append_assoc]
structure Fit(P:Pk)(R:Rp)(D:Int->Prop):Prop where
 hM:0<P.M
 eM:R.M=P.M
 top:∀x,D x->P.M*P.c x+P.M<=R.top/\P.M*P.c x+P.M<=256
 sz:∀x,D x->(P.en (P.c x) x).length=R.sz (P.c x)
 vl:∀b A Z x,D x->b=A++(P.en (P.c x) x++Z)->R.vl b (P.c x) A.length=x
 by':∀x,D x->Byt (P.en (P.c x) x)
theorem zvl{l:LI}(i:Nat)(h:i<l.length):l=l.take i++l[i]::l.drop (i+1):=by
 rw[<-List.drop_eq_getElem_cons h,List.take_append_drop]
theorem zjn{P:Pk}{R:Rp}{D:Int->Prop}(hf:Fit P R D){kd:Nat}:∀ {m:LI},(∀x∈m,D x/\P.c x=kd)->(m.flatMap (P.en kd)).length=m.length*R.sz kd:=by
 intro m
 induction m with
 | nil=>intro _;simp
 | cons x t ih =>
  intro h
  obtain⟨h1,h2⟩:=h x (by simp)
  have:=hf.sz x h1
  rw[h2]at this
  rw[List.flatMap_cons,List.length_append,this,ih (fun y hy=>h y (by simp[hy])),List.length_cons,Nat.add_mul]
  omega
theorem zda{P:Pk}{l:LI}:∀x∈l.take (rn P.c P.M l),P.c x=P.c (l.getD 0 0):=by
 intro x hx
 obtain⟨i,hi,e⟩:=List.getElem_of_mem hx
 have h1:i<rn P.c P.M l:=by rw[List.length_take]at hi;omega
 have h2:=zrm h1
 rw[<-e];rw[List.length_take]at hi
 have h3:l.getD i 0=(l.take (rn P.c P.M l))[i]:=by simp[List.getD,show i<l.length by omega]
 rw[<-h3]
 exact h2
theorem zpt{M c k:Nat}(h1:1<=k)(h2:k<=M):(M*c+k-1)%M=k-1/\(M*c+k-1)/M=c:=by
 have e:M*c+k-1=(k-1)+M*c:=by omega
 rw[e,Nat.add_mul_mod_self_left,Nat.mod_eq_of_lt (by omega),Nat.add_mul_div_left _ _ (by omega),Nat.div_eq_of_lt (by omega)]
 exact⟨rfl,by omega⟩
theorem byt_pk{P:Pk}{R:Rp}{D:Int->Prop}(hf:Fit P R D):∀(n:Nat) (l:LI),l.length=n->(∀x∈l,D x)->Byt (pk P l):=by
 intro n
 induction n using Nat.strongRecOn with
 | ind n ih =>
  intro l hn hD
  by_cases hl:l=[]
  . subst hl;exact Byt.nil
  have h1:=zee (c:=P.c) hf.hM hl
  obtain⟨h2,h3⟩:=rn_le (c:=P.c) (M:=P.M) l
  have hx0:l.getD 0 0∈l:=by
   have:0<l.length:=List.length_pos_iff.2 hl
   rw[List.getD_eq_getElem?_getD,List.getElem?_eq_getElem this]
   exact List.getElem_mem this
  rw[ziu P hf.hM hl]
  refine Byt.append (fun y hy=>?_) (Byt.append (fun y hy=>?_) (ih (l.length-rn P.c P.M l) (by omega) _ (by rw[List.length_drop]) (fun x hx=>hD x (List.mem_of_mem_drop hx))))
  . rw[List.mem_singleton]at hy
    have:=(hf.top _ (hD _ hx0)).2
    omega
  . obtain⟨x,hx,hy⟩:=List.mem_flatMap.1 hy
    have hc:=zda (P:=P) x hx
    rw[<-hc]at hy
    exact hf.by' x (hD x (List.mem_of_mem_take hx)) y hy
theorem rd_pk{P:Pk}{R:Rp}{D:Int->Prop}(hf:Fit P R D):∀(n:Nat) (l:LI) (A Z:LN) (f:Nat),l.length=n->(∀x∈l,D x)->l.length<=f->rdF R (A++(pk P l++Z)) f A.length l.length=some (l,A.length+(pk P l).length):=by
 intro n
 induction n using Nat.strongRecOn with
 | ind n ih =>
  intro l A Z f hn hD hfu
  by_cases hl:l=[]
  . subst hl;rw[List.length_nil,zbl];rfl
  have zfy:0<l.length:=List.length_pos_iff.2 hl
  have h1:=zee (c:=P.c) hf.hM hl
  obtain⟨h2,h3⟩:=rn_le (c:=P.c) (M:=P.M) l
  have hx0:l.getD 0 0∈l:=by
   rw[List.getD_eq_getElem?_getD,List.getElem?_eq_getElem zfy]
   exact List.getElem_mem zfy
  have zkr:=zda (P:=P) (l:=l)
  have hpk:=ziu P hf.hM hl
  obtain⟨t1,t2⟩:=hf.top _ (hD _ hx0)
  obtain⟨k,hk⟩:∃k,rn P.c P.M l=k:=⟨_,rfl⟩
  obtain⟨c0,hc0⟩:∃c,P.c (l.getD 0 0)=c:=⟨_,rfl⟩
  rw[hk]at h1 h2 h3 zkr hpk;rw[hc0]at zkr hpk t1 t2
  obtain⟨q1,q2⟩:=zpt (c:=c0) h1 h3
  have hbl:=zjn hf (m:=l.take k) (fun x hx=>⟨hD x (List.mem_of_mem_take hx),zkr x hx⟩)
  have hlt:(l.take k).length=k:=by rw[List.length_take];omega
  rw[hlt]at hbl
  obtain⟨h,hh⟩:∃h,P.M*c0+k-1=h:=⟨_,rfl⟩
  rw[hh]at hpk q1 q2
  obtain⟨body,z16⟩:∃b,(l.take k).flatMap (P.en c0)=b:=⟨_,rfl⟩
  obtain⟨rest,z4k⟩:∃b,pk P (l.drop k)=b:=⟨_,rfl⟩
  rw[z16,z4k]at hpk;rw[z16]at hbl
  obtain⟨b,hb⟩:∃b,A++(pk P l++Z)=b:=⟨_,rfl⟩
  have hb1:b=A++([h]++(body++rest++Z)):=by rw[<-hb,hpk];simp only[List.append_assoc]
  have hv:nmV b (A.length:Int) 1=h:=by
   have:=zbm (q:=A.length) (n:=1) hb1 rfl rfl
   rw[this]
   simp[V8]
  have hlen:b.length=A.length+1+body.length+rest.length+Z.length:=by rw[hb1];simp only[List.length_append,List.length_singleton];omega
  obtain⟨m,hm⟩:∃m,l.length=m+1:=⟨l.length-1,by omega⟩
  obtain⟨f,rfl⟩:∃g,f=g+1:=⟨f-1,by omega⟩
  have hd:hdB R b A.length (m+1)=true:=by
   rw[hdB,hv,hf.eM,q1,q2,show k-1+1=k by omega,<-hbl]
   exact decide_eq_true ⟨by omega,by omega,by omega,by omega⟩
  have hdl:(l.drop k).length=m+1-k:=by rw[List.length_drop];omega
  have zy3:=ih (l.drop k).length (by omega) (l.drop k) (A++([h]++body)) Z f rfl (fun x hx=>hD x (List.mem_of_mem_drop hx)) (by omega)
  rw[z4k,hdl]at zy3
  have hb2:A++([h]++body)++(rest++Z)=b:=by rw[hb1];simp
  have hal:(A++([h]++body)).length=A.length+1+k*R.sz c0:=by simp only[List.length_append,List.length_singleton];omega
  rw[hb2,hal]at zy3
  have hrun:runV R b c0 (A.length+1) k=l.take k:=by
   apply List.ext_getElem
   . rw[zbf,hlt]
   . intro i hi1 hi2
     rw[hlt]at hi2
     simp only[runV,List.getElem_map,List.getElem_range]
     have es:l.take k=(l.take k).take i++(l.take k)[i]::(l.take k).drop (i+1):=zvl _ _
     have zi3:(l.take k)[i]∈l.take k:=List.getElem_mem _
     have hxi:=zkr _ zi3
     have hti:((l.take k).take i).length=i:=by rw[List.length_take,hlt];omega
     have hbi:=zjn hf (m:=(l.take k).take i) (fun x hx=>⟨hD x (List.mem_of_mem_take (List.mem_of_mem_take hx)),zkr x (List.mem_of_mem_take hx)⟩)
     rw[hti]at hbi
     have eb:body=((l.take k).take i).flatMap (P.en c0)++(P.en c0 (l.take k)[i]++((l.take k).drop (i+1)).flatMap (P.en c0)):=by
      rw[<-z16]
      conv=>lhs;rw[es]
      rw[List.flatMap_append,List.flatMap_cons]
     have hv':=hf.vl b (A++([h]++((l.take k).take i).flatMap (P.en c0))) (((l.take k).drop (i+1)).flatMap (P.en c0)++rest++Z) (l.take k)[i] (hD _ (List.mem_of_mem_take zi3)) (by rw[hxi,hb1,eb];simp only[List.append_assoc])
     rw[hxi]at hv'
     have e9:(A++([h]++((l.take k).take i).flatMap (P.en c0))).length=A.length+1+i*R.sz c0:=by simp only[List.length_append,List.length_singleton];omega
     rw[e9]at hv'
     exact hv'
  have zau:(pk P l).length=1+body.length+rest.length:=by rw[hpk];simp only[List.length_append,List.length_singleton];omega
  rw[hb,hm,rdF,if_pos hd,hv,hf.eM,q1,q2,show k-1+1=k by omega,zy3]
  dsimp only
  rw[hrun,List.take_append_drop,zau,hbl]
  congr 2
  omega
theorem zsb{P:Pk}{R:Rp}{D:Int->Prop}(hf:Fit P R D){l:LI}(hD:∀x∈l,D x)(A Z:LN){f:Nat}(hfu:l.length<=f):rdF R (A++(pk P l++Z)) f A.length l.length=some (l,A.length+(pk P l).length):=rd_pk hf _ l A Z f rfl hD hfu
theorem zit{P:Pk}{R:Rp}{D:Int->Prop}(hf:Fit P R D){m:Nat}(hm:∀x,D x->R.sz (P.c x)+1<=m):∀(n:Nat) (l:LI),l.length=n->(∀x∈l,D x)->(pk P l).length<=m*l.length:=by
 intro n
 induction n using Nat.strongRecOn with
 | ind n ih =>
  intro l hn hD
  by_cases hl:l=[]
  . subst hl;exact Nat.zero_le _
  have zfy:0<l.length:=List.length_pos_iff.2 hl
  have h1:=zee (c:=P.c) hf.hM hl
  obtain⟨h2,h3⟩:=rn_le (c:=P.c) (M:=P.M) l
  have hx0:l.getD 0 0∈l:=by
   rw[List.getD_eq_getElem?_getD,List.getElem?_eq_getElem zfy]
   exact List.getElem_mem zfy
  have zy3:=ih (l.drop (rn P.c P.M l)).length (by rw[List.length_drop];omega) _ rfl (fun x hx=>hD x (List.mem_of_mem_drop hx))
  have hbl:=zjn hf (m:=l.take (rn P.c P.M l)) (fun x hx=>⟨hD x (List.mem_of_mem_take hx),zda x hx⟩)
  have hs:=hm _ (hD _ hx0)
  have hlt:(l.take (rn P.c P.M l)).length=rn P.c P.M l:=by rw[List.length_take];omega
  rw[hlt]at hbl;rw[List.length_drop]at zy3;rw[ziu P hf.hM hl]
  simp only[List.length_append,List.length_singleton]
  rw[hbl]
  generalize rn P.c P.M l=k at *
  have e:l.length=k+(l.length-k):=by omega
  rw[e,Nat.mul_add]
  have h5:1+k*R.sz (P.c (l.getD 0 0))<=m*k:=by
   have:k*(R.sz (P.c (l.getD 0 0))+1)<=k*m:=Nat.mul_le_mul_left k hs
   rw[Nat.mul_add,Nat.mul_one,Nat.mul_comm k m]at this
   omega
  omega
theorem z5t{z:Int}(h1:0<=z)(h2:z<=255):((V8 (be1 z):Nat):Int)=z:=by
 simp only[be1,V8,List.foldl_cons,List.foldl_nil]
 omega
theorem zur{z:Int}(h1:0<=z)(h2:z<=65535):((V8 (be2 z):Nat):Int)=z:=by
 simp only[be2,V8,List.foldl_cons,List.foldl_nil]
 omega
def sx8(v:Nat):Int:=if 128<=v then (v:Int)-256 else v
theorem z3x{z:Int}(h1:-128<=z)(h2:z<=127):sx8 (V8 (be1 z))=z:=by
 simp only[be1,V8,List.foldl_cons,List.foldl_nil]
 unfold sx8
 split <;> omega
def kdC(n:Int):Nat:=if n=0 then 2 else if n < -128\/127<n then 1 else 0
def enC(kd:Nat)(n:Int):LN:=if kd=0 then be1 n else if kd=1 then be2 n else []
def PC:Pk:=⟨kdC,64,enC⟩
def szC(kd:Nat):Nat:=if kd=0 then 1 else if kd=1 then 2 else 0
def vlC(b:LN)(kd p:Nat):Int:=if kd=0 then sx8 (nmV b (p:Int) 1)else if kd=1 then sx16 (nmV b (p:Int) 2)else 0
def RC:Rp:=⟨64,192,szC,vlC⟩
def DC(x:Int):Prop:=-32768<=x/\x<=32767
theorem zbz(x:Int):(x=0/\kdC x=2)\/(x≠0/\(x < -128\/127<x)/\kdC x=1)\/(x≠0/\(-128<=x/\x<=127)/\kdC x=0):=by
 unfold kdC
 by_cases h0:x=0
 . exact .inl ⟨h0,if_pos h0⟩
 . by_cases h1:x < -128\/127<x
   . exact .inr (.inl ⟨h0,h1,by rw[if_neg h0,if_pos h1]⟩)
   . exact .inr (.inr ⟨h0,by omega,by rw[if_neg h0,if_neg h1]⟩)
theorem fitC:Fit PC RC DC where
 hM:=by decide
 eM:=rfl
 top:=fun x _=>by
  have:kdC x<=2:=by rcases zbz x with h | h | h <;> omega
  show 64*kdC x+64<=192/\64*kdC x+64<=256
  omega
 sz:=fun x _=>by
  show(enC (kdC x) x).length=szC (kdC x)
  rcases zbz x with h|h|h
  . rw[h.2];rfl
  . rw[h.2.2];rfl
  . rw[h.2.2];rfl
 vl:=fun b A Z x hx hb=>by
  change b=A++(enC (kdC x) x++Z)at hb
  show vlC b (kdC x) A.length=x
  rcases zbz x with h|h|h
  . rw[h.2,h.1];rfl
  . rw[h.2.2]at hb ⊢
    have:=zbm (q:=A.length) (n:=2) (X:=be2 x) hb rfl rfl
    show sx16 (nmV b (A.length:Int) 2)=x
    rw[this]
    exact zec hx.1 hx.2
  . rw[h.2.2]at hb ⊢
    have:=zbm (q:=A.length) (n:=1) (X:=be1 x) hb rfl rfl
    show sx8 (nmV b (A.length:Int) 1)=x
    rw[this]
    exact z3x h.2.1.1 h.2.1.2
 by':=fun x _=>by
  show Byt (enC (kdC x) x)
  rcases zbz x with h|h|h
  . rw[h.2];exact Byt.nil
  . rw[h.2.2];exact zck _
  . rw[h.2.2];exact zmu _
def chB(l:LI):Bool:=l.all (fun z=>decide (-32768<=z/\z<=32767))&&decide (l.length<=2000)
theorem zdk{l:LI}:chB l=true↔(∀z∈l,DC z)/\l.length<=2000:=by
 unfold chB DC
 simp only[Bool.and_eq_true,List.all_eq_true,decide_eq_true_iff]
def pcB(l:LI):LN:=if chB l then pk PC l else []
def pcE(l:LI):Int:=if chB l then 0 else 1
def rcO(b:LN)(n:Int):Option (LI×Nat):=if 0<=n/\n<=2000 then rdF RC b n.toNat 0 n.toNat else none
def rcL(b:LN)(n:Int):LI:=match rcO b n with | some p=>p.1 | none=>[]
def rcN(b:LN)(n:Int):Int:=match rcO b n with | some p=>(p.2:Int) | none=>0
def rcE(b:LN)(n:Int):Int:=match rcO b n with | some _=>0 | none=>if 0<=n/\n<=2000 then 2 else 4
theorem zr6{l:LI}(h:chB l=true)(Z:LN):rcO (pcB l++Z) (l.length:Int)=some (l,(pcB l).length):=by
 obtain⟨h1,h2⟩:=zdk.1 h
 rw[rcO,if_pos (by omega),Int.toNat_natCast,pcB,if_pos h]
 have:=zsb fitC h1 [] Z (f:=l.length) (Nat.le_refl _)
 simpa using this
theorem zeg{l:LI}(h:chB l=true):(pcB l).length<=3*l.length:=by
 rw[pcB,if_pos h]
 exact zit fitC (m:=3) (fun x _=>by show szC (kdC x)+1<=3;unfold szC;split <;> (try split) <;> omega) _ l rfl (zdk.1 h).1
def kdP(n:Int):Nat:=if 255<n then 1 else 0
def enP(kd:Nat)(n:Int):LN:=if kd=0 then be1 n else be2 n
def PP:Pk:=⟨kdP,128,enP⟩
def szP(kd:Nat):Nat:=if kd=0 then 1 else 2
def vlP(b:LN)(kd p:Nat):Int:=if kd=0 then ((nmV b (p:Int) 1:Nat):Int)else ((nmV b (p:Int) 2:Nat):Int)
def RPt:Rp:=⟨128,256,szP,vlP⟩
def DP(x:Int):Prop:=0<=x/\x<=65535
theorem zby(x:Int):(255<x/\kdP x=1)\/(x<=255/\kdP x=0):=by
 unfold kdP
 by_cases h:255<x
 . exact .inl ⟨h,if_pos h⟩
 . exact .inr ⟨by omega,if_neg h⟩
theorem fitP:Fit PP RPt DP where
 hM:=by decide
 eM:=rfl
 top:=fun x _=>by
  have:kdP x<=1:=by rcases zby x with h | h <;> omega
  show 128*kdP x+128<=256/\128*kdP x+128<=256
  omega
 sz:=fun x _=>by
  show(enP (kdP x) x).length=szP (kdP x)
  rcases zby x with h|h <;> rw[h.2] <;> rfl
 vl:=fun b A Z x hx hb=>by
  change b=A++(enP (kdP x) x++Z)at hb
  show vlP b (kdP x) A.length=x
  rcases zby x with h|h
  . rw[h.2]at hb ⊢
    have:=zbm (q:=A.length) (n:=2) (X:=be2 x) hb rfl rfl
    show((nmV b (A.length:Int) 2:Nat):Int)=x
    rw[this]
    exact zur hx.1 hx.2
  . rw[h.2]at hb ⊢
    have:=zbm (q:=A.length) (n:=1) (X:=be1 x) hb rfl rfl
    show((nmV b (A.length:Int) 1:Nat):Int)=x
    rw[this]
    exact z5t hx.1 h.1
 by':=fun x _=>by
  show Byt (enP (kdP x) x)
  rcases zby x with h|h <;> rw[h.2]
  . exact zck _
  . exact zmu _
def stps(a:Int):LI->LI
 | []=>[]
 | x::t=>(x-a)::stps x t
def sums(a:Int):LI->LI
 | []=>[]
 | d::t=>(a+d)::sums (a+d) t
theorem zb3(a:Int)(l:LI):(stps a l).length=l.length:=by
 induction l generalizing a with
 | nil=>rfl
 | cons x t ih=>rw[stps,List.length_cons,ih,List.length_cons]
theorem zm7(a:Int)(l:LI):(sums a l).length=l.length:=by
 induction l generalizing a with
 | nil=>rfl
 | cons x t ih=>rw[sums,List.length_cons,ih,List.length_cons]
theorem zq8(a:Int)(l:LI):sums a (stps a l)=l:=by
 induction l generalizing a with
 | nil=>rfl
 | cons x t ih=>rw[stps,sums,show a+(x-a)=x by omega,ih]
def lastS(a:Int):LI->Int
 | []=>a
 | d::t=>lastS (a+d) t
theorem zli(a:Int)(d e:LI):sums a (d++e)=sums a d++sums (lastS a d) e:=by
 induction d generalizing a with
 | nil=>rfl
 | cons x t ih=>rw[List.cons_append,sums,sums,ih,List.cons_append];rfl
theorem zkn(a:Int)(d e:LI):lastS a (d++e)=lastS (lastS a d) e:=by
 induction d generalizing a with
 | nil=>rfl
 | cons x t ih=>rw[List.cons_append,lastS,lastS,ih]
def ptF(a:Int):LI->Bool
 | []=>true
 | x::t=>decide (a<x/\x<=65535)&&ptF x t
def ptB(l:LI):Bool:=ptF (-1) l&&decide (l.length<=2000)
theorem zr9:∀(l:LI) (a:Int),-1<=a->ptF a l=true->∀z∈stps (max a 0) l,DP z:=by
 intro l
 induction l with
 | nil=>intro a _ _ z hz;cases hz
 | cons x t ih =>
  intro a ha h z hz
  rw[ptF,Bool.and_eq_true,decide_eq_true_iff]at h;rw[stps]at hz
  rcases List.mem_cons.1 hz with hz|hz
  . rw[hz]
    unfold DP
    omega
  . have:=ih x (by omega) h.2 z
    rw[show max x 0=x by omega]at this
    exact this hz
theorem zdf{l:LI}(h:ptB l=true):(∀z∈stps 0 l,DP z)/\l.length<=2000:=by
 unfold ptB at h
 rw[Bool.and_eq_true,decide_eq_true_iff]at h
 have:=zr9 l (-1) (by omega) h.1
 rw[show max (-1:Int) 0=0 by omega]at this
 exact⟨this,h.2⟩
def cnE(n:Nat):LN:=if n<128 then [n]else [128+n/256,n%256]
def ppB(l:LI):LN:=if ptB l then cnE l.length++pk PP (stps 0 l)else []
def ppE(l:LI):Int:=if ptB l then 0 else 1
def ptN(b:LN):Nat:=if 128<=nmV b 0 1 then (nmV b 0 1-128)*256+nmV b 1 1 else nmV b 0 1
def ptA(b:LN):Nat:=if 128<=nmV b 0 1 then 2 else 1
def ptO(b:LN):Bool:=decide (ptA b<=b.length)
def rpO(b:LN):Option (LI×Nat):=if ptO b then (match rdF RPt b (ptN b) (ptA b) (ptN b)with | some p=>if ptB (sums 0 p.1)then some (sums 0 p.1,p.2)else none | none=>none)else none
def rpL(b:LN):LI:=match rpO b with | some p=>p.1 | none=>[]
def rpN(b:LN):Int:=match rpO b with | some p=>(p.2:Int) | none=>0
def rpE(b:LN):Int:=match rpO b with | some _=>0 | none=>2
theorem zx2{n:Nat}(hn:n<=2000)(Z:LN):ptN (cnE n++Z)=n/\ptA (cnE n++Z)=(cnE n).length/\ptO (cnE n++Z)=true:=by
 unfold ptN ptA ptO ptA cnE
 by_cases h:n<128
 . rw[if_pos h]
   have v:=zbm (b:=[n]++Z) (A:=[]) (X:=[n]) (Z:=Z) (q:=0) (n:=1) rfl rfl rfl
   have v':nmV ([n]++Z) 0 1=n:=by
    have e:V8 [n]=n:=by simp[V8]
    exact v.trans e
   rw[v',if_neg (by omega),if_neg (by omega)]
   refine⟨rfl,rfl,decide_eq_true (by simp)⟩
 . rw[if_neg h]
   have v:=zbm (b:=[128+n/256,n%256]++Z) (A:=[]) (X:=[128+n/256]) (Z:=[n%256]++Z) (q:=0) (n:=1) rfl rfl rfl
   have w:=zbm (b:=[128+n/256,n%256]++Z) (A:=[128+n/256]) (X:=[n%256]) (Z:=Z) (q:=1) (n:=1) rfl rfl rfl
   have v':nmV ([128+n/256,n%256]++Z) 0 1=128+n/256:=by
    have e:V8 [128+n/256]=128+n/256:=by simp[V8]
    exact v.trans e
   have w':nmV ([128+n/256,n%256]++Z) 1 1=n%256:=by
    have e:V8 [n%256]=n%256:=by simp[V8]
    exact w.trans e
   rw[v',w',if_pos (by omega),if_pos (by omega)]
   refine⟨by omega,rfl,decide_eq_true (by simp)⟩
theorem z0m{l:LI}(h:ptB l=true)(Z:LN):rpO (ppB l++Z)=some (l,(ppB l).length):=by
 obtain⟨h1,h2⟩:=zdf h
 have hr:=zsb fitP h1 (cnE l.length) Z (f:=l.length) (by rw[zb3];exact Nat.le_refl _)
 rw[zb3]at hr;rw[ppB,if_pos h,List.append_assoc,rpO]
 obtain⟨c1,c2,c3⟩:=zx2 h2 (pk PP (stps 0 l)++Z)
 rw[c1,c2,c3,if_pos rfl,hr]
 dsimp only
 rw[zq8,if_pos h,List.length_append]
