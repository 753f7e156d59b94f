import Derived.Test.YtkmcodofnckdmaaGreatZS19
set_option maxHeartbeats 4000000
set_option maxRecDepth 100000
set_option linter.unusedSimpArgs false
set_option linter.unusedVariables false
namespace Go.Proofs.YtkmcodofnckdmaaGreat
open Go.RowKit Go.Maps
theorem at_1{o:Ol}{l:List Tu}{cs:List Int}(h:foT o l (cs.length:Int)=false):atO o l cs=Ol.none/\atE o l cs=1:=by
 unfold atO atE atOk
 rw[h]
 exact⟨rfl,rfl⟩
theorem at_2{o:Ol}{l:List Tu}{cs:List Int}(h:foT o l (cs.length:Int)=true)(hx:rnB (exL Pn.x Pa.dx Tu.dx o l cs)=false):atO o l cs=Ol.none/\atE o l cs=4:=by
 unfold atO atE atOk
 rw[h,hx]
 exact⟨rfl,rfl⟩
theorem at_3{o:Ol}{l:List Tu}{cs:List Int}(h:foT o l (cs.length:Int)=true)(hx:rnB (exL Pn.x Pa.dx Tu.dx o l cs)=true)(hy:rnB (exL Pn.y Pa.dy Tu.dy o l cs)=false):atO o l cs=Ol.none/\atE o l cs=4:=by
 unfold atO atE atOk
 rw[h,hx,hy]
 exact⟨rfl,rfl⟩
theorem at_4{o:Ol}{l:List Tu}{cs:List Int}(h:foT o l (cs.length:Int)=true)(hx:rnB (exL Pn.x Pa.dx Tu.dx o l cs)=true)(hy:rnB (exL Pn.y Pa.dy Tu.dy o l cs)=true):atO o l cs=reO o ((exL Pn.x Pa.dx Tu.dx o l cs).map rnN) ((exL Pn.y Pa.dy Tu.dy o l cs).map rnN)/\atE o l cs=0:=by
 unfold atO atE atOk
 rw[h,hx,hy]
 exact⟨rfl,rfl⟩
theorem rn_no{qs:List Rat}(h:rnB qs=false):rnL qs=[]/\rnE qs=4:=by unfold rnL rnE;rw[h];exact⟨rfl,rfl⟩
theorem zmh{qs:List Rat}(h:rnB qs=true):rnL qs=qs.map rnN/\rnE qs=0:=by unfold rnL rnE;rw[h];exact⟨rfl,rfl⟩
theorem zsf(S:Nat->Prop)(a:Option Addr)(ca:Nat)(b:Option Addr)(cb:Nat)(o:Ol)(S2:Nat->Prop)(la:Option Addr)(lc:Nat)(l:List Tu)(ga:Option Addr)(gc:Nat)(cs:List Int)(w:World)(hc:Gr PnE.row S w a ca o.cs)(hp:Gr PaE S w b cb o.ps)(hl:Gr TuE S2 w la lc l)(hg:Ri w ga gc cs) :
 Calls Tryz.prog 71 #[.agg #[.slice a o.cs.length ca,.slice b o.ps.length cb],.slice la l.length lc,.slice ga cs.length gc] w fun e w'=>∃a1 c1 a2 c2,e=.returned (.tuple #[.agg #[.slice a1 (atO o l cs).cs.length c1,.slice a2 (atO o l cs).ps.length c2],.int .i64 (atE o l cs)])/\∃L:List (Nat×List Pn),Gw PkE 63 w.heap.size (fun k=>w.heap.size<=k) w' (.slice a1 (atO o l cs).cs.length c1) L/\L.map Prod.snd=(atO o l cs).cs/\(L.map Prod.fst).Nodup/\Gw PaE 54 w.heap.size (fun _=>False) w' (.slice a2 (atO o l cs).ps.length c2) (atO o l cs).ps/\Below w.heap.size w w':=by
 obtain⟨W,hW,X1,X6,hbW⟩:∃W,W=(w.alloc (.cells #[.slice a o.cs.length ca,.slice b o.ps.length cb] 57)).alloc (.cells #[.slice none 0 0,.slice none 0 0] 57)/\Bk 57 W w.heap.size [.slice a o.cs.length ca,.slice b o.ps.length cb]/\Bk 57 W (w.heap.size+1) [.slice none 0 0,.slice none 0 0]/\Below w.heap.size w W :=
  ⟨_,rfl,(Bk.new _ _ [.slice a o.cs.length ca,.slice b o.ps.length cb]).below (al1 _),Bk.new1 _ _ _ [.slice none 0 0,.slice none 0 0],bl2 _ _⟩
 replace hc:=hc.below hbW;replace hp:=hp.below hbW;replace hl:=hl.below hbW;replace hg:=hg.below hbW;obtain⟨p0,p1,_⟩:=X1.two
 have hex:=znt S a ca b cb o S2 la lc l ga gc cs W hc hp hl hg
 have HNO:Hid (∀(E:Int) (U:World),atO o l cs=Ol.none/\atE o l cs=E->Bk 57 U (w.heap.size+1) [.slice none 0 0,.slice none 0 0]->Below w.heap.size w U->∃a1 c1 a2 c2,(Ending.returned (.tuple #[.agg #[.slice none 0 0,.slice none 0 0],.int .i64 E]))=.returned (.tuple #[.agg #[.slice a1 (atO o l cs).cs.length c1,.slice a2 (atO o l cs).ps.length c2],.int .i64 (atE o l cs)])/\∃L:List (Nat×List Pn),Gw PkE 63 w.heap.size (fun k=>w.heap.size<=k) ((U.setCell ⟨w.heap.size+1,0,none⟩ (.slice none 0 0)).setCell ⟨w.heap.size+1,1,none⟩ (.slice none 0 0)) (.slice a1 (atO o l cs).cs.length c1) L/\L.map Prod.snd=(atO o l cs).cs/\(L.map Prod.fst).Nodup/\Gw PaE 54 w.heap.size (fun _=>False) ((U.setCell ⟨w.heap.size+1,0,none⟩ (.slice none 0 0)).setCell ⟨w.heap.size+1,1,none⟩ (.slice none 0 0)) (.slice a2 (atO o l cs).ps.length c2) (atO o l cs).ps/\Below w.heap.size w ((U.setCell ⟨w.heap.size+1,0,none⟩ (.slice none 0 0)).setCell ⟨w.heap.size+1,1,none⟩ (.slice none 0 0))):=by
  intro E U h hX hb
  rw[h.1,h.2]
  exact⟨none,0,none,0,rfl,[],Gw.nil _ _ _ _ _,rfl,List.nodup_nil,Gw.nil _ _ _ _ _,(hb.setCell (p:=⟨w.heap.size+1,0,none⟩) (by show _<=w.heap.size+1;omega) _).setCell (p:=⟨w.heap.size+1,1,none⟩) (by show _<=w.heap.size+1;omega) _⟩
 have HGO:Hid (atO o l cs=reO o ((exL Pn.x Pa.dx Tu.dx o l cs).map rnN) ((exL Pn.y Pa.dy Tu.dy o l cs).map rnN)/\atE o l cs=0->∀(U:World) a1 c1 a2 c2 (L:List (Nat×List Pn)),Gw PkE 63 w.heap.size (fun k=>w.heap.size<=k) U (.slice a1 (reO o ((exL Pn.x Pa.dx Tu.dx o l cs).map rnN) ((exL Pn.y Pa.dy Tu.dy o l cs).map rnN)).cs.length c1) L->L.map Prod.snd=(reO o ((exL Pn.x Pa.dx Tu.dx o l cs).map rnN) ((exL Pn.y Pa.dy Tu.dy o l cs).map rnN)).cs->(L.map Prod.fst).Nodup->Gw PaE 54 w.heap.size (fun _=>False) U (.slice a2 (reO o ((exL Pn.x Pa.dx Tu.dx o l cs).map rnN) ((exL Pn.y Pa.dy Tu.dy o l cs).map rnN)).ps.length c2) (reO o ((exL Pn.x Pa.dx Tu.dx o l cs).map rnN) ((exL Pn.y Pa.dy Tu.dy o l cs).map rnN)).ps->Below w.heap.size w U->∃a1' c1' a2' c2',(Ending.returned (.tuple #[.agg #[.slice a1 (reO o ((exL Pn.x Pa.dx Tu.dx o l cs).map rnN) ((exL Pn.y Pa.dy Tu.dy o l cs).map rnN)).cs.length c1,.slice a2 (reO o ((exL Pn.x Pa.dx Tu.dx o l cs).map rnN) ((exL Pn.y Pa.dy Tu.dy o l cs).map rnN)).ps.length c2],.int .i64 0]))=.returned (.tuple #[.agg #[.slice a1' (atO o l cs).cs.length c1',.slice a2' (atO o l cs).ps.length c2'],.int .i64 (atE o l cs)])/\∃L':List (Nat×List Pn),Gw PkE 63 w.heap.size (fun k=>w.heap.size<=k) U (.slice a1' (atO o l cs).cs.length c1') L'/\L'.map Prod.snd=(atO o l cs).cs/\(L'.map Prod.fst).Nodup/\Gw PaE 54 w.heap.size (fun _=>False) U (.slice a2' (atO o l cs).ps.length c2') (atO o l cs).ps/\Below w.heap.size w U):=by
  intro h U a1 c1 a2 c2 L k1 k4 k5 k2 k3
  rw[h.1,h.2]
  exact⟨a1,c1,a2,c2,rfl,L,k1,k4,k5,k2,k3⟩
 have HFO:=fun(h:foT o l (cs.length:Int)=true)=>zcv.1 h
 cases hfo:foT o l (cs.length:Int) with
 | false =>
  rw[zfl hfo,zfl hfo,znf hfo]at hex
  have HF:Hid (_):=at_1 hfo
  clear hfo HFO HGO
  go_enter Tryz.func71,Tryz.ntmps71
  go_upto_region 1 with fail
  rw[<-hW];clear hW
  go_wp2_with fail
  refine hex.mono ?_
  rintro e m1 ⟨a1,c1,a2,c2,rfl,hz1,hz2,hb1⟩;replace X6:=X6.below hb1
  replace hbW:=hbW.trans (hb1.mono hbW.size)
  have zay:=HNO.out 1 m1 HF.out X6 hbW
  have A:=X6.set2U (.slice none 0 0) (.slice none 0 0)
  obtain⟨z0,z1,f0,f1⟩:=X6.two
  have hlt:=X6.lt
  clear hb1 hex hz1 hz2 HNO HF;go_wp2
  exact bodyPost_ret (v:=.tuple #[.agg #[.slice none 0 0,.slice none 0 0],.int .i64 1]) (by obtain⟨r0,r1,_⟩:=A.two;simp[results,Tryz.results71,go_sem,r0,r1]) rfl zay
 | true =>
 rw[zdi hfo,zdi hfo,ziv hfo]at hex
 obtain⟨hF1,hF2,hF3,hF4⟩:=HFO hfo
 have hFO:=zb5.1 hF1
 have HOL:Hid (o.cs.flatten.length<=80/\o.ps.length<=6/\o.cs.length<=10):=⟨hFO.2.2.2.2.1,hFO.2.2.1,hFO.2.1⟩
 have hcn:=zgy hF1
 have HLX:Hid ((exL Pn.x Pa.dx Tu.dx o l cs).length=cntO o):=zb1 _ _ _ _ _ _
 have HLY:Hid ((exL Pn.y Pa.dy Tu.dy o l cs).length=cntO o):=zb1 _ _ _ _ _ _
 have HA2:Hid (rnB (exL Pn.x Pa.dx Tu.dx o l cs)=false->_):=at_2 hfo
 have HA3:Hid (rnB (exL Pn.x Pa.dx Tu.dx o l cs)=true->rnB (exL Pn.y Pa.dy Tu.dy o l cs)=false->_):=at_3 hfo
 have HA4:Hid (rnB (exL Pn.x Pa.dx Tu.dx o l cs)=true->rnB (exL Pn.y Pa.dy Tu.dy o l cs)=true->_):=at_4 hfo
 clear HFO hFO hF1 hF2 hF3 hF4 hfo
 generalize exL Pn.x Pa.dx Tu.dx o l cs=EX at *
 generalize exL Pn.y Pa.dy Tu.dy o l cs=EY at *
 go_enter Tryz.func71,Tryz.ntmps71
 go_upto_region 1 with fail
 rw[<-hW];clear hW
 go_wp2_with fail
 refine hex.mono ?_
 rintro e m1 ⟨a1,c1,a2,c2,rfl,hz1,hz2,hb1⟩;replace X6:=X6.below hb1;replace X1:=X1.below hb1;replace hc:=hc.below hb1;replace hp:=hp.below hb1
 replace hbW:=hbW.trans (hb1.mono hbW.size)
 clear hb1 hex p0 p1 hl hg
 have hr1:=zff a1 c1 EX m1 hz1.1.1 (by rw[HLX.out];omega)
 cases hbx:rnB EX with
 | false =>
  rw[(rn_no hbx).1,(rn_no hbx).2]at hr1
  have HF:Hid (_):=HA2.out hbx
  clear HA2 HA3 HA4 HGO hbx
  go_wp2_with fail
  refine hr1.mono ?_
  rintro e m2 ⟨a3,c3,rfl,hri,hb1⟩;replace X6:=X6.below hb1
  replace hbW:=hbW.trans (hb1.mono hbW.size)
  have zay:=HNO.out 4 m2 HF.out X6 hbW
  have A:=X6.set2U (.slice none 0 0) (.slice none 0 0)
  obtain⟨z0,z1,f0,f1⟩:=X6.two
  have hlt:=X6.lt
  clear hb1 hr1 hz1 hz2 HNO HF;go_wp2
  exact bodyPost_ret (v:=.tuple #[.agg #[.slice none 0 0,.slice none 0 0],.int .i64 4]) (by obtain⟨r0,r1,_⟩:=A.two;simp[results,Tryz.results71,go_sem,r0,r1]) rfl zay
 | true =>
 rw[(zmh hbx).1,(zmh hbx).2]at hr1
 replace HA3:Hid (rnB EY=false->_):=HA3.out hbx
 replace HA4:Hid (rnB EY=true->_):=HA4.out hbx
 clear hbx HA2
 go_wp2_with fail
 refine hr1.mono ?_
 rintro e m2 ⟨a3,c3,rfl,hri,hb1⟩;replace X6:=X6.below hb1;replace X1:=X1.below hb1;replace hc:=hc.below hb1;replace hp:=hp.below hb1;replace hz2:=hz2.below hb1
 replace hbW:=hbW.trans (hb1.mono hbW.size)
 clear hb1 hr1 hz1
 have hr1:=zff a2 c2 EY m2 hz2.1.1 (by rw[HLY.out];omega)
 cases hby:rnB EY with
 | false =>
  rw[(rn_no hby).1,(rn_no hby).2]at hr1
  have HF:Hid (_):=HA3.out hby
  clear HA3 HA4 HGO hby
  go_wp2_with fail
  refine hr1.mono ?_
  rintro e m3 ⟨a4,c4,rfl,hri2,hb1⟩;replace X6:=X6.below hb1
  replace hbW:=hbW.trans (hb1.mono hbW.size)
  have zay:=HNO.out 4 m3 HF.out X6 hbW
  have A:=X6.set2U (.slice none 0 0) (.slice none 0 0)
  obtain⟨z0,z1,f0,f1⟩:=X6.two
  have hlt:=X6.lt
  clear hb1 hr1 hz2 HNO HF;go_wp2
  exact bodyPost_ret (v:=.tuple #[.agg #[.slice none 0 0,.slice none 0 0],.int .i64 4]) (by obtain⟨r0,r1,_⟩:=A.two;simp[results,Tryz.results71,go_sem,r0,r1]) rfl zay
 | true =>
 rw[(zmh hby).1,(zmh hby).2]at hr1
 have HG4:Hid (_):=HGO.out (HA4.out hby)
 clear hby HA3 HA4 HNO HGO
 have hl1:(EX.map rnN).length=cntO o:=by rw[List.length_map];exact HLX.out
 have hl2:(EY.map rnN).length=cntO o:=by rw[List.length_map];exact HLY.out
 have hrn:=fun a4 c4 U h1 h2 h3 h4=>zko S a ca b cb o a3 c3 (EX.map rnN) a4 c4 (EY.map rnN) U h1 h2 h3 h4 hl1 hl2 (by have:=HOL.out;omega) (by have:=HOL.out;omega) (by have:=HOL.out;omega)
 clear hl1 hl2 HLX HLY
 generalize EX.map rnN=NX at *
 generalize EY.map rnN=NY at *
 generalize reO o NX NY=ro at *
 go_wp2_with fail
 refine hr1.mono ?_
 rintro e m3 ⟨a4,c4,rfl,hri2,hb1⟩;replace X6:=X6.below hb1;replace X1:=X1.below hb1;replace hc:=hc.below hb1;replace hp:=hp.below hb1;replace hri:=hri.below hb1
 replace hbW:=hbW.trans (hb1.mono hbW.size)
 clear hb1 hr1 hz2;obtain⟨p0,p1,_⟩:=X1.two
 go_wp2_with fail
 refine(hrn a4 c4 _ hc hp hri hri2).mono ?_
 rintro e m4 ⟨a5,c5,a6,c6,rfl,L,hg1,HLS,HLN,hg2,hb1⟩
 replace HLS:Hid (L.map Prod.snd=ro.cs):=HLS
 replace HLN:Hid ((L.map Prod.fst).Nodup):=HLN
 have hsl:=X6.lt
 replace X6:=X6.below hb1
 have hsl2:=X6.lt
 obtain⟨z0,z1,f0,f1⟩:=X6.two
 have A:=X6.set2U (.slice a5 ro.cs.length c5) (.slice a6 ro.ps.length c6)
 replace hbW:=hbW.trans (hb1.mono hbW.size)
 have hU1:Gw PkE 63 w.heap.size (fun k=>w.heap.size<=k) ((m4.setCell ⟨w.heap.size+1,0,none⟩ (.slice a5 ro.cs.length c5)).setCell ⟨w.heap.size+1,1,none⟩ (.slice a6 ro.ps.length c6)) (.slice a5 ro.cs.length c5) L:=(hg1.stay (by rw[zax];exact Nat.le_refl _) (fun k hk _ hl=>⟨by omega,zad _ _ (by omega)⟩) (fun k hk=>zad _ _ (by have:=(hg1.lo hk).1;omega))).low (by omega)
 have hU2:Gw PaE 54 w.heap.size (fun _=>False) ((m4.setCell ⟨w.heap.size+1,0,none⟩ (.slice a5 ro.cs.length c5)).setCell ⟨w.heap.size+1,1,none⟩ (.slice a6 ro.ps.length c6)) (.slice a6 ro.ps.length c6) ro.ps:=(hg2.stay (by rw[zax];exact Nat.le_refl _) (fun k hk=>hk.elim) (fun k hk=>zad _ _ (by have:=(hg2.lo hk).1;omega))).low (by omega)
 have hU3:Below w.heap.size w ((m4.setCell ⟨w.heap.size+1,0,none⟩ (.slice a5 ro.cs.length c5)).setCell ⟨w.heap.size+1,1,none⟩ (.slice a6 ro.ps.length c6)):=(hbW.setCell (p:=⟨w.heap.size+1,0,none⟩) (by show _<=w.heap.size+1;omega) _).setCell (p:=⟨w.heap.size+1,1,none⟩) (by show _<=w.heap.size+1;omega) _
 have zay:=HG4.out _ a5 c5 a6 c6 L hU1 HLS.out HLN.out hU2 hU3
 clear hU1 hU2 hU3 hg1 hg2 hb1 hrn HG4 HLS HLN hri hri2 hc hp p0 p1;go_wp2
 exact bodyPost_ret (v:=.tuple #[.agg #[.slice a5 ro.cs.length c5,.slice a6 ro.ps.length c6],.int .i64 0]) (by obtain⟨r0,r1,_⟩:=A.two;simp[results,Tryz.results71,go_sem,r0,r1]) rfl zay
def mvQ(dx dy:Int)(p:Pn):Pn:=⟨p.x+dx,p.y+dy,p.on⟩
def mvC(dx dy:Int)(cs:List (List Pn)):List (List Pn):=cs.map (fun c=>c.map (mvQ dx dy))
theorem zoe(dx dy:Int)(a b:List (List Pn)):mvC dx dy (a++b)=mvC dx dy a++mvC dx dy b:=List.map_append
theorem zgj(dx dy:Int)(cs:List (List Pn)):(mvC dx dy cs).length=cs.length:=List.length_map ..
theorem zs7(dx dy:Int):∀cs:List (List Pn),(mvC dx dy cs).flatten.length=cs.flatten.length:=by
 intro cs
 induction cs with
 | nil=>rfl
 | cons c cs ih =>
  show((c.map (mvQ dx dy))++(mvC dx dy cs).flatten).length=(c++cs.flatten).length
  rw[List.length_append,List.length_append,List.length_map,ih]
abbrev Fl:=List (List Pn)×Int
def flP(f:Int->Fl):List Pa->Fl
 | []=>([],0)
 | p::ps=>if (f p.g).2=0 then (if (flP f ps).2=0 then (mvC p.dx p.dy (f p.g).1++(flP f ps).1,0)else ([],(flP f ps).2))else ([],(f p.g).2)
theorem zwh{f:Int->Fl}:∀ {ps:List Pa},(flP f ps).2≠0->flP f ps=([],(flP f ps).2):=by
 intro ps
 cases ps with
 | nil=>intro h;exact absurd rfl h
 | cons p ps =>
  intro h
  rw[flP]at h ⊢
  by_cases h1:(f p.g).2=0
  . rw[if_pos h1]at h ⊢
    by_cases h2:(flP f ps).2=0
    . rw[if_pos h2]at h;exact absurd rfl h
    . rw[if_neg h2]
  . rw[if_neg h1]
theorem zho(f:Int->Fl):∀a b:List Pa,flP f (a++b)=if (flP f a).2=0 then (if (flP f b).2=0 then ((flP f a).1++(flP f b).1,0)else ([],(flP f b).2))else ([],(flP f a).2):=by
 intro a b
 induction a with
 | nil =>
  rw[List.nil_append,flP,if_pos rfl,List.nil_append]
  by_cases h:(flP f b).2=0
  . rw[if_pos h];exact Prod.ext rfl h
  . rw[if_neg h];exact zwh h
 | cons p a ih =>
  rw[List.cons_append,flP,ih,flP]
  by_cases h1:(f p.g).2=0
  . rw[if_pos h1,if_pos h1]
    by_cases h2:(flP f a).2=0
    . rw[if_pos h2,if_pos h2]
      by_cases h3:(flP f b).2=0
      . rw[if_pos h3,if_pos rfl,if_pos rfl,if_pos h3,List.append_assoc]
      . rw[if_neg h3,if_neg h3,if_pos rfl,if_neg h3]
    . rw[if_neg h2,if_neg h2,if_neg h2,if_neg h2]
  . rw[if_neg h1,if_neg h1,if_neg h1]
theorem zwg(f:Int->Fl)(p:Pa):flP f [p]=if (f p.g).2=0 then (mvC p.dx p.dy (f p.g).1,0)else ([],(f p.g).2):=by
 rw[flP]
 by_cases h:(f p.g).2=0
 . rw[if_pos h,if_pos h,flP,if_pos rfl,List.append_nil]
 . rw[if_neg h,if_neg h]
theorem zkb{f f':Int->Fl}:∀ {ps:List Pa},(∀p∈ps,f p.g=f' p.g)->flP f ps=flP f' ps:=by
 intro ps
 induction ps with
 | nil=>intro _;rfl
 | cons p ps ih=>intro h;rw[flP,flP,h p (by simp),ih (fun q hq=>h q (by simp[hq]))]
def flX(f:Int->Fl)(x:Gl)(cs:List Int):Fl :=
 if atE x.o x.ts cs=0 then (if (flP f (atO x.o x.ts cs).ps).2=0 then ((atO x.o x.ts cs).cs++(flP f (atO x.o x.ts cs).ps).1,0)else ([],(flP f (atO x.o x.ts cs).ps).2))else ([],atE x.o x.ts cs)
def flG(l:List Gl)(cs:List Int):Nat->Int->Fl
 | 0,g=>match gAt l g with | none=>([],5) | some x=>flX (fun _=>([],6)) x cs
 | n+1,g=>match gAt l g with | none=>([],5) | some x=>flX (flG l cs n) x cs
def flf(l:List Gl)(cs:List Int):Nat->Int->Fl
 | 0=>fun _=>([],6)
 | n+1=>flG l cs n
theorem zfk{l:List Gl}{cs:List Int}{n:Nat}{g:Int}{x:Gl}(h:gAt l g=some x):flG l cs n g=flX (flf l cs n) x cs:=by
 cases n with
 | zero=>rw[flG,h];rfl
 | succ n=>rw[flG,h];rfl
theorem zwf{f:Int->Fl}{x:Gl}{cs:List Int}(h:(flX f x cs).2≠0):flX f x cs=([],(flX f x cs).2):=by
 unfold flX at h ⊢
 by_cases h1:atE x.o x.ts cs=0
 . rw[if_pos h1]at h ⊢
   by_cases h2:(flP f (atO x.o x.ts cs).ps).2=0
   . rw[if_pos h2]at h;exact absurd rfl h
   . rw[if_neg h2]
 . rw[if_neg h1]
theorem zrc{l:List Gl}{cs:List Int}{n:Nat}{g:Int}(h:(flG l cs n g).2≠0):flG l cs n g=([],(flG l cs n g).2):=by
 cases hx:gAt l g with
 | none =>
  have e:flG l cs n g=([],5):=by cases n <;> rw[flG,hx]
  rw[e]
 | some x =>
  rw[zfk hx]at h ⊢
  exact zwf h
theorem at_ok{o:Ol}{l:List Tu}{cs:List Int}(h:atE o l cs=0):foT o l (cs.length:Int)=true/\atO o l cs=reO o ((exL Pn.x Pa.dx Tu.dx o l cs).map rnN) ((exL Pn.y Pa.dy Tu.dy o l cs).map rnN):=by
 unfold atE at h
 by_cases h1:foT o l (cs.length:Int)=true
 . rw[if_pos h1]at h
   by_cases h2:atOk o l cs=true
   . refine⟨h1,?_⟩
     unfold atO
     rw[if_pos h2]
   . rw[if_neg h2]at h;exact absurd h (by decide)
 . rw[if_neg h1]at h;exact absurd h (by decide)
theorem zf4{o:Ol}{l:List Tu}{cs:List Int}(h:atE o l cs=0){p:Pa}(hp:p∈(atO o l cs).ps):∃q∈o.ps,q.g=p.g:=by
 rw[(at_ok h).2]at hp
 have hp':p∈(List.range o.ps.length).map (reA o.cs.flatten.length o.ps ((exL Pn.x Pa.dx Tu.dx o l cs).map rnN) ((exL Pn.y Pa.dy Tu.dy o l cs).map rnN)):=hp
 obtain⟨k,hk,e⟩:=List.mem_map.1 hp'
 have hk':k<o.ps.length:=List.mem_range.1 hk
 refine⟨o.ps.getD k Pa.none,?_,?_⟩
 . rw[List.getD_eq_getElem?_getD,List.getElem?_eq_getElem hk',Option.getD_some]
   exact List.getElem_mem hk'
 . rw[<-e];rfl
theorem zq8{α β:Type}:∀ {a:List (List α)} {b:List (List β)},a.map List.length=b.map List.length->a.flatten.length=b.flatten.length:=by
 intro a
 induction a with
 | nil =>
  intro b h
  cases b with
  | nil=>rfl
  | cons x b=>simp at h
 | cons x a ih =>
  intro b h
  cases b with
  | nil=>simp at h
  | cons y b =>
   simp only[List.map_cons,List.cons.injEq]at h
   show(x++a.flatten).length=(y++b.flatten).length
   rw[List.length_append,List.length_append,h.1,ih h.2]
theorem zvf(o:Ol)(nx ny:List Int):(reO o nx ny).cs.flatten.length=o.cs.flatten.length:=by
 refine zq8 ?_
 show((List.range o.cs.length).map (reC o.cs nx ny)).map List.length=o.cs.map List.length
 refine List.ext_getElem (by simp) (fun i h1 h2=>?_)
 have hi:i<o.cs.length:=by simpa using h2
 simp[reC,List.getD,hi]
theorem zrw{o:Ol}{l:List Tu}{cs:List Int}(h:atE o l cs=0):(atO o l cs).cs.flatten.length=o.cs.flatten.length:=by
 rw[(at_ok h).2]
 exact zvf _ _ _
theorem znb{l:List Gl}{cs:List Int}:∀ {d m:Nat} {g:Int},dq l d g=some d->d<=m->flG l cs m g=flG l cs d g:=by
 intro d
 induction d using Nat.strongRecOn with
 | ind d ih =>
  intro m g h hm
  obtain⟨x,h1,h2⟩:=zbk.1 h
  rw[zfk h1,zfk h1]
  unfold flX
  by_cases he:atE x.o x.ts cs=0
  . rw[if_pos he,if_pos he]
    rw[zkb (f:=flf l cs m) (f':=flf l cs d) (fun p hp=>?_)]
    obtain⟨q,hq,e⟩:=zf4 he hp
    obtain⟨k,h3,h4⟩:=zc5 h h1 q hq
    rw[e]at h3
    obtain⟨d',rfl⟩:∃k,d=k+1:=⟨d-1,by omega⟩
    obtain⟨m',rfl⟩:∃k,m=k+1:=⟨m-1,by omega⟩
    show flG l cs m' p.g=flG l cs d' p.g
    have k1:flG l cs m' p.g=flG l cs k p.g:=ih k h4 h3 (by omega)
    have k2:flG l cs d' p.g=flG l cs k p.g:=ih k h4 h3 (by omega)
    rw[k1,k2]
  . rw[if_neg he,if_neg he]
theorem zna{f:Int->Fl}{s:Int->Nat}:∀ {ps:List Pa},(∀p∈ps,(f p.g).2=0->(f p.g).1.flatten.length=s p.g)->(flP f ps).2=0->(flP f ps).1.flatten.length=sqs s ps:=by
 intro ps
 induction ps with
 | nil=>intro _ _;rfl
 | cons p ps ih =>
  intro hm h
  rw[flP]at h ⊢
  by_cases h1:(f p.g).2=0
  . rw[if_pos h1]at h ⊢
    by_cases h2:(flP f ps).2=0
    . rw[if_pos h2]
      show(mvC p.dx p.dy (f p.g).1++(flP f ps).1).flatten.length=_
      rw[List.flatten_append,List.length_append,zs7,hm p (by simp) h1,ih (fun q hq=>hm q (by simp[hq])) h2,sqs]
    . rw[if_neg h2]at h;exact absurd h h2
  . rw[if_neg h1]at h;exact absurd h h1
theorem zt3{f:Int->Nat}:∀ {a b:List Pa},a.map Pa.g=b.map Pa.g->sqs f a=sqs f b:=by
 intro a
 induction a with
 | nil =>
  intro b h
  cases b with
  | nil=>rfl
  | cons x b=>simp at h
 | cons x a ih =>
  intro b h
  cases b with
  | nil=>simp at h
  | cons y b =>
   simp only[List.map_cons,List.cons.injEq]at h
   rw[sqs,sqs,h.1,ih h.2]
theorem at_gs{o:Ol}{l:List Tu}{cs:List Int}(h:atE o l cs=0):(atO o l cs).ps.map Pa.g=o.ps.map Pa.g:=by
 rw[(at_ok h).2]
 show((List.range o.ps.length).map (reA _ o.ps _ _)).map Pa.g=_
 refine List.ext_getElem (by simp) (fun i h1 h2=>?_)
 have hi:i<o.ps.length:=by simpa using h2
 simp[reA,List.getD,hi]
theorem ztn{l:List Gl}{cs:List Int}:∀ {n:Nat} {g:Int},(flG l cs n g).2=0->(flG l cs n g).1.flatten.length=sq l n g:=by
 intro n
 induction n with
 | zero =>
  intro g h
  cases hx:gAt l g with
  | none=>rw[flG,hx]at h;exact absurd (show(5:Int)=0 from h) (by decide)
  | some x =>
   rw[zfk hx]at h ⊢;rw[sq_at hx]
   unfold flX at h ⊢
   by_cases he:atE x.o x.ts cs=0
   . rw[if_pos he]at h ⊢
     by_cases h2:(flP (flf l cs 0) (atO x.o x.ts cs).ps).2=0
     . rw[if_pos h2]
       show((atO x.o x.ts cs).cs++_).flatten.length=_
       rw[List.flatten_append,List.length_append,zrw he,zna (f:=flf l cs 0) (s:=sqf l 0) (fun p _ hp=>absurd hp (by show ¬(6:Int)=0;decide)) h2,zt3 (at_gs he)]
       rfl
     . rw[if_neg h2]at h;exact absurd h h2
   . rw[if_neg he]at h;exact absurd h he
 | succ n ih =>
  intro g h
  cases hx:gAt l g with
  | none=>rw[flG,hx]at h;exact absurd (show(5:Int)=0 from h) (by decide)
  | some x =>
   rw[zfk hx]at h ⊢;rw[sq_at hx]
   unfold flX at h ⊢
   by_cases he:atE x.o x.ts cs=0
   . rw[if_pos he]at h ⊢
     by_cases h2:(flP (flf l cs (n+1)) (atO x.o x.ts cs).ps).2=0
     . rw[if_pos h2]
       show((atO x.o x.ts cs).cs++_).flatten.length=_
       rw[List.flatten_append,List.length_append,zrw he,zna (f:=flf l cs (n+1)) (s:=sqf l (n+1)) (fun p _ hp=>ih hp) h2,zt3 (at_gs he)]
       rfl
     . rw[if_neg h2]at h;exact absurd h h2
   . rw[if_neg he]at h;exact absurd h he
def glE(l:List Gl)(g:Int)(cs:List Int):Int:=if (gAt l g).isNone then 5 else if (dq l 6 g).isNone then 6 else if 2000<szG l g then 3 else (flG l cs 6 g).2
def glC(l:List Gl)(g:Int)(cs:List Int):List (List Pn):=if glE l g cs=0 then (flG l cs 6 g).1 else []
theorem zun{l:List Gl}{n:Nat}{g:Int}{d:Nat}(h:dq l n g=some d):(gAt l g).isNone=false:=by
 obtain⟨x,h1,_⟩:=zbk.1 h
 rw[h1]
 rfl
theorem zmx{l:List Gl}{g:Int}{d:Nat}{cs:List Int}(h:dq l 6 g=some d)(hs:szG l g<=2000):glE l g cs=(flG l cs 6 g).2/\glC l g cs=(flG l cs 6 g).1:=by
 have e:glE l g cs=(flG l cs 6 g).2:=by
  unfold glE
  rw[zun h,h,if_neg (by decide),if_neg (by simp),if_neg (by omega)]
 refine⟨e,?_⟩
 unfold glC
 rw[e]
 by_cases h0:(flG l cs 6 g).2=0
 . rw[if_pos h0]
 . rw[if_neg h0,zrc h0]
theorem zmy{l:List Gl}{g:Int}{cs:List Int}(h:gAt l g=none):glE l g cs=5/\glC l g cs=[]:=by
 have e:glE l g cs=5:=by unfold glE;rw[h];rfl
 exact⟨e,by unfold glC;rw[e];rfl⟩
theorem zm0{l:List Gl}{g:Int}{x:Gl}{cs:List Int}(hx:gAt l g=some x)(h:dq l 6 g=none):glE l g cs=6/\glC l g cs=[]:=by
 have e:glE l g cs=6:=by unfold glE;rw[hx,h];rfl
 exact⟨e,by unfold glC;rw[e];rfl⟩
theorem zmz{l:List Gl}{g:Int}{d:Nat}{cs:List Int}(h:dq l 6 g=some d)(hs:2000<szG l g):glE l g cs=3/\glC l g cs=[]:=by
 have e:glE l g cs=3:=by
  unfold glE
  rw[zun h,h,if_neg (by decide),if_neg (by simp),if_pos hs]
 exact⟨e,by unfold glC;rw[e];rfl⟩
theorem zwa{l:List Gl}{g:Int}{d:Nat}{x:Gl}(hx:gAt l g=some x)(h:dq l 6 g=some d)(hs:szG l g<=2000){p:Pa}(hp:p∈x.o.ps):∃e,dq l 6 p.g=some e/\e<d/\szG l p.g<=2000:=by
 obtain⟨e,h1,h2⟩:=zc5 h hx p hp
 have hd:=dq_le h
 have h3:dq l 6 p.g=some e:=zc6 h1 (by omega)
 refine⟨e,h3,h2,?_⟩
 rw[zea h]at hs;rw[zea h3]
 have h4:sq l 5 p.g<=sq l 6 g:=zpi hx hp
 have h5:sq l 6 p.g=sq l 5 p.g:=(zd2 h1 (by omega)).trans (zd2 h1 (by omega)).symm
 omega
