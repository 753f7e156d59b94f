import Derived.Test.YtkmcodofnckdmaaGreatZK12
import Derived.Lib.MinMax
set_option maxHeartbeats 2000000
set_option maxRecDepth 100000
set_option linter.unusedSimpArgs false
set_option linter.unusedVariables false
namespace Go.Proofs.YtkmcodofnckdmaaGreat
open Go.RowKit Go.Maps
theorem Ri.cell{w u:World}{b off cap:Nat}{zs:LI}(h:Ri w (some ⟨b,off,none⟩) cap zs)(hb:Below w.heap.size w u){k:Nat}(hk:k<zs.length){z:Int}(hz:zs.getD k 0=z):u.cell? ⟨b,off+k,none⟩=some (.int .i64 z):=by
 obtain⟨b',off',e,_,d⟩:=h.at hb k hk
 cases e
 rw[d,hz]
theorem zk6(i:Nat)(a:OA)(ca:Nat)(ns:LI)(ta:OA)(tc:Nat)(ts:List Bool)(da:OA)(dc:Nat)(cs:LI)(w:World)(hn:Ri w a ca ns)(ht:Rl w ta tc ts)(hc:Ri w da dc cs)(hF:fitB ns ts cs=true)(hi:i<ns.length) :
 Calls Tryz.prog 278 #[.int .i64 (i:Int),.slice a ns.length ca,.slice ta ts.length tc,.slice da cs.length dc] w fun e w'=>∃v',e=.returned v'/\Fr w' v' 7 (fiQ ns ts cs i)/\Below w.heap.size w w':=by
 obtain⟨⟨l1,l2,l3⟩,f1,f2⟩:=zjc.1 hF
 have hA:=fun U (h:Rl U ta tc ts)=>zst i ta tc ts U h (by omega) (by omega)
 have hB:=fun U (h:Rl U ta tc ts)=>zss i ta tc ts U h (by omega) (by omega)
 have HAB:=nbAB (t:=ts) (i:=i) (by omega)
 obtain⟨n,hnn⟩:∃n,ns.length=n:=⟨_,rfl⟩
 rw[hnn]at l1 l2 l3 hi ⊢;rw[l1,l2];rw[l1]at hA hB HAB
 have HL:Hid (ns.length=n/\ts.length=n/\cs.length=n):=⟨hnn,l1,l2⟩
 have HN:Hid (Ri w a ca ns):=hn
 have HT:Hid (Rl w ta tc ts):=ht
 have HC:Hid (Ri w da dc cs):=hc
 have HF1:Hid (∀z∈ns,-32768<=z/\z<=32767):=f1
 have HF2:Hid (∀z∈cs,-32768<=z/\z<=32767):=f2
 clear hn ht hc f1 f2 hnn l1 l2 hF
 obtain⟨W,hW,B1,hbW⟩:∃W,W=w.alloc (.cells #[.bool false,.slice none 0 0,.slice none 0 0] 125)/\Box 125 W w.heap.size (.bool false) (.slice none 0 0) (.slice none 0 0)/\Below w.heap.size w W:=⟨_,rfl,Box.new _ _ _ _ _,al1 _⟩
 obtain⟨tb,tof,eta,htb,dt⟩:=HT.out.at hbW i (by rw[HL.out.2.1];exact hi)
 obtain⟨tz,htz⟩:∃z,ts.getD i false=z:=⟨_,rfl⟩
 rw[htz]at dt;subst eta
 have i0:(0:Int)<=(i:Int):=by omega
 have i9:(i:Int)<(n:Int):=by omega
 cases tz with
 | true =>
  obtain⟨b1,o1,ea1,hb1,d1⟩:=HC.out.at hbW i (by rw[HL.out.2.2];exact hi)
  have hzb:=zd8 HF2.out i
  have HQ:Hid (fiQ ns ts cs i=((cs.getD i 0:Int):Rat)):=z2v htz
  subst ea1;clear htz hA hB HAB
  generalize cs.getD i 0=z at *
  go_enter Tryz.func278,Tryz.ntmps278
  go_upto_region 1 with fail
  rw[<-hW];clear hW
  go_wp2_with fail
  refine(zae z _ (by omega) (by omega)).mono ?_
  rintro e u1 ⟨v1,rfl,hF1,hb2⟩;replace B1:=B1.below hb2
  replace hbW:Below w.heap.size w u1:=hbW.trans (hb2.mono hbW.size)
  clear hb2 d1 dt
  replace hF1:=(hF1.eq (r:=fiQ ns ts cs i) HQ.out.symm).le (show 2<=7 by decide)
  have hs:=B1.lt
  obtain⟨q1,q2,q3,q4,q5,q6⟩:=B1.cells;obtain⟨n',xs',ys',⟨e1,f1,e2,f2,rfl,hx',hy'⟩,hF⟩:=hF1;go_wp2
  refine ret3 (v:=.agg #[.bool n',.slice e1 xs'.length f1,.slice e2 ys'.length f2]) B1 rfl (fun U hU=>by obtain⟨r1,r2,r3,_⟩:=hU.cells;simp[results,Tryz.results278,go_sem,r1,r2,r3]) (fun U hU hK=>⟨_,rfl,⟨_,_,_,⟨_,_,_,_,rfl,hK _ _ _ hx',hK _ _ _ hy'⟩,hF⟩,hU _ _ hbW (by omega)⟩)
 | false =>
  have hA1:=hA W (HT.out.below hbW)
  rcases HAB with ⟨k1,k2,k3⟩|⟨p,q,k1,k2,k3,k4,k5,k6,k7,k8⟩
  . have HQ:Hid (fiQ ns ts cs i=0):=z2w htz k1
    rw[k1]at hA1
    dsimp only[Option.getD,Option.isSome]at hA1
    have z4q:((n-1:Nat):Int)=(n:Int)-1:=by omega
    rw[z4q]at hA1;clear htz hA hB k1 k2 k3 z4q
    go_enter Tryz.func278,Tryz.ntmps278
    go_upto_region 1 with fail
    rw[<-hW];clear hW
    go_wp2_with fail
    refine hA1.mono ?_
    rintro e u0 ⟨rfl,rfl⟩;clear hA1
    go_wp2_with fail
    refine(zae 0 _ (by decide) (by decide)).mono ?_
    rintro e u1 ⟨v1,rfl,hF1,hb2⟩;replace B1:=B1.below hb2
    replace hbW:Below w.heap.size w u1:=hbW.trans (hb2.mono hbW.size)
    clear hb2 dt
    replace hF1:=(hF1.eq (r:=fiQ ns ts cs i) (by rw[HQ.out];rfl)).le (show 2<=7 by decide)
    have hs:=B1.lt
    obtain⟨q1,q2,q3,q4,q5,q6⟩:=B1.cells;obtain⟨n',xs',ys',⟨e1,f1,e2,f2,rfl,hx',hy'⟩,hF⟩:=hF1;go_wp2
    refine ret3 (v:=.agg #[.bool n',.slice e1 xs'.length f1,.slice e2 ys'.length f2]) B1 rfl (fun U hU=>by obtain⟨r1,r2,r3,_⟩:=hU.cells;simp[results,Tryz.results278,go_sem,r1,r2,r3]) (fun U hU hK=>⟨_,rfl,⟨_,_,_,⟨_,_,_,_,rfl,hK _ _ _ hx',hK _ _ _ hy'⟩,hF⟩,hU _ _ hbW (by omega)⟩)
  . have HQ:Hid (fiQ ns ts cs i=infQ (ns.getD p 0) (cs.getD p 0) (ns.getD q 0) (cs.getD q 0) (ns.getD i 0)):=z2u htz k1 k2
    rw[k1]at hA1
    have hB1:=hB W (HT.out.below hbW)
    rw[k2]at hB1
    dsimp only[Option.getD,Option.isSome]at hA1 hB1
    have z4q:((n-1:Nat):Int)=(n:Int)-1:=by omega
    rw[z4q]at hA1
    have hp:p<n:=k3
    have hq:q<n:=k4
    have bpn:=zd8 HF1.out p
    have bpc:=zd8 HF2.out p
    have bqn:=zd8 HF1.out q
    have bqc:=zd8 HF2.out q
    have bin:=zd8 HF1.out i
    have hi':i<ns.length:=by rw[HL.out.1];exact hi
    clear htz hA hB k1 k2 k3 k4 k5 k6 k7 k8 z4q
    obtain⟨pn,e⟩:∃z,ns.getD p 0=z:=⟨_,rfl⟩
    have Epn:Hid (ns.getD p 0=pn):=e
    rw[e]at bpn;clear e
    obtain⟨pc,e⟩:∃z,cs.getD p 0=z:=⟨_,rfl⟩
    have Epc:Hid (cs.getD p 0=pc):=e
    rw[e]at bpc;clear e
    obtain⟨qn,e⟩:∃z,ns.getD q 0=z:=⟨_,rfl⟩
    have Eqn:Hid (ns.getD q 0=qn):=e
    rw[e]at bqn;clear e
    obtain⟨qc,e⟩:∃z,cs.getD q 0=z:=⟨_,rfl⟩
    have Eqc:Hid (cs.getD q 0=qc):=e
    rw[e]at bqc;clear e
    obtain⟨iz,e⟩:∃z,ns.getD i 0=z:=⟨_,rfl⟩
    have Ein:Hid (ns.getD i 0=iz):=e
    rw[e]at bin;clear e
    have HQ2:Hid (fiQ ns ts cs i=infQ pn pc qn qc iz):=by
     show _=_
     rw[HQ.out,Epn.out,Epc.out,Eqn.out,Eqc.out,Ein.out]
    clear HQ
    go_enter Tryz.func278,Tryz.ntmps278
    go_upto_region 1 with fail
    rw[<-hW];clear hW
    go_wp2_with fail
    refine hA1.mono ?_
    rintro e u0 ⟨rfl,rfl⟩;clear hA1
    go_wp2_with fail
    refine hB1.mono ?_
    rintro e u0 ⟨rfl,rfl⟩;clear hB1 dt
    go_wp2_with fail
    obtain⟨b0,o0,ea0,hb0,d0⟩:=HN.out.at hbW p (by rw[HL.out.1];exact hp)
    obtain⟨b1,o1,ea1,hb1,d1⟩:=HC.out.at hbW p (by rw[HL.out.2.2];exact hp)
    rw[Epn.out]at d0;rw[Epc.out]at d1;subst ea0 ea1
    have i1:(0:Int)<=(p:Int):=by omega
    have i2:(p:Int)<(n:Int):=by omega
    refine wp_region_held_drew (S:=fun w9=>w9.cell? ⟨b0,o0+p,none⟩=some (.int .i64 pn)/\w9.cell? ⟨b1,o1+p,none⟩=some (.int .i64 pc)) (by kernel_rfl) ?_ (fun hH=>?_)
    . (try dsimp only)
      go_keep
    have hdr:Below W.heap.size W W.drew:=Below.drew1
    generalize W.drew=Vd at hdr hH ⊢
    replace hbW:Below w.heap.size w Vd:=hbW.trans (hdr.mono hbW.size)
    replace B1:=B1.below hdr
    have zgy:=hH
    clear hdr d0 d1;refine hT 0 hH ?_;refine hT 1 hH ?_;refine hT 2 hH ?_;refine hT 3 hH ?_;refine hT 4 hH ?_;refine hT 5 hH ?_;refine hT 6 hH ?_;refine hT 7 hH ?_;refine hT 8 hH ?_
    obtain⟨V,hV,XP,hal⟩:∃V,V=Vd.alloc (.cells #[.int .i64 pn,.int .i64 pc] 314)/\Bk 314 V Vd.heap.size [.int .i64 pn,.int .i64 pc]/\Below Vd.heap.size Vd V:=⟨_,rfl,Bk.new _ _ _,al1 _⟩
    refine hCall (i:=9) rfl (by kernel_rfl) (by rfl) (fun K hK=>?_)
    go_simp
    refine hK.out _ _ ?_ (fun hH=>?_)
    . (try dsimp only)
      exact⟨((al1 _).cell (p:=⟨b0,o0+p,none⟩) (Nat.lt_of_lt_of_le hb0 hbW.size)).trans hH.1,((al1 _).cell (p:=⟨b1,o1+p,none⟩) (Nat.lt_of_lt_of_le hb1 hbW.size)).trans hH.2⟩
    clear hK K
    try simp only[Act.put,pZ]
    refine hCall (i:=10) rfl (by kernel_rfl) (by rfl) (fun K hK=>?_)
    go_simp;rw[<-hV];clear hV
    refine hK.out _ _ ?_ (fun zku=>?_)
    . (try dsimp only)
      exact⟨(hal.cell (p:=⟨b0,o0+p,none⟩) (Nat.lt_of_lt_of_le hb0 hbW.size)).trans zgy.1,(hal.cell (p:=⟨b1,o1+p,none⟩) (Nat.lt_of_lt_of_le hb1 hbW.size)).trans zgy.2⟩
    clear hK K
    try simp only[Act.put,pZ]
    refine wpAnyH_done (by kernel_rfl) ?_ _
    clear hH zku zgy
    have hVl:w.heap.size<Vd.heap.size:=B1.lt
    replace B1:=B1.below hal
    replace hbW:Below w.heap.size w V:=hbW.trans (hal.mono hbW.size)
    clear hal i1 i2
    go_wp2_with fail
    obtain⟨b0,o0,ea0,hb0,d0⟩:=HN.out.at hbW q (by rw[HL.out.1];exact hq)
    obtain⟨b1,o1,ea1,hb1,d1⟩:=HC.out.at hbW q (by rw[HL.out.2.2];exact hq)
    rw[Eqn.out]at d0;rw[Eqc.out]at d1
    cases ea0
    cases ea1
    have i1:(0:Int)<=(q:Int):=by omega
    have i2:(q:Int)<(n:Int):=by omega
    refine wp_region_held_drew (S:=fun w9=>w9.cell? ⟨b0,o0+q,none⟩=some (.int .i64 qn)/\w9.cell? ⟨b1,o1+q,none⟩=some (.int .i64 qc)) (by kernel_rfl) ?_ (fun hH=>?_)
    . (try dsimp only)
      go_keep
    have hdr:Below V.heap.size V V.drew:=Below.drew1
    generalize V.drew=Ud at hdr hH ⊢
    replace hbW:Below w.heap.size w Ud:=hbW.trans (hdr.mono hbW.size)
    replace B1:=B1.below hdr;replace XP:=XP.below hdr
    have zgy:=hH
    clear hdr d0 d1;refine hT 0 hH ?_;refine hT 1 hH ?_;refine hT 2 hH ?_;refine hT 3 hH ?_;refine hT 4 hH ?_;refine hT 5 hH ?_;refine hT 6 hH ?_;refine hT 7 hH ?_;refine hT 8 hH ?_
    obtain⟨U,hU,XQ,hal⟩:∃V,V=Ud.alloc (.cells #[.int .i64 qn,.int .i64 qc] 314)/\Bk 314 V Ud.heap.size [.int .i64 qn,.int .i64 qc]/\Below Ud.heap.size Ud V:=⟨_,rfl,Bk.new _ _ _,al1 _⟩
    refine hCall (i:=9) rfl (by kernel_rfl) (by rfl) (fun K hK=>?_)
    go_simp
    refine hK.out _ _ ?_ (fun hH=>?_)
    . (try dsimp only)
      exact⟨((al1 _).cell (p:=⟨b0,o0+q,none⟩) (Nat.lt_of_lt_of_le hb0 hbW.size)).trans hH.1,((al1 _).cell (p:=⟨b1,o1+q,none⟩) (Nat.lt_of_lt_of_le hb1 hbW.size)).trans hH.2⟩
    clear hK K
    try simp only[Act.put,pZ]
    refine hCall (i:=10) rfl (by kernel_rfl) (by rfl) (fun K hK=>?_)
    go_simp;rw[<-hU];clear hU
    refine hK.out _ _ ?_ (fun zku=>?_)
    . (try dsimp only)
      exact⟨(hal.cell (p:=⟨b0,o0+q,none⟩) (Nat.lt_of_lt_of_le hb0 hbW.size)).trans zgy.1,(hal.cell (p:=⟨b1,o1+q,none⟩) (Nat.lt_of_lt_of_le hb1 hbW.size)).trans zgy.2⟩
    clear hK K
    try simp only[Act.put,pZ]
    refine wpAnyH_done (by kernel_rfl) ?_ _
    clear hH zku zgy
    have hUl:w.heap.size<Ud.heap.size:=B1.lt
    replace B1:=B1.below hal;replace XP:=XP.below hal
    replace hbW:Below w.heap.size w U:=hbW.trans (hal.mono hbW.size)
    clear hal i1 i2
    go_wp2_with fail
    obtain⟨b0',o0',ea0,hb0',d0⟩:=HN.out.at hbW i (by rw[HL.out.1];exact hi)
    cases ea0
    rw[Ein.out]at d0;obtain⟨x0,x1,_⟩:=XP.two;obtain⟨y0,y1,_⟩:=XQ.two
    refine wp_region_held_drew (S:=fun w9=>w9.cell? ⟨Vd.heap.size,0,none⟩=some (.int .i64 pn)/\w9.cell? ⟨Vd.heap.size,1,none⟩=some (.int .i64 pc)/\w9.cell? ⟨Ud.heap.size,0,none⟩=some (.int .i64 qn)/\w9.cell? ⟨Ud.heap.size,1,none⟩=some (.int .i64 qc)/\w9.cell? ⟨b0,o0+i,none⟩=some (.int .i64 iz)) (by kernel_rfl) ?_ (fun hH=>?_)
    . (try dsimp only)
      go_keep
    have hdr:Below U.heap.size U U.drew:=Below.drew1
    generalize U.drew=Z at hdr hH ⊢
    replace hbW:Below w.heap.size w Z:=hbW.trans (hdr.mono hbW.size)
    replace B1:=B1.below hdr;replace XP:=XP.below hdr;replace XQ:=XQ.below hdr;clear hdr d0 x0 x1 y0 y1;refine hT 0 hH ?_;refine hT 1 hH ?_;refine hT 2 hH ?_;refine hT 3 hH ?_;refine hT 4 hH ?_;refine hT 5 hH ?_
    refine hCall (i:=6) rfl (by kernel_rfl) (by rfl) (fun K hK=>?_)
    go_simp
    refine(zkp pn pc qn qc iz _ bpn bpc bqn bqc bin).mono ?_
    rintro e u1 ⟨v1,rfl,hF1,hb2⟩;replace B1:=B1.below hb2;replace XP:=XP.below hb2;replace XQ:=XQ.below hb2
    replace hbW:Below w.heap.size w u1:=hbW.trans (hb2.mono hbW.size)
    obtain⟨x0,x1,_⟩:=XP.two;obtain⟨y0,y1,_⟩:=XQ.two
    have d0:=HN.out.cell hbW hi' Ein.out
    go_wp2_with fail
    refine hK.out _ _ ?_ (fun hH=>?_)
    . (try dsimp only)
      exact⟨x0,x1,y0,y1,d0⟩
    clear hK K hb2 x0 x1 y0 y1 d0
    try simp only[Act.put,pZ]
    replace hF1:=hF1.eq (r:=fiQ ns ts cs i) HQ2.out.symm
    obtain⟨n',xs',ys',⟨e1,f1,e2,f2,rfl,hx',hy'⟩,hF⟩:=hF1;obtain⟨q1,q2,q3,q4,q5,q6⟩:=B1.cells
    have hs:=B1.lt
    refine hCall (i:=7) rfl (by kernel_rfl) (by rfl) (fun K hK=>?_)
    go_simp
    obtain⟨U9,hU9,BU,hU1,hU2,hU3⟩:=zb7 B1 (.bool n') (.slice e1 xs'.length f1) (.slice e2 ys'.length f2)
    rw[<-hU9];clear hU9
    refine hK.out _ _ ?_ (fun zku=>?_)
    . (try dsimp only)
      refine⟨(World.cell?_of_block (w:=u1) (a:=⟨Vd.heap.size,0,none⟩) (hU3 Vd.heap.size (by omega))).trans hH.1,(World.cell?_of_block (w:=u1) (a:=⟨Vd.heap.size,1,none⟩) (hU3 Vd.heap.size (by omega))).trans hH.2.1,(World.cell?_of_block (w:=u1) (a:=⟨Ud.heap.size,0,none⟩) (hU3 Ud.heap.size (by omega))).trans hH.2.2.1,(World.cell?_of_block (w:=u1) (a:=⟨Ud.heap.size,1,none⟩) (hU3 Ud.heap.size (by omega))).trans hH.2.2.2.1,(World.cell?_of_block (w:=u1) (a:=⟨b0,o0+i,none⟩) (hU3 b0 (by omega))).trans hH.2.2.2.2⟩
    clear hK K
    try simp only[Act.put,pZ]
    refine wpAnyH_done (by kernel_rfl) ?_ _
    clear hH zku;go_wp2
    exact bodyPost_ret (v:=.agg #[.bool n',.slice e1 xs'.length f1,.slice e2 ys'.length f2]) (by obtain⟨r1,r2,r3,_⟩:=BU.cells;simp[results,Tryz.results278,go_sem,r1,r2,r3]) rfl ⟨_,rfl,⟨_,_,_,⟨_,_,_,_,rfl,hU2 _ _ _ hx',hU2 _ _ _ hy'⟩,hF⟩,hU1 _ _ hbW (by omega)⟩
theorem zmw{P:Program}{w w':World}{v v':Value}(base:Nat)(t ty e:TypeId)(i:TypeInfo)(ht:P.underlying t=some (.slice e))(hi:P.info? e=some i)(hz:i.zero=some rtZ)(hsize:i.size=3)(hby:i.bytes=56)
    (n:Nat) (xs:LV) (hown:w.ownsRow base e 3 v n xs) (hn:∀g,v.ownBlock=some g->NoI w g)
    (a:Addr) (m pc:Nat) (news:LV) (hm:0<m) (hl:news.length=m*3) (hnews:∀j u,news[j]?=some u->w.cell? (a.add j)=some u) (h1:∀u∈news,isI u=false/\u.oneCell'=true) (hlen:n+m<=1000000)
    (hr:(Builtin.append_ #[t,t] ty #[v,.slice (some a) m pc]).run P w=.ok v' w'):∀g,v'.ownBlock=some g->NoI w' g:=by
 have hl':news.length=m*i.size:=by rw[hsize,hl]
 have zpp:∀u∈news,isI u=false:=fun u hu=>(h1 u hu).1
 rcases hown.2 with ⟨rfl,rfl⟩|⟨g,cap,cur,rfl,hbg,hg,hnc,hcm,hcs,zw6⟩
 . have h2:=run_append_nil (P:=P) w t ty e i rtZ ht hi hz a m pc news hl' hnews hm (by omega) (by rw[hby];omega)
   rw[h2]at hr;injection hr with e1 e2;subst e1 e2
   intro g hg
   simp[Value.ownBlock]at hg
   subst hg
   refine NoI.of (heap_alloc_new w.drew _) (fun c hc=>?_)
   rw[Array.toList_append,List.mem_append]at hc
   rcases hc with hc|hc
   . exact zpp c (by simpa using hc)
   . exact znc _ c hc
 . have zuw:=(hn g rfl).mem hg
   have hxs:∀c∈xs,isI c=false:=fun c hc=>zuw c (by rw[<-zw6]at hc;exact List.mem_of_mem_take hc)
   by_cases hroom:n+m<=cap
   . have z3o:n*i.size+news.length<=cur.size:=by rw[hsize,hl,hcs];omega
     have h2:=run_append_room (P:=P) w t ty e i ht hi g n cap cur hg a m pc news hl' hnews (fun u hu=>(h1 u hu).2) hroom z3o
     rw[h2]at hr;injection hr with e1 e2;subst e1 e2
     intro g' hg'
     simp[Value.ownBlock]at hg'
     subst hg'
     refine NoI.of (setRow_heap w g cur _ e _ hg) (fun c hc=>?_)
     simp only[List.mem_append]at hc
     rcases hc with (hc|hc)|hc
     . exact zuw c (List.mem_of_mem_take hc)
     . exact zpp c hc
     . exact zuw c (List.mem_of_mem_drop hc)
   . have holds:∀j u,xs[j]?=some u->w.cell? ((⟨g,0,none⟩:Addr).add j)=some u:=hown.cells (g:=g) rfl
     have h2:=run_append_grow (P:=P) w t ty e i rtZ ht hi hz ⟨g,0,none⟩ n cap xs (by rw[hsize];exact hown.1) holds a m pc news hl' hnews (by omega) (by omega) (growslice_fits (by omega) (by rw[hby];omega))
     rw[h2]at hr;injection hr with e1 e2;subst e1 e2
     intro g' hg'
     simp[Value.ownBlock]at hg'
     subst hg'
     refine NoI.of (heap_alloc_new w.drew _) (fun c hc=>?_)
     rw[Array.toList_append,Array.toList_append,List.mem_append,List.mem_append]at hc
     rcases hc with (hc|hc)|hc
     . exact hxs c (by simpa using hc)
     . exact zpp c (by simpa using hc)
     . exact znc _ c hc
theorem Rz.cells{w:World}{b off cap k:Nat}{qs:List Rat}(h:Rz w (some ⟨b,off,none⟩) cap k qs):∃us:LV,us.length=qs.length*3/\(∀j u,us[j]?=some u->w.cell? ((⟨b,off,none⟩:Addr).add j)=some u)/\(∀u∈us,isI u=false/\u.oneCell'=true) /\
    ∀i,i<qs.length->∃x y z,us[i*3]?=some x/\us[i*3+1]?=some y/\us[i*3+2]?=some z/\Fr w (.agg #[x,y,z]) k (qs.getD i 0):=by
 have key:∀n,n<=qs.length->∃us:LV,us.length=n*3/\(∀j u,us[j]?=some u->w.cell? ((⟨b,off,none⟩:Addr).add j)=some u)/\(∀u∈us,isI u=false/\u.oneCell'=true) /\
     ∀i,i<n->∃x y z,us[i*3]?=some x/\us[i*3+1]?=some y/\us[i*3+2]?=some z/\Fr w (.agg #[x,y,z]) k (qs.getD i 0):=by
  intro n
  induction n with
  | zero=>exact fun _=>⟨[],rfl,(fun j u h=>by simp at h),(fun u h=>by simp at h),fun i hi=>by omega⟩
  | succ n ih =>
   intro hn
   obtain⟨us,h1,h2,h3,h4⟩:=ih (by omega)
   obtain⟨b',off',x,y,z,e,hb,c0,c1,c2,hF⟩:=h.2.2 n (by omega)
   cases e
   refine⟨us++[x,y,z],by rw[List.length_append,h1];simp;omega,fun j u hj=>?_,fun u hu=>?_,fun i hi=>?_⟩
   . by_cases hjl:j<us.length
     . rw[List.getElem?_append_left hjl]at hj
       exact h2 j u hj
     . rw[List.getElem?_append_right (by omega)]at hj
       have zb1:(⟨b,off,none⟩:Addr).add j=⟨b,off+j,none⟩:=by unfold Addr.add;split <;> simp_all
       rw[zb1]
       obtain⟨d,hd⟩:∃d,j-us.length=d:=⟨_,rfl⟩
       rw[hd]at hj
       have ej:j=n*3+d:=by omega
       match d,hj with
       | 0,hj=>simp at hj;subst hj;rw[ej];exact c0
       | 1,hj=>simp at hj;subst hj;rw[ej,<-Nat.add_assoc];exact c1
       | 2,hj=>simp at hj;subst hj;rw[ej,<-Nat.add_assoc];exact c2
   . rcases List.mem_append.1 hu with hu|hu
     . exact h3 u hu
     . exact hF.noI u hu
   . by_cases hin:i<n
     . obtain⟨x',y',z',q0,q1,q2,q3⟩:=h4 i hin
       exact⟨x',y',z',by rw[List.getElem?_append_left (by omega)];exact q0,by rw[List.getElem?_append_left (by omega)];exact q1,by rw[List.getElem?_append_left (by omega)];exact q2,q3⟩
     . obtain rfl:i=n:=by omega
       refine⟨x,y,z,?_,?_,?_,hF⟩
       . rw[List.getElem?_append_right (by omega),h1];simp
       . rw[List.getElem?_append_right (by omega),h1,show i*3+1-i*3=1 by omega];simp
       . rw[List.getElem?_append_right (by omega),h1,show i*3+2-i*3=2 by omega];simp
 exact key _ (Nat.le_refl _)
theorem zbj{w:World}{o:Oper}{a:Act}{K:Act->World->Prop}{Q:Exit->Act->World->Prop}(t e:TypeId)
    (ht:Tryz.prog.underlying t=some (.slice e)) (zl1:(Tryz.prog.info? e).map (fun i=>(i.zero,i.size,i.bytes))=some (some rtZ,3,56))
    (s x:Operand) (ho:o.op=.call { callee:=.builtin .append,args:=#[s,x],argTypes:=#[t,t] })
    (base:Nat) (v:Value) (k:Nat) (qs ms:List Rat) (hs:a.eval s=v) (hown:Ro e base w v k qs) (pa:OA) (pc n:Nat) (hn:n=ms.length) (hx:a.eval x=.slice pa n pc) (hp:Rz w pa pc k ms) (hpn:pa=none->pc=0) (hps:∀ad,pa=some ad->∃b off,ad=⟨b,off,none⟩) (hlen:qs.length+ms.length<=1000000) (hbase:base<=w.heap.size)
    (h:∀v' w',Ro e base w' v' k (qs++ms)->w.grownBy w' v.ownBlock->(v'.ownBlock=v.ownBlock\/v'.ownBlock=some w.heap.size)->K (a.put o.dst v') w'):o.wp Tryz.prog a w K Q:=by
 subst hn
 obtain⟨i0,hi,hz0,hz1,hz2⟩:=info_parts zl1
 obtain⟨vs,h3,hnI,h4⟩:=hown
 cases pa with
 | none =>
  obtain rfl:=hpn rfl
  have hm:ms=[]:=List.length_eq_zero_iff.1 (Nat.le_zero.1 hp.1)
  subst hm
  have hrun:=run_append_owned_none (P:=Tryz.prog) (w:=w) base t o.type e i0 3 ht hi v qs.length vs h3
  have hx':a.eval x=.slice none 0 0:=hx
  unfold Oper.wp execOp
  simp only[ho,resolve,invoke,builtin,Sem.run_bind,Sem.run_pure,Result.andThen_ok,List.map_toArray,List.map_cons,List.map_nil,hs,hx',hrun]
  exact h v w (by rw[List.append_nil];exact⟨vs,h3,hnI,h4⟩) (World.grownBy.refl w _) (.inl rfl)
 | some ad =>
  obtain⟨b,off,rfl⟩:=hps ad rfl
  obtain⟨us,l1,l2,l3,l4⟩:=hp.cells
  obtain⟨v',w',hr,k1,k2,k3,k4⟩:=run_append_own_at (P:=Tryz.prog) w base t o.type e i0 rtZ 3 56 ht hi hz0 hz1 hz2 rfl (by decide) v qs.length vs h3 ⟨b,off,none⟩ ms.length pc us l1 l2 (fun u hu=>(l3 u hu).2) (by unfold maxLen;omega) (by omega) hbase
  have hn':∀g,v'.ownBlock=some g->NoI w' g:=by
   by_cases hm:0<ms.length
   . exact zmw base t o.type e i0 ht hi hz0 hz1 hz2 qs.length vs h3 hnI ⟨b,off,none⟩ ms.length pc us hm l1 l2 l3 hlen hr
   . have hm0:ms.length=0:=by omega
     rcases h3.2 with ⟨rfl,h0⟩|⟨g,cap,cur,rfl,hbg,hg,hnc,hcm,hcs,zw6⟩
     . rw[k3.2 ⟨rfl,hm0⟩]
       intro g hg
       cases hg
     . have hus:us=[]:=List.length_eq_zero_iff.1 (by omega)
       subst hus
       have h2:=run_append_room (P:=Tryz.prog) w t o.type e i0 ht hi g qs.length cap cur hg ⟨b,off,none⟩ ms.length pc [] (by rw[hm0];simp) (by simp) (by simp) (by omega) (by rw[hz1,hcs];simp;omega)
       rw[h2]at hr;injection hr with e1 e2;subst e1 e2
       intro g' hg'
       simp[Value.ownBlock]at hg'
       subst hg'
       have zuw:=(hnI g rfl).mem hg
       refine NoI.of (setRow_heap w g cur _ e _ hg) (fun c hc=>?_)
       simp only[List.mem_append]at hc
       rcases hc with (hc|hc)|hc
       . exact zuw c (List.mem_of_mem_take hc)
       . simp at hc
       . exact zuw c (List.mem_of_mem_drop hc)
  have hvs:vs.length=qs.length*3:=h3.1
  unfold Oper.wp execOp
  simp only[ho,resolve,invoke,builtin,Sem.run_bind,Sem.run_pure,Result.andThen_ok,List.map_toArray,List.map_cons,List.map_nil,hs,hx,hr]
  refine h v' w' ⟨vs++us,by rw[List.length_append];exact k1,hn',fun j hj=>?_⟩ k2 k4
  by_cases hjm:j<qs.length
  . obtain⟨x',y',z',q0,q1,q2,q3⟩:=h4 j hjm
    have e':(qs++ms).getD j 0=qs.getD j 0:=by simp[List.getD,List.getElem?_append_left hjm]
    rw[e']
    exact⟨x',y',z',by rw[List.getElem?_append_left (by omega)];exact q0,by rw[List.getElem?_append_left (by omega)];exact q1,by rw[List.getElem?_append_left (by omega)];exact q2,q3.grown k2 hnI⟩
  . have hj':j-qs.length<ms.length:=by simp at hj;omega
    have e':(qs++ms).getD j 0=ms.getD (j-qs.length) 0:=by simp[List.getD,List.getElem?_append_right (show qs.length<=j by omega)]
    rw[e']
    obtain⟨x',y',z',q0,q1,q2,q3⟩:=l4 _ hj'
    refine⟨x',y',z',?_,?_,?_,q3.grown k2 hnI⟩
    . rw[List.getElem?_append_right (by omega),hvs,show j*3-qs.length*3=(j-qs.length)*3 by omega];exact q0
    . rw[List.getElem?_append_right (by omega),hvs,show j*3+1-qs.length*3=(j-qs.length)*3+1 by omega];exact q1
    . rw[List.getElem?_append_right (by omega),hvs,show j*3+2-qs.length*3=(j-qs.length)*3+2 by omega];exact q2
theorem zbp{w:World}{ops:Array Oper}{rest:List Oper}{o:Oper}{a:Act}{Q:Exit->Act->World->Prop}(t e:TypeId)
    (ht:Tryz.prog.underlying t=some (.slice e)) (zl1:(Tryz.prog.info? e).map (fun i=>(i.zero,i.size,i.bytes))=some (some rtZ,3,56)) (hgd:o.guard=none)
    (s x:Operand) (ho:o.op=.call { callee:=.builtin .append,args:=#[s,x],argTypes:=#[t,t] })
    (base:Nat) (v:Value) (k:Nat) (qs ms:List Rat) (hs:a.eval s=v) (hown:Ro e base w v k qs) (pa:OA) (pc n:Nat) (hn:n=ms.length) (hx:a.eval x=.slice pa n pc) (hp:Rz w pa pc k ms) (hpn:pa=none->pc=0) (hps:∀ad,pa=some ad->∃b off,ad=⟨b,off,none⟩) (hlen:qs.length+ms.length<=1000000) (hbase:base<=w.heap.size)
    (h:∀v' w',Ro e base w' v' k (qs++ms)->w.grownBy w' v.ownBlock->(v'.ownBlock=v.ownBlock\/v'.ownBlock=some w.heap.size)->wpList Tryz.prog ops Q rest (a.put o.dst v') w'):wpList Tryz.prog ops Q (o::rest) a w :=
 wpList_plain hgd fun K hK=>zbj t e ht zl1 s x ho base v k qs ms hs hown pa pc n hn hx hp hpn hps hlen hbase (fun v' w' k1 k2 k3=>hK _ _ (h v' w' k1 k2 k3))
def Rf(w:World)(a:OA)(cap k:Nat)(qs:List Rat):Prop:=Rz w a cap k qs/\(a=none->cap=0)/\∀ad,a=some ad->∃b off,ad=⟨b,off,none⟩
theorem Rf.nil(w:World)(k:Nat):Rf w none 0 k []:=⟨Rz.nil _ _ _ _ (Nat.zero_le _),(fun _=>rfl),(fun ad e=>by cases e)⟩
theorem Rf.below{w w':World}{a:OA}{cap k:Nat}{qs:List Rat}(h:Rf w a cap k qs)(hb:Below w.heap.size w w'):Rf w' a cap k qs:=⟨h.1.below hb,h.2⟩
theorem Ro.rf{T:TypeId}{base:Nat}{w:World}{v:Value}{k:Nat}{qs:List Rat}(h:Ro T base w v k qs):∃a cap,v=.slice a qs.length cap/\Rf w a cap k qs:=by
 obtain⟨a,cap,e,hz⟩:=h.slice;obtain⟨vs,h3,_,h4⟩:=h
 rcases h3.2 with ⟨e1,h0⟩|⟨g,cap',cur,e1,_⟩
 . rw[e]at e1
   injection e1 with e1 e2 e3
   exact⟨a,cap,e,hz,(fun _=>e3),(fun ad e4=>by rw[e1]at e4;cases e4)⟩
 . rw[e]at e1
   injection e1 with e1 e2 e3
   exact⟨a,cap,e,hz,(fun e4=>by rw[e1]at e4;cases e4),(fun ad e4=>by rw[e1]at e4;cases e4;exact⟨_,_,rfl⟩)⟩
theorem Rz.one{w:World}{g k:Nat}{x y z:Value}{q:Rat}(hg:g<w.heap.size)(c0:w.cell? ⟨g,0,none⟩=some x)(c1:w.cell? ⟨g,1,none⟩=some y)(c2:w.cell? ⟨g,2,none⟩=some z)(hF:Fr w (.agg #[x,y,z]) k q):Rz w (some ⟨g,0,none⟩) 1 k [q]:=by
 refine⟨Nat.le_refl _,by unfold maxLen;omega,fun i hi=>?_⟩
 obtain rfl:i=0:=by simpa using hi
 exact⟨g,0,x,y,z,rfl,hg,c0,c1,c2,hF⟩
def Rg(base:Nat)(w:World)(a:OA)(cap k:Nat)(qs:List Rat):Prop:=Rf w a cap k qs/\∀b o,a=some ⟨b,o,none⟩->base<=b
theorem Rg.nil(base:Nat)(w:World)(k:Nat):Rg base w none 0 k []:=⟨Rf.nil _ _,fun b o e=>by cases e⟩
theorem Rg.below{base:Nat}{w w':World}{a:OA}{cap k:Nat}{qs:List Rat}(h:Rg base w a cap k qs)(hb:Below w.heap.size w w'):Rg base w' a cap k qs:=⟨h.1.below hb,h.2⟩
theorem Rg.lower{base base':Nat}{w:World}{a:OA}{cap k:Nat}{qs:List Rat}(h:Rg base w a cap k qs)(hb:base'<=base):Rg base' w a cap k qs:=⟨h.1,fun b o e=>Nat.le_trans hb (h.2 b o e)⟩
theorem Ro.rg{T:TypeId}{base:Nat}{w:World}{v:Value}{k:Nat}{qs:List Rat}(h:Ro T base w v k qs):∃a cap,v=.slice a qs.length cap/\Rg base w a cap k qs:=by
 obtain⟨a,cap,e,hz⟩:=h.rf;obtain⟨vs,h3,_,h4⟩:=h
 refine⟨a,cap,e,hz,fun b o e4=>?_⟩
 rcases h3.2 with ⟨e1,h0⟩|⟨g,cap',cur,e1,hb,_⟩
 . rw[e]at e1
   injection e1 with e1 e2 e3;rw[e1]at e4
   cases e4
 . rw[e]at e1
   injection e1 with e1 e2 e3;rw[e1]at e4
   cases e4
   exact hb
theorem Fr.cells3'{w:World}{v:Value}{k:Nat}{q:Rat}(h:Fr w v k q):∃n a l c a' l' c',v=.agg #[.bool n,.slice a l c,.slice a' l' c']:=by
 obtain⟨n,xs,ys,⟨a,c,a',c',rfl,h1,h2⟩,h3⟩:=h
 exact⟨_,_,_,_,_,_,_,rfl⟩
theorem zii{α:Type}(f:Nat->α)(k:Nat):(List.range (k+1)).map f=(List.range k).map f++[f k]:=by rw[List.range_succ,List.map_append];rfl
theorem zue(a:OA)(ca:Nat)(ns:LI)(ta:OA)(tc:Nat)(ts:List Bool)(da:OA)(dc:Nat)(cs:LI)(w:World)(hn:Ri w a ca ns)(ht:Rl w ta tc ts)(hc:Ri w da dc cs) :
 Calls Tryz.prog 267 #[.slice a ns.length ca,.slice ta ts.length tc,.slice da cs.length dc] w fun e w'=>∃a' c',e=.returned (.slice a' (fillQ ns ts cs).length c')/\Rf w' a' c' 7 (fillQ ns ts cs)/\Below w.heap.size w w':=by
 have b1:=hn.lenB
 have b2:=ht.lenB
 have b3:=hc.lenB
 cases hF:fitB ns ts cs with
 | false =>
  rw[zoj hF]
  by_cases l1:ts.length=ns.length
  . by_cases l2:cs.length=ns.length
    . by_cases l3:ns.length<=80
      . have hf1:=zbr a ca ns w hn
        have hf2:=zbr da dc cs w hc
        cases hq:ns.all fdB with
        | false =>
         rw[hq]at hf1
         rw[l1,l2]at *
         generalize ns.length=n at *
         clear hF hq hn ht hc l1 l2 hf2
         have g1:¬(n:Int) > 80:=by omega
         go_enter Tryz.func267,Tryz.ntmps267
         go_wp2_with fail
         refine hf1.mono ?_
         rintro e u0 ⟨rfl,rfl⟩;go_wp2
         go_ret
         exact⟨none,0,rfl,Rf.nil _ _,Below.refl _ _⟩
        | true =>
         have hq2:cs.all fdB=false:=by
          cases h9:cs.all fdB with
          | false=>rfl
          | true=>rw[fitB,hq,h9,decide_eq_true ⟨l1,l2,l3⟩]at hF;cases hF
         rw[hq]at hf1;rw[hq2]at hf2
         rw[l1,l2]at *
         generalize ns.length=n at *
         clear hF hq hq2 hn ht hc l1 l2
         have g1:¬(n:Int) > 80:=by omega
         go_enter Tryz.func267,Tryz.ntmps267
         go_wp2_with fail
         refine hf1.mono ?_
         rintro e u0 ⟨rfl,rfl⟩
         go_wp2_with fail
         refine hf2.mono ?_
         rintro e u0 ⟨rfl,rfl⟩;go_wp2
         go_ret
         exact⟨none,0,rfl,Rf.nil _ _,Below.refl _ _⟩
      . rw[l1,l2]at *
        generalize ns.length=n at *
        have g1:(n:Int) > 80:=by omega
        clear hF hn ht hc l1 l2
        go_enter Tryz.func267,Tryz.ntmps267
        go_wp2
        go_ret
        exact⟨none,0,rfl,Rf.nil _ _,Below.refl _ _⟩
    . rw[l1]
      generalize ns.length=n at *
      generalize cs.length=m at *
      have g1:¬((m:Int)=(n:Int)):=by omega
      clear hF hn ht hc l1
      go_enter Tryz.func267,Tryz.ntmps267
      go_wp2
      go_ret
      exact⟨none,0,rfl,Rf.nil _ _,Below.refl _ _⟩
  . generalize ns.length=n at *
    generalize ts.length=m at *
    generalize cs.length=m2 at *
    have g1:¬((m:Int)=(n:Int)):=by omega
    clear hF hn ht hc
    go_enter Tryz.func267,Tryz.ntmps267
    go_wp2
    go_ret
    exact⟨none,0,rfl,Rf.nil _ _,Below.refl _ _⟩
 | true =>
  obtain⟨⟨l1,l2,l3⟩,f1,f2⟩:=zjc.1 hF
  have hf1:=zbr a ca ns w hn
  have hf2:=zbr da dc cs w hc
  rw[show ns.all fdB=true from List.all_eq_true.2 (fun z hz=>zce.2 (f1 z hz))]at hf1
  rw[show cs.all fdB=true from List.all_eq_true.2 (fun z hz=>zce.2 (f2 z hz))]at hf2
  have HR:Hid (fillQ ns ts cs=(List.range ns.length).map (fiQ ns ts cs)):=zk0 hF
  have hch:=fun U (h1:Ri U a ca ns) (h2:Rl U ta tc ts) (h3:Ri U da dc cs) i hi=>zk6 i a ca ns ta tc ts da dc cs U h1 h2 h3 hF hi
  have HFL:Hid ((fillQ ns ts cs).length=ns.length):=zg3 hF
  rw[HFL.out]
  rw[l1,l2]at *
  obtain⟨n,hnn⟩:∃n,ns.length=n:=⟨_,rfl⟩
  have HN:Hid (Ri w a ca ns):=hn
  have HT:Hid (Rl w ta tc ts):=ht
  have HC:Hid (Ri w da dc cs):=hc
  rw[hnn]at HR HFL hf1 hf2 hch b1 l3 ⊢;clear b2 b3
  have HL:Hid (ns.length=n):=hnn
  have HCH:Hid (∀U,Ri U a ca ns->Rl U ta tc ts->Ri U da dc cs->∀i:Nat,i<n->Calls Tryz.prog 278 #[.int .i64 (i:Int),.slice a n ca,.slice ta n tc,.slice da n dc] U fun e w'=>∃v',e=.returned v'/\Fr w' v' 7 (fiQ ns ts cs i)/\Below U.heap.size U w'):=hch
  clear hF f1 f2 hn ht hc l1 l2 hnn hch
  have g1:¬(n:Int) > 80:=by omega
  obtain⟨i0,hi0,hz0,hz1,hz2⟩:=info_parts zch
  have hmk:=run_make (P:=Tryz.prog) w 173 125 i0 rtZ Tryz.underlying173 hi0 hz0 .i64 .i64 0 (n:Int) (by omega) (by omega) (by rw[hz2];omega) (by omega)
  rw[hz1]at hmk
  simp only[Int.toNat_zero,Int.toNat_natCast]at hmk
  obtain⟨w1,hw1⟩:∃w1,w.alloc (.cells (madeCells rtZ.cells (n*3)) 125)=w1:=⟨_,rfl⟩
  have hI0:Ro 125 w.heap.size w1 (.slice (some ⟨w.heap.size,0,none⟩) 0 n) 7 ((List.range 0).map (fiQ ns ts cs)):=by
   refine⟨[],?_,fun g hg=>?_,fun i hi=>by simp at hi⟩
   . rw[<-hw1]
     have:=World.ownsRow_made (base:=w.heap.size) (e:=125) (size:=3) w (madeCells rtZ.cells (n*3)) n (Nat.le_refl _) (by unfold maxLen;omega) (size_madeCells _ _)
     simpa using this
   . simp[Value.ownBlock]at hg
     subst hg;rw[<-hw1]
     exact NoI.of (heap_alloc_new w _) (zid _)
  have zn9:Below w.heap.size w w1:=by rw[<-hw1];exact bl1 _
  rw[hw1]at hmk;clear hw1 hi0 hz0 hz1 hz2
  go_enter Tryz.func267,Tryz.ntmps267
  go_wp2_with fail
  refine hf1.mono ?_
  rintro e u0 ⟨rfl,rfl⟩
  go_wp2_with fail
  refine hf2.mono ?_
  rintro e u0 ⟨rfl,rfl⟩;clear hf1 hf2;go_wp2
  go_loopw [8,37] (fun v i wr=>∃k:Nat,k<=n/\i=.int .i64 k/\Ro 125 w.heap.size wr v 7 ((List.range k).map (fiQ ns ts cs))/\Below w.heap.size w wr) (fun _ i _=>n-(intOf i).toNat)
  case atStart=>exact⟨0,Nat.zero_le _,rfl,hI0,zn9⟩
  case round =>
   obtain⟨k,hk,rfl,hT,hB⟩:=hrel;obtain⟨a2,c2,rfl,hts⟩:=hT.rf
   have hlen:((List.range k).map (fiQ ns ts cs)).length=k:=by simp
   rw[hlen]at hT ⊢
   have HT2:Hid (Ro 125 w.heap.size wr (.slice a2 k c2) 7 ((List.range k).map (fiQ ns ts cs))):=hT
   have HTS:Hid (Rf wr a2 c2 7 ((List.range k).map (fiQ ns ts cs))):=hts
   clear hT hts hmk hI0 zn9
   have hsz:=hB.size
   by_cases hkn:k<n
   . have hc1:=HCH.out wr (HN.out.below hB) (HT.out.below hB) (HC.out.below hB) k hkn
     have HS:Hid (_):=zii (fiQ ns ts cs) k
     go_wp2_with fail
     refine hc1.mono ?_
     rintro e u1 ⟨v1,rfl,hF1,hb1⟩;obtain⟨z1,x1,x2,x3,x4,x5,x6,rfl⟩:=hF1.cells3'
     obtain⟨V,hV,B4,hb4⟩:∃V,V=u1.alloc (.cells #[.bool z1,.slice x1 x2 x3,.slice x4 x5 x6] 125)/\Box 125 V u1.heap.size (.bool z1) (.slice x1 x2 x3) (.slice x4 x5 x6)/\Below u1.heap.size u1 V:=⟨_,rfl,Box.new _ _ _ _ _,bl1 _⟩
     have hbv:Below wr.heap.size wr V:=hb1.trans (hb4.mono hb1.size)
     obtain⟨r0,r1,r2,_⟩:=B4.cells
     have zba:=Rz.one B4.lt r0 r1 r2 (hF1.below hb4)
     have hown:=HT2.out.below hbv
     have hll:((List.range k).map (fiQ ns ts cs)).length+[fiQ ns ts cs k].length<=1000000:=by rw[hlen];simp;omega
     have hbs:w.heap.size<=V.heap.size:=Nat.le_trans hsz hbv.size
     have hBV:Below w.heap.size w V:=hB.trans (hbv.mono hsz)
     have z4s:∀g,(Value.slice a2 k c2).ownBlock=some g->w.heap.size<=g:=fun g hg=>(HT2.out.lo hg).1
     clear hc1 hF1 hb1 hb4 hbv B4 r0 r1 r2
     go_wp2_with (at_builtin;rw[<-hV];refine zbp 173 125 Tryz.underlying173 zch rfl _ _ rfl w.heap.size (.slice a2 k c2) 7 _ _ rfl hown _ 1 1 rfl rfl zba (fun e=>by cases e) (fun ad e=>by cases e;exact⟨_,_,rfl⟩) hll hbs ?_)
     intro v9 w9 hT9 hgrow _
     rw[<-hV]at hgrow
     have hB9:Below w.heap.size w w9:=hBV.grown hgrow hbs z4s
     rw[<-HS.out]at hT9;clear hgrow hbs hll HS zba hown hV;go_wp2
     go_roundw
     case rel=>exact⟨k+1,by omega,by go_num,hT9,hB9⟩
     case measure=>simp[intOf];omega
   . obtain rfl:k=n:=by omega
     have g4:¬(k:Int)<(k:Int):=by omega
     go_wp2
     go_ret
     exact⟨a2,c2,rfl,by rw[HR.out];exact HTS.out,hB⟩
def nilV:Value:=.slice none 0 0
def Fam{α:Type}(E:El α)(t:TypeId)(base:Nat)(w:World)(vs:LV)(ls:List (List α)):Prop :=
 vs.length=ls.length/\(∀i,i<vs.length->Gw E t base (fun _=>False) w (vs.getD i nilV) (ls.getD i [])) /\
  ∀i j g,i<vs.length->j<vs.length->i≠j->(vs.getD i nilV).ownBlock=some g->(vs.getD j nilV).ownBlock≠some g
theorem Fam.row{α:Type}{E:El α}{t:TypeId}{base:Nat}{w:World}{vs:LV}{ls:List (List α)}(h:Fam E t base w vs ls)(k:Nat)(hk:k<vs.length):Gw E t base (fun _=>False) w (vs.getD k nilV) (ls.getD k []):=h.2.1 k hk
theorem Fam.below{α:Type}{E:El α}{t:TypeId}{base:Nat}{w w':World}{vs:LV}{ls:List (List α)}(h:Fam E t base w vs ls)(hb:Below w.heap.size w w'):Fam E t base w' vs ls:=⟨h.1,fun i hi=>(h.2.1 i hi).below hb,h.2.2⟩
theorem Fam.grow{α:Type}{E:El α}{t:TypeId}{base:Nat}{w w':World}{vs:LV}{ls:List (List α)}(h:Fam E t base w vs ls)(k:Nat)(hk:k<vs.length){v':Value}{l':List α}(h1:Gw E t base (fun _=>False) w' v' l')(hg:w.grownBy w' (vs.getD k nilV).ownBlock)(ho:v'.ownBlock=(vs.getD k nilV).ownBlock\/v'.ownBlock=some w.heap.size):Fam E t base w' (vs.set k v') (ls.set k l'):=by
 have e1:∀i,i≠k->(vs.set k v').getD i nilV=vs.getD i nilV:=fun i hi=>by simp[List.getD,List.getElem?_set_ne (fun e=>hi e.symm)]
 have e2:(vs.set k v').getD k nilV=v':=by simp[List.getD,hk]
 have e3:∀i,i≠k->(ls.set k l').getD i []=ls.getD i []:=fun i hi=>by simp[List.getD,List.getElem?_set_ne (fun e=>hi e.symm)]
 have e4:(ls.set k l').getD k []=l':=by have:=h.1;simp[List.getD,show k<ls.length by omega]
 have hlt:∀i g,i<vs.length->(vs.getD i nilV).ownBlock=some g->g<w.heap.size:=fun i g hi e=>((h.2.1 i hi).lo e).2
 have zpp:∀j g,j<vs.length->j≠k->(vs.getD j nilV).ownBlock=some g->v'.ownBlock≠some g:=fun j g hj hjk e e5=>by
  rcases ho with ho|ho
  . rw[ho]at e5
    exact h.2.2 j k g hj hk hjk e e5
  . rw[ho]at e5
    injection e5 with e5
    have:=hlt j g hj e
    omega
 refine⟨by rw[List.length_set,List.length_set];exact h.1,fun i hi=>?_,fun i j g hi hj hij e=>?_⟩
 . rw[List.length_set]at hi
   by_cases hik:i=k
   . subst hik
     rw[e2,e4]
     exact h1
   . rw[e1 i hik,e3 i hik]
     exact(h.2.1 i hi).stay hg.size (fun k hk=>hk.elim) (fun g eg=>hg.block g (hlt i g hi eg) (fun e=>h.2.2 i k g hi hk hik eg e.symm))
 . rw[List.length_set]at hi hj
   by_cases hik:i=k
   . subst hik
     rw[e2]at e
     rw[e1 j (fun x=>hij x.symm)]
     intro e5
     exact zpp j g hj (fun x=>hij x.symm) e5 e
   . rw[e1 i hik]at e
     by_cases hjk:j=k
     . subst hjk
       rw[e2]
       exact zpp i g hi hik e
     . rw[e1 j hjk]
       exact h.2.2 i j g hi hj hij e
theorem Fam.two{α:Type}(E:El α)(t:TypeId)(base:Nat)(w:World):Fam E t base w [nilV,nilV] [[],[]] :=
 ⟨rfl,fun i hi=>by
  have:i=0\/i=1:=by simp at hi;omega
  rcases this with rfl|rfl <;> exact Gw.nil _ _ _ _ _,fun i j g hi hj hij e=>by
  have:i=0\/i=1:=by simp at hi;omega
  rcases this with rfl|rfl <;> cases e⟩
theorem zpn:(Tryz.prog.info? 4).map (fun i=>(i.zero,i.size,i.bytes))=some (some (.bool false),1,1):=by kernel_rfl
theorem Gw.mk1{α:Type}{E:El α}{t:TypeId}(w:World)(n:Nat)(z:α)(zc:Value)(hsz:E.sz=1)(hd:E.dfl=z)(zju:∀S w,E.rep S w [zc] z)(hn:n<=1000000):Gw E t w.heap.size (fun _=>False) (w.alloc (.cells (madeCells #[zc] n) t)) (.slice (some ⟨w.heap.size,0,none⟩) n n) (List.replicate n z):=by
 have hm:(madeCells #[zc] n).toList=List.replicate n zc:=by
  refine List.ext_getElem (by simp[madeCells]) (fun i h1 h2=>?_)
  simp[madeCells,Nat.mod_one]
 have hfl:(List.replicate n [zc]).flatten=List.replicate n zc:=by
  clear hm
  induction n with
  | zero=>rfl
  | succ n ih=>rw[List.replicate_succ,List.flatten_cons,ih (by omega),List.replicate_succ];rfl
 refine⟨List.replicate n [zc],by simp,⟨?_,.inr ⟨w.heap.size,n,madeCells #[zc] n,by rw[List.length_replicate],Nat.le_refl _,heap_alloc_new w _,by simp,by unfold maxLen;omega,?_,?_⟩⟩,fun i hi=>?_⟩
 . rw[hfl,List.length_replicate,List.length_replicate,hsz,Nat.mul_one]
 . rw[hsz,Nat.mul_one,size_madeCells]
 . rw[hfl,hm,List.length_replicate,hsz,Nat.mul_one]
   simp
 . rw[List.length_replicate]at hi
   have e1:(List.replicate n [zc]).getD i []=[zc]:=by simp[List.getD,hi]
   have e2:(List.replicate n z).getD i E.dfl=z:=by simp[List.getD,hi]
   rw[e1,e2]
   exact zju _ _
theorem zfb(S:Nat->Prop)(a:OA)(ca:Nat)(b:OA)(cb:Nat)(o:Ol)(w:World)(hc:Gr PnE.row S w a ca o.cs)(hp:Gr PaE S w b cb o.ps)(hl:o.cs.flatten.length<=100000)(hl2:o.ps.length<=100000) :
 Calls Tryz.prog 102 #[.agg #[.slice a o.cs.length ca,.slice b o.ps.length cb]] w fun e w'=>e=.returned (.int .i64 (cntO o:Int))/\Below w.heap.size w w':=by
 have k2:=hc.lenB
 obtain⟨W,hW,X1,hbW⟩:∃W,W=w.alloc (.cells #[.slice a o.cs.length ca,.slice b o.ps.length cb] 57)/\Bk 57 W w.heap.size [.slice a o.cs.length ca,.slice b o.ps.length cb]/\Below w.heap.size w W:=⟨_,rfl,Bk.new _ _ _,bl1 _⟩
 obtain⟨x0,x1,_⟩:=X1.two
 have HH:Hid (Gr PnE.row S W a ca o.cs):=hc.below hbW
 have HC:Hid (cntO o=o.ps.length+ofC o.cs o.cs.length):=by show _=_;rw[zlr];rfl
 clear hc hp X1;obtain⟨cs,ps⟩:=o
 dsimp only at *
 go_enter Tryz.func102,Tryz.ntmps102
 go_upto_region 1 with fail
 rw[<-hW];clear hW;go_wp2;clear x0 x1
 go_loopw [3,12] (fun c i wr=>∃k:Nat,k<=cs.length/\i=.int .i64 k/\c=.int .i64 ((ps.length+ofC cs k:Nat):Int)/\W=wr) (fun _ i _=>cs.length-(intOf i).toNat)
 case atStart=>exact⟨0,Nat.zero_le _,rfl,rfl,rfl⟩
 case round =>
  obtain⟨k,hk,rfl,rfl,rfl⟩:=hrel
  by_cases hkn:k<cs.length
  . obtain⟨b0,off,a1,c1,ea,hb,d0,hrow,hlb,_⟩:=HH.out.rw (Below.refl _ _) k hkn
    subst ea
    have hst:=zdp hkn
    have hle:=znw cs (k+1)
    obtain⟨m,hm⟩:∃m,(cs.getD k []).length=m:=⟨_,rfl⟩
    rw[hm]at d0 hst
    obtain⟨x,hx⟩:∃x,ofC cs k=x:=⟨_,rfl⟩
    obtain⟨y,hy⟩:∃x,ofC cs (k+1)=x:=⟨_,rfl⟩
    have HY:Hid (ofC cs (k+1)=y):=hy
    rw[hx,hy]at hst;rw[hy]at hle;rw[hx]
    have i1:(0:Int)<=(k:Int):=by omega
    have i2:(k:Int)<(cs.length:Int):=by omega
    have hs:((ps.length+x:Nat):Int)+(m:Int)=((ps.length+y:Nat):Int):=by omega
    clear hm hx hy hrow hlb;go_wp2
    go_roundw
    case rel=>exact⟨k+1,by omega,by go_num,by rw[HY.out];exact congrArg (Value.int .i64) (by omega),trivial⟩
    case measure=>simp[intOf];omega
  . obtain rfl:k=cs.length:=by omega
    have g4:¬(cs.length:Int)<(cs.length:Int):=by omega
    rw[<-HC.out];go_wp2
    go_ret
    exact⟨rfl,hbW⟩
theorem zpg(a:OA)(ca:Nat)(pts:LI)(n:Nat)(w:World)(h:Ri w a ca pts)(hn:n<=1000000) :
 Calls Tryz.prog 226 #[.slice a pts.length ca,.int .i64 (n:Int)] w fun e w'=>e=.returned (.bool (risB pts n))/\w=w':=by
 have k2:=h.lenB
 have HH:Hid (Ri w a ca pts):=h
 clear h
 go_enter Tryz.func226,Tryz.ntmps226
 go_wp2
 go_loopw [5,10] (fun l i wr=>∃k:Nat,k<=pts.length/\i=.int .i64 k/\l=.int .i64 (lastI pts k)/\(∀j,j<k->risP pts n j)/\w=wr) (fun _ i _=>pts.length-(intOf i).toNat)
 case atStart=>exact⟨0,Nat.zero_le _,rfl,rfl,(fun j hj=>by omega),rfl⟩
 case round =>
  obtain⟨k,hk,rfl,rfl,hok,rfl⟩:=hrel
  have HOK:Hid (∀j,j<k->risP pts n j):=hok
  clear hok
  by_cases hkn:k<pts.length
  . obtain⟨b,off,ea,hb,d0⟩:=HH.out.at (Below.refl _ _) k hkn
    have hzi:=HH.out.i64 hkn
    subst ea
    have HL:Hid (lastI pts (k+1)=pts.getD k 0):=by show _=_;unfold lastI;rw[if_neg (by omega),Nat.add_sub_cancel]
    obtain⟨z,hzz⟩:∃z,pts.getD k 0=z:=⟨_,rfl⟩
    obtain⟨l,hll⟩:∃z,lastI pts k=z:=⟨_,rfl⟩
    have HP:Hid (risP pts n k↔l<z/\z<(n:Int)):=by show _↔_;unfold risP;rw[hzz,hll]
    rw[hzz]at d0 HL hzi;rw[hll]
    have i1:(0:Int)<=(k:Int):=by omega
    have i2:(k:Int)<(pts.length:Int):=by omega
    clear hzz hll
    by_cases h1:l<z
    . have g1:¬z<=l:=by omega
      have g1b:decide (z<=l)=false:=decide_eq_false g1
      by_cases h2:z<(n:Int)
      . have g2:decide (z ≥ (n:Int))=false:=decide_eq_false (by omega)
        have zea:Hid (∀j,j<k+1->risP pts n j):=za4 HOK.out (HP.out.2 ⟨h1,h2⟩)
        clear HOK HP;go_wp2
        go_roundw
        case rel=>exact⟨k+1,by omega,by go_num,by rw[HL.out],zea.out,trivial⟩
        case measure=>simp[intOf];omega
      . have g2:decide (z ≥ (n:Int))=true:=decide_eq_true (by omega)
        have HF:Hid (risB pts n=false):=zih hkn (fun h=>h2 (HP.out.1 h).2)
        clear HOK HP;go_wp2
        go_ret
        exact⟨zaa HF.out.symm,rfl⟩
    . have g1:z<=l:=by omega
      have g1b:decide (z<=l)=true:=decide_eq_true g1
      have HF:Hid (risB pts n=false):=zih hkn (fun h=>h1 (HP.out.1 h).1)
      clear HOK HP;go_wp2
      go_ret
      exact⟨zaa HF.out.symm,rfl⟩
  . obtain rfl:k=pts.length:=by omega
    have HF:Hid (risB pts n=true):=zig HOK.out
    have g1:¬(pts.length:Int)<(pts.length:Int):=by omega
    clear HOK;go_wp2
    go_ret
    exact⟨zaa HF.out.symm,rfl⟩
theorem zgv(a:OA)(ca:Nat)(pts:LI)(b:OA)(cb:Nat)(told:LI)(n:Nat)(w:World)(h:Ri w a ca pts)(h2:Ri w b cb told)(hl:told.length=pts.length)(hr:risB pts n=true)(hn:n<=1000) :
 Calls Tryz.prog 228 #[.slice a pts.length ca,.slice b told.length cb,.int .i64 (n:Int)] w fun e w'=>∃a' c',e=.returned (.slice a' (layI pts told n pts.length).length c')/\Ri w' a' c' (layI pts told n pts.length)/\Below w.heap.size w w':=by
 have k2:=h.lenB
 have HH:Hid (Ri w a ca pts):=h
 have H2:Hid (Ri w b cb told):=h2
 have HR:Hid (∀k,k<pts.length->risP pts n k):=zcu.1 hr
 have HL:Hid (told.length=pts.length):=hl
 rw[hl];clear h h2 hr hl
 obtain⟨i0,hi0,hz0,hz1,hz2⟩:=info_parts zcc
 have hmk:=run_make (P:=Tryz.prog) w 29 3 i0 (.int .i64 0) Tryz.underlying29 hi0 hz0 .i64 .i64 (n:Int) (n:Int) (by omega) (by omega) (by rw[hz2];omega) (by omega)
 rw[hz1]at hmk
 simp only[Int.toNat_natCast,Nat.mul_one]at hmk
 have hI0:Gw El.int 3 w.heap.size (fun _=>False) (w.alloc (.cells (madeCells #[.int .i64 0] n) 3)) (.slice (some ⟨w.heap.size,0,none⟩) n n) (layI pts told n 0):=Gw.mk1 w n 0 (.int .i64 0) rfl rfl (fun S w=>⟨rfl,by decide,by decide⟩) (by omega)
 have hB0:Below w.heap.size w (w.alloc (.cells (madeCells #[.int .i64 0] n) 3)):=bl1 _
 replace hmk:(Instr.makeSlice 29 (.int .i64 (n:Int)) (.int .i64 (n:Int))).run Tryz.prog w=.ok (.slice (some ⟨w.heap.size,0,none⟩) n n) (w.alloc (.cells (madeCells #[.int .i64 0] n) 3)):=hmk
 generalize w.alloc (.cells (madeCells #[.int .i64 0] n) 3)=w1 at *
 clear hi0 hz0 hz1 hz2
 go_enter Tryz.func228,Tryz.ntmps228
 go_wp2
 go_loopw [14] (fun i wr=>∃k:Nat,k<=pts.length/\i=.int .i64 k/\Gw El.int 3 w.heap.size (fun _=>False) wr (.slice (some ⟨w.heap.size,0,none⟩) n n) (layI pts told n k)/\Below w.heap.size w wr) (fun i _=>pts.length-(intOf i).toNat)
 case atStart=>exact⟨0,Nat.zero_le _,rfl,hI0,hB0⟩
 case round =>
  clear hI0 hB0 hmk;obtain⟨k,hk,rfl,hG,hB⟩:=hrel
  by_cases hkn:k<pts.length
  . obtain⟨b0,off,ea,hb,d0⟩:=HH.out.at hB k hkn
    subst ea
    obtain⟨b1,off1,ea,hb1,d1⟩:=H2.out.at hB k (by rw[HL.out];exact hkn)
    subst ea
    have hzi:=H2.out.i64 (k:=k) (by rw[HL.out];exact hkn)
    have hp:=zct k (fun j hj=>HR.out j (by omega))
    have HS:Hid (layI pts told n (k+1)=(layI pts told n k).set (pts.getD k 0).toNat (told.getD k 0)):=rfl
    obtain⟨p,hpp⟩:∃p:Nat,pts.getD k 0=(p:Int):=⟨(pts.getD k 0).toNat,by omega⟩
    rw[hpp]at d0 hp HS;rw[Int.toNat_natCast]at HS
    obtain⟨z,hzz⟩:∃z,told.getD k 0=z:=⟨_,rfl⟩
    rw[hzz]at d1 hzi HS
    have hne:layI pts told n k≠[]:=fun e=>by have:=za8 pts told n k;rw[e]at this;simp at this;omega
    obtain⟨g,cap,e5,h5,h6,h7,hfz,hrd,zkq⟩:=hG.own hne
    injection e5 with e5 e6 e7;injection e5 with e5;injection e5 with e5;subst e5
    have hfp:=hfz p
    have hsw:=zkq p 0 (.int .i64 z) z (by rw[za8];omega) Nat.one_pos (fun S' vs hv=>by rw[hv.1];exact⟨rfl,hzi⟩)
    rw[show p*El.int.sz+0=p from Nat.mul_one p,<-HS.out]at hsw
    obtain⟨vs,hrx,hcx⟩:=hrd p (by rw[za8];omega)
    have hc0:=hcx 0 Nat.one_pos
    rw[hrx.1,show p*El.int.sz+0=p from Nat.mul_one p]at hc0
    have hBs:Below w.heap.size w (wr.setCell ⟨w.heap.size,p,none⟩ (.int .i64 z)):=hB.setCell (p:=⟨w.heap.size,p,none⟩) (Nat.le_refl _) _
    have i1:(0:Int)<=(k:Int):=by omega
    have i2:(k:Int)<(pts.length:Int):=by omega
    have i3:(0:Int)<=(p:Int):=by omega
    have i4:(p:Int)<(n:Int):=by omega
    have HSW:Hid (Gw El.int 3 w.heap.size (fun _=>False) (wr.setCell ⟨w.heap.size,p,none⟩ (.int .i64 z)) (.slice (some ⟨w.heap.size,0,none⟩) n n) (layI pts told n (k+1))):=hsw
    have HBS:Hid (Below w.heap.size w (wr.setCell ⟨w.heap.size,p,none⟩ (.int .i64 z))):=hBs
    clear zkq hfz hrd hsw hBs hpp hzz hcx hrx hG hne e6 e7 h7;go_wp2
    go_roundw
    case rel=>exact⟨k+1,by omega,by go_num,HSW.out,HBS.out⟩
    case measure=>simp[intOf];omega
  . obtain rfl:k=pts.length:=by omega
    have g1:¬(pts.length:Int)<(pts.length:Int):=by omega
    obtain⟨a9,c9,e9,hg9,_⟩:=hG.slice
    have hri:=hg9.ri
    have HLL:Hid ((layI pts told n pts.length).length=n):=za8 _ _ _ _
    rw[HLL.out]at e9;injection e9 with e1 e2 e3;subst e1 e3
    have HRI:Hid (Ri wr (some ⟨w.heap.size,0,none⟩) n (layI pts told n pts.length)):=hri
    clear hri hg9 hG;go_wp2
    go_ret
    exact⟨_,n,by rw[HLL.out];rfl,HRI.out,hB⟩
def isG(n:Nat)(g:Int):Bool:=decide (0<=g)&&decide (g<(n:Int))
theorem zn2{l:List Gl}{g:Int}(h:isG l.length g=false):gAt l g=none:=by
 unfold isG at h
 by_cases h0:0<=g
 . rw[decide_eq_true h0,Bool.true_and,decide_eq_false_iff_not]at h
   exact z2j (by omega)
 . exact z2h (by omega)
theorem zn1{n:Nat}{g:Int}(h:isG n g=true):0<=g/\g<(n:Int):=by
 unfold isG at h
 rw[Bool.and_eq_true,decide_eq_true_iff,decide_eq_true_iff]at h
 exact h
theorem zyz{l:List Gl}{g:Int}(h:isG l.length g=true):gAt l g=some (l.getD g.toNat Gl.none):=by
 obtain⟨h1,h2⟩:=zn1 h
 have:=z2i (l:=l) (k:=g.toNat) (by omega)
 rw[show((g.toNat:Nat):Int)=g by omega]at this
 exact this
theorem zlw(a:OA)(n c:Nat)(g:Int)(w:World)(hn:n<=9223372036854775807)(hg:I64 g) :
 Calls Tryz.prog 35 #[.slice a n c,.int .i64 g] w fun e w'=>e=.returned (.bool (isG n g))/\w=w':=by
 by_cases h0:0<=g
 . have HE:Hid (isG n g=decide (g<(n:Int))):=by show _=_;unfold isG;rw[decide_eq_true h0,Bool.true_and]
   have g1:decide ((0:Int)<=g)=true:=decide_eq_true h0
   go_enter Tryz.func35,Tryz.ntmps35
   go_wp2
   go_ret
   exact⟨zaa HE.out.symm,rfl⟩
 . have HE:Hid (isG n g=false):=by show _=_;unfold isG;rw[decide_eq_false h0,Bool.false_and]
   have g1:decide ((0:Int)<=g)=false:=decide_eq_false h0
   go_enter Tryz.func35,Tryz.ntmps35
   go_wp2
   go_ret
   exact⟨zaa HE.out.symm,rfl⟩
theorem z3c(n m:Nat):min (((cap n:Nat):Int)+(m:Int)) 2001=((cap (n+m):Nat):Int):=by unfold cap;omega
theorem zx7(n m:Nat):min (((cap n:Nat):Int)+((cap m:Nat):Int)) 2001=((cap (n+m):Nat):Int):=by unfold cap;omega
theorem zzk(n:Nat):cap n<=2001:=by unfold cap;omega
theorem zl7(S:Nat->Prop)(a:OA)(ca:Nat)(b:OA)(nb cb:Nat)(cs:List (List Pn))(w:World)(h:Gr PnE.row S w a ca cs) :
 Calls Tryz.prog 66 #[.agg #[.slice a cs.length ca,.slice b nb cb]] w fun e w'=>e=.returned (.int .i64 ((cap cs.flatten.length:Nat):Int))/\Below w.heap.size w w':=by
 have k2:=h.lenB
 obtain⟨W,hW,X1,hbW⟩:∃W,W=w.alloc (.cells #[.slice a cs.length ca,.slice b nb cb] 57)/\Bk 57 W w.heap.size [.slice a cs.length ca,.slice b nb cb]/\Below w.heap.size w W:=⟨_,rfl,Bk.new _ _ _,bl1 _⟩
 obtain⟨x0,x1,_⟩:=X1.two
 have HH:Hid (Gr PnE.row S W a ca cs):=h.below hbW
 clear h X1
 go_enter Tryz.func66,Tryz.ntmps66
 go_upto_region 1 with fail
 rw[<-hW];clear hW;go_wp2;clear x0 x1
 go_loopw [3,9] (fun c i wr=>∃k:Nat,k<=cs.length/\i=.int .i64 k/\c=.int .i64 ((cap (cs.take k).flatten.length:Nat):Int)/\W=wr) (fun _ i _=>cs.length-(intOf i).toNat)
 case atStart=>exact⟨0,Nat.zero_le _,rfl,rfl,rfl⟩
 case round =>
  obtain⟨k,hk,rfl,rfl,rfl⟩:=hrel
  by_cases hkn:k<cs.length
  . obtain⟨b0,off,a1,c1,ea,hb,d0,hrow,hlb,_⟩:=HH.out.rw (Below.refl _ _) k hkn
    subst ea
    have HST:Hid (_):=zan hkn
    have hmn:=z3c (cs.take k).flatten.length (cs.getD k []).length
    rw[<-HST.out]at hmn
    have hcb:=zzk (cs.take k).flatten.length
    obtain⟨m,hm⟩:∃m,(cs.getD k []).length=m:=⟨_,rfl⟩
    rw[hm]at d0 hmn hlb
    obtain⟨y,hy⟩:∃x,cap (cs.take (k+1)).flatten.length=x:=⟨_,rfl⟩
    have HY:Hid (cap (cs.take (k+1)).flatten.length=y):=hy
    rw[hy]at hmn
    generalize cap (cs.take k).flatten.length=x at *
    have i1:(0:Int)<=(k:Int):=by omega
    have i2:(k:Int)<(cs.length:Int):=by omega
    clear hm hy hrow HST;go_wp2
    go_roundw
    case rel=>exact⟨k+1,by omega,by go_num,by rw[HY.out],trivial⟩
    case measure=>simp[intOf];omega
  . obtain rfl:k=cs.length:=by omega
    have g4:¬(cs.length:Int)<(cs.length:Int):=by omega
    rw[List.take_length];go_wp2
    go_ret
    exact⟨rfl,hbW⟩
theorem zeroX(w:World):(zeroValue 71).run Tryz.prog w=.ok (.agg #[.int .i64 0,.int .i64 0]) w:=by kernel_rfl
theorem zd6(a:OA)(n c:Nat)(w:World) :
 Calls Tryz.prog 31 #[.slice a n c] w fun e w'=>e=.returned (.pointer (some ⟨w.heap.size+1,0,none⟩))/\Bk 119 w' (w.heap.size+1) [.slice a n c,.map (some w.heap.size)]/\Mp w' w.heap.size 0 (fun _=>none)/\Below w.heap.size w w':=by
 have hmm:=@run_makeMap Tryz.prog
 have M:=Mp.made w
 obtain⟨W,hW⟩:∃W,W=w.alloc (.map #[] 0):=⟨_,rfl⟩
 have hb:Below w.heap.size w W:=by rw[hW];exact bl1 _
 have hs:W.heap.size=w.heap.size+1:=by rw[hW];simp
 rw[<-hW]at M
 have X:=Bk.new 119 W [.slice a n c,.map (some w.heap.size)]
 rw[hs]at X
 have zau:Bk 119 (W.alloc (.cells #[.slice a n c,.map (some w.heap.size)] 119)) (w.heap.size+1) [.slice a n c,.map (some w.heap.size)]/\Mp (W.alloc (.cells #[.slice a n c,.map (some w.heap.size)] 119)) w.heap.size 0 (fun _=>none)/\Below w.heap.size w (W.alloc (.cells #[.slice a n c,.map (some w.heap.size)] 119)):=⟨X,M.below (bl1 _),hb.trans ((bl1 _).mono hb.size)⟩
 have HF:Hid (_):=zau
 clear zau X M hb
 go_enter Tryz.func31,Tryz.ntmps31
 go_wp2
 go_ret
 subst hW
 exact⟨rfl,HF.out⟩
