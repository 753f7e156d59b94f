import Derived.Test.YtkmcodofnckdmaaGreatZK32
import Derived.Laws.OwnMore
set_option maxHeartbeats 8000000
set_option maxRecDepth 100000
set_option linter.unusedSimpArgs false
set_option linter.unusedVariables false
namespace Go.Proofs.YtkmcodofnckdmaaGreat
open Go.RowKit Go.Maps
theorem zw3:(Tryz.prog.info? 144).map (fun i=>(i.zero,i.size,i.bytes))=some (some (.agg #[.slice none 0 0,.bool false,.slice none 0 0,.slice none 0 0,.slice none 0 0]),5,104):=by kernel_rfl
theorem zwl{xs:LN}(h:0<nmV xs 0 2):2<=xs.length:=by
 unfold nmV at h
 cases hi:inB xs.length 0 2 with
 | false=>rw[show inB xs.length 0 ((2:Nat):Int)=false from hi]at h;simp at h
 | true=>simp[inB]at hi;omega
theorem Gw.kpS{α:Type}{E:El α}{t u:TypeId}{base g n:Nat}{w w':World}{v:Value}{l:List α}{cs:LV}(h:Gw E t base (fun k=>n<=k) w v l)(hb:Bk u w g cs)(ht:u≠t)(hg:g<n)(hk:Kp g w w'):Gw E t base (fun k=>n<=k) w' v l:=by
 refine h.stay hk.size (fun k h1 _ h2=>⟨h1,hk.block h2 (by omega)⟩) (fun k hv=>hk.block (h.lo hv).2 (fun e=>?_))
 obtain⟨cur,k1⟩:=h.ty hv
 rw[e,hb]at k1
 simp at k1
 exact ht k1.2
theorem zvy{b:LN}{ax cnt k:Nat}{l:List Tu}{q:Nat}(h:rdK b ax cnt k=some (l,q)){t:Tu}{q2:Nat}(ht:rdTu b ax cnt q=some (t,q2)):rdK b ax cnt (k+1)=some (l++[t],q2):=by
 rw[rdK,h,Option.bind_some]
 dsimp only
 rw[ht]
 rfl
theorem zvz{b:LN}{ax cnt k:Nat}{l:List Tu}{q:Nat}(h:rdK b ax cnt k=some (l,q))(ht:rdTu b ax cnt q=none):rdK b ax cnt (k+1)=none:=by
 rw[rdK,h,Option.bind_some]
 dsimp only
 rw[ht]
 rfl
theorem zo3(ba:OA)(bc:Nat)(xs:LN)(S:Nat->Prop)(a:OA)(ca:Nat)(b:OA)(cb:Nat)(o:Ol)(ax:Int)(w:World)(hx:Rb w ba bc xs)(hc:Gr PnE.row S w a ca o.cs)(hp:Gr PaE S w b cb o.ps)(hi:I64 ax)(hxl:xs.length<=100000) :
 Calls Tryz.prog 89 #[.slice ba xs.length bc,.agg #[.slice a o.cs.length ca,.slice b o.ps.length cb],.int .i64 ax] w fun e w'=>∃a' c',e=.returned (.tuple #[.slice a' (rdTL xs o ax).length c',.int .i64 (rdTE xs o ax)])/\Gr TuE (fun k=>w.heap.size<=k) w' a' c' (rdTL xs o ax)/\(∀c o,a'=some ⟨c,o,none⟩->w.heap.size<=c)/\Below w.heap.size w w':=by
 have kc:=hc.lenB
 have kp:=hp.lenB
 have hpc:=hx.le
 have hpm:=hx.cap
 unfold maxLen at hpm
 obtain⟨W,hW,X1,hbW⟩:∃W,W=w.alloc (.cells #[.slice a o.cs.length ca,.slice b o.ps.length cb] 57)/\Bk 57 W w.heap.size [.slice a o.cs.length ca,.slice b o.ps.length cb]/\Below w.heap.size w W:=⟨_,rfl,Bk.new _ _ _,bl1 _⟩
 replace hc:=hc.below hbW;replace hp:=hp.below hbW;replace hx:=hx.below hbW
 have hu:=zgd ba bc xs 0 W hx ⟨by decide,by decide⟩
 have hnl:=zbd hx.lim 0 2
 have HNP:Hid (0<nmV xs 0 2->2<=xs.length):=zwl
 have zql:Hid (rdTOk xs o ax=false->rdTL xs o ax=[]/\rdTE xs o ax=2):=z37
 have HB3:Hid (∀k,rdK xs ax.toNat (cntO o) k=none->k<=nmV xs 0 2->rdTOk xs o ax=false):=fun k h1 h2=>zvu h1 h2
 have HB2:Hid (¬nmV xs 0 2<=40->rdTOk xs o ax=false):=zvv
 have HB4:Hid (∀l p,rdK xs ax.toNat (cntO o) (nmV xs 0 2)=some (l,p)->(foT o l ax=false\/tuBt l≠xs)->rdTOk xs o ax=false):=fun l p h1 h2=>zvt h1 h2
 have HGD:Hid (∀l p,rdK xs ax.toNat (cntO o) (nmV xs 0 2)=some (l,p)->foT o l ax=true->tuBt l=xs->rdTL xs o ax=l/\rdTE xs o ax=0):=fun l p h1 h2 h3=>znl h1 h2 h3
 obtain⟨n,hn⟩:∃n,nmV xs 0 2=n:=⟨_,rfl⟩
 generalize inB xs.length 0 2=qb at hu
 rw[hn]at hu hnl HNP HB3 HB2 HB4 HGD
 have hn6:n<65536:=hnl
 clear hnl hn
 have hf1:Calls Tryz.prog 58 #[.agg #[.slice a o.cs.length ca,.slice b o.ps.length cb],.slice none 0 0,.int .i64 ax] W fun e w'=>e=.returned (.bool (foT o [] ax))/\Below W.heap.size W w':=zdt S a ca b cb o (fun _=>True) none 0 [] ax W hc hp (Gr.nil _ _ _ _ _ (Nat.zero_le _) (fun _=>rfl)) hi
 obtain⟨p0,p1,_⟩:=X1.two
 go_enter Tryz.func89,Tryz.ntmps89
 go_upto_region 1 with fail
 rw[<-hW];clear hW
 go_wp2_with fail
 refine hu.mono ?_
 rintro e u0 ⟨rfl,rfl⟩;clear hu
 cases hfo:foT o [] ax with
 | false =>
  rw[hfo]at hf1
  have HNO:Hid (_):=zql.out (zvw hfo)
  clear hfo hc hp hx HB2 HB3 HB4 HGD HNP
  go_wp2_with fail
  refine hf1.mono ?_
  rintro e m2 ⟨rfl,hb1⟩
  have zau:=hbW.trans (hb1.mono hbW.size)
  clear hb1 hf1;go_wp2
  go_ret2
  exact⟨none,0,by rw[HNO.out.1,HNO.out.2];rfl,by rw[HNO.out.1];exact Gr.nil _ _ _ _ _ (Nat.zero_le _) (fun _=>rfl),(fun c o e=>by cases e),zau⟩
 | true =>
 rw[hfo]at hf1
 obtain⟨hF1,hF2,-,-⟩:=zbc.1 hfo
 have hcn:=zfl hF1
 have hfl:=(za1.1 hF1).2.2.2.2.1
 have hfp:=(za1.1 hF1).2.2.1
 clear hfo hF1
 go_wp2_with fail
 refine hf1.mono ?_
 rintro e m2 ⟨rfl,hb1⟩;replace hc:=hc.below hb1;replace hp:=hp.below hb1;replace hx:=hx.below hb1;replace X1:=X1.below hb1
 replace hbW:=hbW.trans (hb1.mono hbW.size)
 clear hb1 hf1 p0 p1
 by_cases hn4:n<=40
 rotate_left
 . have g1:(40:Int)<(n:Int):=by omega
   have HNO:Hid (_):=zql.out (HB2.out hn4)
   clear hc hp hx HB2 HB3 HB4 HGD HNP X1;go_wp2
   go_ret2
   exact⟨none,0,by rw[HNO.out.1,HNO.out.2];rfl,by rw[HNO.out.1];exact Gr.nil _ _ _ _ _ (Nat.zero_le _) (fun _=>rfl),(fun c o e=>by cases e),hbW⟩
 have g1:¬(40:Int)<(n:Int):=by omega
 obtain⟨A,rfl⟩:∃A:Nat,ax=(A:Int):=⟨ax.toNat,by omega⟩
 rw[Int.toNat_natCast]at HB3 HB4 HGD
 obtain⟨N,hN⟩:∃N,cntO o=N:=⟨_,rfl⟩
 have HN:Hid (cntO o=N):=hN
 rw[hN]at HB3 HB4 HGD hcn;clear hN
 obtain⟨V,hV,XS,hbV⟩:∃V,V=m2.alloc (.cells #[.slice ba xs.length bc,.int .i64 2] 203)/\Bk 203 V m2.heap.size [.slice ba xs.length bc,.int .i64 2]/\Below m2.heap.size m2 V:=⟨_,rfl,Bk.new _ _ _,bl1 _⟩
 have hS0:Sc 203 V m2.heap.size ba bc xs 2:=⟨XS,hx.below hbV,fun b o e hne=>Nat.ne_of_lt (hx.blk hne e)⟩
 have HX1:Hid (Bk 57 m2 w.heap.size [.slice a o.cs.length ca,.slice b o.ps.length cb]):=X1
 have HC:Hid (Gr PnE.row S m2 a ca o.cs):=hc
 have HP:Hid (Gr PaE S m2 b cb o.ps):=hp
 have HX:Hid (Rb m2 ba bc xs):=hx
 have HBW:Hid (Below w.heap.size w m2):=hbW
 have HVS:Hid (V.heap.size=m2.heap.size+1):=by show _=_;rw[hV];simp
 obtain⟨g,hg⟩:∃g,m2.heap.size=g:=⟨_,rfl⟩
 have HG:Hid (m2.heap.size=g):=hg
 have hB0:Below m2.heap.size m2 V:=hbV
 go_upto_region 5 with fail
 rw[<-hV];rw[hg]at hS0 HVS;clear hV XS hbV X1 hc hp hx hbW hg;go_wp2
 go_loopw [11,33] (fun v i wr=>∃(k:Nat) (tl:List Tu) (q:Nat),k<=n/\i=.int .i64 k/\rdK xs A N k=some (tl,q)/\(0<n->q<=xs.length)/\Sc 203 wr g ba bc xs q/\Gw TuE 144 (g+1) (fun k=>g+1<=k) wr v tl/\g+1<=wr.heap.size/\Below m2.heap.size m2 wr) (fun _ i _=>n-(intOf i).toNat)
 case atStart=>exact⟨0,[],2,Nat.zero_le _,rfl,rfl,HNP.out,hS0,Gw.nil _ _ _ _ _,by rw[HVS.out];exact Nat.le_refl _,hB0⟩
 case round =>
  clear hS0 hB0;obtain⟨k,tl,q,hk,rfl,hrk,hqx,hS,hGw,hgs,hB⟩:=hrel
  have hX1:=HX1.out.below hB
  have hlk:=zrw hrk
  by_cases hkn:k<n
  . have hqx2:=hqx (by omega)
    have hcc:=zfb S a ca b cb o wr (HC.out.below hB) (HP.out.below hB) (by omega) (by omega)
    rw[HN.out]at hcc;obtain⟨p0,p1,_⟩:=hX1.two
    have g2:(k:Int)<(n:Int):=by omega
    obtain⟨a6,c6,rfl,-,-⟩:=hGw.slice;rw[hlk]at hGw ⊢
    go_wp2_with fail
    refine hcc.mono ?_
    rintro e u1 ⟨rfl,hb1⟩;replace hS:=hS.below hb1;replace hGw:=hGw.below hb1
    replace hB:=hB.trans (hb1.mono hB.size)
    replace hgs:=Nat.le_trans hgs hb1.size
    clear hcc hb1 p0 p1 hX1
    have htu:=zo2 g ba bc xs q A N u1 hS hqx2 hxl (by omega) (by omega)
    go_wp2_with fail
    refine htu.mono ?_
    rintro e u2 ⟨hta,hk2⟩
    have hs2:=hk2.size
    have hOW:∀q,(Value.slice a6 k c6).ownBlock=some q->g+1<=q/\q<u1.heap.size:=fun q e=>hGw.lo e
    replace hGw:=hGw.kpS hS.bk (by decide) (by omega) hk2
    replace hB:=hB.trans (hk2.below hB.size (by rw[HG.out];exact Nat.le_refl _))
    cases hrd:rdTu xs A N q with
    | none =>
     rw[hrd]at hta;obtain⟨ra,rn,rc,bb,p2,pn,p3,xa,xn,xc,ya,yn,yc,rfl⟩:=hta
     have HNO:Hid (_):=zql.out (HB3.out (k+1) (zvz hrk hrd) hkn)
     have hBf:Below m2.heap.size m2 (u2.alloc (.cells #[.slice ra rn rc,.bool bb,.slice p2 pn p3,.slice xa xn xc,.slice ya yn yc] 144)):=hB.trans ((bl1 _).mono hB.size)
     have zqm:Hid (_):=HBW.out.trans (hBf.mono HBW.out.size)
     clear hrd hrk hGw hS htu hk2 hB HB2 HB3 HB4 HGD hBf;go_wp2
     go_ret2
     exact⟨none,0,by rw[HNO.out.1,HNO.out.2];rfl,by rw[HNO.out.1];exact Gr.nil _ _ _ _ _ (Nat.zero_le _) (fun _=>rfl),(fun c o e=>by cases e),zqm.out⟩
    | some r =>
     obtain⟨t,q2⟩:=r;rw[hrd]at hta;obtain⟨ra,rc,p2,p3,xa,xc,ya,yc,rfl,hTC,hS2,hq2⟩:=hta
     have HRK:Hid (rdK xs A N (k+1)=some (tl++[t],q2)):=zvy hrk hrd
     have HOW:Hid (∀q,(Value.slice a6 k c6).ownBlock=some q->g+1<=q/\q<u1.heap.size):=fun q e=>hOW q e
     obtain⟨l1,l2,l3,l4⟩:=hTC.len
     obtain⟨U,hU,XU,hbU⟩:∃U,U=u2.alloc (.cells #[.slice ra t.rg.length rc,.bool t.al,.slice p2 t.pts.length p3,.slice xa t.dx.length xc,.slice ya t.dy.length yc] 144)/\Bk 144 U u2.heap.size [.slice ra t.rg.length rc,.bool t.al,.slice p2 t.pts.length p3,.slice xa t.dx.length xc,.slice ya t.dy.length yc]/\Below u2.heap.size u2 U:=⟨_,rfl,Bk.new _ _ _,bl1 _⟩
     clear hrd hrk hS htu hk2 hOW
     go_upto_region 9 with fail
     rw[<-hU];clear hU;replace hS2:=hS2.below hbU;replace hGw:=hGw.below hbU;replace hTC:=hTC.below hbU
     replace hB:=hB.trans (hbU.mono hB.size)
     have hs3:=hbU.size
     clear hbU
     obtain⟨V9,hV9,Y9,hb9⟩:∃V,V=U.alloc (.cells #[.slice ra t.rg.length rc,.bool t.al,.slice p2 t.pts.length p3,.slice xa t.dx.length xc,.slice ya t.dy.length yc] 144)/\Bk 144 V U.heap.size [.slice ra t.rg.length rc,.bool t.al,.slice p2 t.pts.length p3,.slice xa t.dx.length xc,.slice ya t.dy.length yc]/\Below U.heap.size U V:=⟨_,rfl,Bk.new _ _ _,bl1 _⟩
     obtain⟨y0,y1,y2,y3,y4,-⟩:=XU.five
     have hGb:=hGw.below hb9
     have zju:TuE.rep (fun q=>g+1<=q/\(Value.slice a6 k c6).ownBlock≠some q) V9 [.slice ra t.rg.length rc,.bool t.al,.slice p2 t.pts.length p3,.slice xa t.dx.length xc,.slice ya t.dy.length yc] t:=TuE.stay (zus.2 ⟨ra,rc,p2,p3,xa,xc,ya,yc,rfl,hTC.below hb9⟩) (Nat.le_refl _) (fun q h1 _=>⟨⟨by omega,fun e=>by have:=(HOW.out q e).2;omega⟩,rfl⟩)
     have zba:=Gr.one (E:=TuE) zju Y9.lt (fun j hj=>Y9.cell j hj)
     have hBb:Below m2.heap.size m2 V9:=hB.trans (hb9.mono hB.size)
     have hs9:=hb9.size
     have hbs:g+1<=V9.heap.size:=by omega
     have hS9:=hS2.below hb9
     have hll:tl.length+1<=1000000:=by omega
     clear zju hGw hTC hS2 hB
     go_wp2_with (at_builtin;rw[<-hV9];refine zad 58 144 Tryz.underlying58 zw3 rfl (by decide) (by decide) rfl _ _ rfl (g+1) (fun k=>g+1<=k) _ tl rfl hGb (some ⟨U.heap.size,0,none⟩) 1 1 [t] rfl rfl zba hll hbs ?_)
     intro v9 w9 hT9 hgrow _
     rw[<-hV9]at hgrow
     have hB9:Below m2.heap.size m2 w9:=hBb.grown hgrow hBb.size (fun q hq=>by have:=(HOW.out q hq).1;have:=HG.out;omega)
     have zxa:=hS9.grown hgrow (fun e=>by have:=(HOW.out g e).1;omega) (fun b o e hne e2=>by have:=(HOW.out b e2).1;have:=HX.out.blk hne e;have:=HG.out;omega)
     have hs10:g+1<=w9.heap.size:=Nat.le_trans hbs hgrow.size
     clear hgrow hGb zba hbs hll hBb hV9 Y9 y0 y1 y2 y3 y4 XU hb9 hS9;go_wp2
     go_roundw
     case rel=>exact⟨k+1,tl++[t],q2,by omega,by go_num,HRK.out,fun _=>hq2,zxa,hT9,hs10,hB9⟩
     case measure=>simp[intOf];omega
  . obtain rfl:k=n:=by omega
    have g4:¬(k:Int)<(k:Int):=by omega
    obtain⟨a6,c6,rfl,hgr,hb6⟩:=hGw.slice
    have HLO:Hid (∀c o,a6=some ⟨c,o,none⟩->w.heap.size<=c):=fun c o e=>by
     have h1:=(hb6 c o e).1
     have h2:=HBW.out.size
     have h3:=HG.out
     omega
    have HLW:Hid (∀k,g+1<=k->w.heap.size<=k):=fun k h1=>by
     have h2:=HBW.out.size
     have h3:=HG.out
     omega
    clear hb6
    have hwr:=zo1 S a ca b cb o _ a6 c6 tl (A:Int) wr (HC.out.below hB) (HP.out.below hB) hgr hi
    obtain⟨p0,p1,_⟩:=hX1.two
    have HRK:Hid (rdK xs A N k=some (tl,q)):=hrk
    have hBw:=HBW.out.trans (hB.mono HBW.out.size)
    have hrx:=HX.out.below hB
    clear hGw hS hrk hlk hqx hX1
    cases hfo:foT o tl (A:Int) with
    | false =>
     have HNO:Hid (_):=zql.out (HB4.out tl q HRK.out (.inl hfo))
     rw[(zm1 hfo).1,(zm1 hfo).2]at hwr
     clear hfo HB2 HB3 HB4 HGD HRK hgr
     go_wp2_with fail
     refine hwr.mono ?_
     rintro e u1 ⟨a1,c1,rfl,hr1,hb1⟩
     have zau:=hBw.trans (hb1.mono hBw.size)
     clear hwr hb1 hr1;go_wp2
     go_ret2
     exact⟨none,0,by rw[HNO.out.1,HNO.out.2];rfl,by rw[HNO.out.1];exact Gr.nil _ _ _ _ _ (Nat.zero_le _) (fun _=>rfl),(fun c o e=>by cases e),zau⟩
    | true =>
     have HFO:Hid (foT o tl (A:Int)=true):=hfo
     rw[(zex hfo).1,(zex hfo).2]at hwr
     clear hfo
     go_wp2_with fail
     refine hwr.mono ?_
     rintro e u1 ⟨a1,c1,rfl,hr1,hb1⟩
     have zau:=hBw.trans (hb1.mono hBw.size)
     have heq:=zk1 a1 ba c1 bc (tuBt tl) xs u1 hr1 (hrx.below hb1)
     replace hgr:=(hgr.below hb1).wide (S':=fun k=>w.heap.size<=k) (fun k h1 _=>HLW.out k h1)
     have hl1:=hr1.le
     clear hwr hb1 p0 p1
     by_cases he:tuBt tl=xs
     . have HG2:Hid (_):=HGD.out tl q HRK.out HFO.out he
       rw[decide_eq_true he]at heq;clear he HB2 HB3 HB4 HGD zql HRK hr1
       generalize tuBt tl=tb at *
       go_wp2_with fail
       refine heq.mono ?_
       rintro e u2 ⟨rfl,rfl⟩;clear heq;go_wp2
       go_ret2
       exact⟨a6,c6,by rw[HG2.out.1,HG2.out.2];rfl,by rw[HG2.out.1];exact hgr,HLO.out,zau⟩
     . have HNO:Hid (_):=zql.out (HB4.out tl q HRK.out (.inr he))
       rw[decide_eq_false he]at heq;clear he HB2 HB3 HB4 HGD zql HRK hr1
       generalize tuBt tl=tb at *
       go_wp2_with fail
       refine heq.mono ?_
       rintro e u2 ⟨rfl,rfl⟩;clear heq;go_wp2
       go_ret2
       exact⟨none,0,by rw[HNO.out.1,HNO.out.2];rfl,by rw[HNO.out.1];exact Gr.nil _ _ _ _ _ (Nat.zero_le _) (fun _=>rfl),(fun c o e=>by cases e),zau⟩
def rdR(sh sm:Nat)(fs:LN)(s:LN)(a:Int)(k:Nat):LN:=(rdD sh sm (fs.take k) s a).2
theorem znm(sh sm:Nat)(fs s:LN)(a:Int):rdR sh sm fs s a 0=s:=rfl
theorem zrv(sh sm:Nat)(fs s:LN)(a:Int):rdR sh sm fs s a fs.length=(rdD sh sm fs s a).2:=by unfold rdR;rw[List.take_length]
theorem zkb(sh sm:Nat):∀(fs s:LN) (a:Int) (k:Nat),k<fs.length->(rdD sh sm fs s a).1.getD k 0=(if k=0 then a else (rdD sh sm fs s a).1.getD (k-1) 0)+(dfR (fs.getD k 0) sh sm (rdR sh sm fs s a k)).1/\rdR sh sm fs s a (k+1)=(dfR (fs.getD k 0) sh sm (rdR sh sm fs s a k)).2:=by
 intro fs
 induction fs with
 | nil=>intro s a k hk;simp at hk
 | cons f t ih =>
  intro s a k hk
  cases k with
  | zero=>exact⟨rfl,rfl⟩
  | succ k =>
   obtain⟨h1,h2⟩:=ih (dfR f sh sm s).2 (a+(dfR f sh sm s).1) k (by simpa using hk)
   have e:∀j,rdR sh sm (f::t) s a (j+1)=rdR sh sm t (dfR f sh sm s).2 (a+(dfR f sh sm s).1) j:=fun j=>rfl
   refine⟨?_,by rw[e,e,List.getD_cons_succ];exact h2⟩
   rw[e,List.getD_cons_succ,rdD,List.getD_cons_succ,h1]
   cases k with
   | zero=>rfl
   | succ k=>simp
theorem zop(f sh sm:Nat){s:LN}(hs:Byt s):-32768<=(dfR f sh sm s).1/\(dfR f sh sm s).1<=32767:=by
 have h1:hd1 s<256:=by
  unfold hd1
  cases s with
  | nil=>decide
  | cons x t=>exact hs x (by simp)
 have h2:hd2 s<65536:=by
  match s,hs with
  | [],_=>decide
  | [x],_=>exact(by decide:(0:Nat)<65536)
  | x::y::t,hs =>
   have:=hs x (by simp)
   have:=hs y (by simp)
   show 256*x+y<65536
   omega
 unfold dfR sx16
 split
 . split <;> dsimp only <;> omega
 . split
   . dsimp only;omega
   . dsimp only;split <;> omega
theorem zxz(f sh sm:Nat)(s:LN):∃j,j<=2/\(dfR f sh sm s).2=s.drop j:=by
 unfold dfR
 split
 . split
   . exact⟨1,by omega,rfl⟩
   . exact⟨1,by omega,rfl⟩
 . split
   . exact⟨0,by omega,rfl⟩
   . exact⟨2,by omega,rfl⟩
theorem zlm{sh sm:Nat}{fs s:LN}{a:Int}(hs:Byt s):∀k,k<=fs.length->Byt (rdR sh sm fs s a k):=by
 intro k
 induction k with
 | zero=>intro _;exact hs
 | succ k ih =>
  intro hk
  rw[(zkb sh sm fs s a k (by omega)).2]
  obtain⟨j,_,e⟩:=zxz (fs.getD k 0) sh sm (rdR sh sm fs s a k)
  rw[e]
  exact(ih (by omega)).drop j
theorem zyu{sh sm:Nat}{fs s:LN}(hs:Byt s):∀k,k<fs.length->-32768*((k:Int)+1)<=(rdD sh sm fs s 0).1.getD k 0/\(rdD sh sm fs s 0).1.getD k 0<=32767*((k:Int)+1):=by
 intro k
 induction k with
 | zero =>
  intro hk
  have h1:=(zkb sh sm fs s 0 0 hk).1
  have h2:=zop (fs.getD 0 0) sh sm (zlm (sh:=sh) (sm:=sm) (fs:=fs) (a:=0) hs 0 (Nat.zero_le _))
  rw[if_pos rfl]at h1;rw[h1]
  omega
 | succ k ih =>
  intro hk
  have h0:=ih (by omega)
  have h1:=(zkb sh sm fs s 0 (k+1) hk).1
  have h2:=zop (fs.getD (k+1) 0) sh sm (zlm (sh:=sh) (sm:=sm) (fs:=fs) (a:=0) hs (k+1) (by omega))
  rw[if_neg (by omega),Nat.add_sub_cancel]at h1
  rw[h1]
  omega
theorem z0w:∀(f n:Nat) (s acc:LN),n<=acc.length+f->n<=(rdG f n s acc).1.length:=by
 intro f
 induction f with
 | zero=>intro n s acc h;exact h
 | succ f ih =>
  intro n s acc h
  rw[rdG]
  split
  . split
    . exact ih _ _ _ (by rw[List.length_append,List.length_replicate];omega)
    . exact ih _ _ _ (by rw[List.length_append,List.length_singleton];omega)
  . dsimp only;omega
theorem z0x:∀(f n:Nat) (s acc:LN),Byt s->Byt acc->Byt (rdG f n s acc).1:=by
 intro f
 induction f with
 | zero=>intro n s acc _ h;exact h
 | succ f ih =>
  intro n s acc hs h
  have h1:hd1 s<256:=by
   unfold hd1
   cases s with
   | nil=>decide
   | cons x t=>exact hs x (by simp)
  rw[rdG]
  split
  . split
    . exact ih _ _ _ (hs.drop 2) (h.append (fun x hx=>by rw[List.eq_of_mem_replicate hx];exact h1))
    . exact ih _ _ _ (hs.drop 1) (h.append (fun x hx=>by rw[List.mem_singleton.1 hx];exact h1))
  . exact h
def cutK:LN->Nat->List Pn->List (List Pn)
 | [],_,_=>[]
 | e::t,p,l=>(l.drop p).take (min (e+1) l.length-p)::cutK t (max p (min (e+1) l.length)) l
def numK(L:Nat):LN->Nat->Nat->Nat
 | _,p,0=>p
 | [],p,_+1=>p
 | e::t,p,k+1=>numK L t (max p (min (e+1) L)) k
theorem zx0:∀(es:LN) (p:Nat) (l:List Pn),(cutK es p l).length=es.length:=by
 intro es
 induction es with
 | nil=>intro p l;rfl
 | cons e t ih=>intro p l;rw[cutK,List.length_cons,List.length_cons,ih]
theorem z26:∀(es:LN) (p:Nat) (l:List Pn) (k:Nat),k<es.length->(cutK es p l).getD k []=(l.drop (numK l.length es p k)).take (min (es.getD k 0+1) l.length-numK l.length es p k)/\numK l.length es p (k+1)=max (numK l.length es p k) (min (es.getD k 0+1) l.length):=by
 intro es
 induction es with
 | nil=>intro p l k hk;simp at hk
 | cons e t ih =>
  intro p l k hk
  cases k with
  | zero =>
   refine⟨rfl,?_⟩
   rw[numK]
   cases t <;> rfl
  | succ k =>
   obtain⟨h1,h2⟩:=ih (max p (min (e+1) l.length)) l k (by simpa using hk)
   exact⟨h1,h2⟩
theorem z1a{L:Nat}:∀(es:LN) (p k:Nat),p<=L->numK L es p k<=L:=by
 intro es
 induction es with
 | nil=>intro p k h;cases k <;> exact h
 | cons e t ih =>
  intro p k h
  cases k with
  | zero=>exact h
  | succ k=>exact ih _ k (by omega)
theorem zt8:∀(es:LN) (p:Nat) (l:List Pn) (cs:List (List Pn)),cutC es p l=some cs->cutK es p l=cs:=by
 intro es
 induction es with
 | nil=>intro p l cs h;injection h
 | cons e t ih =>
  intro p l cs h
  rw[cutC]at h
  split at h
  . cases h
  . rename_i hn
    cases hc:cutC t (e+1) l with
    | none=>rw[hc]at h;cases h
    | some r =>
     rw[hc]at h;injection h with h
     rw[cutK,<-h,show min (e+1) l.length=e+1 by omega,show max p (e+1)=e+1 by omega,ih _ _ _ hc]
def cntK(m:Nat)(es:LN):Nat:=if m=0 then 0 else min (es.getD (m-1) 0+1) 80
def fgK(n:Nat)(s:LN):LN×LN:=rdG n n s []
def fsK(n:Nat)(s:LN):LN:=(fgK n s).1.take n
def xsK(n:Nat)(s:LN):LI×LN:=rdD 2 16 (fsK n s) (fgK n s).2 0
def ysK(n:Nat)(s:LN):LI×LN:=rdD 4 32 (fsK n s) (xsK n s).2 0
def ptK(n:Nat)(s:LN):List Pn:=mkP (xsK n s).1 (ysK n s).1 (fsK n s)
theorem zl9(n:Nat)(s:LN):(fsK n s).length=n:=by
 unfold fsK fgK
 rw[List.length_take]
 have:=z0w n n s [] (by simp)
 omega
theorem zlp(n:Nat)(s:LN):(ptK n s).length=n:=by
 unfold ptK
 rw[z1j _ _ _ (by unfold xsK;rw[ziq]) (by unfold ysK;rw[ziq]),zl9]
def conK(m:Nat)(s:LN):List (List Pn):=cutK (rdE m s).1 0 (ptK (cntK m (rdE m s).1) (rdE m s).2)
def candK(b:LN):Ol:=if sx16 (hd2 b)=-1 then ⟨[],psR ((b.drop 2).drop 2) (min (hd2 (b.drop 2)) 6)⟩else ⟨conK (min (sx16 (hd2 b)) 10).toNat (b.drop 2),[]⟩
theorem z4d{n:Nat}{s:LN}(h:ptsW n (rdE n s).1<=80):ptK (cntK n (rdE n s).1) (rdE n s).2=lsW n s:=by
 have e:cntK n (rdE n s).1=ptsW n (rdE n s).1:=by
  unfold cntK
  unfold ptsW at h ⊢
  split
  . rfl
  . rename_i h0
    rw[if_neg h0]at h
    omega
 have e1:fgK (ptsW n (rdE n s).1) (rdE n s).2=flW n s:=by unfold fgK flW;rw[if_pos h]
 rw[e]
 unfold ptK lsW ysK ysW xsK xsW fsK fsW
 rw[e1]
theorem zqd{o:Ol}(h:wrOE o=0):candK (wrOB o)=o:=by
 obtain⟨⟨f1,f2,f3,f4,f5,f6,f7⟩,hdi⟩:=zh5 h
 by_cases h0:o.ps.length=0
 . rw[zle h h0]
   have hd:=zt5.1 (hdi h0)
   obtain⟨cs,ps⟩:=o
   have hps:ps=[]:=List.length_eq_zero_iff.1 h0
   subst hps
   dsimp only at *
   unfold coB
   have v0:V8 (be2 (cs.length:Int))=cs.length:=by rw[zdx (by omega) (by omega),Int.toNat_natCast]
   have hsx:sx16 cs.length=(cs.length:Int):=by unfold sx16;rw[if_neg (by omega)]
   unfold candK
   rw[zcy,zds,v0,hsx,if_neg (by omega),show(min (cs.length:Int) 10).toNat=cs.length by omega]
   obtain⟨hpt,hC⟩:=zub f4 f5 hd [] (s:=(endF 0 cs).flatMap be2++(rl (flL cs.flatten)++((difs 0 0 cs.flatten).flatMap (fun t=>axB t.1)++(difs 0 0 cs.flatten).flatMap (fun t=>axB t.2.1)))) (by rw[List.append_nil])
   unfold conK
   rw[z4d (by rw[hpt];exact f5),zt8 _ _ _ _ hC]
 . rw[zld h h0]
   obtain⟨cs,ps⟩:=o
   have hcs:cs=[]:=List.length_eq_zero_iff.1 (by rcases f1 with f1 | f1;exact f1;exact absurd f1 h0)
   subst hcs
   dsimp only at *
   have v0:V8 (be2 (ps.length:Int))=ps.length:=by rw[zdx (by omega) (by omega),Int.toNat_natCast]
   have hb:=znr ps f7 []
   rw[List.append_nil]at hb
   unfold paB candK
   have e1:hd2 ([255,255]++(be2 (ps.length:Int)++ps.flatMap paE))=65535:=rfl
   have e2:([255,255]++(be2 (ps.length:Int)++ps.flatMap paE)).drop 2=be2 (ps.length:Int)++ps.flatMap paE:=rfl
   rw[e1,e2,if_pos (by decide),zcy,zds,v0,show min ps.length 6=ps.length by omega,hb]
theorem zx8(b:LN):(decide (wrOE (candK b)=0)&&decide (wrOB (candK b)=b))=rdOk b/\(rdOk b=true->candK b=candO b):=by
 have h2:rdOk b=true->candK b=candO b:=fun h=>by
  obtain⟨h1,h2⟩:=zik.1 h
  have:=zqd h1
  rw[h2]at this
  exact this
 refine⟨?_,h2⟩
 rw[Bool.eq_iff_iff]
 constructor
 . intro h
   rw[Bool.and_eq_true,decide_eq_true_iff,decide_eq_true_iff]at h
   exact(z39 h.1 h.2).1
 . intro h
   rw[h2 h]
   exact h
theorem zp4(v:Int)(q:Bool)(n:Nat)(g:Nat)(pa:OA)(pc:Nat)(xs:LN)(p:Nat)(w:World)(h:Sc 200 w g pa pc xs p)(hp:p<=1000000)(hn:n<=2)
    (hF:∀U,Rb U pa pc xs->Calls Tryz.prog 91 #[.slice pa xs.length pc,.int .i64 (p:Int)] U fun e w'=>e=.returned (.tuple #[.int .i64 v,.bool q])/\U=w') :
    Calls Tryz.prog 246 #[pg g,.func (.func 91) #[] #[],.int .i64 (n:Int)] w fun e w'=>e=.returned (.int .i64 v)/\Sc 200 w' g pa pc xs (p+n)/\Kp g w w':=by
 obtain⟨x0,x1,_⟩:=h.bk.two
 go_enter Tryz.func246,Tryz.ntmps246
 go_upto_region 1 with fail
 refine wp_region_held_drew (S:=(fun u=>u.cell? ⟨g,0,none⟩=some (.slice pa xs.length pc)/\u.cell? ⟨g,1,none⟩=some (.int .i64 (p:Int)))) (by kernel_rfl) ?_ (fun hH=>?_)
 . (try dsimp only)
   go_keep
 have hdr:Below w.heap.size w w.drew:=Below.drew1
 have hkp:Kp g w w.drew:=(Kp.refl g w).drew
 generalize w.drew=ud at hdr hkp hH ⊢
 replace h:=h.below hdr;clear hdr x0 x1;refine hT 0 hH ?_;refine hT 1 hH ?_;refine hT 2 hH ?_;refine hT 3 hH ?_;refine hT 4 hH ?_;refine hT 5 hH ?_;refine hT 6 hH ?_;refine hT 7 hH ?_;refine hT 8 hH ?_
 refine hCall (i:=9) rfl (by kernel_rfl) (by rfl) (fun K hK=>?_)
 go_simp
 refine(hF _ h.rb).mono ?_
 rintro e u1 ⟨rfl,rfl⟩
 go_wp2_with fail
 refine hK.out _ _ ?_ (fun hH=>?_)
 . (try dsimp only)
   exact hH
 clear hK K
 try simp only[Act.put,pZ]
 refine hT 10 hH ?_;refine hT 11 hH ?_;refine hT 13 hH ?_;refine hT 12 hH ?_;refine hT 14 hH ?_
 refine wpAnyH_done (by kernel_rfl) ?_ _
 clear hH;obtain⟨x0,x1,f0,f1⟩:=h.bk.two
 have hs:=h.step (p+n)
 have hk2:=hkp.setCell 1 (.int .i64 ((p+n:Nat):Int))
 have hpn:(p:Int)+(n:Int)=((p+n:Nat):Int):=by omega
 have HS:Hid (_):=hs
 have HK2:Hid (_):=hk2
 clear hs hk2
 obtain⟨m,hm⟩:∃m:Nat,p+n=m:=⟨_,rfl⟩
 have hml:m<=1000002:=by omega
 rw[hm]at hpn HS HK2
 have HM:Hid (p+n=m):=hm
 clear hm;go_wp2
 go_ret
 exact⟨rfl,by rw[HM.out];exact HS.out,HK2.out⟩
theorem zmg(v:Int)(q:Bool)(n:Nat)(g:Nat)(pa:OA)(pc:Nat)(xs:LN)(p:Nat)(w:World)(h:Sc 200 w g pa pc xs p)(hp:p<=1000000)(hn:n<=2)
    (hF:∀U,Rb U pa pc xs->Calls Tryz.prog 47 #[.slice pa xs.length pc,.int .i64 (p:Int)] U fun e w'=>e=.returned (.tuple #[.int .i64 v,.bool q])/\U=w') :
    Calls Tryz.prog 246 #[pg g,.func (.func 47) #[] #[],.int .i64 (n:Int)] w fun e w'=>e=.returned (.int .i64 v)/\Sc 200 w' g pa pc xs (p+n)/\Kp g w w':=by
 obtain⟨x0,x1,_⟩:=h.bk.two
 go_enter Tryz.func246,Tryz.ntmps246
 go_upto_region 1 with fail
 refine wp_region_held_drew (S:=(fun u=>u.cell? ⟨g,0,none⟩=some (.slice pa xs.length pc)/\u.cell? ⟨g,1,none⟩=some (.int .i64 (p:Int)))) (by kernel_rfl) ?_ (fun hH=>?_)
 . (try dsimp only)
   go_keep
 have hdr:Below w.heap.size w w.drew:=Below.drew1
 have hkp:Kp g w w.drew:=(Kp.refl g w).drew
 generalize w.drew=ud at hdr hkp hH ⊢
 replace h:=h.below hdr;clear hdr x0 x1;refine hT 0 hH ?_;refine hT 1 hH ?_;refine hT 2 hH ?_;refine hT 3 hH ?_;refine hT 4 hH ?_;refine hT 5 hH ?_;refine hT 6 hH ?_;refine hT 7 hH ?_;refine hT 8 hH ?_
 refine hCall (i:=9) rfl (by kernel_rfl) (by rfl) (fun K hK=>?_)
 go_simp
 refine(hF _ h.rb).mono ?_
 rintro e u1 ⟨rfl,rfl⟩
 go_wp2_with fail
 refine hK.out _ _ ?_ (fun hH=>?_)
 . (try dsimp only)
   exact hH
 clear hK K
 try simp only[Act.put,pZ]
 refine hT 10 hH ?_;refine hT 11 hH ?_;refine hT 13 hH ?_;refine hT 12 hH ?_;refine hT 14 hH ?_
 refine wpAnyH_done (by kernel_rfl) ?_ _
 clear hH;obtain⟨x0,x1,f0,f1⟩:=h.bk.two
 have hs:=h.step (p+n)
 have hk2:=hkp.setCell 1 (.int .i64 ((p+n:Nat):Int))
 have hpn:(p:Int)+(n:Int)=((p+n:Nat):Int):=by omega
 have HS:Hid (_):=hs
 have HK2:Hid (_):=hk2
 clear hs hk2
 obtain⟨m,hm⟩:∃m:Nat,p+n=m:=⟨_,rfl⟩
 have hml:m<=1000002:=by omega
 rw[hm]at hpn HS HK2
 have HM:Hid (p+n=m):=hm
 clear hm;go_wp2
 go_ret
 exact⟨rfl,by rw[HM.out];exact HS.out,HK2.out⟩
theorem zp3(v:Int)(q:Bool)(n:Nat)(g:Nat)(pa:OA)(pc:Nat)(xs:LN)(p:Nat)(w:World)(h:Sc 200 w g pa pc xs p)(hp:p<=1000000)(hn:n<=2)
    (hF:∀U,Rb U pa pc xs->Calls Tryz.prog 90 #[.slice pa xs.length pc,.int .i64 (p:Int)] U fun e w'=>e=.returned (.tuple #[.int .i64 v,.bool q])/\U=w') :
    Calls Tryz.prog 246 #[pg g,.func (.func 90) #[] #[],.int .i64 (n:Int)] w fun e w'=>e=.returned (.int .i64 v)/\Sc 200 w' g pa pc xs (p+n)/\Kp g w w':=by
 obtain⟨x0,x1,_⟩:=h.bk.two
 go_enter Tryz.func246,Tryz.ntmps246
 go_upto_region 1 with fail
 refine wp_region_held_drew (S:=(fun u=>u.cell? ⟨g,0,none⟩=some (.slice pa xs.length pc)/\u.cell? ⟨g,1,none⟩=some (.int .i64 (p:Int)))) (by kernel_rfl) ?_ (fun hH=>?_)
 . (try dsimp only)
   go_keep
 have hdr:Below w.heap.size w w.drew:=Below.drew1
 have hkp:Kp g w w.drew:=(Kp.refl g w).drew
 generalize w.drew=ud at hdr hkp hH ⊢
 replace h:=h.below hdr;clear hdr x0 x1;refine hT 0 hH ?_;refine hT 1 hH ?_;refine hT 2 hH ?_;refine hT 3 hH ?_;refine hT 4 hH ?_;refine hT 5 hH ?_;refine hT 6 hH ?_;refine hT 7 hH ?_;refine hT 8 hH ?_
 refine hCall (i:=9) rfl (by kernel_rfl) (by rfl) (fun K hK=>?_)
 go_simp
 refine(hF _ h.rb).mono ?_
 rintro e u1 ⟨rfl,rfl⟩
 go_wp2_with fail
 refine hK.out _ _ ?_ (fun hH=>?_)
 . (try dsimp only)
   exact hH
 clear hK K
 try simp only[Act.put,pZ]
 refine hT 10 hH ?_;refine hT 11 hH ?_;refine hT 13 hH ?_;refine hT 12 hH ?_;refine hT 14 hH ?_
 refine wpAnyH_done (by kernel_rfl) ?_ _
 clear hH;obtain⟨x0,x1,f0,f1⟩:=h.bk.two
 have hs:=h.step (p+n)
 have hk2:=hkp.setCell 1 (.int .i64 ((p+n:Nat):Int))
 have hpn:(p:Int)+(n:Int)=((p+n:Nat):Int):=by omega
 have HS:Hid (_):=hs
 have HK2:Hid (_):=hk2
 clear hs hk2
 obtain⟨m,hm⟩:∃m:Nat,p+n=m:=⟨_,rfl⟩
 have hml:m<=1000002:=by omega
 rw[hm]at hpn HS HK2
 have HM:Hid (p+n=m):=hm
 clear hm;go_wp2
 go_ret
 exact⟨rfl,by rw[HM.out];exact HS.out,HK2.out⟩
theorem zdu(g:Nat)(pa:OA)(pc:Nat)(xs:LN)(p:Nat)(w:World)(h:Sc 200 w g pa pc xs p)(hp:p<=1000000) :
 Calls Tryz.prog 280 #[pg g] w fun e w'=>e=.returned (.int .i64 (hd1 (xs.drop p):Int))/\Sc 200 w' g pa pc xs (p+1)/\Kp g w w':=by
 have ht:=zp4 (hd1 (xs.drop p):Int) (inB xs.length (p:Int) 1) 1 g pa pc xs p w h hp (by decide) (fun U hU=>by rw[<-z1f];exact zgc pa pc xs (p:Int) U hU ⟨by omega,by omega⟩)
 go_enter Tryz.func280,Tryz.ntmps280
 go_wp2_with fail
 refine ht.mono ?_
 rintro e u ⟨rfl,h1,h2⟩;go_wp2
 go_ret
 exact⟨rfl,h1,h2⟩
theorem zhc(g:Nat)(pa:OA)(pc:Nat)(xs:LN)(p:Nat)(w:World)(h:Sc 200 w g pa pc xs p)(hp:p<=1000000) :
 Calls Tryz.prog 247 #[pg g] w fun e w'=>e=.returned (.int .i64 (hd2 (xs.drop p):Int))/\Sc 200 w' g pa pc xs (p+2)/\Kp g w w':=by
 have ht:=zmg (hd2 (xs.drop p):Int) (inB xs.length (p:Int) 2) 2 g pa pc xs p w h hp (by decide) (fun U hU=>by rw[<-zsr];exact zgd pa pc xs (p:Int) U hU ⟨by omega,by omega⟩)
 go_enter Tryz.func247,Tryz.ntmps247
 go_wp2_with fail
 refine ht.mono ?_
 rintro e u ⟨rfl,h1,h2⟩;go_wp2
 go_ret
 exact⟨rfl,h1,h2⟩
theorem zdl(g:Nat)(pa:OA)(pc:Nat)(xs:LN)(p:Nat)(w:World)(h:Sc 200 w g pa pc xs p)(hp:p<=1000000) :
 Calls Tryz.prog 191 #[pg g] w fun e w'=>e=.returned (.int .i64 (sx16 (hd2 (xs.drop p))))/\Sc 200 w' g pa pc xs (p+2)/\Kp g w w':=by
 have ht:=zp3 (sx16 (hd2 (xs.drop p))) (inB xs.length (p:Int) 2) 2 g pa pc xs p w h hp (by decide) (fun U hU=>by rw[<-zsr];exact zgw pa pc xs (p:Int) U hU ⟨by omega,by omega⟩)
 go_enter Tryz.func191,Tryz.ntmps191
 go_wp2_with fail
 refine ht.mono ?_
 rintro e u ⟨rfl,h1,h2⟩;go_wp2
 go_ret
 exact⟨rfl,h1,h2⟩
theorem and_x:∀f:Fin 256,bits BinOp.and IntKind.i64 (f.val:Int) 18=(if f.val/2%2=1 then 2 else 0)+(if f.val/16%2=1 then 16 else 0):=by decide +kernel
theorem and_y:∀f:Fin 256,bits BinOp.and IntKind.i64 (f.val:Int) 36=(if f.val/4%2=1 then 4 else 0)+(if f.val/32%2=1 then 32 else 0):=by decide +kernel
theorem and_8:∀f:Fin 256,bits BinOp.and IntKind.i64 (f.val:Int) 8=(if f.val/8%2=1 then 8 else 0):=by decide +kernel
theorem and_1:∀f:Fin 256,bits BinOp.and IntKind.i64 (f.val:Int) 1=(if f.val%2=1 then 1 else 0):=by decide +kernel
theorem z5p{f:Nat}(h:f<256):bits BinOp.and IntKind.i64 (f:Int) 8=(if f/8%2=1 then 8 else 0):=and_8 ⟨f,h⟩
theorem z5q{f:Nat}(h:f<256):bits BinOp.and IntKind.i64 (f:Int) 1=(if f%2=1 then 1 else 0):=and_1 ⟨f,h⟩
theorem or_x2:bits BinOp.or IntKind.i64 2 16=18:=by decide
theorem or_y2:bits BinOp.or IntKind.i64 4 32=36:=by decide
theorem zn3{s:LN}(hs:Byt s):hd1 s<256:=by
 unfold hd1
 cases s with
 | nil=>decide
 | cons x t=>exact hs x (by simp)
theorem zht{s:LN}(hs:Byt s):hd2 s<65536:=by
 match s,hs with
 | [],_=>decide
 | [x],_=>exact(by decide:(0:Nat)<65536)
 | x::y::t,hs =>
  have:=hs x (by simp)
  have:=hs y (by simp)
  show 256*x+y<65536
  omega
theorem zp7(f:Nat)(g:Nat)(pa:OA)(pc:Nat)(xs:LN)(p:Nat)(w:World)(h:Sc 200 w g pa pc xs p)(hp:p<=900000)(hf:f<256) :
 Calls Tryz.prog 270 #[pg g,.int .i64 (f:Int),.int .i64 2,.int .i64 16] w fun e w'=>∃p',e=.returned (.int .i64 (dfR f 2 16 (xs.drop p)).1)/\Sc 200 w' g pa pc xs p'/\xs.drop p'=(dfR f 2 16 (xs.drop p)).2/\p'<=p+2/\Kp g w w':=by
 have hor:=or_x2
 have hand:=and_x ⟨f,hf⟩
 have hb:=zn3 (h.rb.lim.drop p)
 dsimp only at hand
 by_cases ha:f/2%2=1
 . by_cases hbb:f/16%2=1
   . have HE:Hid (dfR f 2 16 (xs.drop p)=((hd1 (xs.drop p):Int),(xs.drop p).drop 1)):=by show _=_;rw[dfR,if_pos ha,if_pos hbb]
     rw[if_pos ha,if_pos hbb,show((2:Int)+16)=18 from rfl]at hand
     have hu:=zdu g pa pc xs p w h (by omega)
     clear ha hbb h
     go_enter Tryz.func270,Tryz.ntmps270
     go_wp2_with fail
     refine hu.mono ?_
     rintro e u1 ⟨rfl,h1,hk1⟩;clear hu;go_wp2
     go_ret
     exact⟨p+1,by rw[HE.out];rfl,h1,by rw[HE.out,List.drop_drop],by omega,hk1⟩
   . have HE:Hid (dfR f 2 16 (xs.drop p)=(-(hd1 (xs.drop p):Int),(xs.drop p).drop 1)):=by show _=_;rw[dfR,if_pos ha,if_neg hbb]
     rw[if_pos ha,if_neg hbb,show((2:Int)+0)=2 from rfl]at hand
     have hu:=zdu g pa pc xs p w h (by omega)
     clear ha hbb h
     generalize hd1 (xs.drop p)=z at *
     go_enter Tryz.func270,Tryz.ntmps270
     go_wp2_with fail
     refine hu.mono ?_
     rintro e u1 ⟨rfl,h1,hk1⟩;clear hu;go_wp2
     go_ret
     exact⟨p+1,by rw[HE.out];rfl,h1,by rw[HE.out,List.drop_drop],by omega,hk1⟩
 . by_cases hbb:f/16%2=1
   . have HE:Hid (dfR f 2 16 (xs.drop p)=(0,xs.drop p)):=by show _=_;rw[dfR,if_neg ha,if_pos hbb]
     rw[if_neg ha,if_pos hbb,show((0:Int)+16)=16 from rfl]at hand
     clear ha hbb
     go_enter Tryz.func270,Tryz.ntmps270
     go_wp2
     go_ret
     exact⟨p,by rw[HE.out];rfl,h,by rw[HE.out],by omega,Kp.refl _ _⟩
   . have HE:Hid (dfR f 2 16 (xs.drop p)=(sx16 (hd2 (xs.drop p)),(xs.drop p).drop 2)):=by show _=_;rw[dfR,if_neg ha,if_neg hbb]
     rw[if_neg ha,if_neg hbb,show((0:Int)+0)=0 from rfl]at hand
     have hu:=zdl g pa pc xs p w h (by omega)
     clear ha hbb h
     generalize sx16 (hd2 (xs.drop p))=z at *
     go_enter Tryz.func270,Tryz.ntmps270
     go_wp2_with fail
     refine hu.mono ?_
     rintro e u1 ⟨rfl,h1,hk1⟩;clear hu;go_wp2
     go_ret
     exact⟨p+2,by rw[HE.out];rfl,h1,by rw[HE.out,List.drop_drop],by omega,hk1⟩
theorem zp6(f:Nat)(g:Nat)(pa:OA)(pc:Nat)(xs:LN)(p:Nat)(w:World)(h:Sc 200 w g pa pc xs p)(hp:p<=900000)(hf:f<256) :
 Calls Tryz.prog 270 #[pg g,.int .i64 (f:Int),.int .i64 4,.int .i64 32] w fun e w'=>∃p',e=.returned (.int .i64 (dfR f 4 32 (xs.drop p)).1)/\Sc 200 w' g pa pc xs p'/\xs.drop p'=(dfR f 4 32 (xs.drop p)).2/\p'<=p+2/\Kp g w w':=by
 have hor:=or_y2
 have hand:=and_y ⟨f,hf⟩
 have hb:=zn3 (h.rb.lim.drop p)
 dsimp only at hand
 by_cases ha:f/4%2=1
 . by_cases hbb:f/32%2=1
   . have HE:Hid (dfR f 4 32 (xs.drop p)=((hd1 (xs.drop p):Int),(xs.drop p).drop 1)):=by show _=_;rw[dfR,if_pos ha,if_pos hbb]
     rw[if_pos ha,if_pos hbb,show((4:Int)+32)=36 from rfl]at hand
     have hu:=zdu g pa pc xs p w h (by omega)
     clear ha hbb h
     go_enter Tryz.func270,Tryz.ntmps270
     go_wp2_with fail
     refine hu.mono ?_
     rintro e u1 ⟨rfl,h1,hk1⟩;clear hu;go_wp2
     go_ret
     exact⟨p+1,by rw[HE.out];rfl,h1,by rw[HE.out,List.drop_drop],by omega,hk1⟩
   . have HE:Hid (dfR f 4 32 (xs.drop p)=(-(hd1 (xs.drop p):Int),(xs.drop p).drop 1)):=by show _=_;rw[dfR,if_pos ha,if_neg hbb]
     rw[if_pos ha,if_neg hbb,show((4:Int)+0)=4 from rfl]at hand
     have hu:=zdu g pa pc xs p w h (by omega)
     clear ha hbb h
     generalize hd1 (xs.drop p)=z at *
     go_enter Tryz.func270,Tryz.ntmps270
     go_wp2_with fail
     refine hu.mono ?_
     rintro e u1 ⟨rfl,h1,hk1⟩;clear hu;go_wp2
     go_ret
     exact⟨p+1,by rw[HE.out];rfl,h1,by rw[HE.out,List.drop_drop],by omega,hk1⟩
 . by_cases hbb:f/32%2=1
   . have HE:Hid (dfR f 4 32 (xs.drop p)=(0,xs.drop p)):=by show _=_;rw[dfR,if_neg ha,if_pos hbb]
     rw[if_neg ha,if_pos hbb,show((0:Int)+32)=32 from rfl]at hand
     clear ha hbb
     go_enter Tryz.func270,Tryz.ntmps270
     go_wp2
     go_ret
     exact⟨p,by rw[HE.out];rfl,h,by rw[HE.out],by omega,Kp.refl _ _⟩
   . have HE:Hid (dfR f 4 32 (xs.drop p)=(sx16 (hd2 (xs.drop p)),(xs.drop p).drop 2)):=by show _=_;rw[dfR,if_neg ha,if_neg hbb]
     rw[if_neg ha,if_neg hbb,show((0:Int)+0)=0 from rfl]at hand
     have hu:=zdl g pa pc xs p w h (by omega)
     clear ha hbb h
     generalize sx16 (hd2 (xs.drop p))=z at *
     go_enter Tryz.func270,Tryz.ntmps270
     go_wp2_with fail
     refine hu.mono ?_
     rintro e u1 ⟨rfl,h1,hk1⟩;clear hu;go_wp2
     go_ret
     exact⟨p+2,by rw[HE.out];rfl,h1,by rw[HE.out,List.drop_drop],by omega,hk1⟩
def nI(l:LN):LI:=l.map (fun x:Nat=>(x:Int))
theorem zgt(l:LN):(nI l).length=l.length:=List.length_map ..
theorem zsw(l m:LN):nI (l++m)=nI l++nI m:=List.map_append
theorem zsv(l:LN)(k:Nat):(nI l).getD k 0=((l.getD k 0:Nat):Int):=by
 unfold nI
 by_cases h:k<l.length
 . simp[List.getD,h]
 . simp[List.getD,Nat.not_lt.1 h]
theorem z1g(l:LN)(k:Nat):nI (l.take k)=(nI l).take k:=by unfold nI;rw[List.map_take]
theorem z2x{n:Nat}{s acc:LN}(h:acc.length<n)(h8:hd1 s/8%2=1){acc':LN}(ha:acc'=acc++List.replicate (hd1 (s.drop 1)+1) (hd1 s)):rdG (n-acc.length) n s acc=rdG (n-acc'.length) n (s.drop 2) acc':=by
 subst ha
 obtain⟨f,hf⟩:∃f,n-acc.length=f+1:=⟨n-acc.length-1,by omega⟩
 rw[hf,rdG,if_pos h,if_pos h8]
 exact zin _ _ _ _ _ (by rw[List.length_append,List.length_replicate];omega) (by omega)
theorem z5g{n:Nat}{s acc:LN}(h:acc.length<n)(h8:¬hd1 s/8%2=1){acc':LN}(ha:acc'=acc++List.replicate (0+1) (hd1 s)):rdG (n-acc.length) n s acc=rdG (n-acc'.length) n (s.drop 1) acc':=by
 subst ha
 obtain⟨f,hf⟩:∃f,n-acc.length=f+1:=⟨n-acc.length-1,by omega⟩
 rw[hf,rdG,if_pos h,if_neg h8]
 exact zin _ _ _ _ _ (by rw[List.length_append,List.length_singleton];omega) (by show n-(acc++[hd1 s]).length<=n-(acc++[hd1 s]).length;omega)
theorem znh(acc:LN)(j f:Nat):acc++List.replicate (j+1) f=(acc++List.replicate j f)++[f]:=by rw[List.replicate_succ',List.append_assoc]
theorem zhl(n:Nat)(g:Nat)(pa:OA)(pc:Nat)(xs:LN)(p:Nat)(w:World)(h:Sc 200 w g pa pc xs p)(hp:p<=100000)(hn:n<=80)(hpb:∀b o,pa=some ⟨b,o,none⟩->xs≠[]->b<w.heap.size) :
 Calls Tryz.prog 269 #[pg g,.int .i64 (n:Int)] w fun e w'=>∃a' c',e=.returned (.slice a' (nI (fsK n (xs.drop p))).length c')/\Ri w' a' c' (nI (fsK n (xs.drop p)))/\(∀b o,a'=some ⟨b,o,none⟩->w.heap.size<=b/\b<w'.heap.size)/\∃p',Sc 200 w' g pa pc xs p'/\xs.drop p'=(fgK n (xs.drop p)).2/\p'<=p+1000/\Kp g w w':=by
 have HG0:Hid (fgK n (xs.drop p)=rdG (n-([]:LN).length) n (xs.drop p) []):=rfl
 have hgl:g<w.heap.size:=h.bk.lt
 go_enter Tryz.func269,Tryz.ntmps269
 go_wp2
 go_loopw [5] (fun v wr=>∃(acc:LN) (q:Nat),v.ownBlock≠some g/\Gi w.heap.size wr v (nI acc)/\acc.length<=n+255/\Sc 200 wr g pa pc xs q/\q<=p+2*acc.length/\fgK n (xs.drop p)=rdG (n-acc.length) n (xs.drop q) acc/\Kp g w wr) (fun v _=>n-slLen v)
 case atStart=>exact⟨[],p,(fun e=>by cases e),Gi.nil _ _,by simp,h,by omega,HG0.out,Kp.refl _ _⟩
 case round =>
  clear h HG0;obtain⟨acc,q,hvg,hG,hal,hS,hq,hfg,hK⟩:=hrel;obtain⟨a5,c5,rfl,hri,hbk⟩:=hG.slice
  have HF:Hid (fgK n (xs.drop p)=rdG (n-acc.length) n (xs.drop q) acc):=hfg
  have hcp:=hri.2.1
  have hcm:=hri.2.2.1
  unfold maxLen at hcm
  have hnl:=zgt acc
  rw[hnl]at hcp ⊢;clear hfg
  by_cases hlt:acc.length<n
  rotate_left
  . have HFE:Hid (fgK n (xs.drop p)=(acc,xs.drop q)):=by show _=_;rw[HF.out,zdo (by omega)]
    have HFS:Hid (nI (fsK n (xs.drop p))=(nI acc).take n):=by show _=_;unfold fsK;rw[HFE.out,z1g]
    have HL:Hid (((nI acc).take n).length=n):=by show _=_;rw[List.length_take,zgt];omega
    have HRI:Hid (Ri wr a5 c5 (nI acc)):=hri
    have HBK:Hid (∀b o,a5=some ⟨b,o,none⟩->w.heap.size<=b/\b<wr.heap.size):=hbk
    have g1:¬(acc.length:Int)<(n:Int):=by omega
    have i1:(0:Int)<=(n:Int):=by omega
    have i2:(n:Int)<=(c5:Int):=by omega
    clear HF hG hri hbk hvg hnl
    cases a5 with
    | none =>
     go_wp2
     go_ret
     exact⟨none,c5,by rw[HFS.out,HL.out];rfl,by rw[HFS.out];exact HRI.out.take n,HBK.out,q,hS,by rw[HFE.out],by omega,hK⟩
    | some ad =>
     obtain⟨b5,o5,s5⟩:=ad;go_wp2
     go_ret
     exact⟨_,c5,by rw[HFS.out,HL.out];rfl,by rw[HFS.out];exact HRI.out.take n,HBK.out,q,hS,by rw[HFE.out],by omega,hK⟩
  have g1:(acc.length:Int)<(n:Int):=by omega
  have hu:=zdu g pa pc xs q wr hS (by omega)
  have hfl:=zn3 (hS.rb.lim.drop q)
  have hml:=zn3 (hS.rb.lim.drop (q+1))
  have hand:=z5p hfl
  have hG2:=hG
  obtain⟨f,hf⟩:∃f,hd1 (xs.drop q)=f:=⟨_,rfl⟩
  have HST:Hid (f/8%2=1->∀m,hd1 (xs.drop (q+1))=m->rdG (n-acc.length) n (xs.drop q) acc=rdG (n-(acc++List.replicate (m+1) f).length) n (xs.drop (q+1+1)) (acc++List.replicate (m+1) f)):=fun h8 m hm=>by
   have:=z2x (s:=xs.drop q) hlt (by rw[hf];exact h8) (acc':=acc++List.replicate (m+1) f) (by rw[List.drop_drop,hm,hf])
   rw[this,List.drop_drop]
  have HSO:Hid (¬f/8%2=1->rdG (n-acc.length) n (xs.drop q) acc=rdG (n-(acc++List.replicate (0+1) f).length) n (xs.drop (q+1)) (acc++List.replicate (0+1) f)):=fun h8=>by
   have:=z5g (s:=xs.drop q) hlt (by rw[hf];exact h8) (acc':=acc++List.replicate (0+1) f) (by rw[hf])
   rw[this,List.drop_drop]
  rw[hf]at hu hfl hand
  have HVG:Hid ((Value.slice a5 acc.length c5).ownBlock≠some g):=by rw[hnl]at hvg;exact hvg
  clear hf hri hbk hvg
  go_wp2_with fail
  refine hu.mono ?_
  rintro e u1 ⟨rfl,hS1,hK1⟩
  have hG1:=hG.kp hS.bk (by decide) hK1
  have HKK:Hid (Kp g w u1):=hK.trans hK1
  clear hu hS hK hK1 hG hG2
  by_cases h8:f/8%2=1
  . rw[if_pos h8]at hand
    have hu2:=zdu g pa pc xs (q+1) u1 hS1 (by omega)
    obtain⟨m,hm⟩:∃m,hd1 (xs.drop (q+1))=m:=⟨_,rfl⟩
    rw[hm]at hu2 hml
    have HST2:Hid (_):=HST.out h8 m hm
    clear hm HSO HST h8
    go_wp2_with fail
    refine hu2.mono ?_
    rintro e u2 ⟨rfl,hS2,hK2⟩
    replace hG1:=hG1.kp hS1.bk (by decide) hK2
    have HKK2:Hid (Kp g w u2):=HKK.out.trans hK2
    clear hu2 hS1 hK2
    have HG1:Hid (Gi w.heap.size u2 (.slice a5 acc.length c5) (nI acc)):=by rw[hnl]at hG1;exact hG1
    have HSS:Hid (Sc 200 u2 g pa pc xs (q+1+1)):=hS2
    have HK1:Hid (Kp g w u2):=HKK2.out
    clear hG1 hS2 HKK HKK2;go_wp2
    go_loopw [5,21] (fun v i wr=>∃j:Nat,j<=m+1/\i=.int .i64 j/\v.ownBlock≠some g/\Gi w.heap.size wr v (nI (acc++List.replicate j f))/\Sc 200 wr g pa pc xs (q+1+1)/\Kp g w wr) (fun _ i _=>m+1-(intOf i).toNat)
    case atStart=>exact⟨0,Nat.zero_le _,rfl,HVG.out,by rw[List.replicate_zero,List.append_nil];exact HG1.out,HSS.out,HK1.out⟩
    case round =>
     clear HG1 HSS HK1 HVG;obtain⟨j,hj,rfl,hvg,hG,hS,hK⟩:=hrel;obtain⟨a6,c6,rfl,hri,hbk⟩:=hG.slice
     have hln:(nI (acc++List.replicate j f)).length=acc.length+j:=by rw[zgt,List.length_append,List.length_replicate]
     by_cases hjm:j<=m
     . have g2:(j:Int)<1+(m:Int):=by omega
       have hll:(nI (acc++List.replicate j f)).length+1<=1000000:=by omega
       have HAP:Hid (nI (acc++List.replicate (j+1) f)=nI (acc++List.replicate j f)++[(f:Int)]):=by show _=_;rw[znh,zsw];rfl
       have bp:=bl1 (w:=wr) (.cells #[.int .i64 (f:Int)] 3)
       have hGb:=hG.below bp
       have hSb:=hS.below bp
       have hN:=Bk.new 3 wr [.int .i64 (f:Int)]
       have n0:=hN.cell 0 (by simp)
       have zy6:wr.heap.size<(wr.alloc (.cells #[.int .i64 (f:Int)] 3)).heap.size:=hN.lt
       have hKb:Kp g w (wr.alloc (.cells #[.int .i64 (f:Int)] 3)):=hK.alloc _
       have hbs:=hKb.size
       have hfi:I64 (f:Int):=⟨by omega,by omega⟩
       clear hN bp hri hbk hln
       generalize nI (acc++List.replicate j f)=L at *
       go_wp2_with (at_builtin;refine zaf rfl _ _ rfl w.heap.size _ L rfl hGb wr.heap.size (f:Int) rfl zy6 n0 hfi hll hbs ?_)
       intro v9 w9 hG9 hgrow hown
       have hS9:=hSb.grown hgrow hvg (fun b o e hne e2=>by
        have:=(hGb.lo e2).1
        have:=hpb b o e hne
        omega)
       have hK9:Kp g w w9:=hKb.grown hgrow (fun k hk=>(hGb.lo hk).1)
       have HV9:Hid (v9.ownBlock≠some g):=by
        rcases hown with ho|ho
        . show _≠_
          rw[ho]
          exact hvg
        . show _≠_
          rw[ho]
          intro e
          have h1:=Option.some.inj e
          have h2:=hS.bk.lt
          (try simp at h1)
          omega
       rw[<-HAP.out]at hG9;clear hgrow hown hGb hSb n0 zy6 hKb hbs hvg hll HAP;go_wp2
       go_roundw
       case rel=>exact⟨j+1,by omega,by go_num,HV9.out,hG9,hS9,hK9⟩
       case measure=>simp[intOf];omega
     . obtain rfl:j=m+1:=by omega
       have g2:¬(((m+1:Nat):Nat):Int)<1+(m:Int):=by omega
       have HFF:Hid (fgK n (xs.drop p)=rdG (n-(acc++List.replicate (m+1) f).length) n (xs.drop (q+1+1)) (acc++List.replicate (m+1) f)):=by
        show _=_
        rw[HF.out,HST2.out]
       have HLN:Hid ((acc++List.replicate (m+1) f).length=acc.length+(m+1)):=by show _=_;rw[List.length_append,List.length_replicate]
       have z4t:=hln
       rw[hln];clear hri hbk hln;go_wp2
       go_roundw
       case rel=>exact⟨acc++List.replicate (m+1) f,q+1+1,by rw[z4t]at hvg;exact hvg,by rw[z4t]at hG;exact hG,by rw[HLN.out];omega,hS,by rw[HLN.out];omega,HFF.out,hK⟩
       case measure=>show n-(acc.length+(m+1))<n-acc.length;omega
  . rw[if_neg h8]at hand
    have HSO2:Hid (_):=HSO.out h8
    clear HSO HST h8 hml
    have HG1:Hid (Gi w.heap.size u1 (.slice a5 acc.length c5) (nI acc)):=by rw[hnl]at hG1;exact hG1
    have HSS:Hid (Sc 200 u1 g pa pc xs (q+1)):=hS1
    have HK1:Hid (Kp g w u1):=HKK.out
    clear hG1 hS1 HKK;go_wp2
    go_loopw [5,21] (fun v i wr=>∃j:Nat,j<=0+1/\i=.int .i64 j/\v.ownBlock≠some g/\Gi w.heap.size wr v (nI (acc++List.replicate j f))/\Sc 200 wr g pa pc xs (q+1)/\Kp g w wr) (fun _ i _=>0+1-(intOf i).toNat)
    case atStart=>exact⟨0,Nat.zero_le _,rfl,HVG.out,by rw[List.replicate_zero,List.append_nil];exact HG1.out,HSS.out,HK1.out⟩
    case round =>
     clear HG1 HSS HK1 HVG;obtain⟨j,hj,rfl,hvg,hG,hS,hK⟩:=hrel;obtain⟨a6,c6,rfl,hri,hbk⟩:=hG.slice
     have hln:(nI (acc++List.replicate j f)).length=acc.length+j:=by rw[zgt,List.length_append,List.length_replicate]
     by_cases hjm:j<=0
     . have g2:(j:Int)<1:=by omega
       have hll:(nI (acc++List.replicate j f)).length+1<=1000000:=by omega
       have HAP:Hid (nI (acc++List.replicate (j+1) f)=nI (acc++List.replicate j f)++[(f:Int)]):=by show _=_;rw[znh,zsw];rfl
       have bp:=bl1 (w:=wr) (.cells #[.int .i64 (f:Int)] 3)
       have hGb:=hG.below bp
       have hSb:=hS.below bp
       have hN:=Bk.new 3 wr [.int .i64 (f:Int)]
       have n0:=hN.cell 0 (by simp)
       have zy6:wr.heap.size<(wr.alloc (.cells #[.int .i64 (f:Int)] 3)).heap.size:=hN.lt
       have hKb:Kp g w (wr.alloc (.cells #[.int .i64 (f:Int)] 3)):=hK.alloc _
       have hbs:=hKb.size
       have hfi:I64 (f:Int):=⟨by omega,by omega⟩
       clear hN bp hri hbk hln
       generalize nI (acc++List.replicate j f)=L at *
       go_wp2_with (at_builtin;refine zaf rfl _ _ rfl w.heap.size _ L rfl hGb wr.heap.size (f:Int) rfl zy6 n0 hfi hll hbs ?_)
       intro v9 w9 hG9 hgrow hown
       have hS9:=hSb.grown hgrow hvg (fun b o e hne e2=>by
        have:=(hGb.lo e2).1
        have:=hpb b o e hne
        omega)
       have hK9:Kp g w w9:=hKb.grown hgrow (fun k hk=>(hGb.lo hk).1)
       have HV9:Hid (v9.ownBlock≠some g):=by
        rcases hown with ho|ho
        . show _≠_
          rw[ho]
          exact hvg
        . show _≠_
          rw[ho]
          intro e
          have h1:=Option.some.inj e
          have h2:=hS.bk.lt
          (try simp at h1)
          omega
       rw[<-HAP.out]at hG9;clear hgrow hown hGb hSb n0 zy6 hKb hbs hvg hll HAP;go_wp2
       go_roundw
       case rel=>exact⟨j+1,by omega,by go_num,HV9.out,hG9,hS9,hK9⟩
       case measure=>simp[intOf];omega
     . obtain rfl:j=0+1:=by omega
       have g2:¬(((0+1:Nat):Nat):Int)<1:=by omega
       have HFF:Hid (fgK n (xs.drop p)=rdG (n-(acc++List.replicate (0+1) f).length) n (xs.drop (q+1)) (acc++List.replicate (0+1) f)):=by
        show _=_
        rw[HF.out,HSO2.out]
       have HLN:Hid ((acc++List.replicate (0+1) f).length=acc.length+(0+1)):=by show _=_;rw[List.length_append,List.length_replicate]
       have z4t:=hln
       rw[hln];clear hri hbk hln;go_wp2
       go_roundw
       case rel=>exact⟨acc++List.replicate (0+1) f,q+1,by rw[z4t]at hvg;exact hvg,by rw[z4t]at hG;exact hG,by rw[HLN.out];omega,hS,by rw[HLN.out];omega,HFF.out,hK⟩
       case measure=>show n-(acc.length+(0+1))<n-acc.length;omega
theorem zxp(vs:LV):∀n:Nat,(List.replicate n vs).flatten.length=n*vs.length:=by
 intro n
 induction n with
 | zero=>simp
 | succ n ih=>rw[List.replicate_succ,List.flatten_cons,List.length_append,ih,Nat.add_mul];omega
theorem zsy{z:Array Value}{vs:LV}(hz:z.toList=vs)(hs:0<vs.length)(n:Nat):(madeCells z (n*vs.length)).toList=(List.replicate n vs).flatten:=by
 apply List.ext_getElem?
 intro i
 subst hz
 by_cases hi:i<n*z.toList.length
 . have h5:∀j,j<(List.replicate n z.toList).length->((List.replicate n z.toList).getD j []).length=z.toList.length:=fun j hj=>by
     rw[List.length_replicate]at hj
     simp[List.getD,hj]
   have hd:i/z.toList.length<n:=(Nat.div_lt_iff_lt_mul hs).2 hi
   have e1:i/z.toList.length*z.toList.length+i%z.toList.length=i:=by rw[Nat.mul_comm];exact Nat.div_add_mod i _
   have h2:=zf4 h5 (i:=i/z.toList.length) (j:=i%z.toList.length) (by rw[List.length_replicate];exact hd) (Nat.mod_lt _ hs)
   rw[e1]at h2;rw[h2]
   have h3:(List.replicate n z.toList).getD (i/z.toList.length) []=z.toList:=by rw[List.getD_eq_getElem?_getD,List.getElem?_replicate,if_pos hd];rfl
   have hm:i%z.size<z.size:=Nat.mod_lt _ hs
   have hi':i<n*z.size:=hi
   rw[h3]
   show(madeCells z (n*z.size)).toList[i]?=z.toList[i%z.size]?
   have e2:(madeCells z (n*z.size)).toList[i]?=some (z[i%z.size]!):=by simp[madeCells,hi']
   rw[e2,List.getElem?_eq_getElem hm,getElem!_pos z _ hm]
   rfl
 . rw[List.getElem?_eq_none (by rw[Array.length_toList,size_madeCells];omega),List.getElem?_eq_none (by rw[zxp];omega)]
theorem Gw.zeros{α:Type}{E:El α}{t:TypeId}{base:Nat}{w:World}{v:Value}{n:Nat}{z:Value}{vs:LV}(h:w.ownsRow base t E.sz v n (madeCells z.cells (n*E.sz)).toList)(hz:z.cells.toList=vs)(hs:0<E.sz)(hr:E.rep (fun k=>False/\v.ownBlock≠some k) w vs E.dfl):Gw E t base (fun _=>False) w v (List.replicate n E.dfl):=by
 have hl:=E.len hr
 refine⟨List.replicate n vs,by rw[List.length_replicate,List.length_replicate],?_,fun i hi=>?_⟩
 . rw[List.length_replicate,<-zsy hz (by omega),hl]
   exact h
 . rw[List.length_replicate]at hi
   have e1:(List.replicate n vs).getD i []=vs:=by rw[List.getD_eq_getElem?_getD,List.getElem?_replicate,if_pos hi];rfl
   have e2:(List.replicate n E.dfl).getD i E.dfl=E.dfl:=by rw[List.getD_eq_getElem?_getD,List.getElem?_replicate,if_pos hi];rfl
   rw[e1,e2]
   exact hr
theorem Gw.pnSet{base:Nat}{w:World}{gP n c:Nat}{L:List Pn}(h:Gw PnE 65 base (fun _=>False) w (.slice (some ⟨gP,0,none⟩) n c) L){k:Nat}(hk:k<L.length) :
 (∀x,I64 x->Gw PnE 65 base (fun _=>False) (w.setCell ⟨gP,k*3,none⟩ (.int .i64 x)) (.slice (some ⟨gP,0,none⟩) n c) (L.set k ⟨x,(L.getD k Pn.none).y,(L.getD k Pn.none).on⟩)) /\
    (∀y,I64 y->Gw PnE 65 base (fun _=>False) (w.setCell ⟨gP,k*3+1,none⟩ (.int .i64 y)) (.slice (some ⟨gP,0,none⟩) n c) (L.set k ⟨(L.getD k Pn.none).x,y,(L.getD k Pn.none).on⟩)) /\
    (∀o,Gw PnE 65 base (fun _=>False) (w.setCell ⟨gP,k*3+2,none⟩ (.bool o)) (.slice (some ⟨gP,0,none⟩) n c) (L.set k ⟨(L.getD k Pn.none).x,(L.getD k Pn.none).y,o⟩))/\(∀j,w.frozen? ⟨gP,j,none⟩=false) /\
    w.cell? ⟨gP,k*3,none⟩=some (.int .i64 (L.getD k Pn.none).x)/\w.cell? ⟨gP,k*3+1,none⟩=some (.int .i64 (L.getD k Pn.none).y)/\w.cell? ⟨gP,k*3+2,none⟩=some (.bool (L.getD k Pn.none).on):=by
 have hne:L≠[]:=fun e=>by rw[e]at hk;simp at hk
 obtain⟨g,cap,ev,_,_,_,hfz,z4w,zkq⟩:=h.own hne
 have eg:gP=g:=by injection ev with e1 _ _;cases e1;rfl
 subst eg
 obtain⟨vs,hr,hc⟩:=z4w k hk
 obtain⟨rfl,hw⟩:=zaz.1 hr
 refine⟨fun x hx=>?_,fun y hy=>?_,fun o=>?_,hfz,hc 0 (by decide),hc 1 (by decide),hc 2 (by decide)⟩
 . exact zkq k 0 (.int .i64 x) _ hk (by decide) (fun S' us hu=>by obtain⟨rfl,h1,h2⟩:=zaz.1 hu;exact zaz.2 ⟨rfl,hx,h2⟩)
 . exact zkq k 1 (.int .i64 y) _ hk (by decide) (fun S' us hu=>by obtain⟨rfl,h1,h2⟩:=zaz.1 hu;exact zaz.2 ⟨rfl,h1,hy⟩)
 . exact zkq k 2 (.bool o) _ hk (by decide) (fun S' us hu=>by obtain⟨rfl,h1,h2⟩:=zaz.1 hu;exact zaz.2 ⟨rfl,h1,h2⟩)
theorem Sc.other{t:TypeId}{w:World}{g b:Nat}{pa:OA}{pc:Nat}{xs:LN}{p:Nat}(h:Sc t w g pa pc xs p)(j:Nat)(z:Value)(h1:g≠b)(h2:∀c o,pa=some ⟨c,o,none⟩->xs≠[]->c≠b):Sc t (w.setCell ⟨b,j,none⟩ z) g pa pc xs p :=
 ⟨h.1.other j z h1,h.2.1.keep' (by simp[World.setCell]) (fun c o _ e hne=>Below.heap_setCell _ _ _ _ (fun e2=>h2 c o e hne e2)),h.2.2⟩
theorem Kp.other{g b:Nat}{a w:World}(h:Kp g a w)(j:Nat)(z:Value)(hb:a.heap.size<=b):Kp g a (w.setCell ⟨b,j,none⟩ z):=Keep.setCell h (p:=⟨b,j,none⟩) (fun e=>by have h1:b<a.heap.size:=e.1;omega) z
theorem z2k{n:Nat}{s:LN}(hs:Byt s):Byt (fsK n s):=(z0x n n s [] hs Byt.nil).take n
theorem zv3:∀(f n:Nat) (s acc:LN),∃j,(rdG f n s acc).2=s.drop j:=by
 intro f
 induction f with
 | zero=>intro n s acc;exact⟨0,rfl⟩
 | succ f ih =>
  intro n s acc
  rw[rdG]
  split
  . split
    . obtain⟨j,e⟩:=ih n (s.drop 2) (acc++List.replicate (hd1 (s.drop 1)+1) (hd1 s))
      exact⟨2+j,by rw[e,List.drop_drop]⟩
    . obtain⟨j,e⟩:=ih n (s.drop 1) (acc++[hd1 s])
      exact⟨1+j,by rw[e,List.drop_drop]⟩
  . exact⟨0,rfl⟩
theorem ztu{n:Nat}{s:LN}(hs:Byt s):Byt (fgK n s).2:=by
 obtain⟨j,e⟩:=zv3 n n s []
 unfold fgK
 rw[e]
 exact hs.drop j
theorem zzu{n:Nat}{s:LN}(hs:Byt s):Byt (xsK n s).2:=by
 have:=zlm (sh:=2) (sm:=16) (fs:=fsK n s) (a:=0) (ztu (n:=n) hs) (fsK n s).length (Nat.le_refl _)
 rw[zrv]at this
 exact this
theorem zen{L:List Pn}{k i:Nat}{q:Pn}(hk:k<L.length):(L.set k q).getD i Pn.none=if i=k then q else L.getD i Pn.none:=by
 by_cases h:i=k
 . subst h;simp[List.getD,hk]
 . rw[if_neg h];simp[List.getD,List.getElem?_set_ne (fun e=>h e.symm)]
def onK(fs:LN)(i:Nat):Bool:=decide (fs.getD i 0%2=1)
def pXk(X:LI)(fs:LN)(k i:Nat):Pn:=if i<k then ⟨X.getD i 0,0,onK fs i⟩else Pn.none
def pYk(X Y:LI)(fs:LN)(k i:Nat):Pn:=⟨X.getD i 0,if i<k then Y.getD i 0 else 0,onK fs i⟩
theorem z02{L:List Pn}{n:Nat}{s:LN}(hl:L.length=n)(h:∀i,i<n->L.getD i Pn.none=pYk (xsK n s).1 (ysK n s).1 (fsK n s) n i):L=ptK n s:=by
 apply List.ext_getElem (by rw[hl,zlp])
 intro i h1 h2
 have e:=h i (by omega)
 have e2:=z1k (xsK n s).1 (ysK n s).1 (fsK n s) i (by unfold xsK;rw[ziq]) (by unfold ysK;rw[ziq]) (by rw[zl9];omega)
 rw[List.getD_eq_getElem?_getD,List.getElem?_eq_getElem h1,Option.getD_some]at e
 have e3:(ptK n s).getD i Pn.none=(ptK n s)[i]:=by rw[List.getD_eq_getElem?_getD,List.getElem?_eq_getElem h2,Option.getD_some]
 rw[e,<-e3]
 unfold ptK
 rw[e2]
 unfold pYk onK
 rw[if_pos (by omega)]
