import Derived.Test.YtkmcodofnckdmaaGreatZK17
set_option maxHeartbeats 4000000
set_option maxRecDepth 100000
set_option linter.unusedSimpArgs false
set_option linter.unusedVariables false
namespace Go.Proofs.YtkmcodofnckdmaaGreat
open Tryz Go.RowKit Go.Maps
theorem z07{b:LN}(hB:Byt b)(kd p k:Nat):∀z∈runV RPt b kd p k,0<=z/\z<=65535:=by
 intro z hz;unfold runV at hz;obtain⟨i,_,rfl⟩:=List.mem_map.1 hz;show 0<=vlP b kd _/\vlP b kd _<=65535;unfold vlP;have h1:=zam hB (((p+i*RPt.sz kd:Nat):Int)) 1;have h2:=zam hB (((p+i*RPt.sz kd:Nat):Int)) 2;simp only[Nat.pow_one,Nat.reducePow]at h1 h2;split <;> omega
theorem rdF_P{b:LN}(hB:Byt b):∀(f p n:Nat) (l:LI) (e:Nat),rdF RPt b f p n=some (l,e)->∀z∈l,0<=z/\z<=65535:=by
 intro f
 induction f with
 | zero =>
  intro p n l e h;cases n with
  | zero=>rw[zbe]at h;cases h;intro z hz;cases hz
  | succ n=>cases h
 | succ f ih =>
  intro p n l e h;cases n with
  | zero=>rw[zbe]at h;cases h;intro z hz;cases hz
  | succ n =>
   rw[rdF]at h;split at h
   . split at h
     . rename_i l' e' hr
       cases h;intro z hz;rcases List.mem_append.1 hz with hz|hz
       . exact z07 hB _ _ _ z hz
       . exact ih _ _ _ _ hr z hz
     . cases h
   . cases h
theorem zcx(a:OA)(cap:Nat)(b:LN)(n:Int)(w:World)(h:Rb w a cap b)(hbl:b.length<=100000)(hn:I64 n) :
 Calls Tryz.prog 253 #[.slice a b.length cap,.int .i64 n] w fun e w'=>∃a' c',e=.returned (.tuple #[.slice a' (rcL b n).length c',.int .i64 (rcN b n),.int .i64 (rcE b n)])/\Ri w' a' c' (rcL b n)/\(∀b o,a'=some ⟨b,o,none⟩->w.heap.size<=b)/\(a'=none->c'=0)/\Below w.heap.size w w':=by
 by_cases h1:0<=n/\n<=2000;rotate_left
 . have HE:Hid (rcL b n=[]/\rcN b n=0/\rcE b n=4):=by
     have h0:rcO b n=none:=(by rw[rcO,if_neg h1]);refine⟨(zed h0).1,(zed h0).2,?_⟩;rw[rcE,h0];exact if_neg h1
   by_cases h2:n<0
   . have g1:decide (n<0)=true:=qC h2
     clear h h1 h2;go_enter func253,ntmps253;go_wp2
     go_ret3
     exact⟨none,0,by rw[HE.out.1,HE.out.2.1,HE.out.2.2];rfl,by rw[HE.out.1];exact Ri.nil _ _ _ (qD _),(fun _ _ e=>by cases e),(fun _=>rfl),Below.refl _ _⟩
   . have g1:decide (n<0)=false:=qB h2
     have g2:decide (2000<n)=true:=qC (by omega);clear h h1 h2;go_enter func253,ntmps253;go_wp2
     go_ret3
     exact⟨none,0,by rw[HE.out.1,HE.out.2.1,HE.out.2.2];rfl,by rw[HE.out.1];exact Ri.nil _ _ _ (qD _),(fun _ _ e=>by cases e),(fun _=>rfl),Below.refl _ _⟩
 obtain⟨N,rfl⟩:∃N:Nat,n=(N:Int):=⟨n.toNat,by omega⟩;have HO:Hid (rcO b (N:Int)=rdF RC b N 0 N):=by show _=_;rw[rcO,if_pos (by omega),Int.toNat_natCast]
 have HNN:Hid (rcO b (N:Int)=none->rcL b (N:Int)=[]/\rcN b (N:Int)=0/\rcE b (N:Int)=2):=fun h0=>by
  refine⟨(zed h0).1,(zed h0).2,?_⟩;rw[rcE,h0];exact if_pos (by omega)
 have hr:=zye a cap b 0 N w h hbl (qD _) (by omega);have hr:Calls Tryz.prog 250 #[.slice a b.length cap,.int .i64 0,.int .i64 (N:Int),.int .i64 64,.func (.func 271) #[] #[]] w _:=hr;have g1:decide ((N:Int)<0)=false:=qB (by omega);have g2:decide (2000<(N:Int))=false:=qB (by omega);have g0:(0:Int)<=(N:Int):=by omega
 have g3:(N:Int)<=2000:=h1.2;clear h h1;go_enter func253,ntmps253;go_wp2_with fail
 refine hr.mono ?_;rintro e u1 ⟨⟨l,e1,v,hl,rfl,hIo⟩|⟨hl,rfl⟩,hb1⟩
 . have HY:Hid (rcL b (N:Int)=l/\rcN b (N:Int)=(e1:Int)/\rcE b (N:Int)=0):=by
     unfold rcL rcN rcE;rw[HO.out,hl];exact⟨rfl,rfl,rfl⟩
   obtain⟨av,cv,rfl,hri,hlo⟩:=hIo.sliceL;clear hr hl HO HNN hIo;go_wp2
   go_ret3
   exact⟨av,cv,by rw[HY.out.1,HY.out.2.1,HY.out.2.2];rfl,by rw[HY.out.1];exact hri,hlo.1,hlo.2,hb1⟩
 . have HNO:Hid (_):=HNN.out (HO.out.trans hl)
   clear hr hl HO HNN;go_wp2
   go_ret3
   exact⟨none,0,by rw[HNO.out.1,HNO.out.2.1,HNO.out.2.2];rfl,by rw[HNO.out.1];exact Ri.nil _ _ _ (qD _),(fun _ _ e=>by cases e),(fun _=>rfl),hb1⟩
theorem zdg(a:OA)(cap:Nat)(b:LN)(w:World)(h:Rb w a cap b)(hbl:b.length<=100000) :
 Calls Tryz.prog 195 #[.slice a b.length cap] w fun e w'=>∃a' c',e=.returned (.tuple #[.slice a' (rpL b).length c',.int .i64 (rpN b),.int .i64 (rpE b)])/\Ri w' a' c' (rpL b)/\(∀b o,a'=some ⟨b,o,none⟩->w.heap.size<=b)/\(a'=none->c'=0)/\Below w.heap.size w w':=by
 have HNN:Hid (rpO b=none->rpL b=[]/\rpN b=0/\rpE b=2):=fun h0=>by
  unfold rpL rpN rpE;rw[h0];exact⟨rfl,rfl,rfl⟩
 have hB:=h.lim;have hc:=zjb a cap b w h;have hA2:ptA b=1\/ptA b=2:=by unfold ptA;split <;> omega
 cases ho:ptO b with
 | false =>
  have HNO:Hid (_):=HNN.out (by rw[rpO,ho];rfl);rw[ho]at hc;clear h HNN ho;go_enter func195,ntmps195;go_wp2_with fail
  refine hc.mono ?_;rintro e u1 ⟨z,rfl,_,rfl⟩;clear hc;go_wp2
  go_ret3
  exact⟨none,0,by rw[HNO.out.1,HNO.out.2.1,HNO.out.2.2];rfl,by rw[HNO.out.1];exact Ri.nil _ _ _ (qD _),(fun _ _ e=>by cases e),(fun _=>rfl),Below.refl _ _⟩
 | true =>
  have hAl:ptA b<=b.length:=of_decide_eq_true ho;have HRO:Hid (rpO b=(match rdF RPt b (ptN b) (ptA b) (ptN b)with | some p=>if ptB (sums 0 p.1)then some (sums 0 p.1,p.2)else none | none=>none)):=by
   show _=_;rw[rpO,ho];rfl
  have HPP:Hid (∀l e,rdF RPt b (ptN b) (ptA b) (ptN b)=some (l,e)->(∀z∈l,0<=z/\z<=65535)/\l.length<=40000):=fun l e hl=>⟨rdF_P hB _ _ _ _ _ hl,by have:=(zho _ _ _ _ _ _ _ hl).1;have:=zrr hB;omega⟩;have hr:=zyd a cap b (ptA b) (ptN b) w h hbl hAl (by have:=zrr hB;omega);rw[ho]at hc;obtain⟨A,hA⟩:∃n,ptA b=n:=⟨_,rfl⟩;obtain⟨N,hN⟩:∃n,ptN b=n:=⟨_,rfl⟩;rw[hA]at hc hr HRO HPP;rw[hN]at hc hr HRO HPP;clear h ho hA hN hAl hA2 hB;go_enter func195,ntmps195;go_wp2_with fail
  refine hc.mono ?_;rintro e u1 ⟨z,rfl,hz,rfl⟩;obtain rfl:z=(N:Int):=hz trivial;clear hc hz;go_wp2_with fail
  refine hr.mono ?_;rintro e u1 ⟨⟨l,e1,v,hl,rfl,hIo⟩|⟨hl,rfl⟩,hb1⟩;rotate_left
  . have HNO:Hid (_):=HNN.out (by rw[HRO.out,hl])
    clear hr hl HRO HNN HPP;go_wp2
    go_ret3
    exact⟨none,0,by rw[HNO.out.1,HNO.out.2.1,HNO.out.2.2];rfl,by rw[HNO.out.1];exact Ri.nil _ _ _ (qD _),(fun _ _ e=>by cases e),(fun _=>rfl),hb1⟩
  obtain⟨p1,p2⟩:=HPP.out l e1 hl;have hau:=zp4 w.heap.size v l u1 hIo p1 p2;have HRO2:Hid (rpO b=if ptB (sums 0 l)then some (sums 0 l,e1)else none):=by show _=_;rw[HRO.out,hl]
  clear hr hl HRO HPP hIo p1 p2;go_wp2_with fail
  refine hau.mono ?_;rintro e u2 ⟨rfl,hIo,hb2⟩;replace hb1:=hb1.trans hb2;clear hau hb2;obtain⟨av,cv,rfl,hri,hlo⟩:=hIo.sliceL;have hap:=zh8 av cv (sums 0 l) u2 hri;cases hp:ptB (sums 0 l) with
  | false =>
   have HNO:Hid (_):=HNN.out (by rw[HRO2.out,hp];rfl);rw[hp]at hap;clear hp HRO2 HNN hIo;go_wp2_with fail
   refine hap.mono ?_;rintro e u3 ⟨rfl,rfl⟩;clear hap;go_wp2
   go_ret3
   exact⟨none,0,by rw[HNO.out.1,HNO.out.2.1,HNO.out.2.2];rfl,by rw[HNO.out.1];exact Ri.nil _ _ _ (qD _),(fun _ _ e=>by cases e),(fun _=>rfl),hb1⟩
  | true =>
   have HY:Hid (rpL b=sums 0 l/\rpN b=(e1:Int)/\rpE b=0):=by
    unfold rpL rpN rpE;rw[HRO2.out,hp];exact⟨rfl,rfl,rfl⟩
   rw[hp]at hap;clear hp HRO2 HNN hIo;go_wp2_with fail
   refine hap.mono ?_;rintro e u3 ⟨rfl,rfl⟩;clear hap;go_wp2
   go_ret3
   exact⟨av,cv,by rw[HY.out.1,HY.out.2.1,HY.out.2.2];rfl,by rw[HY.out.1];exact hri,hlo.1,hlo.2,hb1⟩
theorem zga(a:OA)(cap:Nat)(b:LN)(n:Int)(w:World)(h:Rb w a cap b)(hbl:b.length<=100000)(hn:I64 n) :
 Calls Tryz.prog 253 #[.slice a b.length cap,.int .i64 n] w fun e w'=>∃a' c',e=.returned (.tuple #[.slice a' (rcL b n).length c',.int .i64 (rcN b n),.int .i64 (rcE b n)])/\Ri w' a' c' (rcL b n)/\Below w.heap.size w w' :=
 (zcx a cap b n w h hbl hn).mono (fun e w' ⟨a',c',h1,h2,_,_,h3⟩=>⟨a',c',h1,h2,h3⟩)
theorem zia(a:OA)(cap:Nat)(b:LN)(w:World)(h:Rb w a cap b)(hbl:b.length<=100000) :
 Calls Tryz.prog 195 #[.slice a b.length cap] w fun e w'=>∃a' c',e=.returned (.tuple #[.slice a' (rpL b).length c',.int .i64 (rpN b),.int .i64 (rpE b)])/\Ri w' a' c' (rpL b)/\Below w.heap.size w w' :=
 (zdg a cap b w h hbl).mono (fun e w' ⟨a',c',h1,h2,_,_,h3⟩=>⟨a',c',h1,h2,h3⟩)
theorem codP:CodP:=⟨fun a cap l w h _=>zmr a cap l w h,fun a cap b w h hb=>zia a cap b w h (by omega),fun a cap l w h _=>zlh a cap l w h,fun a cap b n w h hb hn=>zga a cap b n w h (by omega) hn⟩
theorem zt9(B:Nat)(G:Nat->Prop)(bs:LN)(a:OA)(cap:Nat)(l:LI)(w:World)(h:Pc w B G ⟨bs,[],false⟩)(hr:Ri w a cap l)(hl:l.length<=3000)(hok:ptB l=true)(hb:bs.length+(ppB l).length<=1048576) :
 Calls Tryz.prog 187 #[pg B,.func (.func 188) #[] #[],.slice a l.length cap] w fun e w'=>e=.returned (.int .i64 0)/\Pc w' B G ⟨bs++ppB l,[],false⟩/\Keep G w w':=by
 have hp:=codP.pts a cap l w hr hl;rw[show ppE l=0 by unfold ppE;rw[hok];rfl]at hp;have hG1:=h.1;go_enter func187,ntmps187;go_wp2_with fail
 refine hp.mono ?_;rintro e m1 ⟨a1,c1,rfl,hrb,hb1⟩;have hk1:Keep G w m1:=Keep.of_below hb1 hG1;have hP:=zdn B G _ a1 c1 (ppB l) m1 (h.below hb1) hrb hb;rw[show(St.mk bs [] false).app (ppB l)=⟨bs++ppB l,[],false⟩ by simp[St.app]]at hP;clear hp hb1;go_wp2_with fail
 refine hP.mono ?_;rintro e m2 ⟨rfl,hP2,hk2⟩;have hk:=hk1.trans hk2;clear hP hk1 hk2;go_wp2;go_ret;exact⟨rfl,hP2,hk⟩
theorem zmz(B:Nat)(G:Nat->Prop)(bs:LN)(a:OA)(cap:Nat)(l:LI)(w:World)(h:Pc w B G ⟨bs,[],false⟩)(hr:Ri w a cap l)(hl:l.length<=3000)(hok:chB l=true)(hb:bs.length+(pcB l).length<=1048576) :
 Calls Tryz.prog 187 #[pg B,.func (.func 189) #[] #[],.slice a l.length cap] w fun e w'=>e=.returned (.int .i64 0)/\Pc w' B G ⟨bs++pcB l,[],false⟩/\Keep G w w':=by
 have hp:=codP.chs a cap l w hr hl;rw[show pcE l=0 by unfold pcE;rw[hok];rfl]at hp;have hG1:=h.1;go_enter func187,ntmps187;go_wp2_with fail
 refine hp.mono ?_;rintro e m1 ⟨a1,c1,rfl,hrb,hb1⟩;have hk1:Keep G w m1:=Keep.of_below hb1 hG1;have hP:=zdn B G _ a1 c1 (pcB l) m1 (h.below hb1) hrb hb;rw[show(St.mk bs [] false).app (pcB l)=⟨bs++pcB l,[],false⟩ by simp[St.app]]at hP;clear hp hb1;go_wp2_with fail
 refine hP.mono ?_;rintro e m2 ⟨rfl,hP2,hk2⟩;have hk:=hk1.trans hk2;clear hP hk1 hk2;go_wp2;go_ret;exact⟨rfl,hP2,hk⟩
theorem TuC.kept{S G:Nat->Prop}{w w':World}{ra:OA}{rc:Nat}{pa:OA}{pc:Nat}{xa:OA}{xc:Nat}{ya:OA}{yc:Nat}{t:Tu}(h:TuC S w ra rc pa pc xa xc ya yc t)(hk:Keep G w w')(hS:∀k,S k->G k):TuC S w' ra rc pa pc xa xc ya yc t :=
 ⟨TeE.row.stay h.1 hk.size (fun k h1 _=>⟨h1,hk.block k (hS k h1)⟩),El.int.row.stay h.2.1 hk.size (fun k h1 _=>⟨h1,hk.block k (hS k h1)⟩),El.int.row.stay h.2.2.1 hk.size (fun k h1 _=>⟨h1,hk.block k (hS k h1)⟩),El.int.row.stay h.2.2.2 hk.size (fun k h1 _=>⟨h1,hk.block k (hS k h1)⟩)⟩
theorem zfq(l:List Te)(k:Nat):(tesE (l.take k)).length<=6*l.length:=by
 rw[zcg,qL];omega
theorem zm5{l:List Te}{k:Nat}(hk:k<l.length)(P:LN):P++tesE (l.take (k+1))=P++tesE (l.take k)++be2 (l.getD k Te.none).st++be2 (l.getD k Te.none).pk++be2 (l.getD k Te.none).en:=by
 rw[zak (d:=Te.none) hk,zg5];simp only[tesE,teE,List.append_nil,qI]
theorem tf_fd{t:Te}(h:tfB t=true):(-16384<=t.st/\t.st<=16384)/\(-16384<=t.pk/\t.pk<=16384)/\(-16384<=t.en/\t.en<=16384):=by
 have:=zc0.1 h;unfold TfT at this;omega
theorem zt8(B:Nat)(G:Nat->Prop)(bs:LN)(S:Nat->Prop)(ra:OA)(rc:Nat)(pa:OA)(pc:Nat)(xa:OA)(xc:Nat)(ya:OA)(yc:Nat)(t:Tu)(n:Nat)(ax:Int)(w:World)(h:Pc w B G ⟨bs,[],false⟩)(ht:TuC S w ra rc pa pc xa xc ya yc t)(hS:∀k,S k->G k)(hf:tuB t n ax=true)(hn:n<=86)(hax:ax<=4)(hb:bs.length<=100000) :
 Calls Tryz.prog 135 #[pg B,.agg #[.slice ra t.rg.length rc,.bool t.al,.slice pa t.pts.length pc,.slice xa t.dx.length xc,.slice ya t.dy.length yc]] w fun e w'=>e=.returned (.int .i64 0)/\Pc w' B G ⟨bs++tuE t,[],false⟩/\Keep G w w':=by
 obtain⟨W,hW,X1,hbW⟩:∃W,W=w.alloc (.cells #[.slice ra t.rg.length rc,.bool t.al,.slice pa t.pts.length pc,.slice xa t.dx.length xc,.slice ya t.dy.length yc] 144)/\Bk 144 W w.heap.size [.slice ra t.rg.length rc,.bool t.al,.slice pa t.pts.length pc,.slice xa t.dx.length xc,.slice ya t.dy.length yc]/\Below w.heap.size w W:=⟨_,rfl,Bk.new _ _ _,bl1 _⟩;have hP0:Pc W B (fun k=>G k\/k=w.heap.size) ⟨bs,[],false⟩:=by rw[hW];exact h.moreA _
 have hG1:=h.1;have hk0:Keep G w W:=Keep.of_below hbW hG1;obtain⟨p1,p2,-⟩:=zm3 hf (by omega);obtain⟨c1,c2,-,-,c3,c4⟩:=zm4 hf (by omega);obtain⟨g1,g2⟩:=znf (zcz.1 hf).1;have HPT:Hid (ptB t.pts=true/\chB t.dx=true/\chB t.dy=true):=⟨p1,c1,c2⟩;have HLP:Hid ((ppB t.pts).length<=260/\(pcB t.dx).length<=258/\(pcB t.dy).length<=258):=⟨by have:=zhr p1;omega,by have:=zci c1;omega,by have:=zci c2;omega⟩;have HTF:Hid (∀k,k<t.rg.length->tfB (t.rg.getD k Te.none)=true):=fun k hk=>List.all_eq_true.1 g2 _ (zjv hk);have HEE:Hid (tuE t=tesE t.rg++(ppB t.pts++(pcB t.dx++pcB t.dy))):=rfl;have HTW:Hid (TuC S W ra rc pa pc xa xc ya yc t):=ht.below hbW;have HXW:Hid (Bk 144 W w.heap.size [.slice ra t.rg.length rc,.bool t.al,.slice pa t.pts.length pc,.slice xa t.dx.length xc,.slice ya t.dy.length yc]):=X1;have HSG:Hid (∀k,S k->G k\/k=w.heap.size):=fun k hk=>.inl (hS k hk);have HK0:Hid (Keep G w W):=hk0;have hgl:t.rg.length<=4:=by omega
 have hpl:t.pts.length<=86:=by omega
 generalize tuE t=TE at *;obtain⟨gt,hgt⟩:∃g,w.heap.size=g:=⟨_,rfl⟩;have HGT:Hid (w.heap.size=gt):=hgt;rw[hgt]at HXW hP0 HSG;have hP1:Pc W B (fun k=>G k\/k=gt) ⟨bs++tesE (t.rg.take 0),[],false⟩:=by
  rw[List.take_zero,tesE,List.append_nil];exact hP0
 obtain⟨q0,q1,q2,q3,q4,_⟩:=HXW.out.five;clear h ht hS hf p1 p2 c1 c2 g1 g2 X1 hP0 hk0 hbW;go_enter func135,ntmps135;go_upto_region 1 with fail
 rw[<-hW];clear hW hgt;go_wp2;clear q0 q1 q2 q3 q4
 go_loopw [12] (fun i wr=>∃k:Nat,k<=t.rg.length/\i=.int .i64 k/\Pc wr B (fun k=>G k\/k=gt) ⟨bs++tesE (t.rg.take k),[],false⟩/\Keep (fun k=>G k\/k=gt) W wr) (fun i _=>t.rg.length-(intOf i).toNat)
 case atStart=>exact⟨0,qD _,rfl,hP1,Keep.refl _ _⟩
 case round =>
  clear hP1;obtain⟨k,hk,rfl,hP,hkk⟩:=hrel;have hT:=HTW.out.kept hkk HSG.out;by_cases hkn:k<t.rg.length
  . obtain⟨b9,o9,ea,hb9,d0,d1,d2⟩:=hT.tz.at (Below.refl _ _) k hkn
    have htf:=tf_fd (HTF.out k hkn);have HSJ:Hid (_):=zm5 hkn bs;have HLJ:Hid ((bs++tesE (t.rg.take k)).length<=100030):=(by show _<=_;rw[qA];have:=zfq t.rg k;omega);obtain⟨te,hte⟩:∃x,t.rg.getD k Te.none=x:=⟨_,rfl⟩;rw[hte]at d0 d1 d2 htf HSJ;obtain⟨tst,tpk,ten⟩:=te;dsimp only at d0 d1 d2 htf HSJ;obtain⟨b2,hb2⟩:∃b2,bs++tesE (t.rg.take k)=b2:=⟨_,rfl⟩;rw[hb2]at hP HSJ HLJ;subst ea;have i1:(0:Int)<=(k:Int):=(by omega);have i2:(k:Int)<(t.rg.length:Int):=(by omega);obtain⟨V,hV,XQ1,hb0⟩:∃V,V=wr.alloc (.cells #[.int .i64 tst,.int .i64 tpk,.int .i64 ten] 146)/\Bk 146 V wr.heap.size [.int .i64 tst,.int .i64 tpk,.int .i64 ten]/\Below wr.heap.size wr V:=⟨_,rfl,Bk.new _ _ _,bl1 _⟩;have hPG:=hP.1;have hP1:Pc V B (fun k=>(G k\/k=gt)\/k=wr.heap.size) ⟨b2,[],false⟩:=(by rw[hV];exact hP.moreA _);have kk1:Keep (fun k=>(G k\/k=gt)\/k=wr.heap.size) V V:=Keep.refl _ _;have kkb:Keep (fun k=>G k\/k=gt) wr V:=Keep.of_below hb0 hPG;obtain⟨q0,q1,q2,_⟩:=XQ1.three;clear hte hb2 hT hP;go_upto_region 4 with fail
    rw[<-hV];clear hV d0 d1 d2 hb0;generalize wr.heap.size=gq at *;go_wp2_with fail
    refine(zap B _ _ tst _ hP1 ⟨by omega,by omega⟩ (by have:=HLJ.out;simp[be2];omega)).mono ?_;rintro e v2 ⟨rfl,hP2,hK2⟩;rw[zb0 (by omega) (by omega)]at hP2;have kk2:=kk1.trans hK2;have XQ2:=XQ1.kept hK2 (.inr rfl);clear hP1 hK2 XQ1 q0 q1 q2 kk1;obtain⟨q0,q1,q2,_⟩:=XQ2.three;go_wp2_with fail
    refine(zap B _ _ tpk _ hP2 ⟨by omega,by omega⟩ (by have:=HLJ.out;simp[be2];omega)).mono ?_;rintro e v3 ⟨rfl,hP3,hK3⟩;rw[zb0 (by omega) (by omega)]at hP3;have kk3:=kk2.trans hK3;have XQ3:=XQ2.kept hK3 (.inr rfl);clear hP2 hK3 XQ2 q0 q1 q2 kk2;obtain⟨q0,q1,q2,_⟩:=XQ3.three;go_wp2_with fail
    refine(zap B _ _ ten _ hP3 ⟨by omega,by omega⟩ (by have:=HLJ.out;simp[be2];omega)).mono ?_;rintro e v4 ⟨rfl,hP4,hK4⟩;rw[zb0 (by omega) (by omega)]at hP4;have kk4:=kk3.trans hK4;have XQ4:=XQ3.kept hK4 (.inr rfl);clear hP3 hK4 XQ3 q0 q1 q2 kk3;obtain⟨q0,q1,q2,_⟩:=XQ4.three;rw[<-HSJ.out]at hP4;have hP6:Pc v4 B (fun k=>G k\/k=gt) ⟨bs++tesE (t.rg.take (k+1)),[],false⟩:=hP4.guard (fun k hk=>⟨hP4.1 k (.inl hk),.inl hk⟩);have kk6:Keep (fun k=>G k\/k=gt) W v4:=(hkk.trans kkb).trans (kk4.mono (fun k hk=>.inl hk));clear hP4 XQ4 q0 q1 q2 kk4 HSJ;go_wp2;go_roundw
    case rel=>exact⟨k+1,by omega,by go_num,hP6,kk6⟩
    case measure=>simp[intOf];omega
  . obtain rfl:k=t.rg.length:=by omega
    have g4:¬(t.rg.length:Int)<(t.rg.length:Int):=(by omega);rw[List.take_length]at hP;have hl1:(bs++tesE t.rg).length<=100024:=(by rw[qA,zcg];omega);obtain⟨b2,hb2⟩:∃b2,bs++tesE t.rg=b2:=⟨_,rfl⟩;have HB2:Hid (bs++tesE t.rg=b2):=hb2;rw[hb2]at hP hl1;have hXr:=HXW.out.kept hkk (.inr rfl);obtain⟨q0,q1,q2,q3,q4,_⟩:=hXr.five;have hlp:=HLP.out;have hq1:=zt9 B _ b2 pa pc t.pts wr hP hT.pts (by omega) HPT.out.1 (by omega);clear hb2 hP;go_wp2_with fail
    refine hq1.mono ?_;rintro e v1 ⟨rfl,hP1,hk1⟩;replace hT:=hT.kept hk1 HSG.out;replace hkk:=hkk.trans hk1;replace hXr:=hXr.kept hk1 (.inr rfl);clear q0 q1 q2 q3 q4 hq1 hk1;obtain⟨q0,q1,q2,q3,q4,_⟩:=hXr.five;have hq1:=zmz B _ (b2++ppB t.pts) xa xc t.dx v1 hP1 hT.dx (by have:=(zcp.1 HPT.out.2.1).2;omega) HPT.out.2.1 (by rw[qA];omega);go_wp2_with fail
    refine hq1.mono ?_;rintro e v2 ⟨rfl,hP2,hk1⟩;replace hT:=hT.kept hk1 HSG.out;replace hkk:=hkk.trans hk1;replace hXr:=hXr.kept hk1 (.inr rfl);clear q0 q1 q2 q3 q4 hq1 hk1 hP1;obtain⟨q0,q1,q2,q3,q4,_⟩:=hXr.five;have hq1:=zmz B _ (b2++ppB t.pts++pcB t.dx) ya yc t.dy v2 hP2 hT.dy (by have:=(zcp.1 HPT.out.2.2).2;omega) HPT.out.2.2 (by rw[qA,qA];omega);go_wp2_with fail
    refine hq1.mono ?_;rintro e v3 ⟨rfl,hP3,hk1⟩;replace hkk:=hkk.trans hk1;have HP3:Hid (Pc v3 B G ⟨bs++TE,[],false⟩):=by
     have:=hP3.guard (G':=G) (fun k hk=>⟨hP3.1 k (.inl hk),.inl hk⟩);show Pc _ _ _ _;rw[HEE.out,<-qI,HB2.out,<-qI,<-qI];exact this
    have HKF:Hid (Keep G w v3):=HK0.out.trans (hkk.mono (fun k hk=>.inl hk));clear hP3 hk1 hq1 hkk hP2 q0 q1 q2 q3 q4;go_wp2;go_ret;exact⟨rfl,HP3.out,HKF.out⟩
theorem zm1{l:List Tu}{k:Nat}(hk:k<l.length)(P:LN):P++tusE (l.take (k+1))=P++tusE (l.take k)++tuE (l.getD k Tu.none):=by
 rw[zak (d:=Tu.none) hk,zb7,zm2,qI]
theorem zer{o:Ol}{l:List Tu}{ax:Int}(h:foT o l ax=false):wrTB o l ax=[]/\wrTE o l ax=1:=by unfold wrTB wrTE;rw[h];exact⟨rfl,rfl⟩
theorem zbo{o:Ol}{l:List Tu}{ax:Int}(h:foT o l ax=true):wrTB o l ax=tuBt l/\wrTE o l ax=0:=by unfold wrTB wrTE;rw[h];exact⟨rfl,rfl⟩
theorem zg0(S:Nat->Prop)(a:OA)(ca:Nat)(b:OA)(cb:Nat)(o:Ol)(S2:Nat->Prop)(la:OA)(lc:Nat)(l:List Tu)(ax:Int)(w:World)(hc:Gr PnE.row S w a ca o.cs)(hp:Gr PaE S w b cb o.ps)(hl:Gr TuE S2 w la lc l)(hi:I64 ax) :
 Calls Tryz.prog 78 #[.agg #[.slice a o.cs.length ca,.slice b o.ps.length cb],.slice la l.length lc,.int .i64 ax] w fun e w'=>∃a' c',e=.returned (.tuple #[.slice a' (wrTB o l ax).length c',.int .i64 (wrTE o l ax)])/\Rw 5 w.heap.size w' a' c' (wrTB o l ax)/\Below w.heap.size w w':=by
 have kl:=hl.lenB;obtain⟨W,hW,X1,hbW⟩:∃W,W=w.alloc (.cells #[.slice a o.cs.length ca,.slice b o.ps.length cb] 57)/\Bk 57 W w.heap.size [.slice a o.cs.length ca,.slice b o.ps.length cb]/\Below w.heap.size w W:=⟨_,rfl,Bk.new _ _ _,bl1 _⟩;replace hc:=hc.below hbW;replace hp:=hp.below hbW;replace hl:=hl.below hbW;obtain⟨p0,p1,_⟩:=X1.two;have hf1:=zd8 S a ca b cb o S2 la lc l ax W hc hp hl hi;cases hfo:foT o l ax with
 | false =>
  rw[hfo]at hf1;rw[(zer hfo).1,(zer hfo).2];clear hfo;go_enter func78,ntmps78;go_upto_region 1 with fail
  rw[<-hW];clear hW;go_wp2_with fail
  refine hf1.mono ?_;rintro e m2 ⟨rfl,hb1⟩;have za1:=hbW.trans (hb1.mono hbW.size);clear hb1 hf1;go_wp2;go_ret2;exact⟨none,0,rfl,Rw.nil _ _,za1⟩
 | true =>
 rw[hfo]at hf1;rw[(zbo hfo).1,(zbo hfo).2];obtain⟨hF1,hF2,hF3,hF4⟩:=zbb.1 hfo;have HTB:Hid (∀k,k<l.length->tuB (l.getD k Tu.none) (cntO o) ax=true):=hF4;have HCN:Hid (cntO o<=86):=zf3 hF1;have HLE:Hid ((tuBt l).length<=33000):=zfc hfo;have HTE:Hid (tuBt l=be2 ((l.length:Nat):Int)++tusE l):=rfl;have HTK:Hid (∀k,(tusE (l.take k)).length<=33000):=fun k=>by
  have h1:=zfc hfo;have h2:tusE l=tusE (l.take k)++tusE (l.drop k):=by rw[<-zb7,List.take_append_drop]
  unfold tuBt at h1;rw[qA,h2,qA]at h1;omega
 clear hF1 hF4 hfo;go_enter func78,ntmps78;go_upto_region 1 with fail
 rw[<-hW];clear hW;go_wp2_with fail
 refine hf1.mono ?_;rintro e u ⟨rfl,hb1⟩;have HL:Hid (Gr TuE (fun k=>k<u.heap.size) u la lc l):=(hl.below hb1).wide (fun k _ h=>h);have HBW:Hid (Below w.heap.size w u):=hbW.trans (hb1.mono hbW.size);have hP0:=zjn u (· < u.heap.size) (fun _ h=>h);have hB0:=bl1 (w:=u) (.cells #[.slice none 0 0,.int .i64 0,.map none,.bool false] 90);clear hc hp hl hf1 hb1 X1 hbW p0 p1;go_wp2_with fail
 refine(zap u.heap.size _ _ (l.length:Int) _ hP0 ⟨by omega,by omega⟩ (by decide)).mono ?_;rintro e u1 ⟨rfl,hP1,hK1⟩;rw[show St.zero=⟨[],[],false⟩from rfl,zb0 (by omega) (by omega),List.nil_append]at hP1;have hB1:Below u.heap.size u u1:=hB0.trans (hK1.below (fun k hk=>hk));obtain⟨Q,hQ⟩:∃Q,be2 ((l.length:Nat):Int)=Q:=⟨_,rfl⟩;have HQL:Hid (Q.length=2):=by show _=_;rw[<-hQ];rfl
 rw[hQ]at hP1 HTE;have hI:Pc u1 u.heap.size (· < u.heap.size) ⟨Q++tusE (l.take 0),[],false⟩:=by
  rw[List.take_zero,tusE,List.append_nil];exact hP1
 obtain⟨B,hBB⟩:∃g,u.heap.size=g:=⟨_,rfl⟩;have HBB:Hid (u.heap.size=B):=hBB;rw[hBB]at hI hB1 HL ⊢;clear hP0 hK1 hB0 hP1 hQ hBB;go_wp2
 go_loopw [25] (fun i wr=>∃k:Nat,k<=l.length/\i=.int .i64 k/\Pc wr B (· < B) ⟨Q++tusE (l.take k),[],false⟩/\Below B u wr) (fun i _=>l.length-(intOf i).toNat)
 case atStart=>exact⟨0,qD _,rfl,hI,hB1⟩
 case round =>
  clear hI hB1;obtain⟨k,hk,rfl,hP,hB⟩:=hrel;by_cases hkn:k<l.length
  . obtain⟨b0,off,ra,rc,pa,pc,xa,xc,ya,yc,ea,hb,ht,d0,d1,d2,d3,d4⟩:=HL.out.tu (by rw[HBB.out];exact hB) k hkn
    have hfk:=HTB.out k hkn;have HSJ:Hid (_):=zm1 hkn Q;have HLJ:Hid ((Q++tusE (l.take k)).length<=33002):=(by show _<=_;rw[qA,HQL.out];have:=HTK.out k;omega);obtain⟨t,htt⟩:∃t,l.getD k Tu.none=t:=⟨_,rfl⟩;rw[htt]at ht d0 d1 d2 d3 d4 hfk HSJ;obtain⟨b2,hb2⟩:∃b2,Q++tusE (l.take k)=b2:=⟨_,rfl⟩;rw[hb2]at hP HSJ HLJ;subst ea;have i1:(0:Int)<=(k:Int):=(by omega);have i2:(k:Int)<(l.length:Int):=(by omega);obtain⟨V,hV,X0,hb0⟩:∃V,V=wr.alloc (.cells #[.slice ra t.rg.length rc,.bool t.al,.slice pa t.pts.length pc,.slice xa t.dx.length xc,.slice ya t.dy.length yc] 144)/\Bk 144 V wr.heap.size [.slice ra t.rg.length rc,.bool t.al,.slice pa t.pts.length pc,.slice xa t.dx.length xc,.slice ya t.dy.length yc]/\Below wr.heap.size wr V:=⟨_,rfl,Bk.new _ _ _,bl1 _⟩;have hPV:=hP.below hb0;have hBV:Below B u V:=hB.trans (hb0.mono (by have:=hB.size;rw[HBB.out]at this;exact this));have hput:=zt8 B (· < B) b2 _ ra rc pa pc xa xc ya yc t _ ax V hPV (ht.below hb0) (fun k hk=>hk) hfk HCN.out (by omega) (by have:=HLJ.out;omega);rw[<-HSJ.out]at hput;obtain⟨q0,q1,q2,q3,q4,_⟩:=X0.five;clear htt hb2 hP hPV ht;go_upto_region 8 with fail
    rw[<-hV];clear hV d0 d1 d2 d3 d4 hb0;go_wp2_with fail
    refine hput.mono ?_;rintro e v4 ⟨rfl,hP4,hk4⟩;have hB4:Below B u v4:=hBV.trans (hk4.below (fun k hk=>hk));clear hput q0 q1 q2 q3 q4 hk4 X0 HSJ hB hBV;go_wp2;go_roundw
    case rel=>exact⟨k+1,by omega,by go_num,hP4,hB4⟩
    case measure=>simp[intOf];omega
  . obtain rfl:k=l.length:=by omega
    have g4:¬(l.length:Int)<(l.length:Int):=(by omega);rw[List.take_length,<-HTE.out]at hP;have hall:=zfn B _ _ _ hP (qF HLE.out (by decide));have ea:allB ⟨tuBt l,[],false⟩=tuBt l:=(by simp[allB]);have eb:allE ⟨tuBt l,[],false⟩=0:=rfl;rw[ea,eb]at hall;have hbw:=HBW.out.size;rw[HBB.out]at hbw;have hBw:Below w.heap.size w wr:=HBW.out.trans (hB.mono hbw);clear hP ea eb;go_wp2_with fail
    refine hall.mono ?_;rintro e u9 ⟨a9,c9,rfl,hr9,hb9⟩;have z0z:Hid (w.heap.size<=_):=hBw.size;have hB9:=hBw.trans (hb9.mono hBw.size);clear hall;go_wp2;go_ret2;exact⟨a9,c9,rfl,hr9.mono z0z.out,hB9⟩
theorem zos(S:Nat->Prop)(a:OA)(ca:Nat)(b:OA)(cb:Nat)(o:Ol)(S2:Nat->Prop)(la:OA)(lc:Nat)(l:List Tu)(ax:Int)(w:World)(hc:Gr PnE.row S w a ca o.cs)(hp:Gr PaE S w b cb o.ps)(hl:Gr TuE S2 w la lc l)(hi:I64 ax) :
 Calls Tryz.prog 78 #[.agg #[.slice a o.cs.length ca,.slice b o.ps.length cb],.slice la l.length lc,.int .i64 ax] w fun e w'=>∃a' c',e=.returned (.tuple #[.slice a' (wrTB o l ax).length c',.int .i64 (wrTE o l ax)])/\Rb w' a' c' (wrTB o l ax)/\Below w.heap.size w w' :=
 (zg0 S a ca b cb o S2 la lc l ax w hc hp hl hi).mono (fun e w' ⟨a',c',h1,h2,h3⟩=>⟨a',c',h1,h2.rd,h3⟩)
def Kp(g:Nat)(w w':World):Prop:=Keep (fun k=>k<w.heap.size/\k≠g) w w'
theorem Kp.refl(g:Nat)(w:World):Kp g w w:=Keep.refl _ _
theorem Kp.size{g:Nat}{w w':World}(h:Kp g w w'):w.heap.size<=w'.heap.size:=Keep.size h
theorem Kp.trans{g:Nat}{a b c:World}(h:Kp g a b)(k:Kp g b c):Kp g a c :=
 Keep.trans h (Keep.mono k (fun i hi=>⟨qN hi.1 h.size,hi.2⟩))
theorem Kp.of{g:Nat}{w w':World}(h:Below w.heap.size w w'):Kp g w w':=Keep.of_below h (fun k hk=>hk.1)
theorem Kp.setCell{g:Nat}{a w:World}(h:Kp g a w)(j:Nat)(z:Value):Kp g a (w.setCell ⟨g,j,none⟩ z):=Keep.setCell h (p:=⟨g,j,none⟩) (fun e=>e.2 rfl) z
theorem Kp.below{g B:Nat}{w w':World}(h:Kp g w w')(h1:B<=w.heap.size)(h2:B<=g):Below B w w':=Keep.below h (fun k hk=>⟨by omega,by omega⟩)
theorem Kp.alloc{g:Nat}{a w:World}(h:Kp g a w)(o:Obj):Kp g a (w.alloc o):=h.trans (Kp.of (bl1 o))
theorem Kp.drew{g:Nat}{a w:World}(h:Kp g a w):Kp g a w.drew:=h.trans (Kp.of (Below.refl _ _).drew)
theorem Kp.grown{g:Nat}{a w w':World}{r:Option Nat}(h:Kp g a w)(hg:w.grownBy w' r)(hr:∀k,r=some k->a.heap.size<=k):Kp g a w' :=
 Keep.trans h ⟨hg.os,hg.tape,hg.output,hg.size,fun k hk=>hg.block k (qN hk.1 h.size) (fun e=>by have:=hr k e.symm;omega)⟩
theorem Kp.block{g:Nat}{w w':World}(h:Kp g w w'){k:Nat}(h1:k<w.heap.size)(h2:k≠g):w'.heap[k]?=w.heap[k]?:=Keep.block h k ⟨h1,h2⟩
theorem Bk.kp{t:TypeId}{g b:Nat}{w w':World}{cs:LV}(h:Bk t w b cs)(hk:Kp g w w')(hb:b≠g):Bk t w' b cs:=(hk.block h.lt hb).trans h
theorem Bk.ne{t u:TypeId}{w:World}{g b:Nat}{cs ds:LV}(h:Bk t w b cs)(h2:Bk u w g ds)(ht:t≠u):b≠g:=by
 intro e;subst e;unfold Bk at h h2;rw[h]at h2;simp at h2;exact ht h2.2
theorem Gw.kp{α:Type}{E:El α}{t u:TypeId}{base g:Nat}{w w':World}{v:Value}{l:List α}{cs:LV}(h:Gw E t base (fun _=>False) w v l)(hb:Bk u w g cs)(ht:u≠t)(hk:Kp g w w'):Gw E t base (fun _=>False) w' v l:=by
 refine h.stay hk.size (fun k h1=>h1.elim) (fun k hv=>hk.block (h.lo hv).2 (fun e=>?_));obtain⟨cur,k1⟩:=h.ty hv;rw[e,hb]at k1;simp at k1;exact ht k1.2
theorem Gi.kp{u:TypeId}{base g:Nat}{w w':World}{v:Value}{l:LI}{cs:LV}(h:Gi base w v l)(hb:Bk u w g cs)(ht:u≠3)(hk:Kp g w w'):Gi base w' v l:=Gw.kp h hb ht hk
theorem Rb.keep'{w w':World}{a:OA}{cap:Nat}{xs:LN}(h:Rb w a cap xs)(hs:w.heap.size<=w'.heap.size)(hb:∀b o,b<w.heap.size->a=some ⟨b,o,none⟩->xs≠[]->w'.heap[b]?=w.heap[b]?):Rb w' a cap xs:=by
 by_cases h0:xs=[]
 . exact⟨h.1,h.2.1,h.2.2.1,h.2.2.2.1,.inl h0⟩
 . exact h.keep hs (fun b hb1 ⟨o,e⟩=>hb b o hb1 e h0)
def Sc(t:TypeId)(w:World)(g:Nat)(pa:OA)(pc:Nat)(xs:LN)(p:Nat):Prop :=
 Bk t w g [.slice pa xs.length pc,.int .i64 (p:Int)]/\Rb w pa pc xs/\∀b o,pa=some ⟨b,o,none⟩->xs≠[]->b≠g
theorem Sc.bk{t:TypeId}{w:World}{g:Nat}{pa:OA}{pc:Nat}{xs:LN}{p:Nat}(h:Sc t w g pa pc xs p):Bk t w g [.slice pa xs.length pc,.int .i64 (p:Int)]:=h.1
theorem Sc.rb{t:TypeId}{w:World}{g:Nat}{pa:OA}{pc:Nat}{xs:LN}{p:Nat}(h:Sc t w g pa pc xs p):Rb w pa pc xs:=h.2.1
theorem Sc.below{t:TypeId}{w w':World}{g:Nat}{pa:OA}{pc:Nat}{xs:LN}{p:Nat}(h:Sc t w g pa pc xs p)(hb:Below w.heap.size w w'):Sc t w' g pa pc xs p:=⟨h.1.below hb,h.2.1.below hb,h.2.2⟩
theorem Sc.step{t:TypeId}{w:World}{g:Nat}{pa:OA}{pc:Nat}{xs:LN}{p:Nat}(h:Sc t w g pa pc xs p)(q:Nat):Sc t (w.setCell ⟨g,1,none⟩ (.int .i64 (q:Int))) g pa pc xs q :=
 ⟨h.1.set 1 _,h.2.1.keep' (by simp[World.setCell]) (fun b o _ e hne=>Below.heap_setCell _ _ _ _ (fun e2=>h.2.2 b o e hne e2)),h.2.2⟩
theorem Sc.grown{t:TypeId}{w w':World}{g:Nat}{pa:OA}{pc:Nat}{xs:LN}{p:Nat}{r:Option Nat}(h:Sc t w g pa pc xs p)(hg:w.grownBy w' r)(hr:r≠some g)(hb:∀b o,pa=some ⟨b,o,none⟩->xs≠[]->r≠some b):Sc t w' g pa pc xs p :=
 ⟨h.1.grown hg hr,h.2.1.keep' hg.size (fun b o hb1 e hne=>hg.block b hb1 (fun e2=>hb b o e hne e2.symm)),h.2.2⟩
theorem Rb.from{w:World}{a:OA}{cap:Nat}{xs:LN}(h:Rb w a cap xs)(n:Nat)(hn:n<=xs.length):Rb w (if cap=n then a else a.map (fun x=>x.add n)) (cap-n) (xs.drop n):=by
 by_cases h0:n<xs.length
 . have:=h.le
   rw[if_neg (by omega)];have hc:=h.cut n (xs.length-n) (by omega)
   rwa [List.take_of_length_le (by rw[qJ];exact qE _)]at hc
 . have e:xs.drop n=[]:=List.drop_eq_nil_of_le (by omega)
   rw[e];refine Rb.nil _ _ _ (qF (Nat.sub_le _ _) h.cap) (fun e2=>?_);have h4:=h.2.2.2.1;by_cases hc:cap=n
   . omega
   . rw[if_neg hc]at e2
     have:=h4 (by cases a with | none=>rfl | some x=>cases e2);omega
theorem Ri.keepU{w w':World}{a:OA}{cap:Nat}{l:LI}(h:Ri w a cap l)(hs:w.heap.size<=w'.heap.size)(hb:∀b o,a=some ⟨b,o,none⟩->w'.heap[b]?=w.heap[b]?):Ri w' a cap l:=by
 obtain⟨h1,h2,h3,h4⟩:=h;refine⟨h1,h2,h3,?_⟩;rcases h4 with h4|⟨b,off,e,h5,h6⟩
 . exact .inl h4
 . exact .inr ⟨b,off,e,qN h5 hs,fun i hi=>(World.cell?_of_block (w:=w) (a:=⟨b,off+i,none⟩) (hb b off e)).trans (h6 i hi)⟩
theorem Kp.new{g b:Nat}{a w:World}(h:Kp g a w)(hb:a.heap.size<=b)(j:Nat)(z:Value):Kp g a (w.setCell ⟨b,j,none⟩ z):=Keep.setCell h (p:=⟨b,j,none⟩) (fun e=>Nat.not_lt.2 hb e.1) z
theorem Rb.blk{w:World}{a:OA}{cap:Nat}{xs:LN}(h:Rb w a cap xs)(hne:xs≠[]){b o:Nat}(e:a=some ⟨b,o,none⟩):b<w.heap.size:=by
 rcases h.2.2.2.2 with h0|⟨b',o',e',hb,_⟩
 . exact absurd h0 hne
 . rw[e]at e'
   cases e';exact hb
theorem Sc.of{t:TypeId}{w u:World}{g:Nat}{pa:OA}{pc:Nat}{xs:LN}{p q:Nat}(h:Sc t w g pa pc xs p)(hk:Kp g w u)(hb:Bk t u g [.slice pa xs.length pc,.int .i64 (q:Int)]):Sc t u g pa pc xs q :=
 ⟨hb,h.rb.keep' hk.size (fun b o hlt e hne=>hk.block hlt (h.2.2 b o e hne)),h.2.2⟩
theorem Gw.setB{α:Type}{E:El α}{t u:TypeId}{base g:Nat}{w:World}{v:Value}{l:List α}{cs:LV}(h:Gw E t base (fun _=>False) w v l)(hb:Bk u w g cs)(ht:u≠t)(j:Nat)(z:Value):Gw E t base (fun _=>False) (w.setCell ⟨g,j,none⟩ z) v l:=h.kp hb ht ((Kp.refl g w).setCell j z)
def nv3(z0 z1 z2:Int)(k:Nat):LV:=[.int .i64 (if 0<k then z0 else 0),.int .i64 (if 1<k then z1 else 0),.int .i64 (if 2<k then z2 else 0)]
def zAt(b:LN)(p k:Nat):Int:=sx16 (nmV b ((p+2*k:Nat):Int) 2)
theorem zy3(b:LN)(p k:Nat)(hk:k<3):(nv3 (zAt b p 0) (zAt b p 1) (zAt b p 2) k).set k (.int .i64 (zAt b p k))=nv3 (zAt b p 0) (zAt b p 1) (zAt b p 2) (k+1):=by
 match k,hk with
 | 0,_=>simp[nv3]
 | 1,_=>simp[nv3]
 | 2,_=>simp[nv3]
theorem zy4(z0 z1 z2:Int)(k:Nat)(hk:k<3)(j:Nat)(hj:j<3):∃z,(nv3 z0 z1 z2 k)[j]?=some (.int .i64 z):=by
 match j,hj with
 | 0,_=>exact⟨_,rfl⟩
 | 1,_=>exact⟨_,rfl⟩
 | 2,_=>exact⟨_,rfl⟩
theorem zef{b:LN}(hb:Byt b)(p k:Nat):-32768<=zAt b p k/\zAt b p k<=32767:=by
 have:=zam hb ((p+2*k:Nat):Int) 2;unfold zAt sx16;split <;> omega
theorem zws(b:LN)(p:Nat):teAt b p=⟨zAt b p 0,zAt b p 1,zAt b p 2⟩:=rfl
theorem zqk(g:Nat)(pa:OA)(pc:Nat)(xs:LN)(p:Nat)(w:World)(h:Sc 203 w g pa pc xs p)(hp:p<=1000000) :
 Calls Tryz.prog 194 #[pg g] w fun e w'=>e=.returned (.agg #[.int .i64 (teAt xs p).st,.int .i64 (teAt xs p).pk,.int .i64 (teAt xs p).en])/\Sc 203 w' g pa pc xs (p+6)/\Kp g w w':=by
 have HTZ:Hid (teAt xs p=⟨zAt xs p 0,zAt xs p 1,zAt xs p 2⟩):=zws xs p;rw[HTZ.out];have hglt:=h.bk.lt;obtain⟨W,hW,XT,XN,hbW⟩:∃W,W=(w.alloc (.cells #[.int .i64 0,.int .i64 0,.int .i64 0] 146)).alloc (.cells #[.int .i64 0,.int .i64 0,.int .i64 0] 284)/\Bk 146 W w.heap.size [.int .i64 0,.int .i64 0,.int .i64 0]/\Bk 284 W (w.heap.size+1) [.int .i64 0,.int .i64 0,.int .i64 0]/\Below w.heap.size w W :=
  ⟨_,rfl,(Bk.new _ _ [.int .i64 0,.int .i64 0,.int .i64 0]).below (bl1 _),Bk.new1 _ _ _ [.int .i64 0,.int .i64 0,.int .i64 0],(bl1 _).alloc (by simp) _⟩
 have hN0:Bk 284 W (w.heap.size+1) (nv3 (zAt xs p 0) (zAt xs p 1) (zAt xs p 2) 0):=XN;have HS0:Hid (Sc 203 w g pa pc xs p):=h;have hS0:Sc 203 W g pa pc xs (p+2*0):=h.below hbW;have hK0:Kp g w W:=Kp.of hbW;have HBY:Hid (Byt xs):=h.rb.lim;clear h XN hbW;obtain⟨gt,hgt⟩:∃n,w.heap.size=n:=⟨_,rfl⟩;have HGT:Hid (w.heap.size=gt):=hgt;rw[hgt]at XT hN0 hglt;go_enter func194,ntmps194;go_upto_region 2 with fail
 rw[<-hW];clear hW;go_wp2;clear hgt
 go_loopw [5] (fun i wr=>∃k:Nat,k<=3/\i=.int .i64 k/\Sc 203 wr g pa pc xs (p+2*k)/\Bk 284 wr (gt+1) (nv3 (zAt xs p 0) (zAt xs p 1) (zAt xs p 2) k)/\Bk 146 wr gt [.int .i64 0,.int .i64 0,.int .i64 0]/\Kp g w wr) (fun i _=>3-(intOf i).toNat)
 case atStart=>exact⟨0,qD _,rfl,hS0,hN0,XT,hK0⟩
 case round =>
  clear hS0 hN0 XT hK0;obtain⟨k,hk,rfl,hS,hN,hX,hKp⟩:=hrel;by_cases hkn:k<3
  . have hF:=fun U (hr:Rb U pa pc xs)=>zhw pa pc xs ((p+2*k:Nat):Int) U hr ⟨by omega,by omega⟩
    have HZ:Hid (sx16 (nmV xs ((p+2*k:Nat):Int) 2)=zAt xs p k):=rfl;simp only[HZ.out]at hF;have hzb:=zef HBY.out p k;have HNX:Hid (_):=zy3 xs p k hkn;obtain⟨zo,hzo⟩:=zy4 (zAt xs p 0) (zAt xs p 1) (zAt xs p 2) k hkn k hkn;generalize zAt xs p k=zk at *;generalize inB xs.length ((p+2*k:Nat):Int) 2=qb at hF;obtain⟨q,hq⟩:∃q,p+2*k=q:=⟨_,rfl⟩;have HQ2:Hid (p+2*(k+1)=q+2):=(by show _=_;omega);have hq6:q<=1000010:=(by omega);rw[hq]at hS hF;clear hq;obtain⟨x0,x1,_⟩:=hS.bk.two;have i1:(0:Int)<=(k:Int):=(by omega);have i2:(k:Int)<3:=(by omega);go_upto_region 5 with fail
    refine wp_region_held_drew (S:=(fun u=>u.cell? ⟨g,0,none⟩=some (.slice pa xs.length pc)/\u.cell? ⟨g,1,none⟩=some (.int .i64 (q:Int)))) (by kernel_rfl) ?_ (fun hH=>?_)
    . (try dsimp only)
      go_keep
    have hdr:Below wr.heap.size wr wr.drew:=Below.drew1;replace hKp:Kp g w wr.drew:=hKp.drew;generalize wr.drew=ud at hdr hKp hH ⊢;replace hS:=hS.below hdr;replace hN:=hN.below hdr;replace hX:=hX.below hdr;clear hdr x0 x1;refine hT 0 hH ?_;refine hT 1 hH ?_;refine hT 2 hH ?_;refine hT 3 hH ?_;refine hT 4 hH ?_;refine hT 5 hH ?_;refine hT 6 hH ?_;refine hT 7 hH ?_;refine hT 8 hH ?_;refine hCall (i:=9) rfl (by kernel_rfl) (by rfl) (fun K hK=>?_);go_simp;refine(hF _ hS.rb).mono ?_;rintro e u1 ⟨rfl,rfl⟩;go_wp2_with fail
    refine hK.out _ _ ?_ (fun hH=>?_)
    . (try dsimp only)
      exact hH
    clear hK K;try simp only[Act.put,pZ]
    refine hT 10 hH ?_;refine hT 11 hH ?_;refine hT 12 hH ?_;refine hT 13 hH ?_;refine hCall (i:=14) rfl (by kernel_rfl) (by rfl) (fun K hK=>?_);have hce:=(hN.cell k (by simpa [nv3] using hkn)).trans hzo;have hfz:=hN.fz k;go_simp;have hN2:=hN.set k (.int .i64 zk);rw[HNX.out]at hN2;have hS2:Sc 203 (ud.setCell ⟨gt+1,k,none⟩ (.int .i64 zk)) g pa pc xs q:=HS0.out.of (hKp.new (by rw[HGT.out];omega) k _) (hS.bk.other k _ (by omega));have hX2:=hX.other k (.int .i64 zk) (b:=gt+1) (by omega);have hK2:Kp g w (ud.setCell ⟨gt+1,k,none⟩ (.int .i64 zk)):=hKp.new (by rw[HGT.out];omega) k _;clear hN hS hX hKp hce hfz hzo HNX;generalize ud.setCell ⟨gt+1,k,none⟩ (.int .i64 zk)=u2 at *;obtain⟨x0,x1,_⟩:=hS2.bk.two;refine hK.out _ _ ?_ (fun hH=>?_)
    . (try dsimp only)
      exact⟨x0,x1⟩
    clear hK K;try simp only[Act.put,pZ]
    refine wpAnyH_done (by kernel_rfl) ?_ _;clear hH;obtain⟨-,-,f0,f1⟩:=hS2.bk.two;have hpn:(q:Int)+2=((q+2:Nat):Int):=(by omega);have HS:Hid (Sc 203 (u2.setCell ⟨g,1,none⟩ (.int .i64 ((q+2:Nat):Int))) g pa pc xs (q+2)):=hS2.step (q+2);have HK2:Hid (Kp g w (u2.setCell ⟨g,1,none⟩ (.int .i64 ((q+2:Nat):Int)))):=hK2.setCell 1 _;have HN3:Hid (Bk 284 (u2.setCell ⟨g,1,none⟩ (.int .i64 ((q+2:Nat):Int))) (gt+1) (nv3 (zAt xs p 0) (zAt xs p 1) (zAt xs p 2) (k+1))):=hN2.other 1 _ (by omega);have HX3:Hid (Bk 146 (u2.setCell ⟨g,1,none⟩ (.int .i64 ((q+2:Nat):Int))) gt [.int .i64 0,.int .i64 0,.int .i64 0]):=hX2.other 1 _ (by omega);obtain⟨m,hm⟩:∃m:Nat,q+2=m:=⟨_,rfl⟩;have hml:m<=1000012:=(by omega);rw[hm]at hpn HS HK2 HN3 HX3 HQ2;clear hm hN2 hS2 hX2 hK2;go_wp2;go_roundw
    case rel=>exact⟨k+1,by omega,by go_num,by rw[HQ2.out];exact HS.out,HN3.out,HX3.out,HK2.out⟩
    case measure=>simp[intOf];omega
  . obtain rfl:k=3:=by omega
    obtain⟨n0,n1,n2,_⟩:=(show Bk 284 wr (gt+1) [.int .i64 (zAt xs p 0),.int .i64 (zAt xs p 1),.int .i64 (zAt xs p 2)]from hN).three;obtain⟨y0,y1,y2,f0,f1,f2⟩:=hX.three;have bz0:=zef HBY.out p 0;have bz1:=zef HBY.out p 1;have bz2:=zef HBY.out p 2;have hX3:=((hX.set 0 (.int .i64 (zAt xs p 0))).set 1 (.int .i64 (zAt xs p 1))).set 2 (.int .i64 (zAt xs p 2));have hk3:Kp g w (((wr.setCell ⟨gt,0,none⟩ (.int .i64 (zAt xs p 0))).setCell ⟨gt,1,none⟩ (.int .i64 (zAt xs p 1))).setCell ⟨gt,2,none⟩ (.int .i64 (zAt xs p 2))):=((hKp.new (by rw[HGT.out];omega) 0 _).new (by rw[HGT.out];omega) 1 _).new (by rw[HGT.out];omega) 2 _;have hS3:=HS0.out.of hk3 (((hS.bk.other 0 (.int .i64 (zAt xs p 0)) (b:=gt) (by omega)).other 1 (.int .i64 (zAt xs p 1)) (b:=gt) (by omega)).other 2 (.int .i64 (zAt xs p 2)) (b:=gt) (by omega));have HF:Hid (Sc 203 (((wr.setCell ⟨gt,0,none⟩ (.int .i64 (zAt xs p 0))).setCell ⟨gt,1,none⟩ (.int .i64 (zAt xs p 1))).setCell ⟨gt,2,none⟩ (.int .i64 (zAt xs p 2))) g pa pc xs (p+6)/\Kp g w (((wr.setCell ⟨gt,0,none⟩ (.int .i64 (zAt xs p 0))).setCell ⟨gt,1,none⟩ (.int .i64 (zAt xs p 1))).setCell ⟨gt,2,none⟩ (.int .i64 (zAt xs p 2)))):=⟨hS3,hk3⟩;have HX3:Hid (_):=hX3.three;clear hS3 hk3 hS hKp hN hX3 HTZ;go_wp2;refine bodyPost_ret (v:=.agg #[.int .i64 (zAt xs p 0),.int .i64 (zAt xs p 1),.int .i64 (zAt xs p 2)]) (by obtain⟨r0,r1,r2,_⟩:=HX3.out;simp[results,results194,go_sem,r0,r1,r2]) rfl ⟨rfl,HF.out.1,HF.out.2⟩
theorem zyw(b:LN)(n:Int):∃q:Nat,rcN b n=(q:Int)/\q<=b.length/\(rcN b n).toNat=q:=by
 unfold rcN;cases h:rcO b n with
 | none=>exact⟨0,rfl,qD _,rfl⟩
 | some r =>
  refine⟨r.2,rfl,?_,rfl⟩;unfold rcO at h;split at h
  . exact(zho _ _ _ _ _ _ _ (show rdF RC b n.toNat 0 n.toNat=some (r.1,r.2)from h)).2.2 (qD _)
  . cases h
theorem zrp(b:LN)(n:Int):(rcE b n==0)=(rcO b n).isSome:=by
 unfold rcE;cases rcO b n with
 | none =>
  show((if 0<=n/\n<=2000 then (2:Int)else 4)==0)=false;split <;> decide
 | some r=>rfl
theorem zm0(g:Nat)(pa:OA)(pc:Nat)(xs:LN)(p:Nat)(n:Int)(w:World)(h:Sc 203 w g pa pc xs p)(hp:p<=xs.length)(hl:xs.length<=100000)(hn:I64 n) :
 Calls Tryz.prog 196 #[pg g,.int .i64 n] w fun e w'=>∃a' c',e=.returned (.tuple #[.slice a' (rcL (xs.drop p) n).length c',.bool (rcO (xs.drop p) n).isSome])/\Ri w' a' c' (rcL (xs.drop p) n)/\(∀b o,a'=some ⟨b,o,none⟩->w.heap.size<=b)/\(a'=none->c'=0)/\Sc 203 w' g pa pc xs (p+(rcN (xs.drop p) n).toNat)/\Kp g w w':=by
 have HDL:Hid ((xs.drop p).length=xs.length-p):=qJ ..;have hglt:=h.bk.lt;have hF:=fun U (hr:Rb U pa pc xs)=>zcx _ _ (xs.drop p) n U (hr.from p hp) (by rw[HDL.out];omega) hn;rw[HDL.out]at hF;have HPA:Hid ((if pc=p then pa else pa.map (fun x=>x.add p))=(if pc=p then pa else pa.map (fun x=>x.add p))):=rfl;obtain⟨pa2,zzh⟩:∃x,(if pc=p then pa else pa.map (fun x=>x.add p))=x:=⟨_,rfl⟩;rw[zzh]at hF;replace HPA:Hid ((if pc=p then pa else pa.map (fun x=>x.add p))=pa2):=zzh;obtain⟨q,hq1,hq2,hq3⟩:=zyw (xs.drop p) n;have HE:=zrp (xs.drop p) n;rw[HDL.out]at hq2;rw[hq3];rw[hq1]at hF;have hpc:=h.rb.le;have hpm:=h.rb.cap;unfold maxLen at hpm;obtain⟨b2,hb2⟩:∃b,xs.drop p=b:=⟨_,rfl⟩;rw[hb2]at hF HE ⊢;rw[<-HE];clear hb2 hq1 hq3 HE zzh;obtain⟨er,her⟩:∃x,rcE b2 n=x:=⟨_,rfl⟩;rw[her]at hF ⊢;clear her;obtain⟨x0,x1,_⟩:=h.bk.two;go_enter func196,ntmps196;go_upto_region 1 with fail
 refine wp_region_held_drew (S:=(fun u=>u.cell? ⟨g,0,none⟩=some (.slice pa xs.length pc)/\u.cell? ⟨g,1,none⟩=some (.int .i64 (p:Int)))) (by kernel_rfl) ?_ (fun hH=>?_)
 . (try dsimp only)
   go_keep
 have hdr:Below w.heap.size w w.drew:=Below.drew1;have hkp:Kp g w w.drew:=(Kp.refl g w).drew;have hsd:w.heap.size<=w.drew.heap.size:=hdr.size;generalize w.drew=ud at hdr hkp hH hsd ⊢;replace h:=h.below hdr;clear hdr x0 x1;refine hT 0 hH ?_;refine hT 1 hH ?_;refine hT 2 hH ?_;refine hT 3 hH ?_;refine hT 4 hH ?_;refine hT 5 hH ?_;refine hT 6 hH ?_;refine hT 7 hH ?_;refine hTake (i:=8) (v:=.slice pa2 (xs.length-p) (pc-p)) rfl (by kernel_rfl) (by kernel_rfl) (by kernel_rfl) (fun _ _ _ h=>h) (Or.inl ⟨by rfl,?y1⟩) hH ?r1
 case y1 =>
  intro w9 hSw
  (try dsimp only at hSw)
  go_simp;exact HPA.out
 try simp only[Act.put,pZ]
 refine hT 9 hH ?_;refine hCall (i:=10) rfl (by kernel_rfl) (by rfl) (fun K hK=>?_);go_simp;refine(hF _ h.rb).mono ?_;rintro e u1 ⟨a1,c1,rfl,hri,hlo,hno,hb1⟩;replace h:=h.below hb1;replace hkp:=hkp.trans (Kp.of hb1);obtain⟨x0,x1,_⟩:=h.bk.two;go_wp2_with fail
 refine hK.out _ _ ?_ (fun hH=>?_)
 . (try dsimp only)
   exact⟨x0,x1⟩
 clear hK K x0 x1;try simp only[Act.put,pZ]
 refine hT 11 hH ?_;refine hT 12 hH ?_;refine hT 13 hH ?_;refine hT 14 hH ?_;refine hT 15 hH ?_;refine hT 16 hH ?_;refine hT 17 hH ?_;refine wpAnyH_done (by kernel_rfl) ?_ _;clear hH;obtain⟨x0,x1,f0,f1⟩:=h.bk.two;have hpn:(p:Int)+(q:Int)=((p+q:Nat):Int):=by omega
 have HS:Hid (Sc 203 (u1.setCell ⟨g,1,none⟩ (.int .i64 ((p+q:Nat):Int))) g pa pc xs (p+q)):=h.step (p+q);have HK2:Hid (Kp g w (u1.setCell ⟨g,1,none⟩ (.int .i64 ((p+q:Nat):Int)))):=hkp.setCell 1 _;have HR2:Hid (Ri (u1.setCell ⟨g,1,none⟩ (.int .i64 ((p+q:Nat):Int))) a1 c1 (rcL b2 n)/\(∀b o,a1=some ⟨b,o,none⟩->w.heap.size<=b)/\(a1=none->c1=0)) :=
  ⟨hri.keepU (by simp[World.setCell]) (fun b o e=>Below.heap_setCell _ _ _ _ (fun e2=>by have:=hlo b o e;have e3:b=g:=e2;omega)),fun b o e=>qF hsd (hlo b o e),hno⟩
 have hmm:p+q<=200000:=by omega
 obtain⟨m,hm⟩:∃m:Nat,p+q=m:=⟨_,rfl⟩;rw[hm]at hpn HS HK2 HR2 hmm;have HM:Hid (p+q=m):=hm;clear hm h hkp hri hlo hno hb1 hF hsd;go_wp2;go_ret2;exact⟨a1,c1,rfl,HR2.out.1,HR2.out.2.1,HR2.out.2.2,by rw[HM.out];exact HS.out,HK2.out⟩
