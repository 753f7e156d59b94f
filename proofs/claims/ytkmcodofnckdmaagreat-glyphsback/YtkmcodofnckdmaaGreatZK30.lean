import Derived.Test.YtkmcodofnckdmaaGreatZK29
set_option maxHeartbeats 4000000
set_option maxRecDepth 100000
set_option linter.unusedSimpArgs false
set_option linter.unusedVariables false
namespace Go.Proofs.YtkmcodofnckdmaaGreat
open Go.RowKit Go.Maps
theorem z0l{b:LN}(h:rpO b=none):rpL b=[]/\rpN b=0/\rpE b=2:=by unfold rpL rpN rpE;rw[h];exact⟨rfl,rfl,rfl⟩
theorem zyv{b:LN}(hb:Byt b):ptN b<=32767:=by
 have h0:=zbd hb 0 1
 have h1:=zbd hb 1 1
 unfold ptN
 split <;> omega
theorem z32{b:LN}(hB:Byt b)(kd p k:Nat):∀z∈runV RPt b kd p k,0<=z/\z<=65535:=by
 intro z hz
 unfold runV at hz
 obtain⟨i,_,rfl⟩:=List.mem_map.1 hz
 show 0<=vlP b kd _/\vlP b kd _<=65535
 unfold vlP
 have h1:=zbd hB (((p+i*RPt.sz kd:Nat):Int)) 1
 have h2:=zbd hB (((p+i*RPt.sz kd:Nat):Int)) 2
 simp only[Nat.pow_one,Nat.reducePow]at h1 h2
 split <;> omega
theorem rdF_P{b:LN}(hB:Byt b):∀(f p n:Nat) (l:LI) (e:Nat),rdF RPt b f p n=some (l,e)->∀z∈l,0<=z/\z<=65535:=by
 intro f
 induction f with
 | zero =>
  intro p n l e h
  cases n with
  | zero=>rw[zbl]at h;cases h;intro z hz;cases hz
  | succ n=>cases h
 | succ f ih =>
  intro p n l e h
  cases n with
  | zero=>rw[zbl]at h;cases h;intro z hz;cases hz
  | succ n =>
   rw[rdF]at h
   split at h
   . split at h
     . rename_i l' e' hr
       cases h
       intro z hz
       rcases List.mem_append.1 hz with hz|hz
       . exact z32 hB _ _ _ z hz
       . exact ih _ _ _ _ hr z hz
     . cases h
   . cases h
theorem zcp(a:OA)(cap:Nat)(b:LN)(n:Int)(w:World)(h:Rb w a cap b)(hbl:b.length<=100000)(hn:I64 n) :
 Calls Tryz.prog 253 #[.slice a b.length cap,.int .i64 n] w fun e w'=>∃a' c',e=.returned (.tuple #[.slice a' (rcL b n).length c',.int .i64 (rcN b n),.int .i64 (rcE b n)])/\Ri w' a' c' (rcL b n)/\(∀b o,a'=some ⟨b,o,none⟩->w.heap.size<=b)/\(a'=none->c'=0)/\Below w.heap.size w w':=by
 by_cases h1:0<=n/\n<=2000
 rotate_left
 . have HE:Hid (rcL b n=[]/\rcN b n=0/\rcE b n=4):=by
     have h0:rcO b n=none:=by rw[rcO,if_neg h1]
     refine⟨(znp h0).1,(znp h0).2,?_⟩
     rw[rcE,h0]
     exact if_neg h1
   by_cases h2:n<0
   . have g1:decide (n<0)=true:=decide_eq_true h2
     clear h h1 h2
     go_enter Tryz.func253,Tryz.ntmps253
     go_wp2
     go_ret3
     exact⟨none,0,by rw[HE.out.1,HE.out.2.1,HE.out.2.2];rfl,by rw[HE.out.1];exact Ri.nil _ _ _ (Nat.zero_le _),(fun _ _ e=>by cases e),(fun _=>rfl),Below.refl _ _⟩
   . have g1:decide (n<0)=false:=decide_eq_false h2
     have g2:decide (2000<n)=true:=decide_eq_true (by omega)
     clear h h1 h2
     go_enter Tryz.func253,Tryz.ntmps253
     go_wp2
     go_ret3
     exact⟨none,0,by rw[HE.out.1,HE.out.2.1,HE.out.2.2];rfl,by rw[HE.out.1];exact Ri.nil _ _ _ (Nat.zero_le _),(fun _ _ e=>by cases e),(fun _=>rfl),Below.refl _ _⟩
 obtain⟨N,rfl⟩:∃N:Nat,n=(N:Int):=⟨n.toNat,by omega⟩
 have HO:Hid (rcO b (N:Int)=rdF RC b N 0 N):=by show _=_;rw[rcO,if_pos (by omega),Int.toNat_natCast]
 have HNN:Hid (rcO b (N:Int)=none->rcL b (N:Int)=[]/\rcN b (N:Int)=0/\rcE b (N:Int)=2):=fun h0=>by
  refine⟨(znp h0).1,(znp h0).2,?_⟩
  rw[rcE,h0]
  exact if_pos (by omega)
 have hr:=z0k a cap b 0 N w h hbl (Nat.zero_le _) (by omega)
 have hr:Calls Tryz.prog 250 #[.slice a b.length cap,.int .i64 0,.int .i64 (N:Int),.int .i64 64,.func (.func 271) #[] #[]] w _:=hr
 have g1:decide ((N:Int)<0)=false:=decide_eq_false (by omega)
 have g2:decide (2000<(N:Int))=false:=decide_eq_false (by omega)
 have g0:(0:Int)<=(N:Int):=by omega
 have g3:(N:Int)<=2000:=h1.2
 clear h h1
 go_enter Tryz.func253,Tryz.ntmps253
 go_wp2_with fail
 refine hr.mono ?_
 rintro e u1 ⟨⟨l,e1,v,hl,rfl,hIo⟩|⟨hl,rfl⟩,hb1⟩
 . have HY:Hid (rcL b (N:Int)=l/\rcN b (N:Int)=(e1:Int)/\rcE b (N:Int)=0):=by
     unfold rcL rcN rcE
     rw[HO.out,hl]
     exact⟨rfl,rfl,rfl⟩
   obtain⟨av,cv,rfl,hri,hlo⟩:=hIo.sliceL;clear hr hl HO HNN hIo;go_wp2
   go_ret3
   exact⟨av,cv,by rw[HY.out.1,HY.out.2.1,HY.out.2.2];rfl,by rw[HY.out.1];exact hri,hlo.1,hlo.2,hb1⟩
 . have HNO:Hid (_):=HNN.out (HO.out.trans hl)
   clear hr hl HO HNN;go_wp2
   go_ret3
   exact⟨none,0,by rw[HNO.out.1,HNO.out.2.1,HNO.out.2.2];rfl,by rw[HNO.out.1];exact Ri.nil _ _ _ (Nat.zero_le _),(fun _ _ e=>by cases e),(fun _=>rfl),hb1⟩
theorem zc5(a:OA)(cap:Nat)(b:LN)(w:World)(h:Rb w a cap b)(hbl:b.length<=100000) :
 Calls Tryz.prog 195 #[.slice a b.length cap] w fun e w'=>∃a' c',e=.returned (.tuple #[.slice a' (rpL b).length c',.int .i64 (rpN b),.int .i64 (rpE b)])/\Ri w' a' c' (rpL b)/\(∀b o,a'=some ⟨b,o,none⟩->w.heap.size<=b)/\(a'=none->c'=0)/\Below w.heap.size w w':=by
 have HNN:Hid (rpO b=none->rpL b=[]/\rpN b=0/\rpE b=2):=fun h0=>by
  unfold rpL rpN rpE
  rw[h0]
  exact⟨rfl,rfl,rfl⟩
 have hB:=h.lim
 have hc:=zij a cap b w h
 have hA2:ptA b=1\/ptA b=2:=by unfold ptA;split <;> omega
 cases ho:ptO b with
 | false =>
  have HNO:Hid (_):=HNN.out (by rw[rpO,ho];rfl)
  rw[ho]at hc;clear h HNN ho
  go_enter Tryz.func195,Tryz.ntmps195
  go_wp2_with fail
  refine hc.mono ?_
  rintro e u1 ⟨z,rfl,_,rfl⟩;clear hc;go_wp2
  go_ret3
  exact⟨none,0,by rw[HNO.out.1,HNO.out.2.1,HNO.out.2.2];rfl,by rw[HNO.out.1];exact Ri.nil _ _ _ (Nat.zero_le _),(fun _ _ e=>by cases e),(fun _=>rfl),Below.refl _ _⟩
 | true =>
  have hAl:ptA b<=b.length:=of_decide_eq_true ho
  have HRO:Hid (rpO b=(match rdF RPt b (ptN b) (ptA b) (ptN b)with | some p=>if ptB (sums 0 p.1)then some (sums 0 p.1,p.2)else none | none=>none)):=by
   show _=_
   rw[rpO,ho]
   rfl
  have HPP:Hid (∀l e,rdF RPt b (ptN b) (ptA b) (ptN b)=some (l,e)->(∀z∈l,0<=z/\z<=65535)/\l.length<=40000):=fun l e hl=>⟨rdF_P hB _ _ _ _ _ hl,by have:=(zio _ _ _ _ _ _ _ hl).1;have:=zyv hB;omega⟩
  have hr:=z0j a cap b (ptA b) (ptN b) w h hbl hAl (by have:=zyv hB;omega)
  rw[ho]at hc
  obtain⟨A,hA⟩:∃n,ptA b=n:=⟨_,rfl⟩
  obtain⟨N,hN⟩:∃n,ptN b=n:=⟨_,rfl⟩
  rw[hA]at hc hr HRO HPP;rw[hN]at hc hr HRO HPP;clear h ho hA hN hAl hA2 hB
  go_enter Tryz.func195,Tryz.ntmps195
  go_wp2_with fail
  refine hc.mono ?_
  rintro e u1 ⟨z,rfl,hz,rfl⟩
  obtain rfl:z=(N:Int):=hz trivial
  clear hc hz
  go_wp2_with fail
  refine hr.mono ?_
  rintro e u1 ⟨⟨l,e1,v,hl,rfl,hIo⟩|⟨hl,rfl⟩,hb1⟩
  rotate_left
  . have HNO:Hid (_):=HNN.out (by rw[HRO.out,hl])
    clear hr hl HRO HNN HPP;go_wp2
    go_ret3
    exact⟨none,0,by rw[HNO.out.1,HNO.out.2.1,HNO.out.2.2];rfl,by rw[HNO.out.1];exact Ri.nil _ _ _ (Nat.zero_le _),(fun _ _ e=>by cases e),(fun _=>rfl),hb1⟩
  obtain⟨p1,p2⟩:=HPP.out l e1 hl
  have hau:=zqf w.heap.size v l u1 hIo p1 p2
  have HRO2:Hid (rpO b=if ptB (sums 0 l)then some (sums 0 l,e1)else none):=by show _=_;rw[HRO.out,hl]
  clear hr hl HRO HPP hIo p1 p2
  go_wp2_with fail
  refine hau.mono ?_
  rintro e u2 ⟨rfl,hIo,hb2⟩
  replace hb1:=hb1.trans hb2
  clear hau hb2;obtain⟨av,cv,rfl,hri,hlo⟩:=hIo.sliceL
  have hap:=zhb av cv (sums 0 l) u2 hri
  cases hp:ptB (sums 0 l) with
  | false =>
   have HNO:Hid (_):=HNN.out (by rw[HRO2.out,hp];rfl)
   rw[hp]at hap;clear hp HRO2 HNN hIo
   go_wp2_with fail
   refine hap.mono ?_
   rintro e u3 ⟨rfl,rfl⟩;clear hap;go_wp2
   go_ret3
   exact⟨none,0,by rw[HNO.out.1,HNO.out.2.1,HNO.out.2.2];rfl,by rw[HNO.out.1];exact Ri.nil _ _ _ (Nat.zero_le _),(fun _ _ e=>by cases e),(fun _=>rfl),hb1⟩
  | true =>
   have HY:Hid (rpL b=sums 0 l/\rpN b=(e1:Int)/\rpE b=0):=by
    unfold rpL rpN rpE
    rw[HRO2.out,hp]
    exact⟨rfl,rfl,rfl⟩
   rw[hp]at hap;clear hp HRO2 HNN hIo
   go_wp2_with fail
   refine hap.mono ?_
   rintro e u3 ⟨rfl,rfl⟩;clear hap;go_wp2
   go_ret3
   exact⟨av,cv,by rw[HY.out.1,HY.out.2.1,HY.out.2.2];rfl,by rw[HY.out.1];exact hri,hlo.1,hlo.2,hb1⟩
theorem zfp(a:OA)(cap:Nat)(b:LN)(n:Int)(w:World)(h:Rb w a cap b)(hbl:b.length<=100000)(hn:I64 n) :
 Calls Tryz.prog 253 #[.slice a b.length cap,.int .i64 n] w fun e w'=>∃a' c',e=.returned (.tuple #[.slice a' (rcL b n).length c',.int .i64 (rcN b n),.int .i64 (rcE b n)])/\Ri w' a' c' (rcL b n)/\Below w.heap.size w w' :=
 (zcp a cap b n w h hbl hn).mono (fun e w' ⟨a',c',h1,h2,_,_,h3⟩=>⟨a',c',h1,h2,h3⟩)
theorem zhd(a:OA)(cap:Nat)(b:LN)(w:World)(h:Rb w a cap b)(hbl:b.length<=100000) :
 Calls Tryz.prog 195 #[.slice a b.length cap] w fun e w'=>∃a' c',e=.returned (.tuple #[.slice a' (rpL b).length c',.int .i64 (rpN b),.int .i64 (rpE b)])/\Ri w' a' c' (rpL b)/\Below w.heap.size w w' :=
 (zc5 a cap b w h hbl).mono (fun e w' ⟨a',c',h1,h2,_,_,h3⟩=>⟨a',c',h1,h2,h3⟩)
theorem codP:CodP:=⟨fun a cap l w h _=>zms a cap l w h,fun a cap b w h hb=>zhd a cap b w h (by omega),fun a cap l w h _=>zk8 a cap l w h,fun a cap b n w h hb hn=>zfp a cap b n w h (by omega) hn⟩
theorem zu7(B:Nat)(G:Nat->Prop)(bs:LN)(a:OA)(cap:Nat)(l:LI)(w:World)(h:Pc w B G ⟨bs,[],false⟩)(hr:Ri w a cap l)(hl:l.length<=3000)(hok:ptB l=true)(hb:bs.length+(ppB l).length<=1048576) :
 Calls Tryz.prog 187 #[pg B,.func (.func 188) #[] #[],.slice a l.length cap] w fun e w'=>e=.returned (.int .i64 0)/\Pc w' B G ⟨bs++ppB l,[],false⟩/\Keep G w w':=by
 have hp:=codP.pts a cap l w hr hl
 rw[show ppE l=0 by unfold ppE;rw[hok];rfl]at hp
 have hG1:=h.1
 go_enter Tryz.func187,Tryz.ntmps187
 go_wp2_with fail
 refine hp.mono ?_
 rintro e m1 ⟨a1,c1,rfl,hrb,hb1⟩
 have hk1:Keep G w m1:=Keep.of_below hb1 hG1
 have hP:=zde B G _ a1 c1 (ppB l) m1 (h.below hb1) hrb hb
 rw[show(St.mk bs [] false).app (ppB l)=⟨bs++ppB l,[],false⟩ by simp[St.app]]at hP
 clear hp hb1
 go_wp2_with fail
 refine hP.mono ?_
 rintro e m2 ⟨rfl,hP2,hk2⟩
 have hk:=hk1.trans hk2
 clear hP hk1 hk2;go_wp2
 go_ret
 exact⟨rfl,hP2,hk⟩
theorem zm2(B:Nat)(G:Nat->Prop)(bs:LN)(a:OA)(cap:Nat)(l:LI)(w:World)(h:Pc w B G ⟨bs,[],false⟩)(hr:Ri w a cap l)(hl:l.length<=3000)(hok:chB l=true)(hb:bs.length+(pcB l).length<=1048576) :
 Calls Tryz.prog 187 #[pg B,.func (.func 189) #[] #[],.slice a l.length cap] w fun e w'=>e=.returned (.int .i64 0)/\Pc w' B G ⟨bs++pcB l,[],false⟩/\Keep G w w':=by
 have hp:=codP.chs a cap l w hr hl
 rw[show pcE l=0 by unfold pcE;rw[hok];rfl]at hp
 have hG1:=h.1
 go_enter Tryz.func187,Tryz.ntmps187
 go_wp2_with fail
 refine hp.mono ?_
 rintro e m1 ⟨a1,c1,rfl,hrb,hb1⟩
 have hk1:Keep G w m1:=Keep.of_below hb1 hG1
 have hP:=zde B G _ a1 c1 (pcB l) m1 (h.below hb1) hrb hb
 rw[show(St.mk bs [] false).app (pcB l)=⟨bs++pcB l,[],false⟩ by simp[St.app]]at hP
 clear hp hb1
 go_wp2_with fail
 refine hP.mono ?_
 rintro e m2 ⟨rfl,hP2,hk2⟩
 have hk:=hk1.trans hk2
 clear hP hk1 hk2;go_wp2
 go_ret
 exact⟨rfl,hP2,hk⟩
theorem TuC.kept{S G:Nat->Prop}{w w':World}{ra:OA}{rc:Nat}{pa:OA}{pc:Nat}{xa:OA}{xc:Nat}{ya:OA}{yc:Nat}{t:Tu}(h:TuC S w ra rc pa pc xa xc ya yc t)(hk:Keep G w w')(hS:∀k,S k->G k):TuC S w' ra rc pa pc xa xc ya yc t :=
 ⟨TeE.row.stay h.1 hk.size (fun k h1 _=>⟨h1,hk.block k (hS k h1)⟩),El.int.row.stay h.2.1 hk.size (fun k h1 _=>⟨h1,hk.block k (hS k h1)⟩),El.int.row.stay h.2.2.1 hk.size (fun k h1 _=>⟨h1,hk.block k (hS k h1)⟩),El.int.row.stay h.2.2.2 hk.size (fun k h1 _=>⟨h1,hk.block k (hS k h1)⟩)⟩
theorem zj0(l:List Te)(k:Nat):(tesE (l.take k)).length<=6*l.length:=by
 rw[zcr,List.length_take]
 omega
theorem zvb{l:List Te}{k:Nat}(hk:k<l.length)(P:LN):P++tesE (l.take (k+1))=P++tesE (l.take k)++be2 (l.getD k Te.none).st++be2 (l.getD k Te.none).pk++be2 (l.getD k Te.none).en:=by
 rw[zaj (d:=Te.none) hk,zgg]
 simp only[tesE,teE,List.append_nil,List.append_assoc]
theorem tf_fd{t:Te}(h:tfB t=true):(-16384<=t.st/\t.st<=16384)/\(-16384<=t.pk/\t.pk<=16384)/\(-16384<=t.en/\t.en<=16384):=by
 have:=zd3.1 h
 unfold TfT at this
 omega
theorem zu6(B:Nat)(G:Nat->Prop)(bs:LN)(S:Nat->Prop)(ra:OA)(rc:Nat)(pa:OA)(pc:Nat)(xa:OA)(xc:Nat)(ya:OA)(yc:Nat)(t:Tu)(n:Nat)(ax:Int)(w:World)(h:Pc w B G ⟨bs,[],false⟩)(ht:TuC S w ra rc pa pc xa xc ya yc t)(hS:∀k,S k->G k)(hf:tuB t n ax=true)(hn:n<=86)(hax:ax<=4)(hb:bs.length<=100000) :
 Calls Tryz.prog 135 #[pg B,.agg #[.slice ra t.rg.length rc,.bool t.al,.slice pa t.pts.length pc,.slice xa t.dx.length xc,.slice ya t.dy.length yc]] w fun e w'=>e=.returned (.int .i64 0)/\Pc w' B G ⟨bs++tuE t,[],false⟩/\Keep G w w':=by
 obtain⟨W,hW,X1,hbW⟩:∃W,W=w.alloc (.cells #[.slice ra t.rg.length rc,.bool t.al,.slice pa t.pts.length pc,.slice xa t.dx.length xc,.slice ya t.dy.length yc] 144)/\Bk 144 W w.heap.size [.slice ra t.rg.length rc,.bool t.al,.slice pa t.pts.length pc,.slice xa t.dx.length xc,.slice ya t.dy.length yc]/\Below w.heap.size w W:=⟨_,rfl,Bk.new _ _ _,bl1 _⟩
 have hP0:Pc W B (fun k=>G k\/k=w.heap.size) ⟨bs,[],false⟩:=by rw[hW];exact h.moreA _
 have hG1:=h.1
 have hk0:Keep G w W:=Keep.of_below hbW hG1
 obtain⟨p1,p2,-⟩:=zqy hf (by omega)
 obtain⟨c1,c2,-,-,c3,c4⟩:=zqz hf (by omega)
 obtain⟨g1,g2⟩:=zrr (zd2.1 hf).1
 have HPT:Hid (ptB t.pts=true/\chB t.dx=true/\chB t.dy=true):=⟨p1,c1,c2⟩
 have HLP:Hid ((ppB t.pts).length<=260/\(pcB t.dx).length<=258/\(pcB t.dy).length<=258):=⟨by have:=zkg p1;omega,by have:=zeg c1;omega,by have:=zeg c2;omega⟩
 have HTF:Hid (∀k,k<t.rg.length->tfB (t.rg.getD k Te.none)=true):=fun k hk=>List.all_eq_true.1 g2 _ (zoa hk)
 have HEE:Hid (tuE t=tesE t.rg++(ppB t.pts++(pcB t.dx++pcB t.dy))):=rfl
 have HTW:Hid (TuC S W ra rc pa pc xa xc ya yc t):=ht.below hbW
 have HXW:Hid (Bk 144 W w.heap.size [.slice ra t.rg.length rc,.bool t.al,.slice pa t.pts.length pc,.slice xa t.dx.length xc,.slice ya t.dy.length yc]):=X1
 have HSG:Hid (∀k,S k->G k\/k=w.heap.size):=fun k hk=>.inl (hS k hk)
 have HK0:Hid (Keep G w W):=hk0
 have hgl:t.rg.length<=4:=by omega
 have hpl:t.pts.length<=86:=by omega
 generalize tuE t=TE at *
 obtain⟨gt,hgt⟩:∃g,w.heap.size=g:=⟨_,rfl⟩
 have HGT:Hid (w.heap.size=gt):=hgt
 rw[hgt]at HXW hP0 HSG
 have hP1:Pc W B (fun k=>G k\/k=gt) ⟨bs++tesE (t.rg.take 0),[],false⟩:=by
  rw[List.take_zero,tesE,List.append_nil]
  exact hP0
 obtain⟨q0,q1,q2,q3,q4,_⟩:=HXW.out.five;clear h ht hS hf p1 p2 c1 c2 g1 g2 X1 hP0 hk0 hbW
 go_enter Tryz.func135,Tryz.ntmps135
 go_upto_region 1 with fail
 rw[<-hW];clear hW hgt;go_wp2;clear q0 q1 q2 q3 q4
 go_loopw [12] (fun i wr=>∃k:Nat,k<=t.rg.length/\i=.int .i64 k/\Pc wr B (fun k=>G k\/k=gt) ⟨bs++tesE (t.rg.take k),[],false⟩/\Keep (fun k=>G k\/k=gt) W wr) (fun i _=>t.rg.length-(intOf i).toNat)
 case atStart=>exact⟨0,Nat.zero_le _,rfl,hP1,Keep.refl _ _⟩
 case round =>
  clear hP1;obtain⟨k,hk,rfl,hP,hkk⟩:=hrel
  have hT:=HTW.out.kept hkk HSG.out
  by_cases hkn:k<t.rg.length
  . obtain⟨b9,o9,ea,hb9,d0,d1,d2⟩:=hT.tz.at (Below.refl _ _) k hkn
    have htf:=tf_fd (HTF.out k hkn)
    have HSJ:Hid (_):=zvb hkn bs
    have HLJ:Hid ((bs++tesE (t.rg.take k)).length<=100030):=by show _<=_;rw[List.length_append];have:=zj0 t.rg k;omega
    obtain⟨te,hte⟩:∃x,t.rg.getD k Te.none=x:=⟨_,rfl⟩
    rw[hte]at d0 d1 d2 htf HSJ;obtain⟨tst,tpk,ten⟩:=te;dsimp only at d0 d1 d2 htf HSJ
    obtain⟨b2,hb2⟩:∃b2,bs++tesE (t.rg.take k)=b2:=⟨_,rfl⟩
    rw[hb2]at hP HSJ HLJ;subst ea
    have i1:(0:Int)<=(k:Int):=by omega
    have i2:(k:Int)<(t.rg.length:Int):=by omega
    obtain⟨V,hV,XQ1,hb0⟩:∃V,V=wr.alloc (.cells #[.int .i64 tst,.int .i64 tpk,.int .i64 ten] 146)/\Bk 146 V wr.heap.size [.int .i64 tst,.int .i64 tpk,.int .i64 ten]/\Below wr.heap.size wr V:=⟨_,rfl,Bk.new _ _ _,bl1 _⟩
    have hPG:=hP.1
    have hP1:Pc V B (fun k=>(G k\/k=gt)\/k=wr.heap.size) ⟨b2,[],false⟩:=by rw[hV];exact hP.moreA _
    have kk1:Keep (fun k=>(G k\/k=gt)\/k=wr.heap.size) V V:=Keep.refl _ _
    have kkb:Keep (fun k=>G k\/k=gt) wr V:=Keep.of_below hb0 hPG
    obtain⟨q0,q1,q2,_⟩:=XQ1.three;clear hte hb2 hT hP
    go_upto_region 4 with fail
    rw[<-hV];clear hV d0 d1 d2 hb0
    generalize wr.heap.size=gq at *
    go_wp2_with fail
    refine(zao B _ _ tst _ hP1 ⟨by omega,by omega⟩ (by have:=HLJ.out;simp[be2];omega)).mono ?_
    rintro e v2 ⟨rfl,hP2,hK2⟩
    rw[zbx (by omega) (by omega)]at hP2
    have kk2:=kk1.trans hK2
    have XQ2:=XQ1.kept hK2 (.inr rfl)
    clear hP1 hK2 XQ1 q0 q1 q2 kk1;obtain⟨q0,q1,q2,_⟩:=XQ2.three
    go_wp2_with fail
    refine(zao B _ _ tpk _ hP2 ⟨by omega,by omega⟩ (by have:=HLJ.out;simp[be2];omega)).mono ?_
    rintro e v3 ⟨rfl,hP3,hK3⟩
    rw[zbx (by omega) (by omega)]at hP3
    have kk3:=kk2.trans hK3
    have XQ3:=XQ2.kept hK3 (.inr rfl)
    clear hP2 hK3 XQ2 q0 q1 q2 kk2;obtain⟨q0,q1,q2,_⟩:=XQ3.three
    go_wp2_with fail
    refine(zao B _ _ ten _ hP3 ⟨by omega,by omega⟩ (by have:=HLJ.out;simp[be2];omega)).mono ?_
    rintro e v4 ⟨rfl,hP4,hK4⟩
    rw[zbx (by omega) (by omega)]at hP4
    have kk4:=kk3.trans hK4
    have XQ4:=XQ3.kept hK4 (.inr rfl)
    clear hP3 hK4 XQ3 q0 q1 q2 kk3;obtain⟨q0,q1,q2,_⟩:=XQ4.three;rw[<-HSJ.out]at hP4
    have hP6:Pc v4 B (fun k=>G k\/k=gt) ⟨bs++tesE (t.rg.take (k+1)),[],false⟩:=hP4.guard (fun k hk=>⟨hP4.1 k (.inl hk),.inl hk⟩)
    have kk6:Keep (fun k=>G k\/k=gt) W v4:=(hkk.trans kkb).trans (kk4.mono (fun k hk=>.inl hk))
    clear hP4 XQ4 q0 q1 q2 kk4 HSJ;go_wp2
    go_roundw
    case rel=>exact⟨k+1,by omega,by go_num,hP6,kk6⟩
    case measure=>simp[intOf];omega
  . obtain rfl:k=t.rg.length:=by omega
    have g4:¬(t.rg.length:Int)<(t.rg.length:Int):=by omega
    rw[List.take_length]at hP
    have hl1:(bs++tesE t.rg).length<=100024:=by rw[List.length_append,zcr];omega
    obtain⟨b2,hb2⟩:∃b2,bs++tesE t.rg=b2:=⟨_,rfl⟩
    have HB2:Hid (bs++tesE t.rg=b2):=hb2
    rw[hb2]at hP hl1
    have hXr:=HXW.out.kept hkk (.inr rfl)
    obtain⟨q0,q1,q2,q3,q4,_⟩:=hXr.five
    have hlp:=HLP.out
    have hq1:=zu7 B _ b2 pa pc t.pts wr hP hT.pts (by omega) HPT.out.1 (by omega)
    clear hb2 hP
    go_wp2_with fail
    refine hq1.mono ?_
    rintro e v1 ⟨rfl,hP1,hk1⟩
    replace hT:=hT.kept hk1 HSG.out
    replace hkk:=hkk.trans hk1
    replace hXr:=hXr.kept hk1 (.inr rfl)
    clear q0 q1 q2 q3 q4 hq1 hk1;obtain⟨q0,q1,q2,q3,q4,_⟩:=hXr.five
    have hq1:=zm2 B _ (b2++ppB t.pts) xa xc t.dx v1 hP1 hT.dx (by have:=(zdk.1 HPT.out.2.1).2;omega) HPT.out.2.1 (by rw[List.length_append];omega)
    go_wp2_with fail
    refine hq1.mono ?_
    rintro e v2 ⟨rfl,hP2,hk1⟩
    replace hT:=hT.kept hk1 HSG.out
    replace hkk:=hkk.trans hk1
    replace hXr:=hXr.kept hk1 (.inr rfl)
    clear q0 q1 q2 q3 q4 hq1 hk1 hP1;obtain⟨q0,q1,q2,q3,q4,_⟩:=hXr.five
    have hq1:=zm2 B _ (b2++ppB t.pts++pcB t.dx) ya yc t.dy v2 hP2 hT.dy (by have:=(zdk.1 HPT.out.2.2).2;omega) HPT.out.2.2 (by rw[List.length_append,List.length_append];omega)
    go_wp2_with fail
    refine hq1.mono ?_
    rintro e v3 ⟨rfl,hP3,hk1⟩
    replace hkk:=hkk.trans hk1
    have HP3:Hid (Pc v3 B G ⟨bs++TE,[],false⟩):=by
     have:=hP3.guard (G':=G) (fun k hk=>⟨hP3.1 k (.inl hk),.inl hk⟩)
     show Pc _ _ _ _
     rw[HEE.out,<-List.append_assoc,HB2.out,<-List.append_assoc,<-List.append_assoc]
     exact this
    have HKF:Hid (Keep G w v3):=HK0.out.trans (hkk.mono (fun k hk=>.inl hk))
    clear hP3 hk1 hq1 hkk hP2 q0 q1 q2 q3 q4;go_wp2
    go_ret
    exact⟨rfl,HP3.out,HKF.out⟩
theorem zu9{l:List Tu}{k:Nat}(hk:k<l.length)(P:LN):P++tusE (l.take (k+1))=P++tusE (l.take k)++tuE (l.getD k Tu.none):=by
 rw[zaj (d:=Tu.none) hk,zcq,zm4,List.append_assoc]
theorem zm1{o:Ol}{l:List Tu}{ax:Int}(h:foT o l ax=false):wrTB o l ax=[]/\wrTE o l ax=1:=by unfold wrTB wrTE;rw[h];exact⟨rfl,rfl⟩
theorem zex{o:Ol}{l:List Tu}{ax:Int}(h:foT o l ax=true):wrTB o l ax=tuBt l/\wrTE o l ax=0:=by unfold wrTB wrTE;rw[h];exact⟨rfl,rfl⟩
theorem zga(S:Nat->Prop)(a:OA)(ca:Nat)(b:OA)(cb:Nat)(o:Ol)(S2:Nat->Prop)(la:OA)(lc:Nat)(l:List Tu)(ax:Int)(w:World)(hc:Gr PnE.row S w a ca o.cs)(hp:Gr PaE S w b cb o.ps)(hl:Gr TuE S2 w la lc l)(hi:I64 ax) :
 Calls Tryz.prog 78 #[.agg #[.slice a o.cs.length ca,.slice b o.ps.length cb],.slice la l.length lc,.int .i64 ax] w fun e w'=>∃a' c',e=.returned (.tuple #[.slice a' (wrTB o l ax).length c',.int .i64 (wrTE o l ax)])/\Rw 5 w.heap.size w' a' c' (wrTB o l ax)/\Below w.heap.size w w':=by
 have kl:=hl.lenB
 obtain⟨W,hW,X1,hbW⟩:∃W,W=w.alloc (.cells #[.slice a o.cs.length ca,.slice b o.ps.length cb] 57)/\Bk 57 W w.heap.size [.slice a o.cs.length ca,.slice b o.ps.length cb]/\Below w.heap.size w W:=⟨_,rfl,Bk.new _ _ _,bl1 _⟩
 replace hc:=hc.below hbW;replace hp:=hp.below hbW;replace hl:=hl.below hbW;obtain⟨p0,p1,_⟩:=X1.two
 have hf1:=zdt S a ca b cb o S2 la lc l ax W hc hp hl hi
 cases hfo:foT o l ax with
 | false =>
  rw[hfo]at hf1
  rw[(zm1 hfo).1,(zm1 hfo).2]
  clear hfo
  go_enter Tryz.func78,Tryz.ntmps78
  go_upto_region 1 with fail
  rw[<-hW];clear hW
  go_wp2_with fail
  refine hf1.mono ?_
  rintro e m2 ⟨rfl,hb1⟩
  have zau:=hbW.trans (hb1.mono hbW.size)
  clear hb1 hf1;go_wp2
  go_ret2
  exact⟨none,0,rfl,Rw.nil _ _,zau⟩
 | true =>
 rw[hfo]at hf1
 rw[(zex hfo).1,(zex hfo).2]
 obtain⟨hF1,hF2,hF3,hF4⟩:=zbc.1 hfo
 have HTB:Hid (∀k,k<l.length->tuB (l.getD k Tu.none) (cntO o) ax=true):=hF4
 have HCN:Hid (cntO o<=86):=zfl hF1
 have HLE:Hid ((tuBt l).length<=33000):=zge hfo
 have HTE:Hid (tuBt l=be2 ((l.length:Nat):Int)++tusE l):=rfl
 have HTK:Hid (∀k,(tusE (l.take k)).length<=33000):=fun k=>by
  have h1:=zge hfo
  have h2:tusE l=tusE (l.take k)++tusE (l.drop k):=by rw[<-zcq,List.take_append_drop]
  unfold tuBt at h1
  rw[List.length_append,h2,List.length_append]at h1
  omega
 clear hF1 hF4 hfo
 go_enter Tryz.func78,Tryz.ntmps78
 go_upto_region 1 with fail
 rw[<-hW];clear hW
 go_wp2_with fail
 refine hf1.mono ?_
 rintro e u ⟨rfl,hb1⟩
 have HL:Hid (Gr TuE (fun k=>k<u.heap.size) u la lc l):=(hl.below hb1).wide (fun k _ h=>h)
 have HBW:Hid (Below w.heap.size w u):=hbW.trans (hb1.mono hbW.size)
 have hP0:=ziv u (· < u.heap.size) (fun _ h=>h)
 have hB0:=bl1 (w:=u) (.cells #[.slice none 0 0,.int .i64 0,.map none,.bool false] 90)
 clear hc hp hl hf1 hb1 X1 hbW p0 p1
 go_wp2_with fail
 refine(zao u.heap.size _ _ (l.length:Int) _ hP0 ⟨by omega,by omega⟩ (by decide)).mono ?_
 rintro e u1 ⟨rfl,hP1,hK1⟩
 rw[show St.zero=⟨[],[],false⟩from rfl,zbx (by omega) (by omega),List.nil_append]at hP1
 have hB1:Below u.heap.size u u1:=hB0.trans (hK1.below (fun k hk=>hk))
 obtain⟨Q,hQ⟩:∃Q,be2 ((l.length:Nat):Int)=Q:=⟨_,rfl⟩
 have HQL:Hid (Q.length=2):=by show _=_;rw[<-hQ];rfl
 rw[hQ]at hP1 HTE
 have hI:Pc u1 u.heap.size (· < u.heap.size) ⟨Q++tusE (l.take 0),[],false⟩:=by
  rw[List.take_zero,tusE,List.append_nil]
  exact hP1
 obtain⟨B,hBB⟩:∃g,u.heap.size=g:=⟨_,rfl⟩
 have HBB:Hid (u.heap.size=B):=hBB
 rw[hBB]at hI hB1 HL ⊢;clear hP0 hK1 hB0 hP1 hQ hBB;go_wp2
 go_loopw [25] (fun i wr=>∃k:Nat,k<=l.length/\i=.int .i64 k/\Pc wr B (· < B) ⟨Q++tusE (l.take k),[],false⟩/\Below B u wr) (fun i _=>l.length-(intOf i).toNat)
 case atStart=>exact⟨0,Nat.zero_le _,rfl,hI,hB1⟩
 case round =>
  clear hI hB1;obtain⟨k,hk,rfl,hP,hB⟩:=hrel
  by_cases hkn:k<l.length
  . obtain⟨b0,off,ra,rc,pa,pc,xa,xc,ya,yc,ea,hb,ht,d0,d1,d2,d3,d4⟩:=HL.out.tu (by rw[HBB.out];exact hB) k hkn
    have hfk:=HTB.out k hkn
    have HSJ:Hid (_):=zu9 hkn Q
    have HLJ:Hid ((Q++tusE (l.take k)).length<=33002):=by show _<=_;rw[List.length_append,HQL.out];have:=HTK.out k;omega
    obtain⟨t,htt⟩:∃t,l.getD k Tu.none=t:=⟨_,rfl⟩
    rw[htt]at ht d0 d1 d2 d3 d4 hfk HSJ
    obtain⟨b2,hb2⟩:∃b2,Q++tusE (l.take k)=b2:=⟨_,rfl⟩
    rw[hb2]at hP HSJ HLJ;subst ea
    have i1:(0:Int)<=(k:Int):=by omega
    have i2:(k:Int)<(l.length:Int):=by omega
    obtain⟨V,hV,X0,hb0⟩:∃V,V=wr.alloc (.cells #[.slice ra t.rg.length rc,.bool t.al,.slice pa t.pts.length pc,.slice xa t.dx.length xc,.slice ya t.dy.length yc] 144)/\Bk 144 V wr.heap.size [.slice ra t.rg.length rc,.bool t.al,.slice pa t.pts.length pc,.slice xa t.dx.length xc,.slice ya t.dy.length yc]/\Below wr.heap.size wr V:=⟨_,rfl,Bk.new _ _ _,bl1 _⟩
    have hPV:=hP.below hb0
    have hBV:Below B u V:=hB.trans (hb0.mono (by have:=hB.size;rw[HBB.out]at this;exact this))
    have hput:=zu6 B (· < B) b2 _ ra rc pa pc xa xc ya yc t _ ax V hPV (ht.below hb0) (fun k hk=>hk) hfk HCN.out (by omega) (by have:=HLJ.out;omega)
    rw[<-HSJ.out]at hput;obtain⟨q0,q1,q2,q3,q4,_⟩:=X0.five;clear htt hb2 hP hPV ht
    go_upto_region 8 with fail
    rw[<-hV];clear hV d0 d1 d2 d3 d4 hb0
    go_wp2_with fail
    refine hput.mono ?_
    rintro e v4 ⟨rfl,hP4,hk4⟩
    have hB4:Below B u v4:=hBV.trans (hk4.below (fun k hk=>hk))
    clear hput q0 q1 q2 q3 q4 hk4 X0 HSJ hB hBV;go_wp2
    go_roundw
    case rel=>exact⟨k+1,by omega,by go_num,hP4,hB4⟩
    case measure=>simp[intOf];omega
  . obtain rfl:k=l.length:=by omega
    have g4:¬(l.length:Int)<(l.length:Int):=by omega
    rw[List.take_length,<-HTE.out]at hP
    have hall:=zfd B _ _ _ hP (Nat.le_trans HLE.out (by decide))
    have ea:allB ⟨tuBt l,[],false⟩=tuBt l:=by simp[allB]
    have eb:allE ⟨tuBt l,[],false⟩=0:=rfl
    rw[ea,eb]at hall
    have hbw:=HBW.out.size
    rw[HBB.out]at hbw
    have hBw:Below w.heap.size w wr:=HBW.out.trans (hB.mono hbw)
    clear hP ea eb
    go_wp2_with fail
    refine hall.mono ?_
    rintro e u9 ⟨a9,c9,rfl,hr9,hb9⟩
    have z3q:Hid (w.heap.size<=_):=hBw.size
    have hB9:=hBw.trans (hb9.mono hBw.size)
    clear hall;go_wp2
    go_ret2
    exact⟨a9,c9,rfl,hr9.mono z3q.out,hB9⟩
theorem zo1(S:Nat->Prop)(a:OA)(ca:Nat)(b:OA)(cb:Nat)(o:Ol)(S2:Nat->Prop)(la:OA)(lc:Nat)(l:List Tu)(ax:Int)(w:World)(hc:Gr PnE.row S w a ca o.cs)(hp:Gr PaE S w b cb o.ps)(hl:Gr TuE S2 w la lc l)(hi:I64 ax) :
 Calls Tryz.prog 78 #[.agg #[.slice a o.cs.length ca,.slice b o.ps.length cb],.slice la l.length lc,.int .i64 ax] w fun e w'=>∃a' c',e=.returned (.tuple #[.slice a' (wrTB o l ax).length c',.int .i64 (wrTE o l ax)])/\Rb w' a' c' (wrTB o l ax)/\Below w.heap.size w w' :=
 (zga S a ca b cb o S2 la lc l ax w hc hp hl hi).mono (fun e w' ⟨a',c',h1,h2,h3⟩=>⟨a',c',h1,h2.rd,h3⟩)
theorem Rw.lo15{e:TypeId}{base:Nat}{w:World}{a:OA}{cap:Nat}{xs:LN}(h:Rw e base w a cap xs):∀b o,a=some ⟨b,o,none⟩->base<=b:=by
 intro b o ea
 rcases h.2.2 with h2|⟨g,c,cur,e2,hg,_⟩
 . rw[ea]at h2
   cases h2.1
 . rw[ea]at e2
   cases e2
   exact hg
theorem Rw.lt15{e:TypeId}{base:Nat}{w:World}{a:OA}{cap:Nat}{xs:LN}(h:Rw e base w a cap xs):∀b o,a=some ⟨b,o,none⟩->b<w.heap.size:=by
 intro b o ea
 subst ea
 exact(h.2.lt b rfl).2
theorem zhv(B:Nat)(G:Nat->Prop)(bs:LN)(a:OA)(c:Nat)(xs:LN)(w:World)(h:Pc w B G ⟨bs,[],false⟩)(hr:Rb w a c xs)(hg:∀b o,a=some ⟨b,o,none⟩->G b)(hl:bs.length+4+xs.length<=1048000) :
 Calls Tryz.prog 79 #[pg B,.slice a xs.length c] w fun e w'=>e=.returned (.tuple #[])/\Pc w' B G ⟨bs++(be4 ((xs.length:Nat):Int)++xs),[],false⟩/\Keep G w w':=by
 have h1:=zr8 B G ⟨bs,[],false⟩ ((xs.length:Nat):Int) w h ⟨by omega,by omega⟩ (by show bs.length+4<=_;omega)
 rw[z4c (by omega) (by omega)]at h1
 clear h
 go_enter Tryz.func79,Tryz.ntmps79
 go_wp2_with fail
 refine h1.mono ?_
 rintro e v1 ⟨rfl,hP1,hK1⟩
 have h2:=zde B G _ a c xs v1 hP1 (hr.kept hK1 hg) (by simp[be4];omega)
 have e2:(St.mk (bs++be4 ((xs.length:Nat):Int)) [] false).app xs=⟨bs++(be4 ((xs.length:Nat):Int)++xs),[],false⟩:=by simp[St.app]
 rw[e2]at h2;clear h1 hP1 e2
 go_wp2_with fail
 refine h2.mono ?_
 rintro e v2 ⟨rfl,hP2,hK2⟩
 have hK:=hK1.trans hK2
 clear h2 hK1 hK2;go_wp2
 go_end0
 exact⟨rfl,hP2,hK⟩
theorem ztc(B:Nat)(G:Nat->Prop)(bs:LN)(S:Nat->Prop)(xa:OA)(xc:Nat)(qa:OA)(qc:Nat)(ta:OA)(tc:Nat)(x:Gl)(ax:Int)(w:World)(h:Pc w B G ⟨bs,[],false⟩)(hx:GlC S w xa xc qa qc ta tc x)(hi:I64 ax)(hf:foT x.o x.ts ax=true)(hab:-32768<=x.ab/\x.ab<=65535)(har:-32768<=x.ar/\x.ar<=65535)(hl:bs.length+(glB x).length<=1048000) :
 Calls Tryz.prog 42 #[pg B,.agg #[.slice xa x.o.cs.length xc,.slice qa x.o.ps.length qc,.slice ta x.ts.length tc,.int .i64 x.ab,.int .i64 x.ar,.bool x.mr],.int .i64 ax] w fun e w'=>e=.returned (.int .i64 (wrOE x.o))/\(wrOE x.o=0->Pc w' B G ⟨bs++glB x,[],false⟩)/\Keep G w w':=by
 have k1:=hx.cs.lenB
 have k2:=hx.ps.lenB
 have k3:=hx.ts.lenB
 rw[zi7]at hl
 have hlo:=(zjl x.o).2
 have hlt:=zge hf
 have HGB:Hid (glB x=be4 (((wrOB x.o).length:Nat):Int)++(wrOB x.o++(be4 (((tuBt x.ts).length:Nat):Int)++(tuBt x.ts++(be2 x.ab++(be2 x.ar++be1 (if x.mr then 1 else 0))))))):=rfl
 have HGL:Hid (∀k,G k->k<w.heap.size):=h.1
 obtain⟨W,hW,X1,hbW⟩:∃W,W=w.alloc (.cells #[.slice xa x.o.cs.length xc,.slice qa x.o.ps.length qc,.slice ta x.ts.length tc,.int .i64 x.ab,.int .i64 x.ar,.bool x.mr] 62)/\Bk 62 W w.heap.size [.slice xa x.o.cs.length xc,.slice qa x.o.ps.length qc,.slice ta x.ts.length tc,.int .i64 x.ab,.int .i64 x.ar,.bool x.mr]/\Below w.heap.size w W:=⟨_,rfl,Bk.new _ _ _,bl1 _⟩
 have hc1:=zfj S xa xc qa qc x.o W (hx.below hbW).cs (hx.below hbW).ps
 have hc2:=fun U (hU:Below W.heap.size W U)=>zga S xa xc qa qc x.o S ta tc x.ts ax U ((hx.below hbW).below hU).cs ((hx.below hbW).below hU).ps ((hx.below hbW).below hU).ts hi
 rw[(zex hf).1,(zex hf).2]at hc2
 obtain⟨p0,p1,p2,p3,p4,p5,-⟩:=X1.six;clear hx
 go_enter Tryz.func42,Tryz.ntmps42
 go_upto_region 1 with fail
 rw[<-hW];clear hW
 go_wp2_with fail
 refine hc1.mono ?_
 rintro e u1 ⟨a1,c1,rfl,hr1,hb1⟩
 have hs1:=hbW.size
 clear hc1 p0 p1 p2 p3 p4 p5;replace X1:=X1.below hb1;obtain⟨p0,p1,p2,p3,p4,p5,-⟩:=X1.six
 by_cases he:wrOE x.o=0
 rotate_left
 . have g1:(wrOE x.o != 0)=true:=bne_iff_ne.2 he
   have hbF:Below w.heap.size w u1:=hbW.trans (hb1.mono hbW.size)
   have HK:Hid (Keep G w u1):=Keep.of_below hbF HGL.out
   have HNE:Hid (wrOE x.o≠0):=he
   clear hc2 he h HGB;go_wp2
   go_ret
   exact⟨rfl,fun e=>absurd e HNE.out,HK.out⟩
 rw[he]
 go_wp2_with fail
 refine(hc2 u1 hb1).mono ?_
 rintro e u2 ⟨a2,c2,rfl,hr2,hb2⟩;clear hc2 p0 p1 p2 p3 p4 p5;replace X1:=X1.below hb2
 have hbF:Below w.heap.size w u2:=(hbW.trans (hb1.mono hbW.size)).trans (hb2.mono (Nat.le_trans hbW.size hb1.size))
 obtain⟨G',hP,hG1,hG2⟩:=h.wide' hbF
 have hu1:=hb1.size
 have hXl:=X1.lt
 have z11:=hr1.lo15
 have zl0:=hr2.lo15
 have hlt1:=hr1.lt15
 have zfz:=hr2.lt15
 have hq1:∀b o,a1=some ⟨b,o,none⟩->G' b:=fun b o e=>hG2 b (by have:=z11 b o e;omega) (by have:=hlt1 b o e;have:=hb2.size;omega)
 have hq2:∀b o,a2=some ⟨b,o,none⟩->G' b:=fun b o e=>hG2 b (by have:=zl0 b o e;omega) (zfz b o e)
 have hqX:G' w.heap.size:=hG2 _ (Nat.le_refl _) hXl
 have hd1:=hr1.rd.below hb2
 have hd2:=hr2.rd
 have HE0:Hid (wrOE x.o=0):=he
 have HKF:Hid (Keep G w u2):=Keep.of_below hbF HGL.out
 have HG1:Hid (∀k,G k->G' k):=hG1
 have HXK:Hid (Bk 62 u2 w.heap.size _):=X1
 have hc1:=zhv B G' bs a1 c1 (wrOB x.o) u2 hP hd1 hq1 (by omega)
 clear h hP hG1 hG2 hr1 hr2 z11 zl0 hlt1 zfz hb1 hb2 hbW hbF he;obtain⟨p0,p1,p2,p3,p4,p5,-⟩:=X1.six
 go_wp2_with fail
 refine hc1.mono ?_
 rintro e u3 ⟨rfl,hP3,hK3⟩;clear hc1 p0 p1 p2 p3 p4 p5
 replace X1:=X1.kept hK3 hqX
 replace hd2:=hd2.kept hK3 hq2
 have hc1:=zhv B G' _ a2 c2 (tuBt x.ts) u3 hP3 hd2 hq2 (by simp[be4];omega)
 obtain⟨p0,p1,p2,p3,p4,p5,-⟩:=X1.six
 go_wp2_with fail
 refine hc1.mono ?_
 rintro e u4 ⟨rfl,hP4,hK4⟩;clear hc1 p0 p1 p2 p3 p4 p5 hP3
 replace X1:=X1.kept hK4 hqX
 have hc1:=zao B G' _ x.ab u4 hP4 ⟨by omega,by omega⟩ (by simp[be4];omega)
 rw[zbx (by omega) (by omega)]at hc1
 obtain⟨p0,p1,p2,p3,p4,p5,-⟩:=X1.six
 go_wp2_with fail
 refine hc1.mono ?_
 rintro e u5 ⟨rfl,hP5,hK5⟩;clear hc1 p0 p1 p2 p3 p4 p5 hP4
 replace X1:=X1.kept hK5 hqX
 have hc1:=zao B G' _ x.ar u5 hP5 ⟨by omega,by omega⟩ (by simp[be4,be2];omega)
 rw[zbx (by omega) (by omega)]at hc1
 obtain⟨p0,p1,p2,p3,p4,p5,-⟩:=X1.six
 go_wp2_with fail
 refine hc1.mono ?_
 rintro e u6 ⟨rfl,hP6,hK6⟩;clear hc1 p0 p1 p2 p3 p4 p5 hP5
 replace X1:=X1.kept hK6 hqX
 obtain⟨p0,p1,p2,p3,p4,p5,-⟩:=X1.six
 have HKK:Hid (Keep G w u6):=HKF.out.trans ((((hK3.trans hK4).trans hK5).trans hK6).mono HG1.out)
 have hc1:=zar B G' _ (if x.mr then 1 else 0) u6 hP6 (by split <;> exact⟨by omega,by omega⟩) (by simp[be4,be2];omega)
 rw[put8A (by split <;> omega) (by split <;> omega)]at hc1
 clear hP6 hK3 hK4 hK5 hK6
 cases hmr:x.mr
 all_goals
  rw[hmr]at hc1 p5
  simp only[Bool.false_eq_true,if_false,if_true]at hc1
  go_wp2_with fail
  refine hc1.mono ?_
  rintro e u7 ⟨rfl,hP7,hK7⟩
  have HK7:Hid (Keep G w u7):=HKK.out.trans (hK7.mono HG1.out)
  have HP7:Hid (Pc u7 B G ⟨bs++glB x,[],false⟩):=by
   have h9:=hP7.guard (G':=G) (fun k hk=>⟨hP7.1 k (HG1.out k hk),HG1.out k hk⟩)
   show Pc _ _ _ _
   rw[HGB.out,hmr]
   simpa [List.append_assoc] using h9
  clear hc1 hP7 hK7 p0 p1 p2 p3 p4 p5;go_wp2
  go_ret
  exact⟨by rw[HE0.out];rfl,fun _=>HP7.out,HK7.out⟩
