import Derived.Test.YtkmcodofnckdmaaGreatZK18
import Derived.Laws.OwnMore
set_option maxHeartbeats 4000000
set_option maxRecDepth 100000
set_option linter.unusedSimpArgs false
set_option linter.unusedVariables false
namespace Go.Proofs.YtkmcodofnckdmaaGreat
open Tryz
def rdR(sh sm:Nat)(fs:LN)(s:LN)(a:Int)(k:Nat):LN:=(rdD sh sm (fs.take k) s a).2
theorem zgg(sh sm:Nat)(fs s:LN)(a:Int):rdR sh sm fs s a 0=s:=rfl
theorem zlz(sh sm:Nat)(fs s:LN)(a:Int):rdR sh sm fs s a fs.length=(rdD sh sm fs s a).2:=by unfold rdR;rw[List.take_length]
theorem zhp(sh sm:Nat):∀(fs s:LN) (a:Int) (k:Nat),k<fs.length->(rdD sh sm fs s a).1.getD k 0=(if k=0 then a else (rdD sh sm fs s a).1.getD (k-1) 0)+(dfR (fs.getD k 0) sh sm (rdR sh sm fs s a k)).1/\rdR sh sm fs s a (k+1)=(dfR (fs.getD k 0) sh sm (rdR sh sm fs s a k)).2:=by
 intro fs
 induction fs with
 | nil=>intro s a k hk;simp at hk
 | cons f t ih =>
  intro s a k hk;cases k with
  | zero=>exact⟨rfl,rfl⟩
  | succ k =>
   obtain⟨h1,h2⟩:=ih (dfR f sh sm s).2 (a+(dfR f sh sm s).1) k (by simpa using hk);have e:∀j,rdR sh sm (f::t) s a (j+1)=rdR sh sm t (dfR f sh sm s).2 (a+(dfR f sh sm s).1) j:=fun j=>rfl;refine⟨?_,by rw[e,e,List.getD_cons_succ];exact h2⟩;rw[e,List.getD_cons_succ,rdD,List.getD_cons_succ,h1];cases k with
   | zero=>rfl
   | succ k=>simp
theorem zi1(f sh sm:Nat){s:LN}(hs:Byt s):-32768<=(dfR f sh sm s).1/\(dfR f sh sm s).1<=32767:=by
 have h1:hd1 s<256:=by
  unfold hd1;cases s with
  | nil=>decide
  | cons x t=>exact hs x (by simp)
 have h2:hd2 s<65536:=by
  match s,hs with
  | [],_=>decide
  | [x],_=>exact(by decide:(0:Nat)<65536)
  | x::y::t,hs =>
   have:=hs x (by simp);have:=hs y (by simp);show 256*x+y<65536;omega
 unfold dfR sx16;split
 . split <;> dsimp only <;> omega
 . split
   . dsimp only;omega
   . dsimp only;split <;> omega
theorem zv4(f sh sm:Nat)(s:LN):∃j,j<=2/\(dfR f sh sm s).2=s.drop j:=by
 unfold dfR;split
 . split
   . exact⟨1,by omega,rfl⟩
   . exact⟨1,by omega,rfl⟩
 . split
   . exact⟨0,by omega,rfl⟩
   . exact⟨2,by omega,rfl⟩
theorem zly{sh sm:Nat}{fs s:LN}{a:Int}(hs:Byt s):∀k,k<=fs.length->Byt (rdR sh sm fs s a k):=by
 intro k
 induction k with
 | zero=>intro _;exact hs
 | succ k ih =>
  intro hk;rw[(zhp sh sm fs s a k (by omega)).2];obtain⟨j,_,e⟩:=zv4 (fs.getD k 0) sh sm (rdR sh sm fs s a k);rw[e];exact(ih (by omega)).drop j
theorem znt{sh sm:Nat}{fs s:LN}(hs:Byt s):∀k,k<fs.length->-32768*((k:Int)+1)<=(rdD sh sm fs s 0).1.getD k 0/\(rdD sh sm fs s 0).1.getD k 0<=32767*((k:Int)+1):=by
 intro k
 induction k with
 | zero =>
  intro hk;have h1:=(zhp sh sm fs s 0 0 hk).1;have h2:=zi1 (fs.getD 0 0) sh sm (zly (sh:=sh) (sm:=sm) (fs:=fs) (a:=0) hs 0 (qD _));rw[if_pos rfl]at h1;rw[h1];omega
 | succ k ih =>
  intro hk;have h0:=ih (by omega);have h1:=(zhp sh sm fs s 0 (k+1) hk).1;have h2:=zi1 (fs.getD (k+1) 0) sh sm (zly (sh:=sh) (sm:=sm) (fs:=fs) (a:=0) hs (k+1) (by omega));rw[if_neg (by omega),Nat.add_sub_cancel]at h1;rw[h1];omega
theorem zyu:∀(f n:Nat) (s acc:LN),n<=acc.length+f->n<=(rdG f n s acc).1.length:=by
 intro f
 induction f with
 | zero=>intro n s acc h;exact h
 | succ f ih =>
  intro n s acc h;rw[rdG];split
  . split
    . exact ih _ _ _ (by rw[qA,List.length_replicate];omega)
    . exact ih _ _ _ (by rw[qA,List.length_singleton];omega)
  . dsimp only;omega
theorem zyv:∀(f n:Nat) (s acc:LN),Byt s->Byt acc->Byt (rdG f n s acc).1:=by
 intro f
 induction f with
 | zero=>intro n s acc _ h;exact h
 | succ f ih =>
  intro n s acc hs h;have h1:hd1 s<256:=by
   unfold hd1;cases s with
   | nil=>decide
   | cons x t=>exact hs x (by simp)
  rw[rdG];split
  . split
    . exact ih _ _ _ (hs.drop 2) (h.append (fun x hx=>by rw[List.eq_of_mem_replicate hx];exact h1))
    . exact ih _ _ _ (hs.drop 1) (h.append (fun x hx=>by rw[List.mem_singleton.1 hx];exact h1))
  . exact h
def cutK:LN->Nat->List Pn->List (List Pn)
 | [],_,_=>[]
 | e::t,p,l=>(l.drop p).take (min (e+1) l.length-p)::cutK t (max p (min (e+1) l.length)) l
def numK(L:Nat):LN->Nat->Nat->Nat
 | _,p,0=>p
 | [],p,_+1=>p
 | e::t,p,k+1=>numK L t (max p (min (e+1) L)) k
theorem zv5:∀(es:LN) (p:Nat) (l:List Pn),(cutK es p l).length=es.length:=by
 intro es
 induction es with
 | nil=>intro p l;rfl
 | cons e t ih=>intro p l;rw[cutK,List.length_cons,List.length_cons,ih]
theorem z0l:∀(es:LN) (p:Nat) (l:List Pn) (k:Nat),k<es.length->(cutK es p l).getD k []=(l.drop (numK l.length es p k)).take (min (es.getD k 0+1) l.length-numK l.length es p k)/\numK l.length es p (k+1)=max (numK l.length es p k) (min (es.getD k 0+1) l.length):=by
 intro es
 induction es with
 | nil=>intro p l k hk;simp at hk
 | cons e t ih =>
  intro p l k hk;cases k with
  | zero =>
   refine⟨rfl,?_⟩;rw[numK];cases t <;> rfl
  | succ k =>
   obtain⟨h1,h2⟩:=ih (max p (min (e+1) l.length)) l k (by simpa using hk);exact⟨h1,h2⟩
theorem zy5{L:Nat}:∀(es:LN) (p k:Nat),p<=L->numK L es p k<=L:=by
 intro es
 induction es with
 | nil=>intro p k h;cases k <;> exact h
 | cons e t ih =>
  intro p k h;cases k with
  | zero=>exact h
  | succ k=>exact ih _ k (by omega)
theorem zti:∀(es:LN) (p:Nat) (l:List Pn) (cs:List (List Pn)),cutC es p l=some cs->cutK es p l=cs:=by
 intro es
 induction es with
 | nil=>intro p l cs h;injection h
 | cons e t ih =>
  intro p l cs h;rw[cutC]at h;split at h
  . cases h
  . rename_i hn
    cases hc:cutC t (e+1) l with
    | none=>rw[hc]at h;cases h
    | some r =>
     rw[hc]at h;injection h with h
     rw[cutK,<-h,show min (e+1) l.length=e+1 by omega,show max p (e+1)=e+1 by omega,ih _ _ _ hc]
def cntK(m:Nat)(es:LN):Nat:=if m=0 then 0 else min (es.getD (m-1) 0+1) 80
def fgK(n:Nat)(s:LN):LN×LN:=rdG n n s []
def fsK(n:Nat)(s:LN):LN:=(fgK n s).1.take n
def xsK(n:Nat)(s:LN):LI×LN:=rdD 2 16 (fsK n s) (fgK n s).2 0
def ysK(n:Nat)(s:LN):LI×LN:=rdD 4 32 (fsK n s) (xsK n s).2 0
def ptK(n:Nat)(s:LN):List Pn:=mkP (xsK n s).1 (ysK n s).1 (fsK n s)
theorem zmb(n:Nat)(s:LN):(fsK n s).length=n:=by
 unfold fsK fgK;rw[qL];have:=zyu n n s [] (by simp);omega
theorem zl2(n:Nat)(s:LN):(ptK n s).length=n:=by
 unfold ptK;rw[zl5 _ _ _ (by unfold xsK;rw[zdm]) (by unfold ysK;rw[zdm]),zmb]
def conK(m:Nat)(s:LN):List (List Pn):=cutK (rdE m s).1 0 (ptK (cntK m (rdE m s).1) (rdE m s).2)
def candK(b:LN):Ol:=if sx16 (hd2 b)=-1 then ⟨[],psR ((b.drop 2).drop 2) (min (hd2 (b.drop 2)) 6)⟩else ⟨conK (min (sx16 (hd2 b)) 10).toNat (b.drop 2),[]⟩
theorem z1h{n:Nat}{s:LN}(h:ptsW n (rdE n s).1<=80):ptK (cntK n (rdE n s).1) (rdE n s).2=lsW n s:=by
 have e:cntK n (rdE n s).1=ptsW n (rdE n s).1:=by
  unfold cntK;unfold ptsW at h ⊢;split
  . rfl
  . rename_i h0
    rw[if_neg h0]at h;omega
 have e1:fgK (ptsW n (rdE n s).1) (rdE n s).2=flW n s:=by unfold fgK flW;rw[if_pos h]
 rw[e];unfold ptK lsW ysK ysW xsK xsW fsK fsW;rw[e1]
theorem zp2{o:Ol}(h:wrOE o=0):candK (wrOB o)=o:=by
 obtain⟨⟨f1,f2,f3,f4,f5,f6,f7⟩,hdi⟩:=zi4 h;by_cases h0:o.ps.length=0
 . rw[zlm h h0]
   have hd:=zj2.1 (hdi h0);obtain⟨cs,ps⟩:=o;have hps:ps=[]:=List.length_eq_zero_iff.1 h0;subst hps;dsimp only at *;unfold coB;have v0:V8 (be2 (cs.length:Int))=cs.length:=(by rw[zeb (by omega) (by omega),Int.toNat_natCast]);have hsx:sx16 cs.length=(cs.length:Int):=(by unfold sx16;rw[if_neg (by omega)]);unfold candK;rw[zc6,zd6,v0,hsx,if_neg (by omega),show(min (cs.length:Int) 10).toNat=cs.length by omega];obtain⟨hpt,hC⟩:=ztk f4 f5 hd [] (s:=(endF 0 cs).flatMap be2++(rl (flL cs.flatten)++((difs 0 0 cs.flatten).flatMap (fun t=>axB t.1)++(difs 0 0 cs.flatten).flatMap (fun t=>axB t.2.1)))) (by rw[List.append_nil]);unfold conK;rw[z1h (by rw[hpt];exact f5),zti _ _ _ _ hC]
 . rw[zll h h0]
   obtain⟨cs,ps⟩:=o;have hcs:cs=[]:=List.length_eq_zero_iff.1 (by rcases f1 with f1 | f1;exact f1;exact absurd f1 h0);subst hcs;dsimp only at *;have v0:V8 (be2 (ps.length:Int))=ps.length:=(by rw[zeb (by omega) (by omega),Int.toNat_natCast]);have hb:=znw ps f7 [];rw[List.append_nil]at hb;unfold paB candK;have e1:hd2 ([255,255]++(be2 (ps.length:Int)++ps.flatMap paE))=65535:=rfl;have e2:([255,255]++(be2 (ps.length:Int)++ps.flatMap paE)).drop 2=be2 (ps.length:Int)++ps.flatMap paE:=rfl;rw[e1,e2,if_pos (by decide),zc6,zd6,v0,show min ps.length 6=ps.length by omega,hb]
theorem zwf(b:LN):(decide (wrOE (candK b)=0)&&decide (wrOB (candK b)=b))=rdOk b/\(rdOk b=true->candK b=candO b):=by
 have h2:rdOk b=true->candK b=candO b:=fun h=>by
  obtain⟨h1,h2⟩:=zjf.1 h;have:=zp2 h1;rw[h2]at this;exact this
 refine⟨?_,h2⟩;rw[Bool.eq_iff_iff];constructor
 . intro h
   rw[Bool.and_eq_true,qM,qM]at h;exact(z1d h.1 h.2).1
 . intro h
   rw[h2 h];exact h
open Go.RowKit Go.Maps
theorem zps(v:Int)(q:Bool)(n:Nat)(g:Nat)(pa:OA)(pc:Nat)(xs:LN)(p:Nat)(w:World)(h:Sc 200 w g pa pc xs p)(hp:p<=1000000)(hn:n<=2)
    (hF:∀U,Rb U pa pc xs->Calls Tryz.prog 91 #[.slice pa xs.length pc,.int .i64 (p:Int)] U fun e w'=>e=.returned (.tuple #[.int .i64 v,.bool q])/\U=w') :
    Calls Tryz.prog 246 #[pg g,.func (.func 91) #[] #[],.int .i64 (n:Int)] w fun e w'=>e=.returned (.int .i64 v)/\Sc 200 w' g pa pc xs (p+n)/\Kp g w w':=by
 obtain⟨x0,x1,_⟩:=h.bk.two;go_enter func246,ntmps246;go_upto_region 1 with fail
 refine wp_region_held_drew (S:=(fun u=>u.cell? ⟨g,0,none⟩=some (.slice pa xs.length pc)/\u.cell? ⟨g,1,none⟩=some (.int .i64 (p:Int)))) (by kernel_rfl) ?_ (fun hH=>?_)
 . (try dsimp only)
   go_keep
 have hdr:Below w.heap.size w w.drew:=Below.drew1;have hkp:Kp g w w.drew:=(Kp.refl g w).drew;generalize w.drew=ud at hdr hkp hH ⊢;replace h:=h.below hdr;clear hdr x0 x1;refine hT 0 hH ?_;refine hT 1 hH ?_;refine hT 2 hH ?_;refine hT 3 hH ?_;refine hT 4 hH ?_;refine hT 5 hH ?_;refine hT 6 hH ?_;refine hT 7 hH ?_;refine hT 8 hH ?_;refine hCall (i:=9) rfl (by kernel_rfl) (by rfl) (fun K hK=>?_);go_simp;refine(hF _ h.rb).mono ?_;rintro e u1 ⟨rfl,rfl⟩;go_wp2_with fail
 refine hK.out _ _ ?_ (fun hH=>?_)
 . (try dsimp only)
   exact hH
 clear hK K;try simp only[Act.put,pZ]
 refine hT 10 hH ?_;refine hT 11 hH ?_;refine hT 13 hH ?_;refine hT 12 hH ?_;refine hT 14 hH ?_;refine wpAnyH_done (by kernel_rfl) ?_ _;clear hH;obtain⟨x0,x1,f0,f1⟩:=h.bk.two;have hs:=h.step (p+n);have hk2:=hkp.setCell 1 (.int .i64 ((p+n:Nat):Int));have hpn:(p:Int)+(n:Int)=((p+n:Nat):Int):=by omega
 have HS:Hid (_):=hs;have HK2:Hid (_):=hk2;clear hs hk2;obtain⟨m,hm⟩:∃m:Nat,p+n=m:=⟨_,rfl⟩;have hml:m<=1000002:=by omega
 rw[hm]at hpn HS HK2;have HM:Hid (p+n=m):=hm;clear hm;go_wp2;go_ret;exact⟨rfl,by rw[HM.out];exact HS.out,HK2.out⟩
theorem zmh(v:Int)(q:Bool)(n:Nat)(g:Nat)(pa:OA)(pc:Nat)(xs:LN)(p:Nat)(w:World)(h:Sc 200 w g pa pc xs p)(hp:p<=1000000)(hn:n<=2)
    (hF:∀U,Rb U pa pc xs->Calls Tryz.prog 47 #[.slice pa xs.length pc,.int .i64 (p:Int)] U fun e w'=>e=.returned (.tuple #[.int .i64 v,.bool q])/\U=w') :
    Calls Tryz.prog 246 #[pg g,.func (.func 47) #[] #[],.int .i64 (n:Int)] w fun e w'=>e=.returned (.int .i64 v)/\Sc 200 w' g pa pc xs (p+n)/\Kp g w w':=by
 obtain⟨x0,x1,_⟩:=h.bk.two;go_enter func246,ntmps246;go_upto_region 1 with fail
 refine wp_region_held_drew (S:=(fun u=>u.cell? ⟨g,0,none⟩=some (.slice pa xs.length pc)/\u.cell? ⟨g,1,none⟩=some (.int .i64 (p:Int)))) (by kernel_rfl) ?_ (fun hH=>?_)
 . (try dsimp only)
   go_keep
 have hdr:Below w.heap.size w w.drew:=Below.drew1;have hkp:Kp g w w.drew:=(Kp.refl g w).drew;generalize w.drew=ud at hdr hkp hH ⊢;replace h:=h.below hdr;clear hdr x0 x1;refine hT 0 hH ?_;refine hT 1 hH ?_;refine hT 2 hH ?_;refine hT 3 hH ?_;refine hT 4 hH ?_;refine hT 5 hH ?_;refine hT 6 hH ?_;refine hT 7 hH ?_;refine hT 8 hH ?_;refine hCall (i:=9) rfl (by kernel_rfl) (by rfl) (fun K hK=>?_);go_simp;refine(hF _ h.rb).mono ?_;rintro e u1 ⟨rfl,rfl⟩;go_wp2_with fail
 refine hK.out _ _ ?_ (fun hH=>?_)
 . (try dsimp only)
   exact hH
 clear hK K;try simp only[Act.put,pZ]
 refine hT 10 hH ?_;refine hT 11 hH ?_;refine hT 13 hH ?_;refine hT 12 hH ?_;refine hT 14 hH ?_;refine wpAnyH_done (by kernel_rfl) ?_ _;clear hH;obtain⟨x0,x1,f0,f1⟩:=h.bk.two;have hs:=h.step (p+n);have hk2:=hkp.setCell 1 (.int .i64 ((p+n:Nat):Int));have hpn:(p:Int)+(n:Int)=((p+n:Nat):Int):=by omega
 have HS:Hid (_):=hs;have HK2:Hid (_):=hk2;clear hs hk2;obtain⟨m,hm⟩:∃m:Nat,p+n=m:=⟨_,rfl⟩;have hml:m<=1000002:=by omega
 rw[hm]at hpn HS HK2;have HM:Hid (p+n=m):=hm;clear hm;go_wp2;go_ret;exact⟨rfl,by rw[HM.out];exact HS.out,HK2.out⟩
theorem zpr(v:Int)(q:Bool)(n:Nat)(g:Nat)(pa:OA)(pc:Nat)(xs:LN)(p:Nat)(w:World)(h:Sc 200 w g pa pc xs p)(hp:p<=1000000)(hn:n<=2)
    (hF:∀U,Rb U pa pc xs->Calls Tryz.prog 90 #[.slice pa xs.length pc,.int .i64 (p:Int)] U fun e w'=>e=.returned (.tuple #[.int .i64 v,.bool q])/\U=w') :
    Calls Tryz.prog 246 #[pg g,.func (.func 90) #[] #[],.int .i64 (n:Int)] w fun e w'=>e=.returned (.int .i64 v)/\Sc 200 w' g pa pc xs (p+n)/\Kp g w w':=by
 obtain⟨x0,x1,_⟩:=h.bk.two;go_enter func246,ntmps246;go_upto_region 1 with fail
 refine wp_region_held_drew (S:=(fun u=>u.cell? ⟨g,0,none⟩=some (.slice pa xs.length pc)/\u.cell? ⟨g,1,none⟩=some (.int .i64 (p:Int)))) (by kernel_rfl) ?_ (fun hH=>?_)
 . (try dsimp only)
   go_keep
 have hdr:Below w.heap.size w w.drew:=Below.drew1;have hkp:Kp g w w.drew:=(Kp.refl g w).drew;generalize w.drew=ud at hdr hkp hH ⊢;replace h:=h.below hdr;clear hdr x0 x1;refine hT 0 hH ?_;refine hT 1 hH ?_;refine hT 2 hH ?_;refine hT 3 hH ?_;refine hT 4 hH ?_;refine hT 5 hH ?_;refine hT 6 hH ?_;refine hT 7 hH ?_;refine hT 8 hH ?_;refine hCall (i:=9) rfl (by kernel_rfl) (by rfl) (fun K hK=>?_);go_simp;refine(hF _ h.rb).mono ?_;rintro e u1 ⟨rfl,rfl⟩;go_wp2_with fail
 refine hK.out _ _ ?_ (fun hH=>?_)
 . (try dsimp only)
   exact hH
 clear hK K;try simp only[Act.put,pZ]
 refine hT 10 hH ?_;refine hT 11 hH ?_;refine hT 13 hH ?_;refine hT 12 hH ?_;refine hT 14 hH ?_;refine wpAnyH_done (by kernel_rfl) ?_ _;clear hH;obtain⟨x0,x1,f0,f1⟩:=h.bk.two;have hs:=h.step (p+n);have hk2:=hkp.setCell 1 (.int .i64 ((p+n:Nat):Int));have hpn:(p:Int)+(n:Int)=((p+n:Nat):Int):=by omega
 have HS:Hid (_):=hs;have HK2:Hid (_):=hk2;clear hs hk2;obtain⟨m,hm⟩:∃m:Nat,p+n=m:=⟨_,rfl⟩;have hml:m<=1000002:=by omega
 rw[hm]at hpn HS HK2;have HM:Hid (p+n=m):=hm;clear hm;go_wp2;go_ret;exact⟨rfl,by rw[HM.out];exact HS.out,HK2.out⟩
theorem zd9(g:Nat)(pa:OA)(pc:Nat)(xs:LN)(p:Nat)(w:World)(h:Sc 200 w g pa pc xs p)(hp:p<=1000000) :
 Calls Tryz.prog 280 #[pg g] w fun e w'=>e=.returned (.int .i64 (hd1 (xs.drop p):Int))/\Sc 200 w' g pa pc xs (p+1)/\Kp g w w':=by
 have ht:=zps (hd1 (xs.drop p):Int) (inB xs.length (p:Int) 1) 1 g pa pc xs p w h hp (by decide) (fun U hU=>by rw[<-zr6];exact zg2 pa pc xs (p:Int) U hU ⟨by omega,by omega⟩);go_enter func280,ntmps280;go_wp2_with fail
 refine ht.mono ?_;rintro e u ⟨rfl,h1,h2⟩;go_wp2;go_ret;exact⟨rfl,h1,h2⟩
theorem zh9(g:Nat)(pa:OA)(pc:Nat)(xs:LN)(p:Nat)(w:World)(h:Sc 200 w g pa pc xs p)(hp:p<=1000000) :
 Calls Tryz.prog 247 #[pg g] w fun e w'=>e=.returned (.int .i64 (hd2 (xs.drop p):Int))/\Sc 200 w' g pa pc xs (p+2)/\Kp g w w':=by
 have ht:=zmh (hd2 (xs.drop p):Int) (inB xs.length (p:Int) 2) 2 g pa pc xs p w h hp (by decide) (fun U hU=>by rw[<-zjq];exact zg3 pa pc xs (p:Int) U hU ⟨by omega,by omega⟩);go_enter func247,ntmps247;go_wp2_with fail
 refine ht.mono ?_;rintro e u ⟨rfl,h1,h2⟩;go_wp2;go_ret;exact⟨rfl,h1,h2⟩
theorem zdu(g:Nat)(pa:OA)(pc:Nat)(xs:LN)(p:Nat)(w:World)(h:Sc 200 w g pa pc xs p)(hp:p<=1000000) :
 Calls Tryz.prog 191 #[pg g] w fun e w'=>e=.returned (.int .i64 (sx16 (hd2 (xs.drop p))))/\Sc 200 w' g pa pc xs (p+2)/\Kp g w w':=by
 have ht:=zpr (sx16 (hd2 (xs.drop p))) (inB xs.length (p:Int) 2) 2 g pa pc xs p w h hp (by decide) (fun U hU=>by rw[<-zjq];exact zhw pa pc xs (p:Int) U hU ⟨by omega,by omega⟩);go_enter func191,ntmps191;go_wp2_with fail
 refine ht.mono ?_;rintro e u ⟨rfl,h1,h2⟩;go_wp2;go_ret;exact⟨rfl,h1,h2⟩
theorem and_x:∀f:Fin 256,bits BinOp.and IntKind.i64 (f.val:Int) 18=(if f.val/2%2=1 then 2 else 0)+(if f.val/16%2=1 then 16 else 0):=by decide +kernel
theorem and_y:∀f:Fin 256,bits BinOp.and IntKind.i64 (f.val:Int) 36=(if f.val/4%2=1 then 4 else 0)+(if f.val/32%2=1 then 32 else 0):=by decide +kernel
theorem and_8:∀f:Fin 256,bits BinOp.and IntKind.i64 (f.val:Int) 8=(if f.val/8%2=1 then 8 else 0):=by decide +kernel
theorem and_1:∀f:Fin 256,bits BinOp.and IntKind.i64 (f.val:Int) 1=(if f.val%2=1 then 1 else 0):=by decide +kernel
theorem z3r{f:Nat}(h:f<256):bits BinOp.and IntKind.i64 (f:Int) 8=(if f/8%2=1 then 8 else 0):=and_8 ⟨f,h⟩
theorem z3s{f:Nat}(h:f<256):bits BinOp.and IntKind.i64 (f:Int) 1=(if f%2=1 then 1 else 0):=and_1 ⟨f,h⟩
theorem or_x2:bits BinOp.or IntKind.i64 2 16=18:=by decide
theorem or_y2:bits BinOp.or IntKind.i64 4 32=36:=by decide
theorem zfy{s:LN}(hs:Byt s):hd1 s<256:=by
 unfold hd1;cases s with
 | nil=>decide
 | cons x t=>exact hs x (by simp)
theorem zdf{s:LN}(hs:Byt s):hd2 s<65536:=by
 match s,hs with
 | [],_=>decide
 | [x],_=>exact(by decide:(0:Nat)<65536)
 | x::y::t,hs =>
  have:=hs x (by simp);have:=hs y (by simp);show 256*x+y<65536;omega
theorem zpv(f:Nat)(g:Nat)(pa:OA)(pc:Nat)(xs:LN)(p:Nat)(w:World)(h:Sc 200 w g pa pc xs p)(hp:p<=900000)(hf:f<256) :
 Calls Tryz.prog 270 #[pg g,.int .i64 (f:Int),.int .i64 2,.int .i64 16] w fun e w'=>∃p',e=.returned (.int .i64 (dfR f 2 16 (xs.drop p)).1)/\Sc 200 w' g pa pc xs p'/\xs.drop p'=(dfR f 2 16 (xs.drop p)).2/\p'<=p+2/\Kp g w w':=by
 have hor:=or_x2;have hand:=and_x ⟨f,hf⟩;have hb:=zfy (h.rb.lim.drop p);dsimp only at hand;by_cases ha:f/2%2=1
 . by_cases hbb:f/16%2=1
   . have HE:Hid (dfR f 2 16 (xs.drop p)=((hd1 (xs.drop p):Int),(xs.drop p).drop 1)):=by show _=_;rw[dfR,if_pos ha,if_pos hbb]
     rw[if_pos ha,if_pos hbb,show((2:Int)+16)=18 from rfl]at hand;have hu:=zd9 g pa pc xs p w h (by omega);clear ha hbb h;go_enter func270,ntmps270;go_wp2_with fail
     refine hu.mono ?_;rintro e u1 ⟨rfl,h1,hk1⟩;clear hu;go_wp2;go_ret;exact⟨p+1,by rw[HE.out];rfl,h1,by rw[HE.out,List.drop_drop],by omega,hk1⟩
   . have HE:Hid (dfR f 2 16 (xs.drop p)=(-(hd1 (xs.drop p):Int),(xs.drop p).drop 1)):=by show _=_;rw[dfR,if_pos ha,if_neg hbb]
     rw[if_pos ha,if_neg hbb,show((2:Int)+0)=2 from rfl]at hand;have hu:=zd9 g pa pc xs p w h (by omega);clear ha hbb h;generalize hd1 (xs.drop p)=z at *;go_enter func270,ntmps270;go_wp2_with fail
     refine hu.mono ?_;rintro e u1 ⟨rfl,h1,hk1⟩;clear hu;go_wp2;go_ret;exact⟨p+1,by rw[HE.out];rfl,h1,by rw[HE.out,List.drop_drop],by omega,hk1⟩
 . by_cases hbb:f/16%2=1
   . have HE:Hid (dfR f 2 16 (xs.drop p)=(0,xs.drop p)):=by show _=_;rw[dfR,if_neg ha,if_pos hbb]
     rw[if_neg ha,if_pos hbb,show((0:Int)+16)=16 from rfl]at hand;clear ha hbb;go_enter func270,ntmps270;go_wp2;go_ret;exact⟨p,by rw[HE.out];rfl,h,by rw[HE.out],by omega,Kp.refl _ _⟩
   . have HE:Hid (dfR f 2 16 (xs.drop p)=(sx16 (hd2 (xs.drop p)),(xs.drop p).drop 2)):=by show _=_;rw[dfR,if_neg ha,if_neg hbb]
     rw[if_neg ha,if_neg hbb,show((0:Int)+0)=0 from rfl]at hand;have hu:=zdu g pa pc xs p w h (by omega);clear ha hbb h;generalize sx16 (hd2 (xs.drop p))=z at *;go_enter func270,ntmps270;go_wp2_with fail
     refine hu.mono ?_;rintro e u1 ⟨rfl,h1,hk1⟩;clear hu;go_wp2;go_ret;exact⟨p+2,by rw[HE.out];rfl,h1,by rw[HE.out,List.drop_drop],by omega,hk1⟩
theorem zpu(f:Nat)(g:Nat)(pa:OA)(pc:Nat)(xs:LN)(p:Nat)(w:World)(h:Sc 200 w g pa pc xs p)(hp:p<=900000)(hf:f<256) :
 Calls Tryz.prog 270 #[pg g,.int .i64 (f:Int),.int .i64 4,.int .i64 32] w fun e w'=>∃p',e=.returned (.int .i64 (dfR f 4 32 (xs.drop p)).1)/\Sc 200 w' g pa pc xs p'/\xs.drop p'=(dfR f 4 32 (xs.drop p)).2/\p'<=p+2/\Kp g w w':=by
 have hor:=or_y2;have hand:=and_y ⟨f,hf⟩;have hb:=zfy (h.rb.lim.drop p);dsimp only at hand;by_cases ha:f/4%2=1
 . by_cases hbb:f/32%2=1
   . have HE:Hid (dfR f 4 32 (xs.drop p)=((hd1 (xs.drop p):Int),(xs.drop p).drop 1)):=by show _=_;rw[dfR,if_pos ha,if_pos hbb]
     rw[if_pos ha,if_pos hbb,show((4:Int)+32)=36 from rfl]at hand;have hu:=zd9 g pa pc xs p w h (by omega);clear ha hbb h;go_enter func270,ntmps270;go_wp2_with fail
     refine hu.mono ?_;rintro e u1 ⟨rfl,h1,hk1⟩;clear hu;go_wp2;go_ret;exact⟨p+1,by rw[HE.out];rfl,h1,by rw[HE.out,List.drop_drop],by omega,hk1⟩
   . have HE:Hid (dfR f 4 32 (xs.drop p)=(-(hd1 (xs.drop p):Int),(xs.drop p).drop 1)):=by show _=_;rw[dfR,if_pos ha,if_neg hbb]
     rw[if_pos ha,if_neg hbb,show((4:Int)+0)=4 from rfl]at hand;have hu:=zd9 g pa pc xs p w h (by omega);clear ha hbb h;generalize hd1 (xs.drop p)=z at *;go_enter func270,ntmps270;go_wp2_with fail
     refine hu.mono ?_;rintro e u1 ⟨rfl,h1,hk1⟩;clear hu;go_wp2;go_ret;exact⟨p+1,by rw[HE.out];rfl,h1,by rw[HE.out,List.drop_drop],by omega,hk1⟩
 . by_cases hbb:f/32%2=1
   . have HE:Hid (dfR f 4 32 (xs.drop p)=(0,xs.drop p)):=by show _=_;rw[dfR,if_neg ha,if_pos hbb]
     rw[if_neg ha,if_pos hbb,show((0:Int)+32)=32 from rfl]at hand;clear ha hbb;go_enter func270,ntmps270;go_wp2;go_ret;exact⟨p,by rw[HE.out];rfl,h,by rw[HE.out],by omega,Kp.refl _ _⟩
   . have HE:Hid (dfR f 4 32 (xs.drop p)=(sx16 (hd2 (xs.drop p)),(xs.drop p).drop 2)):=by show _=_;rw[dfR,if_neg ha,if_neg hbb]
     rw[if_neg ha,if_neg hbb,show((0:Int)+0)=0 from rfl]at hand;have hu:=zdu g pa pc xs p w h (by omega);clear ha hbb h;generalize sx16 (hd2 (xs.drop p))=z at *;go_enter func270,ntmps270;go_wp2_with fail
     refine hu.mono ?_;rintro e u1 ⟨rfl,h1,hk1⟩;clear hu;go_wp2;go_ret;exact⟨p+2,by rw[HE.out];rfl,h1,by rw[HE.out,List.drop_drop],by omega,hk1⟩
def nI(l:LN):LI:=l.map (fun x:Nat=>(x:Int))
theorem zdd(l:LN):(nI l).length=l.length:=qK ..
theorem zk4(l m:LN):nI (l++m)=nI l++nI m:=List.map_append
theorem ze3(l:LN)(k:Nat):(nI l).getD k 0=((l.getD k 0:Nat):Int):=by
 unfold nI;by_cases h:k<l.length
 . simp[List.getD,h]
 . simp[List.getD,Nat.not_lt.1 h]
theorem zy9(l:LN)(k:Nat):nI (l.take k)=(nI l).take k:=by unfold nI;rw[List.map_take]
theorem zs6{n:Nat}{s acc:LN}(h:acc.length<n)(h8:hd1 s/8%2=1){acc':LN}(ha:acc'=acc++List.replicate (hd1 (s.drop 1)+1) (hd1 s)):rdG (n-acc.length) n s acc=rdG (n-acc'.length) n (s.drop 2) acc':=by
 subst ha;obtain⟨f,hf⟩:∃f,n-acc.length=f+1:=⟨n-acc.length-1,by omega⟩;rw[hf,rdG,if_pos h,if_pos h8];exact zji _ _ _ _ _ (by rw[qA,List.length_replicate];omega) (by omega)
theorem zxf{n:Nat}{s acc:LN}(h:acc.length<n)(h8:¬hd1 s/8%2=1){acc':LN}(ha:acc'=acc++List.replicate (0+1) (hd1 s)):rdG (n-acc.length) n s acc=rdG (n-acc'.length) n (s.drop 1) acc':=by
 subst ha;obtain⟨f,hf⟩:∃f,n-acc.length=f+1:=⟨n-acc.length-1,by omega⟩;rw[hf,rdG,if_pos h,if_neg h8];exact zji _ _ _ _ _ (by rw[qA,List.length_singleton];omega) (by show n-(acc++[hd1 s]).length<=n-(acc++[hd1 s]).length;omega)
theorem zja(acc:LN)(j f:Nat):acc++List.replicate (j+1) f=(acc++List.replicate j f)++[f]:=by rw[List.replicate_succ',qI]
theorem zii(n:Nat)(g:Nat)(pa:OA)(pc:Nat)(xs:LN)(p:Nat)(w:World)(h:Sc 200 w g pa pc xs p)(hp:p<=100000)(hn:n<=80)(hpb:∀b o,pa=some ⟨b,o,none⟩->xs≠[]->b<w.heap.size) :
 Calls Tryz.prog 269 #[pg g,.int .i64 (n:Int)] w fun e w'=>∃a' c',e=.returned (.slice a' (nI (fsK n (xs.drop p))).length c')/\Ri w' a' c' (nI (fsK n (xs.drop p)))/\(∀b o,a'=some ⟨b,o,none⟩->w.heap.size<=b/\b<w'.heap.size)/\∃p',Sc 200 w' g pa pc xs p'/\xs.drop p'=(fgK n (xs.drop p)).2/\p'<=p+1000/\Kp g w w':=by
 have HG0:Hid (fgK n (xs.drop p)=rdG (n-([]:LN).length) n (xs.drop p) []):=rfl;have hgl:g<w.heap.size:=h.bk.lt;go_enter func269,ntmps269;go_wp2
 go_loopw [5] (fun v wr=>∃(acc:LN) (q:Nat),v.ownBlock≠some g/\Gi w.heap.size wr v (nI acc)/\acc.length<=n+255/\Sc 200 wr g pa pc xs q/\q<=p+2*acc.length/\fgK n (xs.drop p)=rdG (n-acc.length) n (xs.drop q) acc/\Kp g w wr) (fun v _=>n-slLen v)
 case atStart=>exact⟨[],p,(fun e=>by cases e),Gi.nil _ _,by simp,h,by omega,HG0.out,Kp.refl _ _⟩
 case round =>
  clear h HG0;obtain⟨acc,q,hvg,hG,hal,hS,hq,hfg,hK⟩:=hrel;obtain⟨a5,c5,rfl,hri,hbk⟩:=hG.slice;have HF:Hid (fgK n (xs.drop p)=rdG (n-acc.length) n (xs.drop q) acc):=hfg;have hcp:=hri.2.1;have hcm:=hri.2.2.1;unfold maxLen at hcm;have hnl:=zdd acc;rw[hnl]at hcp ⊢;clear hfg;by_cases hlt:acc.length<n;rotate_left
  . have HFE:Hid (fgK n (xs.drop p)=(acc,xs.drop q)):=by show _=_;rw[HF.out,zc4 (by omega)]
    have HFS:Hid (nI (fsK n (xs.drop p))=(nI acc).take n):=(by show _=_;unfold fsK;rw[HFE.out,zy9]);have HL:Hid (((nI acc).take n).length=n):=(by show _=_;rw[qL,zdd];omega);have HRI:Hid (Ri wr a5 c5 (nI acc)):=hri;have HBK:Hid (∀b o,a5=some ⟨b,o,none⟩->w.heap.size<=b/\b<wr.heap.size):=hbk;have g1:¬(acc.length:Int)<(n:Int):=(by omega);have i1:(0:Int)<=(n:Int):=(by omega);have i2:(n:Int)<=(c5:Int):=(by omega);clear HF hG hri hbk hvg hnl;cases a5 with
    | none =>
     go_wp2;go_ret;exact⟨none,c5,by rw[HFS.out,HL.out];rfl,by rw[HFS.out];exact HRI.out.take n,HBK.out,q,hS,by rw[HFE.out],by omega,hK⟩
    | some ad =>
     obtain⟨b5,o5,s5⟩:=ad;go_wp2;go_ret;exact⟨_,c5,by rw[HFS.out,HL.out];rfl,by rw[HFS.out];exact HRI.out.take n,HBK.out,q,hS,by rw[HFE.out],by omega,hK⟩
  have g1:(acc.length:Int)<(n:Int):=by omega
  have hu:=zd9 g pa pc xs q wr hS (by omega);have hfl:=zfy (hS.rb.lim.drop q);have hml:=zfy (hS.rb.lim.drop (q+1));have hand:=z3r hfl;have hG2:=hG;obtain⟨f,hf⟩:∃f,hd1 (xs.drop q)=f:=⟨_,rfl⟩;have HST:Hid (f/8%2=1->∀m,hd1 (xs.drop (q+1))=m->rdG (n-acc.length) n (xs.drop q) acc=rdG (n-(acc++List.replicate (m+1) f).length) n (xs.drop (q+1+1)) (acc++List.replicate (m+1) f)):=fun h8 m hm=>by
   have:=zs6 (s:=xs.drop q) hlt (by rw[hf];exact h8) (acc':=acc++List.replicate (m+1) f) (by rw[List.drop_drop,hm,hf]);rw[this,List.drop_drop]
  have HSO:Hid (¬f/8%2=1->rdG (n-acc.length) n (xs.drop q) acc=rdG (n-(acc++List.replicate (0+1) f).length) n (xs.drop (q+1)) (acc++List.replicate (0+1) f)):=fun h8=>by
   have:=zxf (s:=xs.drop q) hlt (by rw[hf];exact h8) (acc':=acc++List.replicate (0+1) f) (by rw[hf]);rw[this,List.drop_drop]
  rw[hf]at hu hfl hand;have HVG:Hid ((Value.slice a5 acc.length c5).ownBlock≠some g):=by rw[hnl]at hvg;exact hvg
  clear hf hri hbk hvg;go_wp2_with fail
  refine hu.mono ?_;rintro e u1 ⟨rfl,hS1,hK1⟩;have hG1:=hG.kp hS.bk (by decide) hK1;have HKK:Hid (Kp g w u1):=hK.trans hK1;clear hu hS hK hK1 hG hG2;by_cases h8:f/8%2=1
  . rw[if_pos h8]at hand
    have hu2:=zd9 g pa pc xs (q+1) u1 hS1 (by omega);obtain⟨m,hm⟩:∃m,hd1 (xs.drop (q+1))=m:=⟨_,rfl⟩;rw[hm]at hu2 hml;have z3z:Hid (_):=HST.out h8 m hm;clear hm HSO HST h8;go_wp2_with fail
    refine hu2.mono ?_;rintro e u2 ⟨rfl,hS2,hK2⟩;replace hG1:=hG1.kp hS1.bk (by decide) hK2;have HKK2:Hid (Kp g w u2):=HKK.out.trans hK2;clear hu2 hS1 hK2;have HG1:Hid (Gi w.heap.size u2 (.slice a5 acc.length c5) (nI acc)):=(by rw[hnl]at hG1;exact hG1);have HSS:Hid (Sc 200 u2 g pa pc xs (q+1+1)):=hS2;have HK1:Hid (Kp g w u2):=HKK2.out;clear hG1 hS2 HKK HKK2;go_wp2
    go_loopw [5,21] (fun v i wr=>∃j:Nat,j<=m+1/\i=.int .i64 j/\v.ownBlock≠some g/\Gi w.heap.size wr v (nI (acc++List.replicate j f))/\Sc 200 wr g pa pc xs (q+1+1)/\Kp g w wr) (fun _ i _=>m+1-(intOf i).toNat)
    case atStart=>exact⟨0,qD _,rfl,HVG.out,by rw[List.replicate_zero,List.append_nil];exact HG1.out,HSS.out,HK1.out⟩
    case round =>
     clear HG1 HSS HK1 HVG;obtain⟨j,hj,rfl,hvg,hG,hS,hK⟩:=hrel;obtain⟨a6,c6,rfl,hri,hbk⟩:=hG.slice;have hln:(nI (acc++List.replicate j f)).length=acc.length+j:=(by rw[zdd,qA,List.length_replicate]);by_cases hjm:j<=m
     . have g2:(j:Int)<1+(m:Int):=by omega
       have hll:(nI (acc++List.replicate j f)).length+1<=1000000:=(by omega);have HAP:Hid (nI (acc++List.replicate (j+1) f)=nI (acc++List.replicate j f)++[(f:Int)]):=(by show _=_;rw[zja,zk4];rfl);have bp:=bl1 (w:=wr) (.cells #[.int .i64 (f:Int)] 3);have hGb:=hG.below bp;have hSb:=hS.below bp;have hN:=Bk.new 3 wr [.int .i64 (f:Int)];have n0:=hN.cell 0 (by simp);have zk6:wr.heap.size<(wr.alloc (.cells #[.int .i64 (f:Int)] 3)).heap.size:=hN.lt;have hKb:Kp g w (wr.alloc (.cells #[.int .i64 (f:Int)] 3)):=hK.alloc _;have hbs:=hKb.size;have hfi:I64 (f:Int):=⟨by omega,by omega⟩;clear hN bp hri hbk hln;generalize nI (acc++List.replicate j f)=L at *;go_wp2_with (at_builtin;refine zah rfl _ _ rfl w.heap.size _ L rfl hGb wr.heap.size (f:Int) rfl zk6 n0 hfi hll hbs ?_)
       intro v9 w9 hG9 hgrow hown
       have hS9:=hSb.grown hgrow hvg (fun b o e hne e2=>by
        have:=(hGb.lo e2).1;have:=hpb b o e hne
        omega)
       have hK9:Kp g w w9:=hKb.grown hgrow (fun k hk=>(hGb.lo hk).1);have HV9:Hid (v9.ownBlock≠some g):=by
        rcases hown with ho|ho
        . show _≠_
          rw[ho];exact hvg
        . show _≠_
          rw[ho];intro e;have h1:=Option.some.inj e;have h2:=hS.bk.lt
          (try simp at h1)
          omega
       rw[<-HAP.out]at hG9;clear hgrow hown hGb hSb n0 zk6 hKb hbs hvg hll HAP;go_wp2;go_roundw
       case rel=>exact⟨j+1,by omega,by go_num,HV9.out,hG9,hS9,hK9⟩
       case measure=>simp[intOf];omega
     . obtain rfl:j=m+1:=by omega
       have g2:¬(((m+1:Nat):Nat):Int)<1+(m:Int):=(by omega);have HFF:Hid (fgK n (xs.drop p)=rdG (n-(acc++List.replicate (m+1) f).length) n (xs.drop (q+1+1)) (acc++List.replicate (m+1) f)):=by
        show _=_;rw[HF.out,z3z.out]
       have HLN:Hid ((acc++List.replicate (m+1) f).length=acc.length+(m+1)):=(by show _=_;rw[qA,List.length_replicate]);have zwz:=hln;rw[hln];clear hri hbk hln;go_wp2;go_roundw
       case rel=>exact⟨acc++List.replicate (m+1) f,q+1+1,by rw[zwz]at hvg;exact hvg,by rw[zwz]at hG;exact hG,by rw[HLN.out];omega,hS,by rw[HLN.out];omega,HFF.out,hK⟩
       case measure=>show n-(acc.length+(m+1))<n-acc.length;omega
  . rw[if_neg h8]at hand
    have HSO2:Hid (_):=HSO.out h8;clear HSO HST h8 hml;have HG1:Hid (Gi w.heap.size u1 (.slice a5 acc.length c5) (nI acc)):=(by rw[hnl]at hG1;exact hG1);have HSS:Hid (Sc 200 u1 g pa pc xs (q+1)):=hS1;have HK1:Hid (Kp g w u1):=HKK.out;clear hG1 hS1 HKK;go_wp2
    go_loopw [5,21] (fun v i wr=>∃j:Nat,j<=0+1/\i=.int .i64 j/\v.ownBlock≠some g/\Gi w.heap.size wr v (nI (acc++List.replicate j f))/\Sc 200 wr g pa pc xs (q+1)/\Kp g w wr) (fun _ i _=>0+1-(intOf i).toNat)
    case atStart=>exact⟨0,qD _,rfl,HVG.out,by rw[List.replicate_zero,List.append_nil];exact HG1.out,HSS.out,HK1.out⟩
    case round =>
     clear HG1 HSS HK1 HVG;obtain⟨j,hj,rfl,hvg,hG,hS,hK⟩:=hrel;obtain⟨a6,c6,rfl,hri,hbk⟩:=hG.slice;have hln:(nI (acc++List.replicate j f)).length=acc.length+j:=(by rw[zdd,qA,List.length_replicate]);by_cases hjm:j<=0
     . have g2:(j:Int)<1:=by omega
       have hll:(nI (acc++List.replicate j f)).length+1<=1000000:=(by omega);have HAP:Hid (nI (acc++List.replicate (j+1) f)=nI (acc++List.replicate j f)++[(f:Int)]):=(by show _=_;rw[zja,zk4];rfl);have bp:=bl1 (w:=wr) (.cells #[.int .i64 (f:Int)] 3);have hGb:=hG.below bp;have hSb:=hS.below bp;have hN:=Bk.new 3 wr [.int .i64 (f:Int)];have n0:=hN.cell 0 (by simp);have zk6:wr.heap.size<(wr.alloc (.cells #[.int .i64 (f:Int)] 3)).heap.size:=hN.lt;have hKb:Kp g w (wr.alloc (.cells #[.int .i64 (f:Int)] 3)):=hK.alloc _;have hbs:=hKb.size;have hfi:I64 (f:Int):=⟨by omega,by omega⟩;clear hN bp hri hbk hln;generalize nI (acc++List.replicate j f)=L at *;go_wp2_with (at_builtin;refine zah rfl _ _ rfl w.heap.size _ L rfl hGb wr.heap.size (f:Int) rfl zk6 n0 hfi hll hbs ?_)
       intro v9 w9 hG9 hgrow hown
       have hS9:=hSb.grown hgrow hvg (fun b o e hne e2=>by
        have:=(hGb.lo e2).1;have:=hpb b o e hne
        omega)
       have hK9:Kp g w w9:=hKb.grown hgrow (fun k hk=>(hGb.lo hk).1);have HV9:Hid (v9.ownBlock≠some g):=by
        rcases hown with ho|ho
        . show _≠_
          rw[ho];exact hvg
        . show _≠_
          rw[ho];intro e;have h1:=Option.some.inj e;have h2:=hS.bk.lt
          (try simp at h1)
          omega
       rw[<-HAP.out]at hG9;clear hgrow hown hGb hSb n0 zk6 hKb hbs hvg hll HAP;go_wp2;go_roundw
       case rel=>exact⟨j+1,by omega,by go_num,HV9.out,hG9,hS9,hK9⟩
       case measure=>simp[intOf];omega
     . obtain rfl:j=0+1:=by omega
       have g2:¬(((0+1:Nat):Nat):Int)<1:=(by omega);have HFF:Hid (fgK n (xs.drop p)=rdG (n-(acc++List.replicate (0+1) f).length) n (xs.drop (q+1)) (acc++List.replicate (0+1) f)):=by
        show _=_;rw[HF.out,HSO2.out]
       have HLN:Hid ((acc++List.replicate (0+1) f).length=acc.length+(0+1)):=(by show _=_;rw[qA,List.length_replicate]);have zwz:=hln;rw[hln];clear hri hbk hln;go_wp2;go_roundw
       case rel=>exact⟨acc++List.replicate (0+1) f,q+1,by rw[zwz]at hvg;exact hvg,by rw[zwz]at hG;exact hG,by rw[HLN.out];omega,hS,by rw[HLN.out];omega,HFF.out,hK⟩
       case measure=>show n-(acc.length+(0+1))<n-acc.length;omega
theorem zvw(vs:LV):∀n:Nat,(List.replicate n vs).flatten.length=n*vs.length:=by
 intro n
 induction n with
 | zero=>simp
 | succ n ih=>rw[List.replicate_succ,List.flatten_cons,qA,ih,Nat.add_mul];omega
theorem zr9{z:Array Value}{vs:LV}(hz:z.toList=vs)(hs:0<vs.length)(n:Nat):(madeCells z (n*vs.length)).toList=(List.replicate n vs).flatten:=by
 apply List.ext_getElem?;intro i;subst hz;by_cases hi:i<n*z.toList.length
 . have h5:∀j,j<(List.replicate n z.toList).length->((List.replicate n z.toList).getD j []).length=z.toList.length:=fun j hj=>by
     rw[List.length_replicate]at hj;simp[List.getD,hj]
   have hd:i/z.toList.length<n:=(Nat.div_lt_iff_lt_mul hs).2 hi;have e1:i/z.toList.length*z.toList.length+i%z.toList.length=i:=(by rw[Nat.mul_comm];exact Nat.div_add_mod i _);have h2:=zgq h5 (i:=i/z.toList.length) (j:=i%z.toList.length) (by rw[List.length_replicate];exact hd) (Nat.mod_lt _ hs);rw[e1]at h2;rw[h2];have h3:(List.replicate n z.toList).getD (i/z.toList.length) []=z.toList:=(by rw[qH,List.getElem?_replicate,if_pos hd];rfl);have hm:i%z.size<z.size:=Nat.mod_lt _ hs;have hi':i<n*z.size:=hi;rw[h3];show(madeCells z (n*z.size)).toList[i]?=z.toList[i%z.size]?;have e2:(madeCells z (n*z.size)).toList[i]?=some (z[i%z.size]!):=(by simp[madeCells,hi']);rw[e2,qG hm,getElem!_pos z _ hm];rfl
 . rw[List.getElem?_eq_none (by rw[Array.length_toList,size_madeCells];omega),List.getElem?_eq_none (by rw[zvw];omega)]
theorem Gw.zeros{α:Type}{E:El α}{t:TypeId}{base:Nat}{w:World}{v:Value}{n:Nat}{z:Value}{vs:LV}(h:w.ownsRow base t E.sz v n (madeCells z.cells (n*E.sz)).toList)(hz:z.cells.toList=vs)(hs:0<E.sz)(hr:E.rep (fun k=>False/\v.ownBlock≠some k) w vs E.dfl):Gw E t base (fun _=>False) w v (List.replicate n E.dfl):=by
 have hl:=E.len hr;refine⟨List.replicate n vs,by rw[List.length_replicate,List.length_replicate],?_,fun i hi=>?_⟩
 . rw[List.length_replicate,<-zr9 hz (by omega),hl]
   exact h
 . rw[List.length_replicate]at hi
   have e1:(List.replicate n vs).getD i []=vs:=(by rw[qH,List.getElem?_replicate,if_pos hi];rfl);have e2:(List.replicate n E.dfl).getD i E.dfl=E.dfl:=(by rw[qH,List.getElem?_replicate,if_pos hi];rfl);rw[e1,e2];exact hr
theorem Gw.pnSet{base:Nat}{w:World}{gP n c:Nat}{L:List Pn}(h:Gw PnE 65 base (fun _=>False) w (.slice (some ⟨gP,0,none⟩) n c) L){k:Nat}(hk:k<L.length) :
 (∀x,I64 x->Gw PnE 65 base (fun _=>False) (w.setCell ⟨gP,k*3,none⟩ (.int .i64 x)) (.slice (some ⟨gP,0,none⟩) n c) (L.set k ⟨x,(L.getD k Pn.none).y,(L.getD k Pn.none).on⟩)) /\
    (∀y,I64 y->Gw PnE 65 base (fun _=>False) (w.setCell ⟨gP,k*3+1,none⟩ (.int .i64 y)) (.slice (some ⟨gP,0,none⟩) n c) (L.set k ⟨(L.getD k Pn.none).x,y,(L.getD k Pn.none).on⟩)) /\
    (∀o,Gw PnE 65 base (fun _=>False) (w.setCell ⟨gP,k*3+2,none⟩ (.bool o)) (.slice (some ⟨gP,0,none⟩) n c) (L.set k ⟨(L.getD k Pn.none).x,(L.getD k Pn.none).y,o⟩))/\(∀j,w.frozen? ⟨gP,j,none⟩=false) /\
    w.cell? ⟨gP,k*3,none⟩=some (.int .i64 (L.getD k Pn.none).x)/\w.cell? ⟨gP,k*3+1,none⟩=some (.int .i64 (L.getD k Pn.none).y)/\w.cell? ⟨gP,k*3+2,none⟩=some (.bool (L.getD k Pn.none).on):=by
 have hne:L≠[]:=fun e=>by rw[e]at hk;simp at hk
 obtain⟨g,cap,ev,_,_,_,hfz,z2k,zzf⟩:=h.own hne;have eg:gP=g:=by injection ev with e1 _ _;cases e1;rfl
 subst eg;obtain⟨vs,hr,hc⟩:=z2k k hk;obtain⟨rfl,hw⟩:=za0.1 hr;refine⟨fun x hx=>?_,fun y hy=>?_,fun o=>?_,hfz,hc 0 (by decide),hc 1 (by decide),hc 2 (by decide)⟩
 . exact zzf k 0 (.int .i64 x) _ hk (by decide) (fun S' us hu=>by obtain⟨rfl,h1,h2⟩:=za0.1 hu;exact za0.2 ⟨rfl,hx,h2⟩)
 . exact zzf k 1 (.int .i64 y) _ hk (by decide) (fun S' us hu=>by obtain⟨rfl,h1,h2⟩:=za0.1 hu;exact za0.2 ⟨rfl,h1,hy⟩)
 . exact zzf k 2 (.bool o) _ hk (by decide) (fun S' us hu=>by obtain⟨rfl,h1,h2⟩:=za0.1 hu;exact za0.2 ⟨rfl,h1,h2⟩)
theorem Sc.other{t:TypeId}{w:World}{g b:Nat}{pa:OA}{pc:Nat}{xs:LN}{p:Nat}(h:Sc t w g pa pc xs p)(j:Nat)(z:Value)(h1:g≠b)(h2:∀c o,pa=some ⟨c,o,none⟩->xs≠[]->c≠b):Sc t (w.setCell ⟨b,j,none⟩ z) g pa pc xs p :=
 ⟨h.1.other j z h1,h.2.1.keep' (by simp[World.setCell]) (fun c o _ e hne=>Below.heap_setCell _ _ _ _ (fun e2=>h2 c o e hne e2)),h.2.2⟩
theorem Kp.other{g b:Nat}{a w:World}(h:Kp g a w)(j:Nat)(z:Value)(hb:a.heap.size<=b):Kp g a (w.setCell ⟨b,j,none⟩ z):=Keep.setCell h (p:=⟨b,j,none⟩) (fun e=>by have h1:b<a.heap.size:=e.1;omega) z
theorem zz1{n:Nat}{s:LN}(hs:Byt s):Byt (fsK n s):=(zyv n n s [] hs Byt.nil).take n
theorem zut:∀(f n:Nat) (s acc:LN),∃j,(rdG f n s acc).2=s.drop j:=by
 intro f
 induction f with
 | zero=>intro n s acc;exact⟨0,rfl⟩
 | succ f ih =>
  intro n s acc;rw[rdG];split
  . split
    . obtain⟨j,e⟩:=ih n (s.drop 2) (acc++List.replicate (hd1 (s.drop 1)+1) (hd1 s))
      exact⟨2+j,by rw[e,List.drop_drop]⟩
    . obtain⟨j,e⟩:=ih n (s.drop 1) (acc++[hd1 s])
      exact⟨1+j,by rw[e,List.drop_drop]⟩
  . exact⟨0,rfl⟩
theorem zs7{n:Nat}{s:LN}(hs:Byt s):Byt (fgK n s).2:=by
 obtain⟨j,e⟩:=zut n n s [];unfold fgK;rw[e];exact hs.drop j
theorem zxu{n:Nat}{s:LN}(hs:Byt s):Byt (xsK n s).2:=by
 have:=zly (sh:=2) (sm:=16) (fs:=fsK n s) (a:=0) (zs7 (n:=n) hs) (fsK n s).length (qE _);rw[zlz]at this;exact this
theorem zdr{L:List Pn}{k i:Nat}{q:Pn}(hk:k<L.length):(L.set k q).getD i Pn.none=if i=k then q else L.getD i Pn.none:=by
 by_cases h:i=k
 . subst h;simp[List.getD,hk]
 . rw[if_neg h];simp[List.getD,List.getElem?_set_ne (fun e=>h e.symm)]
def onK(fs:LN)(i:Nat):Bool:=decide (fs.getD i 0%2=1)
def pXk(X:LI)(fs:LN)(k i:Nat):Pn:=if i<k then ⟨X.getD i 0,0,onK fs i⟩else Pn.none
def pYk(X Y:LI)(fs:LN)(k i:Nat):Pn:=⟨X.getD i 0,if i<k then Y.getD i 0 else 0,onK fs i⟩
theorem zyx{L:List Pn}{n:Nat}{s:LN}(hl:L.length=n)(h:∀i,i<n->L.getD i Pn.none=pYk (xsK n s).1 (ysK n s).1 (fsK n s) n i):L=ptK n s:=by
 apply List.ext_getElem (by rw[hl,zl2]);intro i h1 h2;have e:=h i (by omega);have e2:=zr8 (xsK n s).1 (ysK n s).1 (fsK n s) i (by unfold xsK;rw[zdm]) (by unfold ysK;rw[zdm]) (by rw[zmb];omega);rw[qH,qG h1,Option.getD_some]at e;have e3:(ptK n s).getD i Pn.none=(ptK n s)[i]:=by rw[qH,qG h2,Option.getD_some]
 rw[e,<-e3];unfold ptK;rw[e2];unfold pYk onK;rw[if_pos (by omega)]
theorem zj7(n:Nat)(g:Nat)(pa:OA)(pc:Nat)(xs:LN)(p:Nat)(w:World)(h:Sc 200 w g pa pc xs p)(hp:p<=100000)(hn:n<=80)(hpb:∀b o,pa=some ⟨b,o,none⟩->xs≠[]->b<w.heap.size) :
 Calls Tryz.prog 248 #[pg g,.int .i64 (n:Int)] w fun e w'=>∃a' c',e=.returned (.slice a' (ptK n (xs.drop p)).length c')/\Gr PnE (fun _=>False) w' a' c' (ptK n (xs.drop p))/\(∀b o,a'=some ⟨b,o,none⟩->w.heap.size<=b/\b<w'.heap.size)/\Kp g w w':=by
 have hgl:g<w.heap.size:=h.bk.lt;have hby:=h.rb.lim.drop p;have HB1:Hid (Byt (fgK n (xs.drop p)).2):=zs7 hby
 have HB2:Hid (Byt (xsK n (xs.drop p)).2):=zxu hby
 have HBF:Hid (Byt (fsK n (xs.drop p))):=zz1 hby
 have HFL:Hid ((fsK n (xs.drop p)).length=n):=zmb _ _;have HPA:Hid (∀(L:List Pn),L.length=n->(∀i,i<n->L.getD i Pn.none=pYk (xsK n (xs.drop p)).1 (ysK n (xs.drop p)).1 (fsK n (xs.drop p)) n i)->L=ptK n (xs.drop p)):=fun L=>zyx;have HPL:Hid ((ptK n (xs.drop p)).length=n):=zl2 _ _;have HXE:Hid (xsK n (xs.drop p)=rdD 2 16 (fsK n (xs.drop p)) (fgK n (xs.drop p)).2 0):=rfl;have HYE:Hid (ysK n (xs.drop p)=rdD 4 32 (fsK n (xs.drop p)) (xsK n (xs.drop p)).2 0):=rfl;have htf:=zii n g pa pc xs p w h hp hn hpb;clear h hby
 generalize ptK n (xs.drop p)=PT at *;generalize ysK n (xs.drop p)=YY at *;generalize xsK n (xs.drop p)=XX at *;generalize fsK n (xs.drop p)=fs at *;generalize fgK n (xs.drop p)=FG at *;have HNL:Hid ((nI fs).length=n):=by show _=_;rw[zdd];exact HFL.out
 rw[HNL.out]at htf;go_enter func248,ntmps248;go_wp2_with fail
 refine htf.mono ?_;rintro e u1 ⟨a5,c5,rfl,hri,hbk,q,hS,hq,hqp,hK⟩;clear htf;obtain⟨i0,hi0,hz0,hz1,hz2⟩:=info_parts zdo;obtain⟨u2,hmk,hown,hgrow⟩:=run_makeSlice_full u1 u1.heap.size 63 65 i0 _ 3 underlying63 hi0 hz0 hz1 .i64 .i64 n (by omega) (by rw[hz2];omega) (by unfold maxLen;omega) (qE _);have hG0:Gw PnE 65 u1.heap.size (fun _=>False) u2 (.slice (some ⟨u1.heap.size,0,none⟩) n n) (List.replicate n Pn.none):=Gw.zeros hown rfl (by decide) (za0.2 ⟨rfl,⟨by decide,by decide⟩,⟨by decide,by decide⟩⟩);have hB2:Below u1.heap.size u1 u2:=(Below.refl _ _).grown hgrow (qE _) (fun k hk=>by cases hk);have hS2:=hS.below hB2;have HRI:Hid (Ri u1 a5 c5 (nI fs)):=hri;have HBK:Hid (∀b o,a5=some ⟨b,o,none⟩->b<u1.heap.size/\b≠g):=fun b o e=>⟨(hbk b o e).2,by have:=(hbk b o e).1;omega⟩;have HPB:Hid (∀b o,pa=some ⟨b,o,none⟩->xs≠[]->b≠u1.heap.size):=fun b o e hne=>by have:=hpb b o e hne;have:=hK.size;omega
 have HS2:Hid (Sc 200 u2 g pa pc xs q):=hS2;have HK2:Hid (Kp g u1 u2):=Kp.of hB2;have HQ:Hid (xs.drop q=FG.2):=hq;have HG0:Hid (Gw PnE 65 u1.heap.size (fun _=>False) u2 (.slice (some ⟨u1.heap.size,0,none⟩) n n) (List.replicate n Pn.none)):=hG0;have HKW:Hid (Kp g w u1):=hK;have hgP:g<u1.heap.size:=hS.bk.lt;have HSZ:Hid (w.heap.size<=u1.heap.size):=hK.size;clear hi0 hz0 hz1 hz2 hown hgrow hB2 hS2 hS hri hbk hq hG0 hK hpb;go_wp2;clear hmk;obtain⟨gP,hgPe⟩:∃gP,u1.heap.size=gP:=⟨_,rfl⟩;have hgPl:u1.heap.size<=gP:=by omega
 have hgne:g≠gP:=by omega
 rw[hgPe]at HG0 HPB ⊢;have HGP:Hid (w.heap.size<=gP/\gP<u2.heap.size):=⟨by have:=HSZ.out;omega,by have:=(HG0.out.lo (g:=gP) rfl).2;exact this⟩;clear hgPe hgP
 go_loopw [7,20] (fun xv i wr=>∃(k q1:Nat) (x:Int) (L:List Pn),k<=n/\i=.int .i64 k/\xv=.int .i64 x/\x=(if k=0 then 0 else XX.1.getD (k-1) 0)/\L.length=n/\(∀i,i<n->L.getD i Pn.none=pXk XX.1 fs k i)/\Gw PnE 65 gP (fun _=>False) wr (.slice (some ⟨gP,0,none⟩) n n) L/\Sc 200 wr g pa pc xs q1/\q1<=q+2*k/\xs.drop q1=rdR 2 16 fs FG.2 0 k/\Kp g u1 wr) (fun _ i _=>n-(intOf i).toNat)
 case atStart=>exact⟨0,q,0,List.replicate n Pn.none,qD _,rfl,rfl,rfl,List.length_replicate,(fun i hi=>by simp[List.getD,hi,pXk]),HG0.out,HS2.out,by omega,by rw[zgg];exact HQ.out,HK2.out⟩
 case round =>
  clear HG0 HS2 HK2;obtain⟨k,q1,x,L,hk,rfl,rfl,hx,hLl,hL,hG,hS,hq1,hr,hK⟩:=hrel;by_cases hkn:k<n
  . obtain⟨b5,o5,ea,hb5,d0⟩:=(Ri.kept HRI.out hK HBK.out).get k (by rw[HNL.out];exact hkn)
    rw[ze3]at d0;have hfb:fs.getD k 0<256:=HBF.out.getD k;obtain⟨zcn,zf9⟩:=zhp 2 16 fs FG.2 0 k (by rw[HFL.out];exact hkn);have hxl:=znt (sh:=2) (sm:=16) (fs:=fs) HB1.out k (by rw[HFL.out];exact hkn);rw[<-HXE.out]at zcn hxl;rw[<-hr]at zcn zf9;have hst:=zpv (fs.getD k 0) g pa pc xs q1 wr hS (by omega) hfb;have hon:onK fs k=decide (fs.getD k 0%2=1):=rfl;have hdl:=zi1 (fs.getD k 0) 2 16 (hS.rb.lim.drop q1);have hand:=z3s hfb;subst ea;obtain⟨f,hf⟩:∃f,fs.getD k 0=f:=⟨_,rfl⟩;rw[hf]at d0 zcn zf9 hst hon hfb hdl hand;rw[<-hx]at zcn;have zqd:Hid (_):=zf9;obtain⟨dd,hdd⟩:∃d,(dfR f 2 16 (xs.drop q1)).1=d:=⟨_,rfl⟩;rw[hdd]at zcn hst hdl;obtain⟨x2,hx2⟩:∃z,x+dd=z:=⟨_,rfl⟩;rw[hx2]at zcn;have HX2:Hid (XX.1.getD k 0=x2):=zcn;rw[zcn]at hxl;have hx2b:-9223372036854775808<=x2/\x2<=9223372036854775807:=(by omega);have z10:I64 x2:=hx2b;have i1:(0:Int)<=(k:Int):=(by omega);have i2:(k:Int)<(n:Int):=(by omega);have HL:Hid (∀i,i<n->L.getD i Pn.none=pXk XX.1 fs k i):=hL;have HLK:Hid (L.getD k Pn.none=Pn.none):=(by show _=_;rw[hL k hkn];unfold pXk;rw[if_neg (by omega)]);have HON:Hid (onK fs k=decide (f%2=1)):=hon;clear hr zcn zf9 hx hf hdd hL hxl hon;go_wp2_with fail
    refine hst.mono ?_;rintro e v1 ⟨q2,rfl,hS1,hq2,hq2l,hK1⟩;have hG1:=hG.kp hS.bk (by decide) hK1;have hK2:=hK.trans hK1;have HQ2:Hid (xs.drop q2=rdR 2 16 fs FG.2 0 (k+1)):=(by show _=_;rw[hq2,zqd.out]);clear hst hS hK hK1 hG hq2 d0;obtain⟨sx,_,so,fz,c0,c1,c2⟩:=hG1.pnSet (k:=k) (by rw[hLl];exact hkn);have hGa:=sx x2 z10;obtain⟨_,_,so2,fz2,e0,e1,e2⟩:=hGa.pnSet (k:=k) (by rw[List.length_set,hLl];exact hkn);rw[HLK.out]at c0 c1 c2;have hkL:k<L.length:=(by rw[hLl];exact hkn);have hsel:(L.set k ⟨x2,(L.getD k Pn.none).y,(L.getD k Pn.none).on⟩).getD k Pn.none=⟨x2,0,false⟩:=(by rw[zdr hkL,if_pos rfl,HLK.out];rfl);rw[hsel]at e0 e1 e2 so2;dsimp only at so2 e0 e1 e2;have zor:Hid (∀o:Bool,o=decide (f%2=1)->∀i,i<n->((L.set k ⟨x2,(L.getD k Pn.none).y,(L.getD k Pn.none).on⟩).set k ⟨x2,0,o⟩).getD i Pn.none=pXk XX.1 fs (k+1) i):=fun o ho i hi=>by
     rw[zdr (by rw[List.length_set];exact hkL),zdr hkL];by_cases hik:i=k
     . rw[if_pos hik,hik]
       unfold pXk;rw[if_pos (by omega),HX2.out,HON.out,ho]
     . rw[if_neg hik,if_neg hik,HL.out i hi]
       unfold pXk;by_cases h1:i<k
       . rw[if_pos h1,if_pos (by omega)]
       . rw[if_neg h1,if_neg (by omega)]
    have HS2:Hid (∀o:Bool,Sc 200 ((v1.setCell ⟨gP,k*3,none⟩ (.int .i64 x2)).setCell ⟨gP,k*3+2,none⟩ (.bool o)) g pa pc xs q2):=fun o=>(hS1.other _ _ hgne HPB.out).other _ _ hgne HPB.out;have HKK:Hid (∀o:Bool,Kp g u1 ((v1.setCell ⟨gP,k*3,none⟩ (.int .i64 x2)).setCell ⟨gP,k*3+2,none⟩ (.bool o))):=fun o=>(hK2.other _ _ hgPl).other _ _ hgPl;have HGG:Hid (_):=so2;have HLL:Hid (∀o:Bool,((L.set k ⟨x2,(L.getD k Pn.none).y,(L.getD k Pn.none).on⟩).set k ⟨x2,0,o⟩).length=n):=fun o=>by rw[List.length_set,List.length_set,hLl]
    have hfz0:=fz (k*3);have hfz2:=fz2 (k*3+2);have hfz3:=fz (k*3+2);have hXk:x2=(if k+1=0 then 0 else XX.1.getD (k+1-1) 0):=(by rw[if_neg (by omega),Nat.add_sub_cancel,HX2.out]);have HXK:Hid (_):=hXk;clear sx so so2 fz fz2 hGa hG1 hS1 hK2 hsel hXk HL HLK hLl hkL zqd hdl z10;by_cases ho:f%2=1
    . rw[if_pos ho]at hand
      have HO:Hid (true=decide (f%2=1)):=(qC ho).symm;clear ho;go_wp2;go_roundw
      case rel=>exact⟨k+1,q2,x2,_,by omega,by go_num,rfl,HXK.out,HLL.out true,zor.out true HO.out,HGG.out true,HS2.out true,by omega,HQ2.out,HKK.out true⟩
      case measure=>simp[intOf];omega
    . rw[if_neg ho]at hand
      have HO:Hid (false=decide (f%2=1)):=(qB ho).symm;clear ho;go_wp2;go_roundw
      case rel=>exact⟨k+1,q2,x2,_,by omega,by go_num,rfl,HXK.out,HLL.out false,zor.out false HO.out,HGG.out false,HS2.out false,by omega,HQ2.out,HKK.out false⟩
      case measure=>simp[intOf];omega
  . obtain rfl:k=n:=by omega
    have g1:¬(k:Int)<(k:Int):=(by omega);have hr2:xs.drop q1=XX.2:=by
     have:=zlz 2 16 fs FG.2 0;rw[HFL.out,<-HXE.out]at this;rw[hr,this]
    have HR2:Hid (xs.drop q1=XX.2):=hr2;have HL1:Hid (∀i,i<k->L.getD i Pn.none=pYk XX.1 YY.1 fs 0 i):=fun i hi=>by
     rw[hL i hi];unfold pXk pYk;rw[if_pos hi,if_neg (by omega)]
    have HG1:Hid (Gw PnE 65 gP (fun _=>False) wr (.slice (some ⟨gP,0,none⟩) k k) L):=hG;have HS1:Hid (Sc 200 wr g pa pc xs q1):=hS;have HK1:Hid (Kp g u1 wr):=hK;have HLL:Hid (L.length=k):=hLl;clear hx hLl hL hG hS hr hK hr2 hkn hk;go_wp2;obtain⟨n,hnk⟩:∃n,k=n:=⟨_,rfl⟩;subst hnk
    go_loopw [8,45] (fun yv i wr=>∃(j q2:Nat) (y:Int) (M:List Pn),j<=k/\i=.int .i64 j/\yv=.int .i64 y/\y=(if j=0 then 0 else YY.1.getD (j-1) 0)/\M.length=k/\(∀i,i<k->M.getD i Pn.none=pYk XX.1 YY.1 fs j i)/\Gw PnE 65 gP (fun _=>False) wr (.slice (some ⟨gP,0,none⟩) k k) M/\Sc 200 wr g pa pc xs q2/\q2<=q1+2*j/\xs.drop q2=rdR 4 32 fs XX.2 0 j/\Kp g u1 wr) (fun _ i _=>k-(intOf i).toNat)
    case atStart=>exact⟨0,q1,0,L,qD _,rfl,rfl,rfl,HLL.out,HL1.out,HG1.out,HS1.out,by omega,by rw[zgg];exact HR2.out,HK1.out⟩
    case round =>
     clear HG1 HS1 HK1 HLL HL1;obtain⟨j,q2,y,M,hj,rfl,rfl,hy,hMl,hM,hG,hS,hq2,hr,hK⟩:=hrel;by_cases hjn:j<k
     . obtain⟨b5,o5,ea,hb5,d0⟩:=(Ri.kept HRI.out hK HBK.out).get j (by rw[HNL.out];exact hjn)
       rw[ze3]at d0;have hfb:fs.getD j 0<256:=HBF.out.getD j;obtain⟨zcn,zf9⟩:=zhp 4 32 fs XX.2 0 j (by rw[HFL.out];exact hjn);have hyl:=znt (sh:=4) (sm:=32) (fs:=fs) HB2.out j (by rw[HFL.out];exact hjn);rw[<-HYE.out]at zcn hyl;rw[<-hr]at zcn zf9;have hst:=zpu (fs.getD j 0) g pa pc xs q2 wr hS (by omega) hfb;have hdl:=zi1 (fs.getD j 0) 4 32 (hS.rb.lim.drop q2);subst ea;obtain⟨f,hf⟩:∃f,fs.getD j 0=f:=⟨_,rfl⟩;rw[hf]at d0 zcn zf9 hst hfb hdl;rw[<-hy]at zcn;have zqd:Hid (_):=zf9;obtain⟨dd,hdd⟩:∃d,(dfR f 4 32 (xs.drop q2)).1=d:=⟨_,rfl⟩;rw[hdd]at zcn hst hdl;obtain⟨y2,hy2⟩:∃z,y+dd=z:=⟨_,rfl⟩;rw[hy2]at zcn;have HY2:Hid (YY.1.getD j 0=y2):=zcn;rw[zcn]at hyl;have hy2b:-9223372036854775808<=y2/\y2<=9223372036854775807:=(by omega);have z1z:I64 y2:=hy2b;have i1:(0:Int)<=(j:Int):=(by omega);have i2:(j:Int)<(k:Int):=(by omega);have HM:Hid (∀i,i<k->M.getD i Pn.none=pYk XX.1 YY.1 fs j i):=hM;clear hr zcn zf9 hy hf hdd hM hyl;go_wp2_with fail
       refine hst.mono ?_;rintro e v1 ⟨q3,rfl,hS1,hq3,hq3l,hK1⟩;have hG1:=hG.kp hS.bk (by decide) hK1;have hK2:=hK.trans hK1;have HQ3:Hid (xs.drop q3=rdR 4 32 fs XX.2 0 (j+1)):=(by show _=_;rw[hq3,zqd.out]);clear hst hS hK hK1 hG hq3 d0;have hjM:j<M.length:=(by rw[hMl];exact hjn);obtain⟨_,sy,_,fz,c0,c1,c2⟩:=hG1.pnSet (k:=j) hjM;have hGa:=sy y2 z1z;have zor:Hid (∀i,i<k->(M.set j ⟨(M.getD j Pn.none).x,y2,(M.getD j Pn.none).on⟩).getD i Pn.none=pYk XX.1 YY.1 fs (j+1) i):=fun i hi=>by
        rw[zdr hjM];by_cases hij:i=j
        . rw[if_pos hij,hij,HM.out j hjn]
          simp only[pYk,if_pos (show j<j+1 by omega),HY2.out]
        . rw[if_neg hij,HM.out i hi]
          unfold pYk;by_cases h1:i<j
          . rw[if_pos h1,if_pos (by omega)]
          . rw[if_neg h1,if_neg (by omega)]
       have hS3:=hS1.other (j*3+1) (.int .i64 y2) hgne HPB.out;have hK3:=hK2.other (j*3+1) (.int .i64 y2) hgPl;have HLL:Hid ((M.set j ⟨(M.getD j Pn.none).x,y2,(M.getD j Pn.none).on⟩).length=k):=(by show _=_;rw[List.length_set,hMl]);have hfz1:=fz (j*3+1);have hYk:y2=(if j+1=0 then 0 else YY.1.getD (j+1-1) 0):=(by rw[if_neg (by omega),Nat.add_sub_cancel,HY2.out]);have HYK:Hid (_):=hYk;have HGA:Hid (_):=hGa;have HS3:Hid (_):=hS3;have HK3:Hid (_):=hK3;clear sy fz hGa hG1 hS1 hK2 hYk HM hMl hjM zqd hdl z1z hS3 hK3;go_wp2;go_roundw
       case rel=>exact⟨j+1,q3,y2,_,by omega,by go_num,rfl,HYK.out,HLL.out,zor.out,HGA.out,HS3.out,by omega,HQ3.out,HK3.out⟩
       case measure=>simp[intOf];omega
     . obtain rfl:j=k:=by omega
       have g2:¬(j:Int)<(j:Int):=(by omega);have hME:=HPA.out M hMl hM;subst hME;obtain⟨a9,c9,ev,hgr,hb9⟩:=hG.slice;have HGR:Hid (Gr PnE (fun _=>False) wr (some ⟨gP,0,none⟩) j M):=by
        injection ev with e1 e2 e3;subst e1 e3;exact hgr
       have HSL:Hid (∀b o,(some ⟨gP,0,none⟩:OA)=some ⟨b,o,none⟩->w.heap.size<=b/\b<wr.heap.size):=fun b o e=>by
        cases e;exact⟨HGP.out.1,(hG.lo (g:=gP) rfl).2⟩
       have HKF:Hid (Kp g w wr):=HKW.out.trans hK;clear hG hgr hb9 ev hS hr hy hM;go_wp2;go_ret;exact⟨_,j,by first | rfl | rw[HPL.out];rfl,HGR.out,HSL.out,HKF.out⟩
