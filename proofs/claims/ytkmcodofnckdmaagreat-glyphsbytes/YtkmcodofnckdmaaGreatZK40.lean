import Derived.Test.YtkmcodofnckdmaaGreatZK39
set_option maxHeartbeats 2000000
set_option maxRecDepth 100000
set_option linter.unusedSimpArgs false
set_option linter.unusedVariables false
namespace Go.Proofs.YtkmcodofnckdmaaGreat
open Tryz Go.RowKit Go.Maps
theorem zid{base b2:Nat}{w:World}{v u:Value}{l:LI}{ys:LN}(h:Gi base w v l)(hb:Bo b2 w u ys):Apt v u:=by
 intro k h1 h2;obtain⟨cur,hc⟩:=Gw.ty h h1;rcases hb.2.2 with ⟨e0,_⟩|⟨g2,cap2,cur2,m1,m2,m3,_⟩
 . rw[e0]at h2;cases h2
 . rw[m1]at h2
   cases h2;rw[hc]at m3;cases m3
theorem zkc{b1 b2:Nat}{w w':World}{v u:Value}{xs ys:LN}(h:Bo b1 w v xs)(hb:Bo b2 w' u ys)(hs:w.heap.size<=b2):Apt v u:=fun k h1 h2=>by
 have:=(h.lo h1).2;have:=(hb.lo h2).1;omega
def gaX(l:List Pn)(k:Nat):LN:=((difs 0 0 l).take k).flatMap (fun t=>axB t.1)
def gaY(l:List Pn)(k:Nat):LN:=((difs 0 0 l).take k).flatMap (fun t=>axB t.2.1)
theorem z0h{l:List Pn}{k:Nat}(hk:k<l.length):(difs 0 0 l).getD k (0,0,false)=((l.getD k Pn.none).x-(ahP l k).x,(l.getD k Pn.none).y-(ahP l k).y,(l.getD k Pn.none).on):=by
 rw[zgr l 0 0 k hk];unfold ahP;by_cases h0:k=0
 . rw[if_pos h0,if_pos h0,if_pos h0];rfl
 . rw[if_neg h0,if_neg h0,if_neg h0]
theorem zz0{l:List Pn}{k:Nat}{dx dy:Int}{on:Bool}(hk:k<l.length)(h:(difs 0 0 l).getD k (0,0,false)=(dx,dy,on)):gaX l (k+1)=gaX l k++axB dx/\gaY l (k+1)=gaY l k++axB dy/\(flL l).take (k+1)=(flL l).take k++[((axF dx 2 16:Nat):Int)+(if on then 1 else 0)+((axF dy 4 32:Nat):Int)]:=by
 have hd:k<(difs 0 0 l).length:=by rw[za8];exact hk
 unfold gaX gaY flL;rw[<-List.map_take,zak (d:=(0,0,false)) hd,h,List.flatMap_append,List.flatMap_append,List.map_append,List.map_take];refine⟨by simp,by simp,?_⟩;congr 1;show [((flg (dx,dy,on):Nat):Int)]=_;unfold flg;cases on <;> simp <;> omega
theorem zw9(l:List Pn)(k:Nat):(gaX l k).length<=2*l.length/\(gaY l k).length<=2*l.length:=by
 have h1:=flat2 (f:=fun t:Int×Int×Bool=>axB t.1) (fun t=>zdv _) ((difs 0 0 l).take k);have h2:=flat2 (f:=fun t:Int×Int×Bool=>axB t.2.1) (fun t=>zdv _) ((difs 0 0 l).take k);have h3:((difs 0 0 l).take k).length<=l.length:=by rw[qL,za8];omega
 unfold gaX gaY;omega
theorem z3e{l:List Pn}{k:Nat}{dx dy:Int}{on:Bool}(hk:k<l.length)(h:(difs 0 0 l).getD k (0,0,false)=(dx,dy,on))(hf:(fdB dx&&fdB dy)=false):diB l=false:=by
 rw[Bool.eq_false_iff];intro hd;have hk':k<(difs 0 0 l).length:=by rw[za8];exact hk
 have:=zj2.1 hd _ (zbm (d:=(0,0,false)) hk');rw[h]at this;rw[zbc.2 this.1,zbc.2 this.2]at hf;cases hf
theorem z0i{l:List Pn}(h:∀k,k<l.length->(fdB ((difs 0 0 l).getD k (0,0,false)).1&&fdB ((difs 0 0 l).getD k (0,0,false)).2.1)=true):diB l=true:=by
 refine zj2.2 (zfw (d:=(0,0,false)) (fun k hk=>?_));rw[za8]at hk;have:=h k hk;rw[Bool.and_eq_true]at this;exact⟨zbc.1 this.1,zbc.1 this.2⟩
theorem zmu{z:Int}(h1:-9223372036854775808<=z)(h2:z<=9223372036854775807):IntKind.i64.wrap z=z:=by
 unfold IntKind.wrap;simp[IntKind.bits,IntKind.signed];omega
theorem zbp{w:World}{ops:Array Oper}{rest:List Oper}{o:Oper}{a:Act}{Q:Exit->Act->World->Prop}
    (hgd:o.guard=none) (s x:Operand) (ho:o.op=.call { callee:=.builtin .append,args:=#[s,x],argTypes:=#[42,42] })
    (base:Nat) (v:Value) (ys:LN) (hs:a.eval s=v) (hown:Bo base w v ys) (g:Nat) (z:Nat) (hx:a.eval x=.slice (some ⟨g,0,none⟩) 1 1)
    (c0:w.cell? ⟨g,0,none⟩=some (.int .u8 (z:Int))) (hz:z<256) (hlen:ys.length+1<=1000000) (hbase:base<=w.heap.size)
    (h:∀v' w',Bo base w' v' (ys++[z])->w.grownBy w' v.ownBlock->(v'.ownBlock=v.ownBlock\/v'.ownBlock=some w.heap.size)->wpList Tryz.prog ops Q rest (a.put o.dst v') w'):wpList Tryz.prog ops Q (o::rest) a w:=by
 obtain⟨i0,hi,hz0,hz1,hz2⟩:=info_parts zhv;refine zcf hgd s x 42 ho base 5 i0 underlying42 hi hz0 hz1 hz2 v ys.length ys hs hown.2 g z hx c0 (by omega) hbase ?_;intro v' w' k1 k2 k3;exact h v' w' ⟨hown.1.append (fun y hy=>by rw[List.mem_singleton.1 hy];exact hz),by rw[qA];exact k1⟩ k2 k3
def Ld(W wC:World)(vf:Value)(F:LI)(vx:Value)(X:LN)(vy:Value)(Y:LN)(w:World)(v:Value)(ys:LN):Prop :=
 Bo W.heap.size w v ys/\Gi wC.heap.size w vf F/\Bo wC.heap.size w vx X/\Bo wC.heap.size w vy Y/\Apt v vx/\Apt v vy/\Below W.heap.size W w
theorem Ld.below{W wC:World}{vf:Value}{F:LI}{vx:Value}{X:LN}{vy:Value}{Y:LN}{w w':World}{v:Value}{ys:LN}(h:Ld W wC vf F vx X vy Y w v ys)(hb:Below w.heap.size w w'):Ld W wC vf F vx X vy Y w' v ys :=
 ⟨h.1.below hb,h.2.1.below hb,h.2.2.1.below hb,h.2.2.2.1.below hb,h.2.2.2.2.1,h.2.2.2.2.2.1,h.2.2.2.2.2.2.trans (hb.mono h.2.2.2.2.2.2.size)⟩
theorem Ld.app{W wC:World}{vf:Value}{F:LI}{vx:Value}{X:LN}{vy:Value}{Y:LN}{w w':World}{v v':Value}{ys ys':LN}(h:Ld W wC vf F vx X vy Y w v ys)(hg:w.grownBy w' v.ownBlock)(ho:v'.ownBlock=v.ownBlock\/v'.ownBlock=some w.heap.size)(hn:Bo W.heap.size w' v' ys'):Ld W wC vf F vx X vy Y w' v' ys' :=
 ⟨hn,h.2.1.grown hg (zid h.2.1 h.1),h.2.2.1.grownA hg h.2.2.2.2.1,h.2.2.2.1.grownA hg h.2.2.2.2.2.1,h.2.2.2.2.1.of h.2.2.1 ho,h.2.2.2.2.2.1.of h.2.2.2.1 ho,h.2.2.2.2.2.2.grown hg h.2.2.2.2.2.2.size (fun k hk=>(h.1.lo hk).1)⟩
theorem zds{l:LI}{i j:Nat}:(l.drop i).getD j 0=l.getD (i+j) 0:=by simp[List.getD]
theorem zyk{F:LI}{i m:Nat}{ys T:LN}{x:Int}(hi:i<F.length)(hr:rn Int.toNat 256 (F.drop i)=m+1)(hx:F.getD i 0=x)(ht:ys++rl (F.drop i)=T):ys++(if m=0 then [x.toNat]else [x.toNat+8,m])++rl (F.drop (i+(m+1)))=T:=by
 have hne:F.drop i≠[]:=by intro e;have:=congrArg List.length e;rw[qJ]at this;simp at this;omega
 have e0:(F.drop i).getD 0 0=x:=by rw[zds,Nat.add_zero];exact hx
 rw[<-ht,zhj hne,hr,e0,List.drop_drop];by_cases h0:m=0
 . rw[if_pos h0,if_pos (by omega),qI]
 . rw[if_neg h0,if_neg (by omega),qI,Nat.add_sub_cancel]
theorem zlu(S:Nat->Prop)(a:OA)(ca:Nat)(vb:Value)(cs:List (List Pn))(w:World)(h:Gr PnE.row S w a ca cs)(hv:vb.cells=#[vb])(hl:cs.flatten.length<=80)(hn:cs.length<=10)(hne:∀c∈cs,0<c.length)(hpf:∀p∈cs.flatten,PnF p) :
 Calls Tryz.prog 83 #[.agg #[.slice a cs.length ca,vb]] w fun e w'=>∃a' c',e=.returned (.tuple #[.slice a' (if diB cs.flatten then coB cs else []).length c',.bool (diB cs.flatten)])/\Bo w.heap.size w' (.slice a' (if diB cs.flatten then coB cs else []).length c') (if diB cs.flatten then coB cs else [])/\Below w.heap.size w w':=by
 obtain⟨W,hW,X1,hbW⟩:∃W,W=w.alloc (.cells #[.slice a cs.length ca,vb] 57)/\Bk 57 W w.heap.size [.slice a cs.length ca,vb]/\Below w.heap.size w W:=⟨_,rfl,Bk.new _ _ _,bl1 _⟩;have hpt:=fun U h1=>zby S a ca vb cs U h1 (by omega) hv;have hen:=fun U h1=>zo6 S a ca vb cs U h1 (by omega) (by omega) hv;have HEB:Hid (∀x∈endF 0 cs,0<=x/\x<1000):=fun x hx=>by have:=zme cs 0 (by omega) hne x hx;omega
 have HPF:Hid (∀k,k<cs.flatten.length->PnF (cs.flatten.getD k Pn.none)):=fun k hk=>hpf _ (zbm hk);obtain⟨D,hD⟩:∃D,diB cs.flatten=D:=⟨_,rfl⟩;obtain⟨R,hR⟩:∃R,(if diB cs.flatten then coB cs else [])=R:=⟨_,rfl⟩;have HDF:Hid ((diB cs.flatten=false->D=false/\R=[])/\(diB cs.flatten=true->D=true/\R=coB cs)):=⟨fun h=>by rw[<-hD,<-hR,h];exact⟨rfl,rfl⟩,fun h=>by rw[<-hD,<-hR,h];exact⟨rfl,rfl⟩⟩;rw[hR,hD];clear hR hD;have HCO:Hid (coB cs=be2 (cs.length:Int)++(endF 0 cs).flatMap be2++rl (flL cs.flatten)++gaX cs.flatten cs.flatten.length++gaY cs.flatten cs.flatten.length):=by
  show _=_;unfold coB gaX gaY;rw[List.take_of_length_le (by rw[za8];exact qE _)];simp only[qI]
 have hfl:=zs3 cs.flatten;have hfn:=zfk cs.flatten;have hrl:=(zxj _ (flL cs.flatten) rfl hfl).2;rw[hfn]at hrl;have HFL:Hid (∀k,k<(flL cs.flatten).length->0<=(flL cs.flatten).getD k 0/\(flL cs.flatten).getD k 0<64):=fun k hk=>hfl _ (zbm hk);have HFN:Hid ((flL cs.flatten).length=cs.flatten.length):=hfn;have HEN:Hid ((endF 0 cs).length=cs.length):=zck 0 cs;replace h:=h.below hbW;obtain⟨x0,x1,_⟩:=X1.two;clear hpf hne hfl hfn;have hbg:=fun U=>zgu (cs.length:Int) U (by omega) (by omega);have HH:Hid (Gr PnE.row S W a ca cs):=h;have HX:Hid (Bk 57 W w.heap.size [.slice a cs.length ca,vb]):=X1;have HB0:Hid (Below w.heap.size w W):=hbW;clear h X1 hbW;go_enter func83,ntmps83;go_wp2_with fail
 rw[<-hW];clear hW;refine(hbg _).mono ?_;rintro e wA ⟨v1,rfl,hv1,hb1⟩;clear hbg x0 x1;obtain⟨x0,x1,_⟩:=(HX.out.below hb1).two;go_wp2_with fail
 refine(hen _ (HH.out.below hb1)).mono ?_;rintro e wB ⟨a2,c2,rfl,hE,hblE,hb2⟩;have HBW:Hid (Below W.heap.size W wB):=hb1.trans (hb2.mono hb1.size);have HV1:Hid (Bo W.heap.size wB v1 (be2 (cs.length:Int))):=hv1.below hb2;have HO1:Hid (∀k,v1.ownBlock=some k->¬(wA.heap.size<=k/\k<wB.heap.size)):=fun k hk h=>by have:=(hv1.lo hk).2;omega
 have HBE:Hid (∀b o,a2=some ⟨b,o,none⟩->wA.heap.size<=b/\b<wB.heap.size):=hblE;have HE:Hid (Ri wB a2 c2 (endF 0 cs)):=hE;have hEl:(endF 0 cs).length<=10:=by rw[HEN.out];exact hn
 clear hb1 hb2 hen x0 x1 hv1 hblE hE;generalize endF 0 cs=EE at *;have hcl:(be2 (cs.length:Int)).length<=2:=qE _;generalize be2 (cs.length:Int)=BC at *;go_wp2
 go_loopw [4,6] (fun v i wr=>∃k:Nat,k<=EE.length/\i=.int .i64 k/\Bo W.heap.size wr v (BC++(EE.take k).flatMap be2)/\Below W.heap.size W wr/\Keep (fun j=>wA.heap.size<=j/\j<wB.heap.size) wB wr/\(∀k,v.ownBlock=some k->¬(wA.heap.size<=k/\k<wB.heap.size))) (fun _ i _=>EE.length-(intOf i).toNat)
 case atStart=>exact⟨0,qD _,rfl,by rw[List.take_zero,List.flatMap_nil,List.append_nil];exact HV1.out,HBW.out,Keep.refl _ _,HO1.out⟩
 case round =>
  clear HV1 HO1;obtain⟨k,hk,rfl,hT,hB,hK,hO⟩:=hrel;obtain⟨av,cv,rfl,_⟩:=hT.slice;by_cases hkn:k<EE.length
  . obtain⟨b,off,ea,hb,d0⟩:=(HE.out.kept hK (fun b o e=>HBE.out b o e)).at (Below.refl _ _) k hkn
    subst ea;have hz:=HEB.out _ (zbm (d:=0) hkn);have HS:Hid ((EE.take (k+1)).flatMap be2=(EE.take k).flatMap be2++be2 (EE.getD k 0)):=(by show _=_;rw[zak (d:=0) hkn,List.flatMap_append];simp);have hle:=flat2 (f:=be2) (fun x=>qE _) (EE.take k);have hle2:(EE.take k).length<=10:=(by rw[qL];omega);generalize EE.getD k 0=z at *;have hll:(BC++(EE.take k).flatMap be2).length+(be2 z).length<=1000000:=(by rw[qA,show(be2 z).length=2 from rfl];omega);have hbg:=fun U=>zbf z U (by omega) (by omega);have i1:(0:Int)<=(k:Int):=(by omega);have i2:(k:Int)<(EE.length:Int):=(by omega);clear hle hle2;generalize (EE.take k).flatMap be2=ZZ at *;have HS2:Hid (BC++(EE.take (k+1)).flatMap be2=BC++ZZ++be2 z):=(by show _=_;rw[HS.out,qI]);clear HS;generalize BC++ZZ=YY at *;have HK:Hid (Keep (fun j=>wA.heap.size<=j/\j<wB.heap.size) wB wr):=hK;have HO:Hid (∀k,(Value.slice av YY.length cv).ownBlock=some k->¬(wA.heap.size<=k/\k<wB.heap.size)):=hO;clear hK hO;go_wp2_with fail
    refine(hbg _).mono ?_;rintro e w2 ⟨ab,cb,rfl,hrb,hb2⟩;clear hbg d0;have hT5:=hT.below hb2;have hB2:=hB.trans (hb2.mono hB.size);have hbs:=hB2.size;have hK2:=HK.out.trans (Keep.of_below (G:=fun j=>wA.heap.size<=j/\j<wB.heap.size) hb2 (fun j hj=>qN hj.2 HK.out.size));go_wp2_with (at_builtin;refine zae rfl _ _ rfl W.heap.size (.slice av YY.length cv) YY rfl hT5 _ _ _ (be2 z) rfl rfl hrb hll hbs ?_)
    intro v' w9 hT9 hgrow hown;have hB9:Below W.heap.size W w9:=hB2.grown hgrow hbs (fun k hk=>(hT5.lo hk).1);have hK9:=hK2.grown hgrow (fun j hj=>qN hj.2 hK2.size) HO.out;have hO9:∀k,v'.ownBlock=some k->¬(wA.heap.size<=k/\k<wB.heap.size):=fun k hk hj=>by
     rcases hown with e|e
     . exact HO.out k (by rw[<-e];exact hk) hj
     . rw[e]at hk;cases hk;have:=hK2.size;omega
    have HR:Hid (Bo W.heap.size w9 v' (BC++(EE.take (k+1)).flatMap be2)/\Below W.heap.size W w9/\Keep (fun j=>wA.heap.size<=j/\j<wB.heap.size) wB w9/\(∀k,v'.ownBlock=some k->¬(wA.heap.size<=k/\k<wB.heap.size))):=⟨by rw[HS2.out];exact hT9,hB9,hK9,hO9⟩;clear hgrow hown hT9 hT5 hbs hll hrb hB2 hb2 hK2 hO9 hK9 hB9 HK HO HS2 hB hT;go_wp2;go_roundw
    case rel=>exact⟨k+1,by omega,by go_num,HR.out⟩
    case measure=>simp[intOf];omega
  . obtain rfl:k=EE.length:=by omega
    rw[List.take_length]at hT ⊢;have hle:=flat2 (f:=be2) (fun x=>qE _) EE;have hyl:(BC++EE.flatMap be2).length<=22:=(by rw[qA];omega);clear hle hK hO HE HBE;generalize hB0:BC++EE.flatMap be2=B0 at *;have HB0e:Hid (BC++EE.flatMap be2=B0):=hB0;clear hB0;have g1:¬(EE.length:Int)<(EE.length:Int):=(by omega);obtain⟨x0,x1,_⟩:=(HX.out.below hB).two;go_wp2_with fail
    refine(hpt _ (HH.out.below hB)).mono ?_;rintro e wC ⟨a3,c3,rfl,hL,_,hb3⟩;clear hpt x0 x1;have HL:Hid (Gr PnE (fun _=>True) wC a3 c3 cs.flatten):=hL;have HT:Hid (Bo W.heap.size wC (.slice av B0.length cv) B0):=hT.below hb3;have z33:Hid (Below W.heap.size W wC):=hB.trans (hb3.mono hB.size);clear hL hT hB hb3 HB0e HBW;generalize cs.flatten=L at *;go_wp2
    go_loopw [8,9,10,11] (fun vf vx vy i wr=>∃k:Nat,k<=L.length/\i=.int .i64 k/\Gi wC.heap.size wr vf ((flL L).take k)/\Bo wC.heap.size wr vx (gaX L k)/\Bo wC.heap.size wr vy (gaY L k)/\Apt vx vy/\(∀j,j<k->(fdB ((difs 0 0 L).getD j (0,0,false)).1&&fdB ((difs 0 0 L).getD j (0,0,false)).2.1)=true)/\Below wC.heap.size wC wr) (fun _ _ _ i _=>L.length-(intOf i).toNat)
    case atStart=>exact⟨0,qD _,rfl,Gi.nil _ _,Bo.nil _ _,Bo.nil _ _,(fun k h=>by cases h),(fun j hj=>by omega),Below.refl _ _⟩
    case round =>
     obtain⟨k,hk,rfl,hF,hXr,hYr,hap,hok,hB⟩:=hrel;have hlf:((flL L).take k).length<=80:=(by have:=HFN.out;rw[qL];omega);have HGL:Hid (_):=zw9 L k;have hgl:(gaX L k).length<=2*L.length/\(gaY L k).length<=2*L.length:=zw9 L k;obtain⟨FK,hFK⟩:∃l,(flL L).take k=l:=⟨_,rfl⟩;obtain⟨XK,hXK⟩:∃l,gaX L k=l:=⟨_,rfl⟩;obtain⟨YK,hYK⟩:∃l,gaY L k=l:=⟨_,rfl⟩;have HKK:Hid ((flL L).take k=FK/\gaX L k=XK/\gaY L k=YK):=⟨hFK,hXK,hYK⟩;rw[hFK]at hF hlf;rw[hXK]at hXr hgl;rw[hYK]at hYr hgl;clear hFK hXK hYK HGL;obtain⟨af,cf,rfl,_⟩:=hF.slice;obtain⟨ax,cx,rfl,_⟩:=hXr.slice;obtain⟨ay,cy,rfl,_⟩:=hYr.slice;have hbW:Below w.heap.size w wr:=HB0.out.trans ((z33.out.trans (hB.mono z33.out.size)).mono HB0.out.size);by_cases hkn:k<L.length
     . obtain⟨b,off,ea,hb,_,q0,q1,q2⟩:=HL.out.pn hB k hkn
       subst ea;have HDG:Hid (_):=z0h (l:=L) hkn;have hp0:=HPF.out k hkn;have hp1:=ahP_F HPF.out (k:=k) (by omega);obtain⟨dx,hdx⟩:∃z,(L.getD k Pn.none).x-(ahP L k).x=z:=⟨_,rfl⟩;obtain⟨dy,hdy⟩:∃z,(L.getD k Pn.none).y-(ahP L k).y=z:=⟨_,rfl⟩;have HA0:Hid (k=0->(ahP L k).x=0/\(ahP L k).y=0):=fun h=>by rw[h];exact⟨rfl,rfl⟩
       have HA1:Hid (0<k->ahP L k=L.getD (k-1) Pn.none):=fun h=>by unfold ahP;rw[if_neg (by omega)]
       rw[hdx,hdy]at HDG;generalize hpq:L.getD k Pn.none=p at *;have HPQ:Hid (L.getD k Pn.none=p):=hpq;clear hpq;obtain⟨px,py,on⟩:=p;generalize ahP L k=q at *;obtain⟨qx,qy,qon⟩:=q;dsimp only at q0 q1 q2 hdx hdy HDG HA0;have HPA:Hid (px-qx=dx/\py-qy=dy):=⟨hdx,hdy⟩;have pb:(-32768<=px/\px<=32767)/\(-32768<=py/\py<=32767):=hp0;have qb:(-32768<=qx/\qx<=32767)/\(-32768<=qy/\qy<=32767):=hp1;have HST:Hid (gaX L (k+1)=XK++axB dx/\gaY L (k+1)=YK++axB dy/\(flL L).take (k+1)=FK++[((axF dx 2 16:Nat):Int)+(if on then 1 else 0)+((axF dy 4 32:Nat):Int)]):=by
        have:=zz0 (l:=L) hkn HDG.out;rw[HKK.out.1,HKK.out.2.1,HKK.out.2.2]at this;exact this
       clear HKK;have HNO:Hid ((fdB dx&&fdB dy)=false->D=false/\R=[]):=fun h=>HDF.out.1 (z3e hkn HDG.out h);have HOK:Hid ((fdB dx&&fdB dy)=true->∀j,j<k+1->(fdB ((difs 0 0 L).getD j (0,0,false)).1&&fdB ((difs 0 0 L).getD j (0,0,false)).2.1)=true):=fun h j hj=>by
        rcases Nat.lt_or_ge j k with h1|h1
        . exact hok j h1
        . rw[show j=k by omega,HDG.out];exact h
       have HF:Hid (Gi wC.heap.size wr (.slice af FK.length cf) FK):=hF;have HXR:Hid (Bo wC.heap.size wr (.slice ax XK.length cx) XK):=hXr;have HYR:Hid (Bo wC.heap.size wr (.slice ay YK.length cy) YK):=hYr;have HAP:Hid (Apt (.slice ax XK.length cx) (.slice ay YK.length cy)):=hap;have HB:Hid (Below wC.heap.size wC wr):=hB;have i1:(0:Int)<=(k:Int):=(by omega);have i2:(k:Int)<(L.length:Int):=(by omega);clear hok hF hXr hYr hap hdx hdy hp0 hp1 HDG;go_upto_region 13 with fail
       refine wp_region_held_drew (S:=fun w9=>w9.cell? ⟨b,off+k*3,none⟩=some (.int .i64 px)/\w9.cell? ⟨b,off+k*3+1,none⟩=some (.int .i64 py)) (by kernel_rfl) ?_ (fun hH=>?_)
       . (try dsimp only)
         go_keep
       have hdr:Below wr.heap.size wr wr.drew:=Below.drew1;generalize wr.drew=t1 at hdr hH ⊢;refine hT 0 hH ?_;refine hT 1 hH ?_;refine hT 2 hH ?_;refine hT 3 hH ?_;refine hT 4 hH ?_;refine hT 5 hH ?_;refine hT 6 hH ?_;refine hT 7 hH ?_;refine hT 8 hH ?_;refine hT 9 hH ?_;refine hT 10 hH ?_;refine hT 11 hH ?_;refine wpAnyH_done (by kernel_rfl) ?_ _;have hB1:Below wC.heap.size wC t1:=HB.out.trans (hdr.mono HB.out.size);have HDR:Hid (Below wr.heap.size wr t1):=hdr;have HB1:Hid (Below wC.heap.size wC t1):=hB1;have HBT:Hid (Below w.heap.size w t1):=hbW.trans (hdr.mono hbW.size);clear hbW;clear hH hdr q0 q1 q2
       go_upto_if 58 with fail
       go_cut [12,13]from 41 to 111 (fun s12 s13 wx=>s12=.int .i64 dx/\s13=.int .i64 dy/\wx=t1)
       case first =>
        rcases Nat.eq_zero_or_pos k with h0|h0
        . subst h0
          obtain⟨e1,e2⟩:=HA0.out rfl;have hd1:px=dx:=(by have:=HPA.out.1;omega);have hd2:py=dy:=(by have:=HPA.out.2;omega);clear HST HNO HOK HF HXR HYR HAP HA1;subst hd1 hd2;go_wp2_with fail
          go_meet;exact⟨rfl,rfl,rfl⟩
        . obtain⟨b',off',e',_,_,r0,r1,_⟩:=HL.out.pn hB1 (k-1) (by omega)
          cases e';rw[<-HA1.out h0]at r0 r1;dsimp only at r0 r1;have hk1:(0:Int)<(k:Int):=(by omega);have hk2:((k:Int)-1).toNat=k-1:=(by omega);have hk3:(0:Int)<=(k:Int)-1:=(by omega);have hk4:(k:Int)-1<(L.length:Int):=(by omega);have hd1:=HPA.out.1;have hd2:=HPA.out.2;clear HST HNO HOK HF HXR HYR HAP HA1 HA0;subst hd1 hd2;go_wp2_with fail
          go_meet;exact⟨by go_num,by go_num,rfl⟩
       case rest =>
       obtain⟨rfl,rfl,rfl⟩:=hcut;clear HA0 HA1 hB1;go_wp2_with fail
       refine(za6 dx _).mono ?_;rintro e wE ⟨rfl,rfl⟩;cases hf1:fdB dx with
       | false =>
        have HD:Hid (D=false/\R=[]):=HNO.out (by rw[hf1];rfl);clear hf1 HNO HOK HST HF HXR HYR HAP;go_wp2;go_ret2;exact⟨none,0,by rw[HD.out.1,HD.out.2];rfl,by rw[HD.out.2];exact Bo.nil _ _,HBT.out⟩
       | true =>
       go_wp2_with fail
       refine(za6 dy _).mono ?_;rintro e wE ⟨rfl,rfl⟩;cases hf2:fdB dy with
       | false =>
        have HD:Hid (D=false/\R=[]):=HNO.out (by rw[hf1,hf2];rfl);clear hf1 hf2 HNO HOK HST HF HXR HYR HAP;go_wp2;go_ret2;exact⟨none,0,by rw[HD.out.1,HD.out.2];rfl,by rw[HD.out.2];exact Bo.nil _ _,HBT.out⟩
       | true =>
       have zb5:Hid (∀j,j<k+1->(fdB ((difs 0 0 L).getD j (0,0,false)).1&&fdB ((difs 0 0 L).getD j (0,0,false)).2.1)=true):=HOK.out (by rw[hf1,hf2];rfl);have hax:=fun U=>zo9 dx U (zbc.1 hf1);have hay:=fun U=>zo8 dy U (zbc.1 hf2);clear hf1 hf2 HNO HOK HBT;obtain⟨s1,s2,s3⟩:=HST.out;have bf1:=zxn dx 2 16;have bf2:=zxn dy 4 32;generalize axF dx 2 16=f1 at *;generalize axF dy 4 32=f2 at *;have HS1:Hid (gaX L (k+1)=XK++axB dx):=s1;have HS2:Hid (gaY L (k+1)=YK++axB dy):=s2;have HS3:Hid ((flL L).take (k+1)=FK++[(f1:Int)+(if on then 1 else 0)+(f2:Int)]):=s3;have hlx:=zdv dx;have hly:=zdv dy;generalize axB dx=Bx at *;generalize axB dy=By at *;clear s1 s2 s3 HST;go_wp2_with fail
       refine(hax _).mono ?_;rintro e wE ⟨v5,rfl,hv5,hb5⟩;obtain⟨a5,c5,rfl,_⟩:=hv5.slice;go_wp2_with fail
       refine(hay _).mono ?_;rintro e wF ⟨v6,rfl,hv6,hb6⟩;obtain⟨a6,c6,rfl,_⟩:=hv6.slice;clear hax hay;have hB6:Below wC.heap.size wC wF:=(HB1.out.trans (hb5.mono HB1.out.size)).trans (hb6.mono (qF HB1.out.size hb5.size));have hW6:Below wr.heap.size wr wF:=(HDR.out.trans (hb5.mono HDR.out.size)).trans (hb6.mono (qF HDR.out.size hb5.size));have HV5:Hid (Bo wC.heap.size wF (.slice a5 Bx.length c5) Bx):=(hv5.below hb6).mono HB1.out.size;have HV6:Hid (Bo wC.heap.size wF (.slice a6 By.length c6) By):=hv6.mono (qF HB1.out.size hb5.size);have HF6:Hid (Gi wC.heap.size wF (.slice af FK.length cf) FK):=HF.out.below hW6;have HX6:Hid (Bo wC.heap.size wF (.slice ax XK.length cx) XK):=HXR.out.below hW6;have HY6:Hid (Bo wC.heap.size wF (.slice ay YK.length cy) YK):=HYR.out.below hW6;have HP5:Hid (Apt (.slice ax XK.length cx) (.slice a6 By.length c6)):=zkc HXR.out hv6 (qF HDR.out.size hb5.size);have HB6:Hid (Below wC.heap.size wC wF):=hB6;obtain⟨b',off',e',_,_,_,_,r2⟩:=HL.out.pn hB6 k hkn;cases e';rw[HPQ.out]at r2;dsimp only at r2;clear hv5 hv6 hb5 hb6 hW6 HF HXR HYR HDR HB HB1 hB6
       go_upto_if 97 with fail
       go_cut [14]from 41 to 111 (fun s14 wx=>s14=.int .i64 ((f1:Int)+(if on then 1 else 0))/\wx=wF)
       case first =>
        clear zb5 HS1 HS2 HS3 HV5 HV6 HF6 HX6 HY6 HP5;cases on with
        | true =>
         go_wp2_with fail
         go_meet;exact⟨by go_num,rfl⟩
        | false =>
         go_wp2_with fail
         go_meet;exact⟨by simp,rfl⟩
       case rest =>
       obtain⟨rfl,rfl⟩:=hcut;clear r2;obtain⟨f3,hf3⟩:∃f3:Int,(f1:Int)+(if on then 1 else 0)=f3:=⟨_,rfl⟩;have bf3:0<=f3/\f3<=100:=by rw[<-hf3];cases on <;> simp <;> omega
       rw[hf3]at HS3 ⊢;clear hf3;obtain⟨z,hz⟩:∃z:Int,f3+(f2:Int)=z:=⟨_,rfl⟩;have hzi:I64 z:=⟨by omega,by omega⟩;rw[hz]at HS3;obtain⟨V,hV,hN,bp⟩:∃V,V=wc.alloc (.cells #[.int .i64 z] 3)/\Bk 3 V wc.heap.size [.int .i64 z]/\Below wc.heap.size wc V:=⟨_,rfl,Bk.new _ _ _,bl1 _⟩;have n0:=hN.cell 0 (by simp);have zk6:=hN.lt;have hFb:=HF6.out.below bp;have hXb:=HX6.out.below bp;have hYb:=HY6.out.below bp;have h5b:=HV5.out.below bp;have h6b:=HV6.out.below bp;have hBb:Below wC.heap.size wC V:=HB6.out.trans (bp.mono HB6.out.size);have hbs:=hBb.size;have hll:FK.length+1<=1000000:=(by omega);have HFB:Hid (Gi wC.heap.size V (.slice af FK.length cf) FK/\Bo wC.heap.size V (.slice ax XK.length cx) XK/\Bo wC.heap.size V (.slice ay YK.length cy) YK/\Bo wC.heap.size V (.slice a5 Bx.length c5) Bx/\Bo wC.heap.size V (.slice a6 By.length c6) By/\Below wC.heap.size wC V):=⟨hFb,hXb,hYb,h5b,h6b,hBb⟩;clear hN bp hXb hYb h5b h6b hBb HF6 HX6 HY6 HV5 HV6 HB6;go_upto_region 23 with fail
       go_wp2_with (at_builtin;(rw[<-hV]);refine zah rfl _ _ rfl wC.heap.size (.slice af FK.length cf) FK rfl hFb wc.heap.size z rfl zk6 n0 hzi hll hbs ?_)
       intro v9 w9 hF9 zhz _;rw[<-hV]at zhz;clear hV;obtain⟨_,hXb,hYb,h5b,h6b,hBb⟩:=HFB.out;have hX9:=hXb.grownA zhz (zid hFb hXb);have hY9:=hYb.grownA zhz (zid hFb hYb);have h59:=h5b.grownA zhz (zid hFb h5b);have h69:=h6b.grownA zhz (zid hFb h6b);have hB9:Below wC.heap.size wC w9:=hBb.grown zhz hBb.size (fun k hk=>(hFb.lo hk).1);rw[<-HS3.out]at hF9;clear zhz hXb hYb h5b h6b hBb hFb n0 zk6 hbs hll HFB HS3;obtain⟨_,_,e5,hr5⟩:=h59.slice;cases e5;have hll:XK.length+Bx.length<=1000000:=(by omega);have hbs:=hB9.size;have HY9:Hid (Bo wC.heap.size w9 (.slice ay YK.length cy) YK):=hY9;have H69:Hid (Bo wC.heap.size w9 (.slice a6 By.length c6) By):=h69;have HF9:Hid (Gi wC.heap.size w9 v9 ((flL L).take (k+1))):=hF9;clear hY9 h69 hF9 h59;go_wp2_with (at_builtin;refine zae rfl _ _ rfl wC.heap.size (.slice ax XK.length cx) XK rfl hX9 _ _ _ Bx rfl rfl hr5 hll hbs ?_)
       intro vX wX hXX hgX hoX;have hF10:Gi wC.heap.size wX v9 ((flL L).take (k+1)):=HF9.out.grown hgX (zid HF9.out hX9);have hY10:=HY9.out.grownA hgX HAP.out;have h610:=H69.out.grownA hgX HP5.out;have zh0:Below wC.heap.size wC wX:=hB9.grown hgX hB9.size (fun k hk=>(hX9.lo hk).1);have z2q:Apt vX (.slice ay YK.length cy):=HAP.out.of HY9.out hoX;rw[<-HS1.out]at hXX;clear hgX hoX hX9 hr5 hll hbs hB9 HY9 H69 HF9 HS1;obtain⟨_,_,e6,hr6⟩:=h610.slice;cases e6;have hll:YK.length+By.length<=1000000:=(by omega);have hbs:=zh0.size;have HXX:Hid (Bo wC.heap.size wX vX (gaX L (k+1))):=hXX;have HF10:Hid (Gi wC.heap.size wX v9 ((flL L).take (k+1))):=hF10;have HA1:Hid (Apt vX (.slice ay YK.length cy)):=z2q;clear hXX hF10 z2q h610;go_wp2_with (at_builtin;refine zae rfl _ _ rfl wC.heap.size (.slice ay YK.length cy) YK rfl hY10 _ _ _ By rfl rfl hr6 hll hbs ?_)
       intro vY wY hYY hgY hoY;have HR:Hid (Gi wC.heap.size wY v9 ((flL L).take (k+1))/\Bo wC.heap.size wY vX (gaX L (k+1))/\Bo wC.heap.size wY vY (gaY L (k+1))/\Apt vX vY/\Below wC.heap.size wC wY) :=
        ⟨HF10.out.grown hgY (zid HF10.out hY10),HXX.out.grownA hgY HA1.out.symm,by rw[HS2.out];exact hYY,(HA1.out.symm.of HXX.out hoY).symm,zh0.grown hgY zh0.size (fun k hk=>(hY10.lo hk).1)⟩
       clear hgY hoY hYY hY10 hr6 hll hbs zh0 HXX HF10 HA1 HS2 HAP HP5 HPA HPQ;go_wp2;go_roundw
       case rel=>exact⟨k+1,by omega,by go_num,HR.out.1,HR.out.2.1,HR.out.2.2.1,HR.out.2.2.2.1,zb5.out,HR.out.2.2.2.2⟩
       case measure=>simp[intOf];omega
     . obtain rfl:k=L.length:=by omega
       have hd:=z0i hok;have eF:flL L=FK:=(by rw[<-HKK.out.1,List.take_of_length_le (by rw[HFN.out];exact qE _)]);rw[eF]at HCO HFL hrl HFN;rw[HKK.out.2.1,HKK.out.2.2]at HCO;have HRR:Hid (D=true/\R=B0++rl FK++XK++YK):=by
        obtain⟨h1,h2⟩:=HDF.out.2 hd;exact⟨h1,by rw[h2,HCO.out]⟩
       clear eF hd hok HKK HCO HDF HFN;have hT:=HT.out.below hB;have hap0:Apt (.slice av B0.length cv) (.slice ax XK.length cx):=zkc HT.out hXr (qE _);have z2q:Apt (.slice av B0.length cv) (.slice ay YK.length cy):=zkc HT.out hYr (qE _);have hBW:Below W.heap.size W wr:=z33.out.trans (hB.mono z33.out.size);have HST:Hid (Ld W wC (.slice af FK.length cf) FK (.slice ax XK.length cx) XK (.slice ay YK.length cy) YK wr (.slice av B0.length cv) B0):=⟨hT,hF,hXr,hYr,hap0,z2q,hBW⟩;have g1:¬(L.length:Int)<(L.length:Int):=(by omega);have hrl2:(rl FK).length<=160:=(by omega);clear hT hF hXr hYr hap0 z2q hBW hap hB hbW HT z33 HL HPF hrl;go_wp2
       go_loopw [4,18] (fun v i wr=>∃(j:Nat) (ys:LN),j<=FK.length/\i=.int .i64 j/\ys++rl (FK.drop j)=B0++rl FK/\Ld W wC (.slice af FK.length cf) FK (.slice ax XK.length cx) XK (.slice ay YK.length cy) YK wr v ys) (fun _ i _=>FK.length-(intOf i).toNat)
       case atStart=>exact⟨0,B0,qD _,rfl,rfl,HST.out⟩
       case round =>
        clear HST;obtain⟨j,ys,hj,rfl,zhx,hLd⟩:=hrel;obtain⟨av,cv,rfl,_⟩:=hLd.1.slice;have HTO:Hid (ys++rl (FK.drop j)=B0++rl FK):=zhx;have hyl2:ys.length<=182:=(by have:=congrArg List.length zhx;rw[qA,qA]at this;omega);clear zhx;by_cases hjn:j<FK.length
        . have HSS:Hid (Ld W wC (.slice af FK.length cf) FK (.slice ax XK.length cx) XK (.slice ay YK.length cy) YK wr (.slice av ys.length cv) ys):=hLd
          have HF:Hid (Gi wC.heap.size wr (.slice af FK.length cf) FK):=hLd.2.1;obtain⟨wo,rfl⟩:∃wo,wo=wr:=⟨_,rfl⟩;have g1:(j:Int)<(FK.length:Int):=(by omega);clear hLd
          go_upto_block 6 with fail
          go_cut [19]from 112 to 170 (fun s19 wx=>∃m:Nat,s19=.int .i64 (m:Int)/\rn Int.toNat 256 (FK.drop j)=m+1/\m<=255/\j+m<FK.length/\Below wo.heap.size wo wx)
          case first =>
           go_wp2_with fail
           go_loopw [19] (fun s wr=>∃m:Nat,s=.int .i64 (m:Int)/\m<=255/\j+m<FK.length/\(∀t,t<=m->FK.getD (j+t) 0=FK.getD j 0)/\Below wo.heap.size wo wr) (fun s _=>FK.length-(intOf s).toNat)
           case atStart=>exact⟨0,rfl,by omega,by omega,(fun t ht=>by rw[show t=0 by omega];rfl),Below.refl _ _⟩
           case round =>
            obtain⟨m,rfl,hm1,hjm,hsm,hbR⟩:=hrel;have HSM:Hid (∀t,t<=m->FK.getD (j+t) 0=FK.getD j 0):=hsm;have HSD:Hid (∀t,t<m+1->((FK.drop j).getD t 0).toNat=((FK.drop j).getD 0 0).toNat):=fun t ht=>by rw[zds,zds,Nat.add_zero,HSM.out t (by omega)]
            have hdl:(FK.drop j).length=FK.length-j:=qJ;clear hsm;obtain⟨_,_,ec,hri,_⟩:=Gi.slice (HF.out.below hbR);cases ec;obtain⟨bf,of,ea,hbf,d0⟩:=hri.at (Below.refl _ _) j hjn;have ht1:((j:Int)+(m:Int)+1).toNat=j+m+1:=(by omega);have i1:(0:Int)<=(j:Int):=(by omega);have i3:(0:Int)<=(j:Int)+(m:Int)+1:=(by omega);have hw1:IntKind.i64.wrap ((j:Int)+(m:Int))=(j:Int)+(m:Int):=zmu (by omega) (by omega);have hw2:IntKind.i64.wrap ((j:Int)+(m:Int)+1)=(j:Int)+(m:Int)+1:=zmu (by omega) (by omega);by_cases h1:j+m+1<FK.length
            . obtain⟨bf',of',ea',_,d1⟩:=hri.at (Below.refl _ _) (j+m+1) h1
              rw[ea]at ea';cases ea';subst ea;have HNX:Hid (FK.getD (j+m+1) 0=FK.getD j 0->∀t,t<=m+1->FK.getD (j+t) 0=FK.getD j 0):=fun h t ht=>by
               rcases Nat.lt_or_ge t (m+1)with h9|h9
               . exact HSM.out t (by omega)
               . rw[show j+t=j+m+1 by omega];exact h
              have b0:=HFL.out j hjn;have b1:=HFL.out (j+m+1) h1;have HRX:Hid (FK.getD (j+m+1) 0≠FK.getD j 0->rn Int.toNat 256 (FK.drop j)=m+1):=fun h=>rn_eq (c:=Int.toNat) (M:=256) (by omega) (by omega) (by omega) HSD.out (.inr (.inr (by rw[show(FK.drop j).getD (m+1) 0=FK.getD (j+m+1) 0 by rw[zds];rfl,show(FK.drop j).getD 0 0=FK.getD j 0 by rw[zds];rfl];omega)));have HR5:Hid (m=255->rn Int.toNat 256 (FK.drop j)=m+1):=fun h=>rn_eq (c:=Int.toNat) (M:=256) (by omega) (by omega) (by omega) HSD.out (.inl (by omega));generalize FK.getD (j+m+1) 0=x1 at *;generalize FK.getD j 0=x0 at *;have i2:(j:Int)+(m:Int)+1<(FK.length:Int):=(by omega);have g2:decide ((j:Int)+(m:Int)+1<(FK.length:Int))=true:=qC i2;clear hdl HSD;by_cases h2:x1=x0
              . have zqc:Hid (_):=HNX.out h2
                have g3:(x1==x0)=true:=(by simp[h2]);have g4:(x0==x0)=true:=(by simp);subst h2;by_cases h3:m<255
                . have g5:decide ((m:Int)<255)=true:=qC (by omega)
                  clear HSM HNX HRX HR5;go_upto_region 29 with fail
                  refine wp_region_held_drew (S:=fun w9=>w9.cell? ⟨bf,of+(j+m+1),none⟩=some (.int .i64 x1)/\w9.cell? ⟨bf,of+j,none⟩=some (.int .i64 x1)) (by kernel_rfl) ?_ (fun hH=>?_)
                  . (try dsimp only)
                    all_goals go_keep
                  have hdr:Below wr.heap.size wr wr.drew:=Below.drew1;generalize wr.drew=td1 at hdr hH ⊢;replace hbR:Below wo.heap.size wo td1:=hbR.trans (hdr.mono hbR.size);clear hdr;refine hT 0 hH ?_;refine hT 1 hH ?_;refine hT 2 hH ?_;refine hT 3 hH ?_;refine hT 4 hH ?_;refine hT 5 hH ?_;refine hT 6 hH ?_;refine hT 7 hH ?_;refine hT 8 hH ?_;refine hT 9 hH ?_;refine hT 10 hH ?_;refine hT 11 hH ?_;refine hT 12 hH ?_;refine hT 13 hH ?_;refine hT 14 hH ?_;refine hT 15 hH ?_;refine hT 16 hH ?_;refine hT 17 hH ?_;refine hT 18 hH ?_;refine hT 19 hH ?_;refine hT 20 hH ?_;refine hT 21 hH ?_;refine hT 22 hH ?_;refine hT 23 hH ?_;refine hT 24 hH ?_;refine wpAnyH_done (by kernel_rfl) ?_ _;clear hH;go_wp2_with fail
                  go_roundw
                  case rel=>exact⟨m+1,by go_num,by omega,by omega,zqc.out,hbR⟩
                  case measure=>simp[intOf];omega
                . have g5:decide ((m:Int)<255)=false:=qB (by omega)
                  have HRN:Hid (rn Int.toNat 256 (FK.drop j)=m+1):=HR5.out (by omega);clear HSM HNX HRX HR5 zqc;go_upto_region 29 with fail
                  refine wp_region_held_drew (S:=fun w9=>w9.cell? ⟨bf,of+(j+m+1),none⟩=some (.int .i64 x1)/\w9.cell? ⟨bf,of+j,none⟩=some (.int .i64 x1)) (by kernel_rfl) ?_ (fun hH=>?_)
                  . (try dsimp only)
                    all_goals go_keep
                  have hdr:Below wr.heap.size wr wr.drew:=Below.drew1;generalize wr.drew=td2 at hdr hH ⊢;replace hbR:Below wo.heap.size wo td2:=hbR.trans (hdr.mono hbR.size);clear hdr;refine hT 0 hH ?_;refine hT 1 hH ?_;refine hT 2 hH ?_;refine hT 3 hH ?_;refine hT 4 hH ?_;refine hT 5 hH ?_;refine hT 6 hH ?_;refine hT 7 hH ?_;refine hT 8 hH ?_;refine hT 9 hH ?_;refine hT 10 hH ?_;refine hT 11 hH ?_;refine hT 12 hH ?_;refine hT 13 hH ?_;refine hT 14 hH ?_;refine hT 15 hH ?_;refine hT 16 hH ?_;refine hT 17 hH ?_;refine hT 18 hH ?_;refine hT 19 hH ?_;refine hT 20 hH ?_;refine hT 21 hH ?_;refine hT 22 hH ?_;refine hT 23 hH ?_;refine hT 24 hH ?_;refine wpAnyH_done (by kernel_rfl) ?_ _;clear hH;go_wp2_with fail
                  go_meet;exact⟨m,rfl,HRN.out,hm1,hjm,hbR⟩
              . have HRN:Hid (rn Int.toNat 256 (FK.drop j)=m+1):=HRX.out h2
                have g3:(x1==x0)=false:=beq_eq_false_iff_ne.2 h2;clear HSM HNX HRX HR5;go_upto_region 29 with fail
                refine wp_region_held_drew (S:=fun w9=>w9.cell? ⟨bf,of+(j+m+1),none⟩=some (.int .i64 x1)/\w9.cell? ⟨bf,of+j,none⟩=some (.int .i64 x0)) (by kernel_rfl) ?_ (fun hH=>?_)
                . (try dsimp only)
                  all_goals go_keep
                have hdr:Below wr.heap.size wr wr.drew:=Below.drew1;generalize wr.drew=td3 at hdr hH ⊢;replace hbR:Below wo.heap.size wo td3:=hbR.trans (hdr.mono hbR.size);clear hdr;refine hT 0 hH ?_;refine hT 1 hH ?_;refine hT 2 hH ?_;refine hT 3 hH ?_;refine hT 4 hH ?_;refine hT 5 hH ?_;refine hT 6 hH ?_;refine hT 7 hH ?_;refine hT 8 hH ?_;refine hT 9 hH ?_;refine hT 10 hH ?_;refine hT 11 hH ?_;refine hT 12 hH ?_;refine hT 13 hH ?_;refine hT 14 hH ?_;refine hT 15 hH ?_;refine hT 16 hH ?_;refine hT 17 hH ?_;refine hT 18 hH ?_;refine hT 19 hH ?_;refine hT 20 hH ?_;refine hT 21 hH ?_;refine hN 22 hH ?_;refine hN 23 hH ?_;refine hT 24 hH ?_;refine wpAnyH_done (by kernel_rfl) ?_ _;clear hH;go_wp2_with fail
                go_meet;exact⟨m,rfl,HRN.out,hm1,hjm,hbR⟩
            . have g2:decide ((j:Int)+(m:Int)+1<(FK.length:Int))=false:=qB (by omega)
              have HRN:Hid (rn Int.toNat 256 (FK.drop j)=m+1):=rn_eq (c:=Int.toNat) (M:=256) (by omega) (by omega) (by omega) HSD.out (.inr (.inl (by omega)));clear HSD hdl HSM d0;go_upto_region 29 with fail
              refine wp_region_held_drew (S:=fun w9=>True) (by kernel_rfl) ?_ (fun hH=>?_)
              . (try dsimp only)
                all_goals go_keep
              have hdr:Below wr.heap.size wr wr.drew:=Below.drew1;generalize wr.drew=td4 at hdr hH ⊢;replace hbR:Below wo.heap.size wo td4:=hbR.trans (hdr.mono hbR.size);clear hdr;refine hT 0 hH ?_;refine hT 1 hH ?_;refine hT 2 hH ?_;refine hT 3 hH ?_;refine hT 4 hH ?_;refine hT 5 hH ?_;refine hT 6 hH ?_;refine hT 7 hH ?_;refine hN 8 hH ?_;refine hN 9 hH ?_;refine hN 10 hH ?_;refine hN 11 hH ?_;refine hN 12 hH ?_;refine hN 13 hH ?_;refine hN 14 hH ?_;refine hN 15 hH ?_;refine hN 16 hH ?_;refine hN 17 hH ?_;refine hN 18 hH ?_;refine hN 19 hH ?_;refine hT 20 hH ?_;refine hT 21 hH ?_;refine hN 22 hH ?_;refine hN 23 hH ?_;refine hT 24 hH ?_;refine wpAnyH_done (by kernel_rfl) ?_ _;clear hH;go_wp2_with fail
              go_meet;exact⟨m,rfl,HRN.out,hm1,hjm,hbR⟩
          case rest =>
          obtain⟨m,rfl,hrn,hm1,hjm,hbR⟩:=hcut;have b0:=HFL.out j hjn;obtain⟨xn,hx⟩:∃n:Nat,FK.getD j 0=(n:Int):=⟨(FK.getD j 0).toNat,by omega⟩;have hts:=zyk hjn hrn hx HTO.out;rw[Int.toNat_natCast]at hts;have hL:=HSS.out.below hbR;obtain⟨_,_,ec,hri,_⟩:=Gi.slice hL.2.1;cases ec;obtain⟨bf,of,ea,hbf,d0⟩:=hri.at (Below.refl _ _) j hjn;subst ea;rw[hx]at d0 b0;have hxn:xn<64:=(by omega);have i1:(0:Int)<=(j:Int):=(by omega);have HR:Hid (j+(m+1)<=FK.length):=(by show _<=_;omega);clear hrn hx HTO HSS HF hbR hri b0;have hll:ys.length+1<=1000000:=(by omega);rcases Nat.eq_zero_or_pos m with h0|h0
          . subst h0
            rw[if_pos rfl]at hts;have HTS:Hid (ys++[xn]++rl (FK.drop (j+(0+1)))=B0++rl FK):=hts;obtain⟨V,hV,hN,bp⟩:∃V,V=wc.alloc (.cells #[.int .u8 (xn:Int)] 5)/\Bk 5 V wc.heap.size [.int .u8 (xn:Int)]/\Below wc.heap.size wc V:=⟨_,rfl,Bk.new _ _ _,bl1 _⟩;have n0:=hN.cell 0 (by simp);have hLV:=hL.below bp;have hTV:=hLV.1;have hbs:=hLV.2.2.2.2.2.2.size;have HLV:Hid (Ld W wC (.slice (some ⟨bf,of,none⟩) FK.length cf) FK (.slice ax XK.length cx) XK (.slice ay YK.length cy) YK V (.slice av ys.length cv) ys):=hLV;have g3:(xn:Int)%256=(xn:Int):=(by omega);have hxb:xn<256:=(by omega);clear hts hN bp hL hLV;go_upto_region 34 with fail
            go_wp2_with (at_builtin;(rw[<-hV]);refine zbp rfl _ _ rfl W.heap.size (.slice av ys.length cv) ys rfl hTV wc.heap.size xn rfl n0 hxb hll hbs ?_)
            intro v' w9 hT9 hgrow hown
            (try rw[<-hV]at hgrow)
            rw[show wc.heap.size+1=V.heap.size by rw[hV];simp]at hown;have HL9:Hid (_):=HLV.out.app hgrow hown hT9;clear hgrow hown hT9 hTV hV n0 hbs HLV;go_wp2;go_roundw
            case rel=>exact⟨j+(0+1),ys++[xn],HR.out,by go_num,HTS.out,HL9.out⟩
            case measure=>simp[intOf];omega
          . rw[if_neg (by omega)]at hts
            obtain⟨zn,hzn⟩:∃zn:Nat,(xn:Int)+8=(zn:Int):=⟨xn+8,by omega⟩;have hz1:xn+8=zn:=(by omega);rw[hz1]at hts;have hzb:zn<256:=(by omega);have g3:(zn:Int)%256=(zn:Int):=(by omega);have g4:(m:Int)%256=(m:Int):=(by omega);have g5:(0:Int)<(m:Int):=(by omega);have hmb:m<256:=(by omega);have HTS:Hid (ys++[zn]++[m]++rl (FK.drop (j+(m+1)))=B0++rl FK):=(by show _=_;rw[<-hts];simp);obtain⟨V,hV,hN,bp⟩:∃V,V=wc.alloc (.cells #[.int .u8 (zn:Int)] 5)/\Bk 5 V wc.heap.size [.int .u8 (zn:Int)]/\Below wc.heap.size wc V:=⟨_,rfl,Bk.new _ _ _,bl1 _⟩;have n0:=hN.cell 0 (by simp);have hLV:=hL.below bp;have hTV:=hLV.1;have hbs:=hLV.2.2.2.2.2.2.size;have HLV:Hid (Ld W wC (.slice (some ⟨bf,of,none⟩) FK.length cf) FK (.slice ax XK.length cx) XK (.slice ay YK.length cy) YK V (.slice av ys.length cv) ys):=hLV;clear hts hN bp hL hLV hz1;go_upto_region 32 with fail
            go_wp2_with (at_builtin;(rw[<-hV]);refine zbp rfl _ _ rfl W.heap.size (.slice av ys.length cv) ys rfl hTV wc.heap.size zn rfl n0 hzb hll hbs ?_)
            intro v' w9 hT9 hgrow hown
            (try rw[<-hV]at hgrow)
            rw[show wc.heap.size+1=V.heap.size by rw[hV];simp]at hown;have hL9:=HLV.out.app hgrow hown hT9;have z1y:(ys++[zn]).length+1<=1000000:=(by rw[qA,List.length_singleton];omega);generalize ys++[zn]=ys2 at *;obtain⟨a9,c9,rfl,_⟩:=hT9.slice;obtain⟨V2,hV2,hN2,bp2⟩:∃V,V=w9.alloc (.cells #[.int .u8 (m:Int)] 5)/\Bk 5 V w9.heap.size [.int .u8 (m:Int)]/\Below w9.heap.size w9 V:=⟨_,rfl,Bk.new _ _ _,bl1 _⟩;have n2:=hN2.cell 0 (by simp);have hLV2:=hL9.below bp2;have z2t:=hLV2.1;have zvk:=hLV2.2.2.2.2.2.2.size;have z32:Hid (Ld W wC (.slice (some ⟨bf,of,none⟩) FK.length cf) FK (.slice ax XK.length cx) XK (.slice ay YK.length cy) YK V2 (.slice a9 ys2.length c9) ys2):=hLV2;clear hgrow hown hT9 hTV hV n0 hbs HLV hL9 hN2 bp2 hLV2 d0 hll;go_upto_region 33 with fail
            go_wp2_with (at_builtin;(rw[<-hV2]);refine zbp rfl _ _ rfl W.heap.size (.slice a9 ys2.length c9) ys2 rfl z2t w9.heap.size m rfl n2 hmb z1y zvk ?_)
            intro v8 w8 hT8 hgrow hown
            (try rw[<-hV2]at hgrow)
            rw[show w9.heap.size+1=V2.heap.size by rw[hV2];simp]at hown;have HL8:Hid (_):=z32.out.app hgrow hown hT8;clear hgrow hown hT8 z2t hV2 n2 zvk z32;go_wp2;go_roundw
            case rel=>exact⟨j+(m+1),ys2++[m],HR.out,by go_num,HTS.out,HL8.out⟩
            case measure=>simp[intOf];omega
        . obtain rfl:j=FK.length:=by omega
          have HYY:Hid (ys=B0++rl FK):=by
           have h9:=HTO.out;rw[List.drop_length,znd,List.append_nil]at h9;exact h9
          have g4:¬(FK.length:Int)<(FK.length:Int):=(by omega);obtain⟨_,_,e5,hr5⟩:=hLd.2.2.1.slice;cases e5;have hll:ys.length+XK.length<=1000000:=(by omega);have hbs:=hLd.2.2.2.2.2.2.size;have hTV:=hLd.1;have HLV:Hid (Ld W wC (.slice af FK.length cf) FK (.slice ax XK.length cx) XK (.slice ay YK.length cy) YK wr (.slice av ys.length cv) ys):=hLd;clear HTO hLd;go_wp2_with (at_builtin;refine zae rfl _ _ rfl W.heap.size (.slice av ys.length cv) ys rfl hTV _ _ _ XK rfl rfl hr5 hll hbs ?_)
          intro v' w9 hT9 hgrow hown;have hL9:=HLV.out.app hgrow hown hT9;obtain⟨ys2,hys2⟩:∃l,ys++XK=l:=⟨_,rfl⟩;have z1y:ys2.length+YK.length<=1000000:=(by rw[<-hys2,qA];omega);rw[hys2]at hT9 hL9;obtain⟨a9,c9,rfl,_⟩:=hT9.slice;obtain⟨_,_,e6,hr6⟩:=hL9.2.2.2.1.slice;cases e6;have zvk:=hL9.2.2.2.2.2.2.size;have z2t:=hL9.1;have z32:Hid (Ld W wC (.slice af FK.length cf) FK (.slice ax XK.length cx) XK (.slice ay YK.length cy) YK w9 (.slice a9 ys2.length c9) ys2):=hL9;have HY2:Hid (B0++rl FK++XK=ys2):=(by show _=_;rw[<-HYY.out,hys2]);clear hgrow hown hT9 hTV hbs HLV hL9 hr5 hll hys2 HYY;go_wp2_with (at_builtin;refine zae rfl _ _ rfl W.heap.size (.slice a9 ys2.length c9) ys2 rfl z2t _ _ _ YK rfl rfl hr6 z1y zvk ?_)
          intro v8 w8 hT8 hgrow hown;have hL8:=z32.out.app hgrow hown hT8;obtain⟨ys3,hys3⟩:∃l,ys2++YK=l:=⟨_,rfl⟩;rw[hys3]at hT8;obtain⟨a8,c8,rfl,hrb⟩:=hT8.slice;have HBO:Hid (Bo w.heap.size w8 (.slice a8 ys3.length c8) ys3):=hT8.mono HB0.out.size;have hbW:Below w.heap.size w w8:=HB0.out.trans (hL8.2.2.2.2.2.2.mono HB0.out.size);have HE:Hid (D=true/\R=ys3):=⟨HRR.out.1,by rw[HRR.out.2,HY2.out,hys3]⟩;clear hgrow hown hT8 z2t zvk z32 hL8 hr6 z1y hys3 HRR;go_wp2;go_ret2;exact⟨a8,c8,by rw[HE.out.1,HE.out.2];rfl,by rw[HE.out.2];exact HBO.out,hbW⟩
theorem zyy{l:List Pa}{k:Nat}{p:Pa}(hk:k<l.length)(hp:l.getD k Pa.none=p):(l.take (k+1)).flatMap paE=(l.take k).flatMap paE++be2 p.g++be2 p.dx++be2 p.dy:=by
 rw[zak (d:=Pa.none) hk,hp,List.flatMap_append];simp[paE]
theorem z1j(l:List Pa):(l.flatMap paE).length=6*l.length:=by
 induction l with
 | nil=>rfl
 | cons p t ih=>rw[List.flatMap_cons,qA,ih,List.length_cons];simp[paE,be2];omega
theorem zft(S:Nat->Prop)(a:OA)(ca:Nat)(b:OA)(cb:Nat)(o:Ol)(w:World)(hc:Gr PnE.row S w a ca o.cs)(hp:Gr PaE S w b cb o.ps)(hl:o.cs.flatten.length<=100000) :
 Calls Tryz.prog 45 #[.agg #[.slice a o.cs.length ca,.slice b o.ps.length cb]] w fun e w'=>∃a' c',e=.returned (.tuple #[.slice a' (wrOB o).length c',.int .i64 (wrOE o)])/\Bo w.heap.size w' (.slice a' (wrOB o).length c') (wrOB o)/\Below w.heap.size w w':=by
 obtain⟨W,hW,X1,hbW⟩:∃W,W=w.alloc (.cells #[.slice a o.cs.length ca,.slice b o.ps.length cb] 57)/\Bk 57 W w.heap.size [.slice a o.cs.length ca,.slice b o.ps.length cb]/\Below w.heap.size w W:=⟨_,rfl,Bk.new _ _ _,bl1 _⟩;replace hc:=hc.below hbW;replace hp:=hp.below hbW;have hfo:=ziq S a ca b cb o W hc hp hl;obtain⟨x0,x1,_⟩:=X1.two;cases hf:foB o with
 | false =>
  have HE:Hid (wrOE o=1/\wrOB o=[]):=by unfold wrOE wrOB;rw[hf];exact⟨rfl,rfl⟩
  rw[hf]at hfo;clear hf hc hp;go_enter func45,ntmps45;go_wp2_with fail
  rw[<-hW];clear hW;refine hfo.mono ?_;rintro e y1 ⟨rfl,hb1⟩;replace hbW:Below w.heap.size w y1:=hbW.trans (hb1.mono hbW.size);go_wp2;go_ret2;exact⟨none,0,by rw[HE.out.1,HE.out.2];rfl,by rw[HE.out.2];exact Bo.nil _ _,hbW⟩
 | true =>
  obtain⟨f1,f2,f3,f4,f5,f6,f7⟩:=zbg.1 hf;rw[hf]at hfo;by_cases h0:o.ps.length=0
  . have HE:Hid (wrOE o=(if diB o.cs.flatten then 0 else 4)/\wrOB o=(if diB o.cs.flatten then coB o.cs else [])):=by unfold wrOE wrOB;rw[hf,if_pos rfl,if_pos rfl,if_pos h0,if_pos h0];exact⟨rfl,rfl⟩
    have hco:=fun U h1=>zlu S a ca (.slice b o.ps.length cb) o.cs U h1 rfl f5 f2 f4 f6;have HRD:Hid (diB o.cs.flatten=false->(if diB o.cs.flatten then coB o.cs else [])=[]):=fun h=>by rw[h];rfl
    generalize diB o.cs.flatten=D at *;generalize (if D then coB o.cs else [])=R at *;have HPS:Hid (o.ps.length=0):=h0;clear hf f1 f3 f4 f5 f6 f7 h0 hl;have g1:((o.ps.length:Int)==0)=true:=(by rw[HPS.out];rfl);generalize o.ps.length=np at *;obtain rfl:np=0:=HPS.out;go_enter func45,ntmps45;go_wp2_with fail
    rw[<-hW];clear hW;refine hfo.mono ?_;rintro e y1 ⟨rfl,hb1⟩;replace hbW:Below w.heap.size w y1:=hbW.trans (hb1.mono hbW.size);replace hc:=hc.below hb1;replace X1:=X1.below hb1;clear hb1 hfo x0 x1;obtain⟨x0,x1,_⟩:=X1.two;go_wp2_with fail
    refine(hco _ hc).mono ?_;rintro e y2 ⟨a2,c2,rfl,hr,hb2⟩;replace hr:=hr.mono hbW.size;replace hbW:Below w.heap.size w y2:=hbW.trans (hb2.mono hbW.size);clear hco hb2;cases D with
    | true =>
     go_wp2;go_ret2;exact⟨a2,c2,by rw[HE.out.1,HE.out.2];rfl,by rw[HE.out.2];exact hr,hbW⟩
    | false =>
     have HR0:Hid (R=[]):=HRD.out rfl;clear HRD hr;go_wp2;go_ret2;exact⟨none,0,by rw[HE.out.1,HE.out.2,HR0.out];rfl,by rw[HE.out.2,HR0.out];exact Bo.nil _ _,hbW⟩
  . have HE:Hid (wrOE o=0/\wrOB o=paB o.ps):=by unfold wrOE wrOB;rw[hf,if_pos rfl,if_pos rfl,if_neg h0,if_neg h0];exact⟨rfl,rfl⟩
    have g0:((o.ps.length:Int)==0)=false:=(by simp;intro h;rw[h]at h0;exact h0 rfl);have g1:¬(o.ps.length:Int)=0:=(by omega);have HPF:Hid (∀k,k<o.ps.length->PaF (o.ps.getD k Pa.none)):=fun k hk=>f7 _ (zbm hk);have z2o:=fun U=>zbf (o.ps.length:Int) U (by omega) (by omega);have HPA:Hid (paB o.ps=[255,255]++be2 (o.ps.length:Int)++o.ps.flatMap paE):=(by show _=_;unfold paB;simp only[qI]);have HPL:Hid (∀k,((o.ps.take k).flatMap paE).length<=36):=fun k=>by rw[z1j,qL];omega
    clear hf f1 f2 f4 f5 f6 f7 hl h0;go_enter func45,ntmps45;go_wp2_with fail
    rw[<-hW];clear hW;refine hfo.mono ?_;rintro e y1 ⟨rfl,hb1⟩;replace hbW:Below w.heap.size w y1:=hbW.trans (hb1.mono hbW.size);replace hp:=hp.below hb1;replace X1:=X1.below hb1;clear hb1 hfo x0 x1 hc;obtain⟨V,hV,hT,hbV⟩:∃V,V=y1.alloc (.cells #[.int .u8 255,.int .u8 255] 5)/\Bo y1.heap.size V (.slice (some ⟨y1.heap.size,0,none⟩) 2 2) [255,255]/\Below y1.heap.size y1 V:=⟨_,rfl,zoj y1 [255,255] _ rfl (by intro x hx;simp at hx;omega) (by simp[maxLen]),bl1 _⟩;obtain⟨p0,p1,_⟩:=X1.two;obtain⟨x0,x1,_⟩:=(X1.below hbV).two;have HP:Hid (Gr PaE S y1 b cb o.ps):=hp;have HX:Hid (Bk 57 y1 w.heap.size [.slice a o.cs.length ca,.slice b o.ps.length cb]):=X1;have HBW:Hid (Below w.heap.size w y1):=hbW;clear hp X1 hbW;go_upto_region 9 with fail
    rw[<-hV];clear hV p0 p1;go_wp2_with fail
    refine(z2o _).mono ?_;rintro e w2 ⟨ab,cb2,rfl,hrb,hb2⟩;have hT5:=hT.below hb2;have hB2:=hbV.trans (hb2.mono hbV.size);have hbs:=hB2.size;have hll:([255,255]:LN).length+(be2 (o.ps.length:Int)).length<=1000000:=(by show 2+2<=1000000;decide);clear z2o x0 x1;go_wp2_with (at_builtin;refine za2 rfl _ _ rfl y1.heap.size (.slice (some ⟨y1.heap.size,0,none⟩) 2 2) [255,255] rfl hT5 _ _ _ (be2 (o.ps.length:Int)) rfl rfl hrb hll hbs ?_)
    intro v' w9 hT9 hgrow;have hB9:Below y1.heap.size y1 w9:=hB2.grown hgrow hbs (fun k hk=>(hT5.lo hk).1);obtain⟨BC,hBC⟩:∃l,[255,255]++be2 (o.ps.length:Int)=l:=⟨_,rfl⟩;have hBl:BC.length<=4:=(by rw[<-hBC];exact qE _);replace hT9:Bo y1.heap.size w9 v' ([255,255]++be2 (o.ps.length:Int)):=hT9;rw[hBC]at HPA hT9;have HT9:Hid (Bo y1.heap.size w9 v' BC):=hT9;have HB9:Hid (Below y1.heap.size y1 w9):=hB9;clear hgrow hT9 hB9 hT5 hbs hll hrb hB2 hb2 hbV hT hBC;go_wp2
    go_loopw [6,7] (fun v i wr=>∃k:Nat,k<=o.ps.length/\i=.int .i64 k/\Bo y1.heap.size wr v (BC++(o.ps.take k).flatMap paE)/\Below y1.heap.size y1 wr) (fun _ i _=>o.ps.length-(intOf i).toNat)
    case atStart=>exact⟨0,qD _,rfl,by rw[List.take_zero,List.flatMap_nil,List.append_nil];exact HT9.out,HB9.out⟩
    case round =>
     clear HT9 HB9;obtain⟨k,hk,rfl,hT,hB⟩:=hrel;have hpl:=HPL.out k;by_cases hkn:k<o.ps.length
     . have HS:Hid (_):=zyy (l:=o.ps) hkn rfl
       have hpf:=HPF.out k hkn;obtain⟨Y0,hY0⟩:∃l,BC++(o.ps.take k).flatMap paE=l:=⟨_,rfl⟩;have hyl:Y0.length<=40:=(by rw[<-hY0,qA];omega);have HS2:Hid (BC++(o.ps.take (k+1)).flatMap paE=Y0++be2 (o.ps.getD k Pa.none).g++be2 (o.ps.getD k Pa.none).dx++be2 (o.ps.getD k Pa.none).dy):=(by show _=_;rw[HS.out,<-hY0];simp only[qI]);rw[hY0]at hT;clear hY0 HS hpl;obtain⟨av,cv,rfl,_⟩:=hT.slice;have HPQ:Hid (∀wx,Below y1.heap.size y1 wx->∃b1 o1,b=some ⟨b1,o1,none⟩/\wx.cell? ⟨b1,o1+k*3,none⟩=some (.int .i64 (o.ps.getD k Pa.none).g)/\wx.cell? ⟨b1,o1+k*3+1,none⟩=some (.int .i64 (o.ps.getD k Pa.none).dx)/\wx.cell? ⟨b1,o1+k*3+2,none⟩=some (.int .i64 (o.ps.getD k Pa.none).dy)):=fun wx hx=>by
        obtain⟨b1,o1,e1,_,_,c0,c1,c2⟩:=HP.out.pa hx k hkn;exact⟨b1,o1,e1,c0,c1,c2⟩
       generalize o.ps.getD k Pa.none=p at *;obtain⟨gg,x,y⟩:=p;dsimp only at HPQ HS2;unfold PaF at hpf;dsimp only at hpf;have i1:(0:Int)<=(k:Int):=(by omega);have i2:(k:Int)<(o.ps.length:Int):=(by omega);obtain⟨b1,o1,e1,_,_,_⟩:=HPQ.out wr hB;subst e1;obtain⟨_,_,e1,d0,d1,d2⟩:=HPQ.out _ hB;cases e1;obtain⟨x0,x1,_⟩:=(HX.out.below hB).two;have z2o:=fun U=>zbf gg U (by omega) (by omega);go_upto_region 13 with fail
       go_wp2_with fail
       refine(z2o _).mono ?_;rintro e wa0 ⟨ab0,cb0,rfl,hrb0,hb0⟩;clear z2o d0 d1 d2 x0 x1;have hTa0:=hT.below hb0;have hBa0:=hB.trans (hb0.mono hB.size);have hbs0:=hBa0.size;have hll0:Y0.length+(be2 gg).length<=1000000:=(by rw[show(be2 gg).length=2 from rfl];omega);go_wp2_with (at_builtin;refine za2 rfl _ _ rfl y1.heap.size (.slice av Y0.length cv) Y0 rfl hTa0 _ _ _ (be2 gg) rfl rfl hrb0 hll0 hbs0 ?_)
       intro v0 wb0 hTb0 ze6;have z2z:Below y1.heap.size y1 wb0:=hBa0.grown ze6 hbs0 (fun k hk=>(hTa0.lo hk).1);clear ze6 hTa0 hbs0 hll0 hrb0 hBa0 hb0 hT hB;obtain⟨Y1,hY1⟩:∃l,Y0++be2 gg=l:=⟨_,rfl⟩;have hyl1:Y1.length<=42:=(by rw[<-hY1,qA,show(be2 gg).length=2 from rfl];omega);rw[hY1]at HS2 hTb0;clear hY1;obtain⟨av0,cv0,rfl,_⟩:=hTb0.slice;obtain⟨_,_,e1,d0,d1,d2⟩:=HPQ.out _ z2z;cases e1;obtain⟨x0,x1,_⟩:=(HX.out.below z2z).two;have hz1:0<=x+65536:=(by omega);obtain⟨z1,hzz1⟩:∃z,z=(x+65536)%65536:=⟨_,rfl⟩;have hm1:(x+65536).tmod 65536=z1:=(by rw[zi6 hz1,hzz1]);have hbg1:=fun U=>zbf z1 U (by omega) (by omega);rw[show be2 z1=be2 x by rw[hzz1,zfl]]at hbg1;clear hzz1;go_upto_region 14 with fail
       go_wp2_with fail
       refine(hbg1 _).mono ?_;rintro e wa1 ⟨ab1,cb1,rfl,hrb1,hb1⟩;clear hbg1 d0 d1 d2 x0 x1;have hTa1:=hTb0.below hb1;have hBa1:=z2z.trans (hb1.mono z2z.size);have hbs1:=hBa1.size;have z2b:Y1.length+(be2 x).length<=1000000:=(by rw[show(be2 x).length=2 from rfl];omega);go_wp2_with (at_builtin;refine za2 rfl _ _ rfl y1.heap.size (.slice av0 Y1.length cv0) Y1 rfl hTa1 _ _ _ (be2 x) rfl rfl hrb1 z2b hbs1 ?_)
       intro v1 wb1 hTb1 zcj;have z2y:Below y1.heap.size y1 wb1:=hBa1.grown zcj hbs1 (fun k hk=>(hTa1.lo hk).1);clear zcj hTa1 hbs1 z2b hrb1 hBa1 hb1 hTb0 z2z;obtain⟨Y2,hY2⟩:∃l,Y1++be2 x=l:=⟨_,rfl⟩;have hyl2:Y2.length<=44:=(by rw[<-hY2,qA,show(be2 x).length=2 from rfl];omega);rw[hY2]at HS2 hTb1;clear hY2;obtain⟨av1,cv1,rfl,_⟩:=hTb1.slice;obtain⟨_,_,e1,d0,d1,d2⟩:=HPQ.out _ z2y;cases e1;obtain⟨x0,x1,_⟩:=(HX.out.below z2y).two;have hz2:0<=y+65536:=(by omega);obtain⟨z2,hzz2⟩:∃z,z=(y+65536)%65536:=⟨_,rfl⟩;have hm2:(y+65536).tmod 65536=z2:=(by rw[zi6 hz2,hzz2]);have hbg2:=fun U=>zbf z2 U (by omega) (by omega);rw[show be2 z2=be2 y by rw[hzz2,zfl]]at hbg2;clear hzz2;go_upto_region 15 with fail
       go_wp2_with fail
       refine(hbg2 _).mono ?_;rintro e wa2 ⟨ab2,cb2,rfl,hrb2,hb2⟩;clear hbg2 d0 d1 d2 x0 x1;have hTa2:=hTb1.below hb2;have hBa2:=z2y.trans (hb2.mono z2y.size);have zvk:=hBa2.size;have hll2:Y2.length+(be2 y).length<=1000000:=(by rw[show(be2 y).length=2 from rfl];omega);go_wp2_with (at_builtin;refine za2 rfl _ _ rfl y1.heap.size (.slice av1 Y2.length cv1) Y2 rfl hTa2 _ _ _ (be2 y) rfl rfl hrb2 hll2 zvk ?_)
       intro v2 wb2 hTb2 hgrow2;have hBb2:Below y1.heap.size y1 wb2:=hBa2.grown hgrow2 zvk (fun k hk=>(hTa2.lo hk).1);clear hgrow2 hTa2 zvk hll2 hrb2 hBa2 hb2 hTb1 z2y;obtain⟨Y3,hY3⟩:∃l,Y2++be2 y=l:=⟨_,rfl⟩;have z1y:Y3.length<=46:=(by rw[<-hY3,qA,show(be2 y).length=2 from rfl];omega);rw[hY3]at HS2 hTb2;clear hY3;obtain⟨av2,cv2,rfl,_⟩:=hTb2.slice;have HR:Hid (Bo y1.heap.size wb2 (.slice av2 Y3.length cv2) (BC++(o.ps.take (k+1)).flatMap paE)/\Below y1.heap.size y1 wb2):=⟨by rw[HS2.out];exact hTb2,hBb2⟩;clear hTb2 hBb2;go_wp2;go_roundw
       case rel=>exact⟨k+1,by omega,by go_num,HR.out.1,HR.out.2⟩
       case measure=>simp[intOf];omega
     . obtain rfl:k=o.ps.length:=by omega
       rw[List.take_length]at hT;obtain⟨Y0,hY0⟩:∃l,BC++o.ps.flatMap paE=l:=⟨_,rfl⟩;rw[hY0]at hT HPA;clear hY0 hpl;obtain⟨av,cv,rfl,hrb⟩:=hT.slice;have HBO:Hid (_):=hT.mono HBW.out.size;have hbW:Below w.heap.size w wr:=HBW.out.trans (hB.mono HBW.out.size);obtain⟨x0,x1,_⟩:=(HX.out.below hB).two;have g2:¬(o.ps.length:Int)<(o.ps.length:Int):=(by omega);go_wp2;go_ret2;exact⟨av,cv,by rw[HE.out.1,HE.out.2,HPA.out];rfl,by rw[HE.out.2,HPA.out];exact HBO.out,hbW⟩
theorem zlp(S:Nat->Prop)(a:OA)(ca:Nat)(b:OA)(cb:Nat)(o:Ol)(w:World)(hc:Gr PnE.row S w a ca o.cs)(hp:Gr PaE S w b cb o.ps)(hl:o.cs.flatten.length<=100000) :
 Calls Tryz.prog 45 #[.agg #[.slice a o.cs.length ca,.slice b o.ps.length cb]] w fun e w'=>∃a' c',e=.returned (.tuple #[.slice a' (wrOB o).length c',.int .i64 (wrOE o)])/\Rb w' a' c' (wrOB o)/\Below w.heap.size w w' :=
 (zft S a ca b cb o w hc hp hl).mono (fun e w' ⟨a',c',h1,h2,h3⟩=>⟨a',c',h1,h2.rb,h3⟩)
