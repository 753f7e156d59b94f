import Derived.Test.YtkmcodofnckdmaaGreatZK32
set_option maxHeartbeats 4000000
set_option maxRecDepth 100000
set_option linter.unusedSimpArgs false
set_option linter.unusedVariables false
namespace Go.Proofs.YtkmcodofnckdmaaGreat
open Tryz Go.RowKit Go.Maps
theorem Bk.set3{t:TypeId}{w:World}{g:Nat}{x y z:Value}(h:Bk t w g [x,y,z])(x' y' z':Value):Bk t (((w.setCell ⟨g,0,none⟩ x').setCell ⟨g,1,none⟩ y').setCell ⟨g,2,none⟩ z') g [x',y',z']:=((h.set 0 x').set 1 y').set 2 z'
theorem zwj{B g:Nat}{a w:World}(h:Below B a w)(hb:B<=g)(x' y' z':Value):Below B a (((w.setCell ⟨g,0,none⟩ x').setCell ⟨g,1,none⟩ y').setCell ⟨g,2,none⟩ z') :=
 ((h.setCell (p:=⟨g,0,none⟩) hb x').setCell (p:=⟨g,1,none⟩) hb y').setCell (p:=⟨g,2,none⟩) hb z'
theorem Gi.set3{base:Nat}{w:World}{v:Value}{l:LI}{t:TypeId}{g:Nat}{x y z:Value}(h:Gi base w v l)(hb:Bk t w g [x,y,z])(ht:t≠3)(x' y' z':Value):Gi base (((w.setCell ⟨g,0,none⟩ x').setCell ⟨g,1,none⟩ y').setCell ⟨g,2,none⟩ z') v l :=
 ((h.set hb ht 0 x').set (hb.set 0 x') ht 1 y').set ((hb.set 0 x').set 1 y') ht 2 z'
theorem zg6{l:LI}{k:Nat}{z:Int}(hk:k<l.length)(hz:l.getD k 0=z):l.take (k+1)=l.take k++[z]:=by rw[zak (d:=0) hk,hz]
theorem zpt(S:Nat->Prop)(a:OA)(cap:Nat)(l:List Pn)(w:World)(h:Gr PnE S w a cap l)(hl:l.length<=1000)(hF:∀k,k<l.length->PnF (l.getD k Pn.none)) :
 Calls Tryz.prog 129 #[.slice a l.length cap] w fun e w'=>∃a1 c1 a2 c2,e=.returned (.tuple #[.slice a1 (stX l).length c1,.slice a2 (stY l).length c2])/\Ri w' a1 c1 (stX l)/\Ri w' a2 c2 (stY l) /\
     (∀b o,a1=some ⟨b,o,none⟩->w.heap.size<=b/\b<w'.heap.size)/\(∀b o,a2=some ⟨b,o,none⟩->w.heap.size<=b/\b<w'.heap.size)/\Below w.heap.size w w':=by
 have HH:Hid (Gr PnE S w a cap l):=h;have HF:Hid (∀k,k<l.length->PnF (l.getD k Pn.none)):=hF;obtain⟨W,hW,X0,hbW⟩:∃W,W=w.alloc (.cells #[.int .i64 0,.int .i64 0,.bool false] 65)/\Bk 65 W w.heap.size (pnC (ahP l 0))/\Below w.heap.size w W:=⟨_,rfl,Bk.new _ _ _,bl1 _⟩;have HX0:Hid (Bk 65 W w.heap.size (pnC (ahP l 0))):=X0;have HBW:Hid (Below w.heap.size w W):=hbW;clear h hF X0 hbW;go_enter func129,ntmps129;go_wp2;rw[<-hW];clear hW
 go_loopw [4,5,11] (fun v4 v5 i wr=>∃k:Nat,k<=l.length/\i=.int .i64 k/\Gi w.heap.size wr v4 ((stX l).take k)/\Gi w.heap.size wr v5 ((stY l).take k)/\(∀g,v4.ownBlock=some g->v5.ownBlock≠some g)/\Bk 65 wr w.heap.size (pnC (ahP l k))/\Below w.heap.size w wr) (fun _ _ i _=>l.length-(intOf i).toNat)
 case atStart=>exact⟨0,qD _,rfl,Gi.nil _ _,Gi.nil _ _,(fun g hg=>by cases hg),HX0.out,HBW.out⟩
 case round =>
  clear HX0 HBW;obtain⟨k,hk,rfl,hT4,hT5,hap,hX,hB⟩:=hrel;obtain⟨a4,c4,rfl,hr4,hb4⟩:=hT4.slice;obtain⟨a5,c5,rfl,hr5,hb5⟩:=hT5.slice;by_cases hkn:k<l.length;rotate_left
  . obtain rfl:k=l.length:=by omega
    have HB4:Hid (∀b o,a4=some ⟨b,o,none⟩->w.heap.size<=b/\b<wr.heap.size):=hb4;have HB5:Hid (∀b o,a5=some ⟨b,o,none⟩->w.heap.size<=b/\b<wr.heap.size):=hb5;rw[List.take_of_length_le (by rw[zhe];exact qE _)]at hr4 ⊢;rw[List.take_of_length_le (by rw[zhd];exact qE _)]at hr5 ⊢;have g1:¬(l.length:Int)<(l.length:Int):=(by omega);clear hT4 hT5 hap hX hb4 hb5;go_wp2;go_ret2;exact⟨a4,c4,a5,c5,rfl,hr4,hr5,HB4.out,HB5.out,hB⟩
  obtain⟨b,off,ea,hb,⟨w0,w1⟩,q0,q1,q2⟩:=HH.out.pn hB k hkn;subst ea;have HSX:Hid (_):=zg6 (l:=stX l) (by rw[zhe];exact hkn) (zyb hkn);have HSY:Hid (_):=zg6 (l:=stY l) (by rw[zhd];exact hkn) (zya hkn);have hfa:=ahP_F HF.out hk;have hfp:=HF.out k hkn;have HA1:Hid (_):=zwl l k;have hl4:((stX l).take k).length+1<=1000000:=by rw[qL,zhe];omega
  have hl5:((stY l).take k).length+1<=1000000:=by rw[qL,zhd];omega
  generalize ahP l k=p0 at *;generalize l.getD k Pn.none=p at *;obtain⟨x,y,on⟩:=p;obtain⟨x0,y0,on0⟩:=p0;unfold PnF at hfa hfp;unfold pnC at hX;dsimp only at w0 w1 q0 q1 q2 hfa hfp hX HSX HSY;obtain⟨dx,hdx⟩:∃d,x-x0=d:=⟨_,rfl⟩;obtain⟨dy,hdy⟩:∃d,y-y0=d:=⟨_,rfl⟩;have hdxi:I64 dx:=⟨by omega,by omega⟩;have hdyi:I64 dy:=⟨by omega,by omega⟩;have hdx1:-9223372036854775808<=dx/\dx<=9223372036854775807:=hdxi;have hdy1:-9223372036854775808<=dy/\dy<=9223372036854775807:=hdyi;rw[hdx]at HSX;rw[hdy]at HSY;have i1:(0:Int)<=(k:Int):=by omega
  have i2:(k:Int)<(l.length:Int):=by omega
  clear hfa hfp hr4 hr5 hb4 hb5;have hb1:=bl2 (w:=wr) (.cells #[.int .i64 x,.int .i64 y,.bool on] 65) (.cells #[.int .i64 dx] 3);have hB1:Below w.heap.size w ((wr.alloc (.cells #[.int .i64 x,.int .i64 y,.bool on] 65)).alloc (.cells #[.int .i64 dx] 3)):=hB.trans (hb1.mono hB.size);have hT4a:=hT4.below hb1;have hT5a:=hT5.below hb1;have hXa:=hX.below hb1;have hY:Bk 65 ((wr.alloc (.cells #[.int .i64 x,.int .i64 y,.bool on] 65)).alloc (.cells #[.int .i64 dx] 3)) wr.heap.size [.int .i64 x,.int .i64 y,.bool on]:=(Bk.new _ _ _).below (bl1 _);have hN:=Bk.new1 3 wr (.cells #[.int .i64 x,.int .i64 y,.bool on] 65) [.int .i64 dx];have n0:=hN.cell 0 (by simp);have hgl:wr.heap.size+1<((wr.alloc (.cells #[.int .i64 x,.int .i64 y,.bool on] 65)).alloc (.cells #[.int .i64 dx] 3)).heap.size:=hN.lt;have hbs:=hB1.size;have n4:(Value.slice a4 ((stX l).take k).length c4).ownBlock≠some wr.heap.size:=fun e=>by have:=(hT4.lo e).2;omega
  have n4x:(Value.slice a4 ((stX l).take k).length c4).ownBlock≠some w.heap.size:=hT4a.ne hXa (by decide);obtain⟨x6,y6,z6,_⟩:=hX.three;obtain⟨x7,y7,z7,_⟩:=(hX.below (bl1 (.cells #[.int .i64 x,.int .i64 y,.bool on] 65))).three;have hX7:w.heap.size<wr.heap.size:=hX.lt;clear hN;generalize (stX l).take k=L4 at *;generalize (stY l).take k=L5 at *;go_wp2_with (at_builtin;refine zah rfl _ _ rfl w.heap.size _ L4 rfl hT4a (wr.heap.size+1) dx rfl hgl n0 hdxi hl4 hbs ?_)
  intro v4 w4 hT4b hgrow hown;have hB4:Below w.heap.size w w4:=hB1.grown hgrow hbs (fun k hk=>(hT4a.lo hk).1);have hT5b:=hT5a.grown hgrow (fun g hg e=>hap g e hg);have hXb:=hXa.grown hgrow n4x;have hYb:=hY.grown hgrow n4;have hap2:∀g,v4.ownBlock=some g->(Value.slice a5 L5.length c5).ownBlock≠some g:=fun g hg e=>by
   rcases hown with ho|ho
   . exact hap g (ho.symm.trans hg) e
   . rw[ho]at hg
     cases hg;exact absurd (hT5a.lo e).2 (by simp)
  have HAP2:Hid (∀g,v4.ownBlock=some g->(Value.slice a5 L5.length c5).ownBlock≠some g):=hap2;rw[<-HSX.out]at hT4b;clear hgrow hown hT4a hT5a hXa hY n0 hgl hbs n4 n4x hb1 hB1 hT4 hT5 hX hB hap hap2 HSX hl4 q0 q1 q2 x6 y6 z6 x7 y7 z7;have hb2:=bl1 (w:=w4) (.cells #[.int .i64 dy] 3);have hB5:Below w.heap.size w (w4.alloc (.cells #[.int .i64 dy] 3)):=hB4.trans (hb2.mono hB4.size);have hT4c:=hT4b.below hb2;have z2u:=hT5b.below hb2;have hXc:=hXb.below hb2;have hYc:=hYb.below hb2;have hN:=Bk.new 3 w4 [.int .i64 dy];have n0:=hN.cell 0 (by simp);have hgl:w4.heap.size<(w4.alloc (.cells #[.int .i64 dy] 3)).heap.size:=hN.lt;have hbs:=hB5.size;have n5x:(Value.slice a5 L5.length c5).ownBlock≠some w.heap.size:=z2u.ne hXc (by decide);have n5y:(Value.slice a5 L5.length c5).ownBlock≠some wr.heap.size:=z2u.ne hYc (by decide);obtain⟨x6,y6,z6,_⟩:=hXb.three;obtain⟨x8,y8,z8,_⟩:=hYb.three;clear hN;go_wp2_with (at_builtin;refine zah rfl _ _ rfl w.heap.size _ L5 rfl z2u w4.heap.size dy rfl hgl n0 hdyi hl5 hbs ?_)
  intro v5 w5 hT5d hgrow hown;have hB6:Below w.heap.size w w5:=hB5.grown hgrow hbs (fun k hk=>(z2u.lo hk).1);have hT4d:=hT4c.grown hgrow (fun g hg e=>HAP2.out g hg e);have hXd:=hXc.grown hgrow n5x;have hYd:=hYc.grown hgrow n5y;have HAP3:Hid (∀g,v4.ownBlock=some g->v5.ownBlock≠some g):=fun g hg e=>by
   rcases hown with ho|ho
   . exact HAP2.out g hg (ho.symm.trans e)
   . rw[ho]at e
     cases e;exact absurd (hT4c.lo hg).2 (by simp)
  rw[<-HSY.out]at hT5d;clear hgrow hown hT4b hT5b hXb hYb hT4c z2u hXc hYc n0 hgl hbs n5x n5y hb2 hB4 hB5 HSY hl5 x6 y6 z6 x8 y8 z8 HAP2;obtain⟨x8,y8,z8,_⟩:=hYd.three;obtain⟨x6,y6,z6,f0,f1,f2⟩:=hXd.three;have hXe:=hXd.set3 (.int .i64 x) (.int .i64 y) (.bool on);have hT4e:=hT4d.set3 hXd (by decide) (.int .i64 x) (.int .i64 y) (.bool on);have hT5e:=hT5d.set3 hXd (by decide) (.int .i64 x) (.int .i64 y) (.bool on);have hB7:=zwj hB6 (qE _) (.int .i64 x) (.int .i64 y) (.bool on);clear hXd hYd hT4d hT5d hB6;go_wp2;go_roundw
  case rel=>exact⟨k+1,by omega,by go_num,hT4e,hT5e,HAP3.out,by rw[HA1.out];exact hXe,hB7⟩
  case measure=>simp[intOf];omega
theorem zp0(S:Nat->Prop)(a:OA)(cap:Nat)(a1:OA)(c1:Nat)(a2:OA)(c2:Nat)(l:List Pn)(w:World)(h:Gr PnE S w a cap l)(hx:Ri w a1 c1 (stX l))(hy:Ri w a2 c2 (stY l))(hl:l.length<=1000) :
 Calls Tryz.prog 133 #[.slice a l.length cap,.slice a1 (stX l).length c1,.slice a2 (stY l).length c2] w fun e w'=>∃a3 c3,e=.returned (.slice a3 (flL l).length c3)/\Ri w' a3 c3 (flL l)/\(∀b o,a3=some ⟨b,o,none⟩->w.heap.size<=b/\b<w'.heap.size)/\Below w.heap.size w w':=by
 have HH:Hid (Gr PnE S w a cap l):=h;have HX:Hid (Ri w a1 c1 (stX l)):=hx;have HY:Hid (Ri w a2 c2 (stY l)):=hy;have hlx:=zhe l;have hly:=zhd l;have HLX:Hid ((stX l).length=l.length):=hlx;have HLY:Hid ((stY l).length=l.length):=hly;rw[hlx,hly];clear h hx hy hlx hly;go_enter func133,ntmps133;go_wp2
 go_loopw [7,13] (fun v i wr=>∃k:Nat,k<=l.length/\i=.int .i64 k/\Gi w.heap.size wr v ((flL l).take k)/\Below w.heap.size w wr) (fun _ i _=>l.length-(intOf i).toNat)
 case atStart=>exact⟨0,qD _,rfl,Gi.nil _ _,Below.refl _ _⟩
 case round =>
  obtain⟨k,hk,rfl,hG7,hB⟩:=hrel;obtain⟨a7,c7,rfl,hr7,hb7⟩:=hG7.slice;by_cases hkn:k<l.length;rotate_left
  . obtain rfl:k=l.length:=by omega
    have HB7:Hid (∀b o,a7=some ⟨b,o,none⟩->w.heap.size<=b/\b<wr.heap.size):=hb7;rw[List.take_of_length_le (by rw[zfk];exact qE _)]at hr7 ⊢;have g1:¬(l.length:Int)<(l.length:Int):=(by omega);clear hG7 hb7;go_wp2;go_ret;exact⟨a7,c7,rfl,hr7,HB7.out,hB⟩
  obtain⟨b,off,ea,hb,⟨w0,w1⟩,q0,q1,q2⟩:=HH.out.pn hB k hkn;have bp1:=bl1 (w:=wr) (.cells #[.int .i64 (l.getD k Pn.none).x,.int .i64 (l.getD k Pn.none).y,.bool (l.getD k Pn.none).on] 65);have hB1:=hB.trans (bp1.mono hB.size);obtain⟨b1,o1,e1,hb1,d1⟩:=HX.out.at hB1 k (by rw[HLX.out];exact hkn);obtain⟨b2,o2,e2,hb2,d2⟩:=HY.out.at hB1 k (by rw[HLY.out];exact hkn);subst ea e1 e2;have HFL:=zg6 (l:=flL l) (by rw[zfk];exact hkn) (zz6 hkn);obtain⟨o1a,o2a,o3a,o4a⟩:=or_xy ((stX l).getD k 0) ((stY l).getD k 0);have hmx:=fun U=>zlg ((stX l).getD k 0) 2 16 U or_x;have hmy:=fun U=>zlg ((stY l).getD k 0) 4 32 U or_y;have hll:((flL l).take k).length+1<=1000000:=by rw[qL,zfk];omega
  have hX:=Bk.new 65 wr [.int .i64 (l.getD k Pn.none).x,.int .i64 (l.getD k Pn.none).y,.bool (l.getD k Pn.none).on];have hX:Bk 65 (wr.alloc (.cells #[.int .i64 (l.getD k Pn.none).x,.int .i64 (l.getD k Pn.none).y,.bool (l.getD k Pn.none).on] 65)) wr.heap.size [.int .i64 (l.getD k Pn.none).x,.int .i64 (l.getD k Pn.none).y,.bool (l.getD k Pn.none).on]:=hX;replace hG7:=hG7.below bp1;generalize l.getD k Pn.none=p at *;obtain⟨x,y,on⟩:=p;dsimp only at w0 w1 q0 q1 q2 hX hB1 d1 d2 hG7;generalize axI ((stX l).getD k 0) 2 16=fx at *;generalize axI ((stY l).getD k 0) 4 32=fy at *;generalize (stX l).getD k 0=dx at *;generalize (stY l).getD k 0=dy at *;obtain⟨W,hW⟩:∃W,W=wr.alloc (.cells #[.int .i64 x,.int .i64 y,.bool on] 65):=⟨_,rfl⟩;have HFL:Hid (_):=HFL;rw[<-hW]at hX hB1 d1 d2 hG7;generalize (flL l).take k=L7 at *;obtain⟨r,hr⟩:∃r,fx+fy=r:=⟨_,rfl⟩;rw[hr]at o1a o2a o3a o4a HFL;have A1:Cl W b1 (o1+k) (.int .i64 dx):=⟨World.block_lt_of_cell? W _ d1,d1⟩;have A2:Cl W b2 (o2+k) (.int .i64 dy):=⟨World.block_lt_of_cell? W _ d2,d2⟩;have i1:(0:Int)<=(k:Int):=by omega
  have i2:(k:Int)<(l.length:Int):=by omega
  clear hr7 hb7 hB bp1 hr;go_upto_region 5 with fail
  rw[<-hW];clear hW q0 q1 q2;refine wp_region_held_drew (S:=(fun u=>u.cell? ⟨b1,o1+k,none⟩=some (.int .i64 dx)/\u.cell? ⟨b2,o2+k,none⟩=some (.int .i64 dy))) (by kernel_rfl) ?_ (fun hH=>?_)
  . (try dsimp only)
    go_keep
  have hdr:Below W.heap.size W W.drew:=Below.drew1;generalize W.drew=ud at hdr hH ⊢;replace A1:=A1.below hdr;replace A2:=A2.below hdr;replace hX:=hX.below hdr;replace hG7:=hG7.below hdr;replace hB1:=hB1.trans (hdr.mono hB1.size);clear hdr d1 d2;refine hT 0 hH ?_;refine hT 1 hH ?_;refine hT 2 hH ?_;refine hT 3 hH ?_;refine hT 5 hH ?_;refine hT 6 hH ?_;refine hT 7 hH ?_;refine hT 8 hH ?_;refine hCall (i:=4) rfl (by kernel_rfl) (by rfl) (fun K hK=>?_);go_simp;refine(hmx _).mono ?_;rintro e u1 ⟨rfl,rfl⟩;go_wp2_with fail
  refine hK.out _ _ ?_ (fun hH=>?_)
  . (try dsimp only)
    exact⟨A1.2,A2.2⟩
  clear hK K;try simp only[Act.put,pZ]
  refine hCall (i:=9) rfl (by kernel_rfl) (by rfl) (fun K hK=>?_);go_simp;refine(hmy _).mono ?_;rintro e u1 ⟨rfl,rfl⟩;go_wp2_with fail
  refine hK.out _ _ ?_ (fun hH=>?_)
  . (try dsimp only)
    exact⟨A1.2,A2.2⟩
  clear hK K;try simp only[Act.put,pZ]
  refine hT 10 hH ?_;refine hT 11 hH ?_;refine wpAnyH_done (by kernel_rfl) ?_ _;clear hH hmx hmy A1 A2;obtain⟨x8,y8,z8,_⟩:=hX.three;obtain⟨n,hn⟩:∃n,(if on=true then r+1 else r)=n:=⟨_,rfl⟩;have HFN:Hid ((flL l).take (k+1)=L7++[n]):=by
   show _=_;rw[HFL.out,<-hn];cases on <;> simp
  have hni:I64 n:=by rw[<-hn];constructor <;> split <;> omega
  have HN:Hid ((on=true->r+1=n)/\(on=false->r=n)):=by rw[<-hn];constructor <;> intro h <;> simp[h]
  clear HFL hn;have bp2:=bl1 (w:=ud) (.cells #[.int .i64 n] 3);have hT5:=hG7.below bp2;have hN:=Bk.new 3 ud [.int .i64 n];have n0:=hN.cell 0 (by simp);have hgl:ud.heap.size<(ud.alloc (.cells #[.int .i64 n] 3)).heap.size:=hN.lt;have hB5:=hB1.trans (bp2.mono hB1.size);have hbs:=hB5.size;clear hN bp2;cases on with
  | true =>
   obtain rfl:=HN.out.1 rfl;go_wp2_with (at_builtin;refine zah rfl _ _ rfl w.heap.size _ L7 rfl hT5 ud.heap.size (r+1) rfl hgl n0 hni hll hbs ?_)
   intro v9 w9 hT9 hgrow _;have hB9:Below w.heap.size w w9:=hB5.grown hgrow hbs (fun k hk=>(hT5.lo hk).1);rw[<-HFN.out]at hT9;clear hgrow hT5 n0 hgl hbs HFN HN hB5;go_wp2;go_roundw
   case rel=>exact⟨k+1,by omega,by go_num,hT9,hB9⟩
   case measure=>simp[intOf];omega
  | false =>
   obtain rfl:=HN.out.2 rfl;go_wp2_with (at_builtin;refine zah rfl _ _ rfl w.heap.size _ L7 rfl hT5 ud.heap.size r rfl hgl n0 hni hll hbs ?_)
   intro v9 w9 hT9 hgrow _;have hB9:Below w.heap.size w w9:=hB5.grown hgrow hbs (fun k hk=>(hT5.lo hk).1);rw[<-HFN.out]at hT9;clear hgrow hT5 n0 hgl hbs HFN HN hB5;go_wp2;go_roundw
   case rel=>exact⟨k+1,by omega,by go_num,hT9,hB9⟩
   case measure=>simp[intOf];omega
theorem Gr.keptP{S G:Nat->Prop}{w w':World}{a:OA}{cap:Nat}{l:List Pn}(h:Gr PnE S w a cap l)(hk:Keep G w w')(hG:∀b o,a=some ⟨b,o,none⟩->l≠[]->G b):Gr PnE S w' a cap l:=by
 refine⟨h.1,h.2.1,h.2.2.1,fun i hi=>?_⟩;obtain⟨b,off,vs,e,hb,hr,hc⟩:=h.2.2.2 i hi;exact⟨b,off,vs,e,qN hb hk.size,za0.2 (za0.1 hr),fun j hj=>(hk.cell (p:=⟨b,off+i*PnE.sz+j,none⟩) (hG b off e (fun e0=>by rw[e0]at hi;simp at hi))).trans (hc j hj)⟩
theorem Gr.keptA{S G:Nat->Prop}{w w':World}{a:OA}{cap:Nat}{l:List Pa}(h:Gr PaE S w a cap l)(hk:Keep G w w')(hG:∀b o,a=some ⟨b,o,none⟩->l≠[]->G b):Gr PaE S w' a cap l:=by
 refine⟨h.1,h.2.1,h.2.2.1,fun i hi=>?_⟩;obtain⟨b,off,vs,e,hb,hr,hc⟩:=h.2.2.2 i hi;exact⟨b,off,vs,e,qN hb hk.size,zce.2 (zce.1 hr),fun j hj=>(hk.cell (p:=⟨b,off+i*PaE.sz+j,none⟩) (hG b off e (fun e0=>by rw[e0]at hi;simp at hi))).trans (hc j hj)⟩
theorem axB_z{d:Int}(h:d=0):axB d=[]:=if_pos h
theorem axB_s{d:Int}(h0:d≠0)(h1:-255<=d)(h2:d<=255):axB d=be1 (max d (-d)):=by
 unfold axB be1;rw[if_neg h0];by_cases h:0<d
 . rw[if_pos (by omega)];congr 1;omega
 . rw[if_neg (by omega),if_pos (by omega)];congr 1;omega
theorem axB_l{d:Int}(h:d < -255\/255<d):axB d=be2 d:=by
 unfold axB;rw[if_neg (by omega),if_neg (by omega),if_neg (by omega)]
theorem zfb(B:Nat)(G:Nat->Prop)(ys:LN)(a:OA)(cap:Nat)(l:LI)(w:World)(h:Pc w B G ⟨ys,[],false⟩)(hr:Ri w a cap l)(hG:∀b o,a=some ⟨b,o,none⟩->G b)(hx:∀x∈l,-32768<=x/\x<=32767)(hl:ys.length+2*l.length+4<=1048576) :
 Calls Tryz.prog 134 #[pg B,.slice a l.length cap] w fun e w'=>e=.returned (.tuple #[])/\Pc w' B G ⟨ys++l.flatMap axB,[],false⟩/\Keep G w w':=by
 have k2:=hr.lenB;have HR:Hid (Ri w a cap l):=hr;have HX:Hid (∀x∈l,-32768<=x/\x<=32767):=hx;have HG:Hid (∀b o,a=some ⟨b,o,none⟩->G b):=hG;clear hr hx hG;go_enter func134,ntmps134;go_wp2
 go_loopw [8] (fun i wr=>∃k:Nat,k<=l.length/\i=.int .i64 k/\Pc wr B G ⟨ys++(l.take k).flatMap axB,[],false⟩/\Keep G w wr) (fun i _=>l.length-(intOf i).toNat)
 case atStart=>exact⟨0,qD _,rfl,by simpa using h,Keep.refl _ _⟩
 case round =>
  obtain⟨k,hk,rfl,hP,hK⟩:=hrel;by_cases hkn:k<l.length;rotate_left
  . obtain rfl:k=l.length:=by omega
    rw[List.take_length]at hP;have g1:¬(l.length:Int)<(l.length:Int):=(by omega);go_wp2
    go_end0
    exact⟨rfl,hP,hK⟩
  obtain⟨b,off,ea,hb,d0⟩:=(HR.out.kept hK HG.out).get k hkn;have hx:=HX.out _ (zc8 hkn);obtain⟨x,hx0⟩:∃x,l.getD k 0=x:=⟨_,rfl⟩;have HS:Hid (_):=ze8 (f:=axB) hkn hx0;have hle:((l.take k).flatMap axB).length<=2*l.length:=zet zdv l k;rw[hx0]at d0 hx;subst ea;clear hx0;obtain⟨zs,hzs⟩:∃zs,(l.take k).flatMap axB=zs:=⟨_,rfl⟩;rw[hzs]at HS hle hP;have HT:Hid (ys++zs++axB x=ys++(l.take (k+1)).flatMap axB):=by show _=_;rw[HS.out,qI]
  clear hzs HS;have i1:(0:Int)<=(k:Int):=by omega
  have i2:(k:Int)<(l.length:Int):=by omega
  by_cases h0:x=0
  . rw[axB_z h0,List.append_nil]at HT
    rw[HT.out]at hP;have g1:(x==0)=true:=(by simp[h0]);clear h0 HT hx;go_wp2;go_roundw
    case rel=>exact⟨k+1,by omega,by go_num,hP,hK⟩
    case measure=>simp[intOf];omega
  have g1:(x==0)=false:=by simp[h0]
  by_cases h1:-255<=x/\x<=255
  . rw[axB_s h0 h1.1 h1.2]at HT
    obtain⟨z,hz⟩:∃z,max x (-x)=z:=⟨_,rfl⟩;have hz1:0<=z/\z<=255:=(by omega);rw[hz]at HT;have hp:=zat B G _ z wr hP ⟨by omega,by omega⟩ (by show(ys++zs).length+4<=_;rw[qA];omega);rw[put8A (by omega) (by omega),HT.out]at hp;have g2:decide (-255<=x)=true:=qC h1.1;have g3:decide (x<=255)=true:=qC h1.2;clear hP h0 HT;go_wp2_with fail
    refine hp.mono ?_;rintro e u1 ⟨rfl,hP,hK1⟩;replace hK:=hK.trans hK1;clear hp hK1;go_wp2;go_roundw
    case rel=>exact⟨k+1,by omega,by go_num,hP,hK⟩
    case measure=>simp[intOf];omega
  . rw[axB_l (by omega)]at HT
    have hp:=zap B G _ x wr hP ⟨by omega,by omega⟩ (by show(ys++zs).length+4<=_;rw[qA];omega);rw[zb0 (by omega) (by omega),HT.out]at hp;by_cases h2:-255<=x
    . have g2:decide (-255<=x)=true:=qC h2
      have g3:decide (x<=255)=false:=qB (by omega);clear hP h0 HT;go_wp2_with fail
      refine hp.mono ?_;rintro e u1 ⟨rfl,hP,hK1⟩;replace hK:=hK.trans hK1;clear hp hK1;go_wp2;go_roundw
      case rel=>exact⟨k+1,by omega,by go_num,hP,hK⟩
      case measure=>simp[intOf];omega
    . have g2:decide (-255<=x)=false:=qB h2
      clear hP h0 HT;go_wp2_with fail
      refine hp.mono ?_;rintro e u1 ⟨rfl,hP,hK1⟩;replace hK:=hK.trans hK1;clear hp hK1;go_wp2;go_roundw
      case rel=>exact⟨k+1,by omega,by go_num,hP,hK⟩
      case measure=>simp[intOf];omega
theorem zpn{l:List Pa}{k:Nat}{p:Pa}(hk:k<l.length)(hp:l.getD k Pa.none=p):(l.take (k+1)).flatMap paE=(l.take k).flatMap paE++paE p:=by
 rw[zak (d:=Pa.none) hk,hp,List.flatMap_append];simp
theorem zs2(l:List Pa):(l.flatMap paE).length=6*l.length:=by
 induction l with
 | nil=>rfl
 | cons p t ih =>
  have e:(paE p).length=6:=rfl;rw[List.flatMap_cons,qA,ih,e,List.length_cons];omega
theorem zj5(S:Nat->Prop)(B:Nat)(G:Nat->Prop)(a:OA)(cap:Nat)(l:List Pa)(w:World)(h:Pc w B G ⟨[],[],false⟩)(hr:Gr PaE S w a cap l)(hG:∀b o,a=some ⟨b,o,none⟩->l≠[]->G b)(hx:∀p∈l,(0<=p.g/\p.g<=65535)/\(-32768<=p.dx/\p.dx<=32767)/\(-32768<=p.dy/\p.dy<=32767))(hl:l.length<=6) :
 Calls Tryz.prog 127 #[pg B,.slice a l.length cap] w fun e w'=>e=.returned (.tuple #[])/\Pc w' B G ⟨paB l,[],false⟩/\Keep G w w':=by
 have HR:Hid (Gr PaE S w a cap l):=hr;have HX:Hid (∀p∈l,(0<=p.g/\p.g<=65535)/\(-32768<=p.dx/\p.dx<=32767)/\(-32768<=p.dy/\p.dy<=32767)):=hx;have HG:Hid (∀b o,a=some ⟨b,o,none⟩->l≠[]->G b):=hG;have HE:Hid (paB l=[]++be2 (-1)++be2 (l.length:Int)++l.flatMap paE):=by show _=_;unfold paB;simp[be2]
 clear hr hx hG;have hp1:=zap B G _ (-1) w h ⟨by decide,by decide⟩ (by decide);rw[zb0 (by decide) (by decide)]at hp1;obtain⟨y1,hy1⟩:∃y,([]:LN)++be2 (-1)=y:=⟨_,rfl⟩;have hyl:y1.length=2:=by rw[<-hy1];rfl
 rw[hy1]at hp1 HE;clear hy1 h;go_enter func127,ntmps127;go_wp2_with fail
 refine hp1.mono ?_;rintro e u1 ⟨rfl,hP,hK⟩;clear hp1;have hp2:=zap B G _ (l.length:Int) u1 hP ⟨by omega,by omega⟩ (by show y1.length+4<=_;omega);rw[zb0 (by omega) (by omega)]at hp2;obtain⟨y2,hy2⟩:∃y,y1++be2 (l.length:Int)=y:=⟨_,rfl⟩;have hyl2:y2.length=4:=by rw[<-hy2,qA,hyl];rfl
 rw[hy2]at hp2 HE;clear hy2 hyl hP;go_wp2_with fail
 refine hp2.mono ?_;rintro e u2 ⟨rfl,hP,hK2⟩;have HK0:Hid (Keep G w u2):=hK.trans hK2;have HP0:Hid (Pc u2 B G ⟨y2,[],false⟩):=hP;clear hp2 hK hK2 hP;go_wp2
 go_loopw [14] (fun i wr=>∃k:Nat,k<=l.length/\i=.int .i64 k/\Pc wr B G ⟨y2++(l.take k).flatMap paE,[],false⟩/\Keep G w wr) (fun i _=>l.length-(intOf i).toNat)
 case atStart=>exact⟨0,qD _,rfl,by simpa using HP0.out,HK0.out⟩
 case round =>
  clear HP0 HK0;obtain⟨k,hk,rfl,hP,hK⟩:=hrel;by_cases hkn:k<l.length;rotate_left
  . obtain rfl:k=l.length:=by omega
    rw[List.take_length,<-HE.out]at hP;have g1:¬(l.length:Int)<(l.length:Int):=(by omega);go_wp2
    go_end0
    exact⟨rfl,hP,hK⟩
  obtain⟨b,off,ea,hb,⟨w0,w1,w2⟩,q0,q1,q2⟩:=(HR.out.keptA hK HG.out).pa (Below.refl _ _) k hkn;have hx:=HX.out _ (zbm (d:=Pa.none) hkn);have HS:Hid (_):=zpn hkn rfl;have hle:((l.take k).flatMap paE).length<=36:=by rw[zs2,qL];omega
  subst ea;generalize l.getD k Pa.none=p at *;obtain⟨g,x,y⟩:=p;dsimp only at w0 w1 w2 q0 q1 q2 hx;obtain⟨zs,hzs⟩:∃zs,y2++(l.take k).flatMap paE=zs:=⟨_,rfl⟩;have hzl:zs.length<=40:=by rw[<-hzs,qA];omega
  have HT:Hid (zs++be2 g++be2 x++be2 y=y2++(l.take (k+1)).flatMap paE):=by show _=_;rw[HS.out,<-hzs];unfold paE;simp only[qI]
  rw[hzs]at hP;clear hzs HS hle;have i1:(0:Int)<=(k:Int):=by omega
  have i2:(k:Int)<(l.length:Int):=by omega
  obtain⟨W,hW⟩:∃W,W=wr.alloc (.cells #[.int .i64 g,.int .i64 x,.int .i64 y] 54):=⟨_,rfl⟩;have hP1:=hP.moreA (.cells #[.int .i64 g,.int .i64 x,.int .i64 y] 54);have hX:=Bk.new 54 wr [.int .i64 g,.int .i64 x,.int .i64 y];have hX:Bk 54 (wr.alloc (.cells #[.int .i64 g,.int .i64 x,.int .i64 y] 54)) wr.heap.size [.int .i64 g,.int .i64 x,.int .i64 y]:=hX;have hK1:Keep G w (wr.alloc (.cells #[.int .i64 g,.int .i64 x,.int .i64 y] 54)):=hK.alloc hP.1 _;rw[<-hW]at hP1 hX hK1;have HGl:Hid (∀k,G k->k<wr.heap.size):=hP.1;clear hP hK;have hp3:=zap B _ _ g W hP1 ⟨by omega,by omega⟩ (by show zs.length+4<=_;omega);rw[zb0 (by omega) (by omega)]at hp3;obtain⟨z3,hz3⟩:∃z,zs++be2 g=z:=⟨_,rfl⟩;have hzl3:z3.length<=42:=by rw[<-hz3,qA];show zs.length+2<=42;omega
  rw[hz3]at hp3 HT;clear hz3 hP1;go_wp2_with fail
  rw[<-hW];clear hW q0 q1 q2;refine hp3.mono ?_;rintro e u3 ⟨rfl,hP,hK⟩;replace hX:=hX.kept hK (.inr rfl);replace hK1:=hK1.trans (hK.mono (fun k hk=>.inl hk));clear hp3 hK;have hp4:=zap B _ _ x u3 hP ⟨by omega,by omega⟩ (by show z3.length+4<=_;omega);rw[zb0 (by omega) (by omega)]at hp4;obtain⟨z4,hz4⟩:∃z,z3++be2 x=z:=⟨_,rfl⟩;have hzl4:z4.length<=44:=by rw[<-hz4,qA];show z3.length+2<=44;omega
  rw[hz4]at hp4 HT;clear hz4 hP;obtain⟨x0,x1,x2,_⟩:=hX.three;go_wp2_with fail
  refine hp4.mono ?_;rintro e u4 ⟨rfl,hP,hK⟩;replace hX:=hX.kept hK (.inr rfl);replace hK1:=hK1.trans (hK.mono (fun k hk=>.inl hk));clear hp4 hK x0 x1 x2;have hp5:=zap B _ _ y u4 hP ⟨by omega,by omega⟩ (by show z4.length+4<=_;omega);rw[zb0 (by omega) (by omega),HT.out]at hp5;clear hP;obtain⟨x0,x1,x2,_⟩:=hX.three;go_wp2_with fail
  refine hp5.mono ?_;rintro e u5 ⟨rfl,hP,hK⟩;have HP:Hid (Pc u5 B G ⟨y2++(l.take (k+1)).flatMap paE,[],false⟩):=hP.guard (fun k hk=>⟨hP.1 k (.inl hk),.inl hk⟩);replace hK1:=hK1.trans (hK.mono (fun k hk=>.inl hk));clear hp5 hK hP x0 x1 x2;go_wp2;go_roundw
  case rel=>exact⟨k+1,by omega,by go_num,HP.out,hK1⟩
  case measure=>simp[intOf];omega
theorem or_8:∀f:Fin 64,f.val/8%2=0->bits BinOp.or IntKind.i64 (f.val:Int) 8=(f.val:Int)+8:=by decide +kernel
theorem or_8i{x:Int}(h1:0<=x)(h2:x<64)(h3:x.toNat/8%2=0):bits BinOp.or IntKind.i64 x 8=x+8:=by
 have:=or_8 ⟨x.toNat,by omega⟩ h3;rw[show((⟨x.toNat,by omega⟩:Fin 64).val:Int)=x from Int.toNat_of_nonneg h1]at this;exact this
def FlO(x:Int):Prop:=0<=x/\x<64/\x.toNat/8%2=0
theorem znc{m:LI}(h:m≠[])(hr:rn Int.toNat 256 m=1)(hx:FlO (m.getD 0 0)):rl m=be1 (m.getD 0 0)++rl (m.drop 1):=by
 rw[zhj h,hr,if_pos rfl];unfold FlO at hx;congr 1;unfold be1;rw[Int.emod_eq_of_lt hx.1 (by omega)]
theorem zq6{m:LI}{k:Nat}(h:m≠[])(hr:rn Int.toNat 256 m=k+1)(hk:0<k)(hk2:k<=255)(hx:FlO (m.getD 0 0)):rl m=be1 (m.getD 0 0+8)++(be1 (k:Int)++rl (m.drop (k+1))):=by
 rw[zhj h,hr,if_neg (by omega)];unfold FlO at hx;unfold be1;rw[Int.emod_eq_of_lt (by omega) (by omega),Int.emod_eq_of_lt (by omega) (by omega),show(m.getD 0 0+8).toNat=(m.getD 0 0).toNat+8 by omega];simp
theorem zj6(B:Nat)(G:Nat->Prop)(ys:LN)(a:OA)(cap:Nat)(l:LI)(w:World)(h:Pc w B G ⟨ys,[],false⟩)(hr:Ri w a cap l)(hG:∀b o,a=some ⟨b,o,none⟩->G b)(hx:∀x∈l,FlO x)(hl:(ys++rl l).length<=20000)(hl2:l.length<=1000) :
 Calls Tryz.prog 132 #[pg B,.slice a l.length cap] w fun e w'=>e=.returned (.tuple #[])/\Pc w' B G ⟨ys++rl l,[],false⟩/\Keep G w w':=by
 obtain⟨tot,zhx⟩:∃t,ys++rl l=t:=⟨_,rfl⟩;rw[zhx]at hl ⊢;have zxr:Hid (ys++rl l=tot):=zhx;clear zhx;go_enter func132,ntmps132;go_wp2
 go_loopw [1] (fun v wr=>∃(m:LI) (a':OA) (cap':Nat) (zs:LN),v=.slice a' m.length cap'/\Ri wr a' cap' m/\(∀b o,a'=some ⟨b,o,none⟩->G b)/\zs++rl m=tot/\(∀x∈m,FlO x)/\m.length<=1000/\Pc wr B G ⟨zs,[],false⟩/\Keep G w wr) (fun v _=>slLen v)
 case atStart=>exact⟨l,a,cap,ys,rfl,hr,hG,zxr.out,hx,hl2,h,Keep.refl _ _⟩
 case round =>
  clear h hr hG hx hl2 zxr;obtain⟨m,a',cap',zs,rfl,hr,hG,ht,hx,hl2,hP,hK⟩:=hrel;have HT:Hid (zs++rl m=tot):=ht;have hzl:zs.length<=20000:=by rw[<-ht,qA]at hl;omega
  have HX:Hid (∀x∈m,FlO x):=hx;have HG:Hid (∀b o,a'=some ⟨b,o,none⟩->G b):=hG;have HR:Hid (Ri wr a' cap' m):=hr;have hcp:=hr.2.1;have hcm:=hr.2.2.1;unfold maxLen at hcm;clear ht hx hG hr;by_cases hm0:0<m.length;rotate_left
  . obtain rfl:m=[]:=List.length_eq_zero_iff.1 (by omega)
    have HZ:Hid (zs=tot):=(by show _=_;rw[<-HT.out,znd,List.append_nil]);rw[HZ.out]at hP;clear HT HX HG HR HZ hzl hm0 hl2 hcp;go_wp2
    go_end0
    exact⟨rfl,hP,hK⟩
  have HNE:Hid (m≠[]):=List.length_pos_iff.1 hm0;obtain⟨b,off,ea,hb,d0⟩:=HR.out.get 0 hm0;have hf:=HX.out _ (zc8 hm0);obtain⟨x0,hx0⟩:∃x,m.getD 0 0=x:=⟨_,rfl⟩;have HX0:Hid (m.getD 0 0=x0):=hx0;rw[hx0]at hf;rw[hx0,Nat.add_zero]at d0;have HF:Hid (FlO x0):=hf;have hor:=or_8i hf.1 hf.2.1 hf.2.2;have hf1:=hf.1;have hf2:=hf.2.1;have HSAME:Hid (∀j,j<m.length->(m.getD j 0).toNat=(m.getD 0 0).toNat->m.getD j 0=x0):=fun j hj e=>by
   have:=(HX.out _ (zc8 hj)).1;rw[hx0]at e;omega
  subst ea;clear hx0 hf;have g0:(0:Int)<(m.length:Int):=by omega
  have zdp:∀k,(some ⟨b,off,none⟩:OA).map (fun x=>x.add k)=some ⟨b,off+k,none⟩:=fun k=>by show some (Addr.add _ k)=_;rw[show(⟨b,off,none⟩:Addr).add k=⟨b,off+k,none⟩ by unfold Addr.add;split <;> simp_all]
  have zwo:Hid (∀k,k<=m.length->∀a2 c2,(k<m.length->a2=some ⟨b,off+k,none⟩)->c2=cap'-k->Ri wr a2 c2 (m.drop k)):=fun k hk a2 c2 h1 h2=>by
   by_cases hkm:k<m.length
   . rw[h1 hkm,h2]
     exact HR.out.drop k hk
   . rw[List.drop_eq_nil_of_le (by omega)]
     exact Ri.nil _ _ _ (by unfold maxLen;omega)
  clear zdp;obtain⟨wo,rfl⟩:∃wo,wo=wr:=⟨_,rfl⟩;by_cases h2:2<=m.length
  . have hc1:¬cap'=1:=by omega
    obtain⟨n,hn⟩:∃n,m.length-1=n:=⟨_,rfl⟩;have hn1:m.length<=n+1:=(by omega);have hn2:n+1<=m.length:=(by omega);obtain⟨cp,hcpp⟩:∃c,cap'-1=c:=⟨_,rfl⟩;have hcp1:cap'<=cp+1:=(by omega);have hcp2:cp+1<=cap':=(by omega);have i0:(1:Int)<=(m.length:Int):=by omega
    go_upto_block 2 with fail
    clear hn hcpp
    go_cut [5]from 14 to 28 (fun s5 wx=>∃k:Nat,s5=.int .i64 (k:Int)/\rn Int.toNat 256 m=k+1/\k<=n/\k<=255/\wo=wx)
    case first =>
     go_wp2_with fail
     go_loopw [5] (fun s5 wr=>∃k:Nat,k<=n/\k<=255/\s5=.int .i64 (k:Int)/\(∀j,j<k+1->m.getD j 0=x0)/\wo=wr) (fun s5 _=>n-(intOf s5).toNat)
     case atStart=>exact⟨0,qD _,by omega,rfl,(fun j hj=>by rw[show j=0 by omega];exact HX0.out),rfl⟩
     case round =>
      obtain⟨k,hk1,hkM,rfl,hsm,rfl⟩:=hrel;have HSM:Hid (∀j,j<k+1->m.getD j 0=x0):=hsm;have z30:Hid (∀j,j<k+1->(m.getD j 0).toNat=(m.getD 0 0).toNat):=fun j hj=>by rw[hsm j hj,HX0.out]
      clear hsm;obtain⟨mn,hmn⟩:∃c:Nat,min (n:Int) 255=(c:Int):=⟨min n 255,by omega⟩;have z17:(mn=n/\n<=255)\/(mn=255/\255<=n):=(by omega);by_cases h1:k<mn;rotate_left
      . have HRN:Hid (rn Int.toNat 256 m=k+1):=rn_eq (c:=Int.toNat) (M:=256) (by omega) (by omega) (by omega) z30.out (by omega)
        have g1:decide (k<mn)=false:=qB h1;clear HSM z30 h1 z17;go_wp2;go_meet;exact⟨k,rfl,HRN.out,hk1,hkM,rfl⟩
      obtain⟨b',off',ea',hb',d1⟩:=HR.out.get (k+1) (by omega);cases ea';obtain⟨x,hxk⟩:∃x,m.getD (k+1) 0=x:=⟨_,rfl⟩;rw[hxk,show off+(k+1)=off+1+k by omega]at d1;have g1:decide (k<mn)=true:=qC h1;have i1:(0:Int)<=(k:Int):=(by omega);have i2:(k:Int)<(n:Int):=(by omega);by_cases h3:x=x0
      . have zqc:Hid (∀j,j<k+1+1->m.getD j 0=x0):=fun j hj=>by
          rcases Nat.lt_or_ge j (k+1)with h4|h4
          . exact HSM.out j h4
          . rw[show j=k+1 by omega,hxk];exact h3
        have g2:(x==x0)=true:=(by simp[h3]);clear HSM z30 hxk h3;go_wp2;go_roundw
        case rel=>exact⟨k+1,by omega,by omega,by go_num,zqc.out,trivial⟩
        case measure=>simp[intOf];omega
      . have HRN:Hid (rn Int.toNat 256 m=k+1):=rn_eq (c:=Int.toNat) (M:=256) (by omega) (by omega) (by omega) z30.out (.inr (.inr (fun e=>h3 (by rw[<-hxk];exact HSAME.out (k+1) (by omega) e))))
        have g2:(x==x0)=false:=beq_eq_false_iff_ne.2 h3;clear HSM z30 hxk h3;go_wp2;go_meet;exact⟨k,rfl,HRN.out,hk1,hkM,rfl⟩
    case rest =>
     obtain⟨k,rfl,hrn,hk1,hkM,rfl⟩:=hcut;have i1:(0:Int)<=(k:Int):=(by omega);have i2:(k:Int)<=(n:Int):=(by omega);have HDL:Hid ((m.drop (k+1)).length=n-k):=(by show _=_;rw[qJ];omega);have HX2:Hid (∀x∈m.drop (k+1),FlO x):=fun x hx=>HX.out x (List.mem_of_mem_drop hx);have HRN:Hid (rn Int.toNat 256 m=k+1):=hrn;have zw1:(m.drop (k+1)).length<=1000:=(by rw[HDL.out];omega);clear hrn d0;by_cases hck:cp=k
     . have HCK:Hid (cp=k):=hck
       have HRI:Hid (Ri wo (some ⟨b,off+1,none⟩) 0 (m.drop (k+1))):=zwo.out (k+1) (by omega) _ _ (fun h=>absurd h (by have:=HCK.out;omega)) (by have:=HCK.out;omega);have HGF:Hid (∀b1 o,((some ⟨b,off+1,none⟩):OA)=some ⟨b1,o,none⟩->G b1):=fun b1 o e=>by cases e;exact HG.out b off rfl
       by_cases hk0:k=0
       . have HTT:Hid (zs++be1 x0++rl (m.drop (k+1))=tot):=by show _=_;rw[qI,<-HT.out,znc HNE.out (by rw[HRN.out,hk0]) (by rw[HX0.out];exact HF.out),HX0.out,hk0]
         have g3:((k:Int)==0)=true:=(by simp[hk0]);have hp:=zat B G _ x0 wo hP ⟨by omega,by omega⟩ (by show zs.length+4<=_;omega);rw[put8A (by omega) (by omega)]at hp;clear hP hk0 HT;go_wp2_with fail
         refine hp.mono ?_;rintro e u1 ⟨rfl,hP,hK1⟩;have HR2:Hid (Ri u1 (some ⟨b,off+1,none⟩) 0 (m.drop (k+1))):=HRI.out.kept hK1 HGF.out;replace hK:=hK.trans hK1;clear hp hK1;go_wp2;go_roundw
         case rel=>exact⟨m.drop (k+1),_,_,_,by rw[HDL.out],HR2.out,HGF.out,HTT.out,HX2.out,zw1,hP,hK⟩
         case measure=>show n-k<m.length;omega
       . have HTT:Hid (zs++be1 (x0+8)++be1 (k:Int)++rl (m.drop (k+1))=tot):=by show _=_;rw[qI,qI,<-HT.out,zq6 HNE.out HRN.out (by omega) (by omega) (by rw[HX0.out];exact HF.out),HX0.out]
         have g3:((k:Int)==0)=false:=(by simp;exact hk0);have hp:=zat B G _ (x0+8) wo hP ⟨by omega,by omega⟩ (by show zs.length+4<=_;omega);rw[put8A (by omega) (by omega)]at hp;obtain⟨z1,hz1⟩:∃z,zs++be1 (x0+8)=z:=⟨_,rfl⟩;have hzl1:z1.length<=20001:=(by rw[<-hz1,qA];show zs.length+1<=20001;omega);rw[hz1]at hp HTT;clear hP hk0 HT hz1;go_wp2_with fail
         refine hp.mono ?_;rintro e u1 ⟨rfl,hP,hK1⟩;clear hp;have hp:=zat B G _ (k:Int) u1 hP ⟨by omega,by omega⟩ (by show z1.length+4<=_;omega);rw[put8A (by omega) (by omega)]at hp;go_wp2_with fail
         refine hp.mono ?_;rintro e u2 ⟨rfl,hP2,hK2⟩;have HR2:Hid (Ri u2 (some ⟨b,off+1,none⟩) 0 (m.drop (k+1))):=HRI.out.kept (hK1.trans hK2) HGF.out;replace hK:=(hK.trans hK1).trans hK2;clear hp hK1 hK2 hP;go_wp2;go_roundw
         case rel=>exact⟨m.drop (k+1),_,_,_,by rw[HDL.out],HR2.out,HGF.out,HTT.out,HX2.out,zw1,hP2,hK⟩
         case measure=>show n-k<m.length;omega
     . have hckn:¬cp=k:=hck
       have HRI:Hid (Ri wo (some ⟨b,off+1+k,none⟩) (cp-k) (m.drop (k+1))):=zwo.out (k+1) (by omega) _ _ (fun h=>by rw[show off+1+k=off+(k+1) by omega]) (by omega);have HGF:Hid (∀b1 o,((some ⟨b,off+1+k,none⟩):OA)=some ⟨b1,o,none⟩->G b1):=fun b1 o e=>by cases e;exact HG.out b off rfl
       by_cases hk0:k=0
       . have HTT:Hid (zs++be1 x0++rl (m.drop (k+1))=tot):=by show _=_;rw[qI,<-HT.out,znc HNE.out (by rw[HRN.out,hk0]) (by rw[HX0.out];exact HF.out),HX0.out,hk0]
         have g3:((k:Int)==0)=true:=(by simp[hk0]);have hp:=zat B G _ x0 wo hP ⟨by omega,by omega⟩ (by show zs.length+4<=_;omega);rw[put8A (by omega) (by omega)]at hp;clear hP hk0 HT;go_wp2_with fail
         refine hp.mono ?_;rintro e u1 ⟨rfl,hP,hK1⟩;have HR2:Hid (Ri u1 (some ⟨b,off+1+k,none⟩) (cp-k) (m.drop (k+1))):=HRI.out.kept hK1 HGF.out;replace hK:=hK.trans hK1;clear hp hK1;go_wp2;go_roundw
         case rel=>exact⟨m.drop (k+1),_,_,_,by rw[HDL.out],HR2.out,HGF.out,HTT.out,HX2.out,zw1,hP,hK⟩
         case measure=>show n-k<m.length;omega
       . have HTT:Hid (zs++be1 (x0+8)++be1 (k:Int)++rl (m.drop (k+1))=tot):=by show _=_;rw[qI,qI,<-HT.out,zq6 HNE.out HRN.out (by omega) (by omega) (by rw[HX0.out];exact HF.out),HX0.out]
         have g3:((k:Int)==0)=false:=(by simp;exact hk0);have hp:=zat B G _ (x0+8) wo hP ⟨by omega,by omega⟩ (by show zs.length+4<=_;omega);rw[put8A (by omega) (by omega)]at hp;obtain⟨z1,hz1⟩:∃z,zs++be1 (x0+8)=z:=⟨_,rfl⟩;have hzl1:z1.length<=20001:=(by rw[<-hz1,qA];show zs.length+1<=20001;omega);rw[hz1]at hp HTT;clear hP hk0 HT hz1;go_wp2_with fail
         refine hp.mono ?_;rintro e u1 ⟨rfl,hP,hK1⟩;clear hp;have hp:=zat B G _ (k:Int) u1 hP ⟨by omega,by omega⟩ (by show z1.length+4<=_;omega);rw[put8A (by omega) (by omega)]at hp;go_wp2_with fail
         refine hp.mono ?_;rintro e u2 ⟨rfl,hP2,hK2⟩;have HR2:Hid (Ri u2 (some ⟨b,off+1+k,none⟩) (cp-k) (m.drop (k+1))):=HRI.out.kept (hK1.trans hK2) HGF.out;replace hK:=(hK.trans hK1).trans hK2;clear hp hK1 hK2 hP;go_wp2;go_roundw
         case rel=>exact⟨m.drop (k+1),_,_,_,by rw[HDL.out],HR2.out,HGF.out,HTT.out,HX2.out,zw1,hP2,hK⟩
         case measure=>show n-k<m.length;omega
  . have hm1:m.length=1:=by omega
    have HDL:Hid ((m.drop 1).length=0):=(by show _=_;rw[qJ];omega);have zw1:(m.drop 1).length<=1000:=(by rw[HDL.out];omega);have HX2:Hid (∀x∈m.drop 1,FlO x):=fun x hx=>HX.out x (List.mem_of_mem_drop hx);have HRN:Hid (rn Int.toNat 256 m=1):=rn_eq (c:=Int.toNat) (M:=256) (by omega) (by omega) (by omega) (fun j hj=>by rw[show j=0 by omega]) (.inr (.inl hm1.symm));rw[hm1];have hm2:m.length<=1:=(by omega);clear hm1 g0;by_cases hc1:cap'=1
    . subst hc1
      have HRI:Hid (Ri wo (some ⟨b,off,none⟩) 0 (m.drop 1)):=zwo.out 1 (by omega) _ _ (fun h=>absurd h (by omega)) (by omega);have HGF:Hid (∀b1 o,((some ⟨b,off,none⟩):OA)=some ⟨b1,o,none⟩->G b1):=fun b1 o e=>by cases e;exact HG.out b off rfl
      have HTT:Hid (zs++be1 x0++rl (m.drop 1)=tot):=(by show _=_;rw[qI,<-HT.out,znc HNE.out HRN.out (by rw[HX0.out];exact HF.out),HX0.out]);have hp:=zat B G _ x0 wo hP ⟨by omega,by omega⟩ (by show zs.length+4<=_;omega);rw[put8A (by omega) (by omega)]at hp;have hmn:min (0:Int) 255=0:=(by decide);clear hP HT;go_wp2
      go_loopw [5] (fun s5 wr=>s5=.int .i64 0/\wo=wr) (fun s5 _=>0)
      case atStart=>exact⟨rfl,rfl⟩
      case round =>
       obtain⟨rfl,rfl⟩:=hrel;go_wp2_with fail
       refine hp.mono ?_;rintro e u1 ⟨rfl,hP,hK1⟩;have HR2:Hid (Ri u1 (some ⟨b,off,none⟩) 0 (m.drop 1)):=HRI.out.kept hK1 HGF.out;replace hK:=hK.trans hK1;clear hp hK1;go_wp2;go_roundw
       case rel=>exact⟨m.drop 1,_,_,_,by rw[HDL.out],HR2.out,HGF.out,HTT.out,HX2.out,zw1,hP,hK⟩
       case measure=>show 0<1;decide
    . have hc2:¬cap'-1=0:=by omega
      have HRI:Hid (Ri wo (some ⟨b,off+1,none⟩) (cap'-1) (m.drop 1)):=zwo.out 1 (by omega) _ _ (fun h=>absurd h (by omega)) (by omega);have HGF:Hid (∀b1 o,((some ⟨b,off+1,none⟩):OA)=some ⟨b1,o,none⟩->G b1):=fun b1 o e=>by cases e;exact HG.out b off rfl
      have HTT:Hid (zs++be1 x0++rl (m.drop 1)=tot):=(by show _=_;rw[qI,<-HT.out,znc HNE.out HRN.out (by rw[HX0.out];exact HF.out),HX0.out]);have hp:=zat B G _ x0 wo hP ⟨by omega,by omega⟩ (by show zs.length+4<=_;omega);rw[put8A (by omega) (by omega)]at hp;have hmn:min (0:Int) 255=0:=(by decide);clear hP HT;go_wp2
      go_loopw [5] (fun s5 wr=>s5=.int .i64 0/\wo=wr) (fun s5 _=>0)
      case atStart=>exact⟨rfl,rfl⟩
      case round =>
       obtain⟨rfl,rfl⟩:=hrel;go_wp2_with fail
       refine hp.mono ?_;rintro e u1 ⟨rfl,hP,hK1⟩;have HR2:Hid (Ri u1 (some ⟨b,off+1,none⟩) (cap'-1) (m.drop 1)):=HRI.out.kept hK1 HGF.out;replace hK:=hK.trans hK1;clear hp hK1;go_wp2;go_roundw
       case rel=>exact⟨m.drop 1,_,_,_,by rw[HDL.out],HR2.out,HGF.out,HTT.out,HX2.out,zw1,hP,hK⟩
       case measure=>show 0<1;decide
theorem Pc.wide'{w w':World}{B:Nat}{G:Nat->Prop}{s:St}(h:Pc w B G s)(hb:Below w.heap.size w w'):∃G':Nat->Prop,Pc w' B G' s/\(∀k,G k->G' k)/\(∀k,w.heap.size<=k->k<w'.heap.size->G' k) :=
 ⟨_,h.wider hb,fun k hk=>.inl hk,fun k h1 h2=>.inr ⟨h1,h2⟩⟩
theorem z3f(l:List Pn):diB l=((stX l).all fdB&&(stY l).all fdB):=by
 unfold diB stX stY;rw[List.all_map,List.all_map]
 induction difs 0 0 l with
 | nil=>rfl
 | cons t r ih =>
  simp only[List.all_cons,ih,Function.comp];generalize fdB t.1=a;generalize fdB t.2.1=b;generalize r.all _=c;generalize r.all _=d;cases a <;> cases b <;> cases c <;> cases d <;> rfl
theorem z3k(cs:List (List Pn)):coB cs=[]++be2 (cs.length:Int)++(endF 0 cs).flatMap be2++rl (flL cs.flatten)++(stX cs.flatten).flatMap axB++(stY cs.flatten).flatMap axB:=by
 unfold coB stX stY;rw[List.flatMap_map,List.flatMap_map];simp only[qI,List.nil_append]
theorem flL_O(l:List Pn):∀x∈flL l,FlO x:=by
 intro x hx;unfold flL at hx;obtain⟨t,_,rfl⟩:=List.mem_map.1 hx;obtain⟨b1,b2,_⟩:=zgp t;exact⟨by omega,by omega,by rw[Int.toNat_natCast];exact b2⟩
theorem zxo{l:LI}(h:l.all fdB=true):∀x∈l,-32768<=x/\x<=32767:=fun x hx=>zbc.1 (List.all_eq_true.1 h x hx)
theorem zf0(S:Nat->Prop)(a:OA)(ca:Nat)(b:OA)(cb:Nat)(o:Ol)(w:World)(hc:Gr PnE.row S w a ca o.cs)(hp:Gr PaE S w b cb o.ps) :
 Calls Tryz.prog 77 #[.agg #[.slice a o.cs.length ca,.slice b o.ps.length cb]] w fun e w'=>∃a' c',e=.returned (.tuple #[.slice a' (wrOB o).length c',.int .i64 (wrOE o)])/\Rw 5 w.heap.size w' a' c' (wrOB o)/\Below w.heap.size w w':=by
 have k1:=hc.lenB;have k2:=hp.lenB;obtain⟨W,hW,X1,hbW⟩:∃W,W=w.alloc (.cells #[.slice a o.cs.length ca,.slice b o.ps.length cb] 57)/\Bk 57 W w.heap.size [.slice a o.cs.length ca,.slice b o.ps.length cb]/\Below w.heap.size w W:=⟨_,rfl,Bk.new _ _ _,bl1 _⟩;have HC:Hid (Gr PnE.row S w a ca o.cs):=hc;have HP:Hid (Gr PaE S w b cb o.ps):=hp;have hfo:=zi2 S a ca b cb o W (hc.below hbW) (hp.below hbW);obtain⟨x0,x1,_⟩:=X1.two;clear hc hp;cases hf:foB o with
 | false =>
  have HE:Hid (wrOE o=1/\wrOB o=[]):=⟨by simp[wrOE,hf],by simp[wrOB,hf]⟩;rw[hf]at hfo;clear hf X1;go_enter func77,ntmps77;go_wp2_with fail
  rw[<-hW];clear hW;refine hfo.mono ?_;rintro e u1 ⟨rfl,hb1⟩;replace hbW:Below w.heap.size w u1:=hbW.trans (hb1.mono hbW.size);clear hfo x0 x1;go_wp2;go_ret2;exact⟨none,0,by rw[HE.out.1,HE.out.2];rfl,by rw[HE.out.2];exact Rw.nil _ _,hbW⟩
 | true =>
 obtain⟨f1,f2,f3,f4,f5,f6,f7⟩:=zbg.1 hf;rw[hf]at hfo;go_enter func77,ntmps77;go_wp2_with fail
 rw[<-hW];clear hW;refine hfo.mono ?_;rintro e u1 ⟨rfl,hb1⟩;replace hbW:Below w.heap.size w u1:=hbW.trans (hb1.mono hbW.size);replace X1:=X1.below hb1;clear hfo x0 x1 hb1;have hgs:w.heap.size<u1.heap.size:=X1.lt;obtain⟨V,hV,hPg,hbV⟩:∃V,V=u1.alloc (.cells #[.slice none 0 0,.int .i64 0,.map none,.bool false] 90)/\Pc V u1.heap.size (· < u1.heap.size) ⟨[],[],false⟩/\Below u1.heap.size u1 V:=⟨_,rfl,zjn u1 _ (fun _ h=>h),bl1 _⟩;obtain⟨y0,y1,_⟩:=X1.two;replace X1:=X1.below hbV;replace hbW:Below w.heap.size w V:=hbW.trans (hbV.mono hbW.size);obtain⟨x0,x1,_⟩:=X1.two;by_cases hps:0<o.ps.length
 . have HE:Hid (wrOE o=0/\wrOB o=paB o.ps):=by
     constructor
     . simp[wrOE,hf,show ¬o.ps.length=0 by omega]
     . simp[wrOB,hf,show ¬o.ps.length=0 by omega]
   have g1:(0:Int)<(o.ps.length:Int):=(by omega)
   have hpp:=zj5 S u1.heap.size (· < u1.heap.size) b cb o.ps V hPg (HP.out.below hbW) (fun b' o' e hne=>by
    obtain⟨b2,o2,e2,h2⟩:=HP.out.blk hne;rw[e]at e2;cases e2
    exact Nat.lt_trans h2 hgs) f7 f3
   have hpl:=(zj8 o.ps).2;clear hf f1 f2 f4 f5 f6 f7 X1 hPg;go_wp2_with fail
   rw[<-hV];clear hV;refine hpp.mono ?_;rintro e u2 ⟨rfl,hP2,hK2⟩;replace hbW:Below w.heap.size w u2:=hbW.trans (hK2.below (fun k hk=>Nat.lt_trans hk hgs));clear hpp hK2 x0 x1 y0 y1;have hal:=zfn u1.heap.size _ _ u2 hP2 (by show(paB o.ps).length<=_;omega);rw[all_B,all_E,<-HE.out.2]at hal;clear hP2;go_wp2_with fail
   refine hal.mono ?_;rintro e u4 ⟨a4,c4,rfl,hrw,hb4⟩;clear hal;have z0z:Hid (w.heap.size<=_):=hbW.size;replace hbW:Below w.heap.size w u4:=hbW.trans (hb4.mono hbW.size);go_wp2;go_ret2;exact⟨a4,c4,by rw[HE.out.1];rfl,hrw.mono z0z.out,hbW⟩
 have z13:o.ps.length=0:=by omega
 have g1:¬(0:Int)<(o.ps.length:Int):=by omega
 have HNO:Hid (diB o.cs.flatten=false->wrOE o=4/\wrOB o=[]):=fun hd=>⟨by simp[wrOE,hf,z13,hd],by simp[wrOB,hf,z13,hd]⟩;have HYE:Hid (diB o.cs.flatten=true->wrOE o=0/\wrOB o=coB o.cs):=fun hd=>⟨by simp[wrOE,hf,z13,hd],by simp[wrOB,hf,z13,hd]⟩;have HDI:Hid (_):=z3f o.cs.flatten;have HCO:Hid (_):=z3k o.cs;have hco:=(zms o.cs).2;have HEN:Hid (∀x∈endF 0 o.cs,-32768<=x/\x<=65535):=fun x hx=>by have:=zme o.cs 0 (Int.le_refl _) f4 x hx;omega
 have hel:(endF 0 o.cs).length<=10:=by rw[zck];exact f2
 have HPF:Hid (∀k,k<o.cs.flatten.length->PnF (o.cs.flatten.getD k Pn.none)):=fun k hk=>f6 _ (zbm hk);have hpt:=zdt S a ca (.slice b o.ps.length cb) o.cs V (HC.out.below hbW) (by omega) rfl;have zpi:=fun U (h:Below w.heap.size w U)=>ztp S a ca (.slice b o.ps.length cb) o.cs U (HC.out.below h) (by omega) (by omega) rfl;clear f1 f3 f4 f6 f7 hps hf z13;have hflo:=flL_O o.cs.flatten;have HFLO:Hid (∀x∈flL o.cs.flatten,FlO x):=hflo;have hfll:(flL o.cs.flatten).length<=80:=by rw[zfk];exact f5
 have hxl:(stX o.cs.flatten).length<=80:=by rw[zhe];exact f5
 have hyl:(stY o.cs.flatten).length<=80:=by rw[zhd];exact f5
 rw[HCO.out]at hco;clear hflo;generalize o.cs.flatten=L at *;generalize endF 0 o.cs=E at *;go_wp2_with fail
 rw[<-hV];clear hV;refine hpt.mono ?_;rintro e u2 ⟨a2,c2,rfl,hg2,hbk2,hb2⟩;obtain⟨G2,hP2,hG2a,hG2b⟩:=hPg.wide' hb2;replace hbW:Below w.heap.size w u2:=hbW.trans (hb2.mono hbW.size);replace X1:=X1.below hb2;have hV2:=hb2.size;have hG2w:∀k,k<u1.heap.size->G2 k:=fun k hk=>hG2a k hk;have hG2p:∀b o,a2=some ⟨b,o,none⟩->G2 b:=fun b o e=>hG2b b (hbk2 b o e).1 (hbk2 b o e).2;clear hpt hb2 x0 x1 y0 y1 hPg hbV hbk2 hG2a hG2b;have hst:=zpt _ a2 c2 L u2 hg2 (by omega) HPF.out;go_wp2_with fail
 refine hst.mono ?_;rintro e u3 ⟨a3,c3,a4,c4,rfl,hr3,hr4,hbk3,z0w,hb3⟩;obtain⟨G3,hP3,hG3a,hG3b⟩:=hP2.wide' hb3;replace hbW:Below w.heap.size w u3:=hbW.trans (hb3.mono hbW.size);replace X1:=X1.below hb3;replace hg2:=hg2.below hb3;have hG3w:∀k,k<u1.heap.size->G3 k:=fun k hk=>hG3a k (hG2w k hk);have hG3p:∀b o,a2=some ⟨b,o,none⟩->G3 b:=fun b o e=>hG3a b (hG2p b o e);have hG3x:∀b o,a3=some ⟨b,o,none⟩->G3 b:=fun b o e=>hG3b b (hbk3 b o e).1 (hbk3 b o e).2;have hG3y:∀b o,a4=some ⟨b,o,none⟩->G3 b:=fun b o e=>hG3b b (z0w b o e).1 (z0w b o e).2;clear hst hb3 hP2 hG2w hG2p hG3a hG3b hbk3 z0w;have hfx:=zda a3 c3 (stX L) u3 hr3;have hfy:=zda a4 c4 (stY L) u3 hr4;cases hdx:(stX L).all fdB with
 | false =>
  have HE:Hid (wrOE o=4/\wrOB o=[]):=HNO.out (by rw[HDI.out,hdx,Bool.false_and]);rw[hdx]at hfx;clear hdx hfy HNO HYE HDI HCO HEN HPF zpi;go_wp2_with fail
  refine hfx.mono ?_;rintro e v ⟨rfl,rfl⟩;clear hfx;go_wp2;go_ret2;exact⟨none,0,by rw[HE.out.1,HE.out.2];rfl,by rw[HE.out.2];exact Rw.nil _ _,hbW⟩
 | true =>
 have HFX:Hid (_):=zxo hdx;cases hdy:(stY L).all fdB with
 | false =>
  have HE:Hid (wrOE o=4/\wrOB o=[]):=HNO.out (by rw[HDI.out,hdy,Bool.and_false]);rw[hdx]at hfx;rw[hdy]at hfy;clear hdx hdy HNO HYE HDI HCO HEN HPF zpi HFX;go_wp2_with fail
  refine hfx.mono ?_;rintro e v ⟨rfl,rfl⟩;clear hfx;go_wp2_with fail
  refine hfy.mono ?_;rintro e v ⟨rfl,rfl⟩;clear hfy;go_wp2;go_ret2;exact⟨none,0,by rw[HE.out.1,HE.out.2];rfl,by rw[HE.out.2];exact Rw.nil _ _,hbW⟩
 | true =>
 have HE0:Hid (wrOE o=0/\wrOB o=coB o.cs):=HYE.out (by rw[HDI.out,hdx,hdy];rfl);have HE:Hid (wrOE o=0/\wrOB o=[]++be2 (o.cs.length:Int)++E.flatMap be2++rl (flL L)++(stX L).flatMap axB++(stY L).flatMap axB):=⟨HE0.out.1,by rw[HE0.out.2,HCO.out]⟩;have HFY:Hid (_):=zxo hdy;rw[hdx]at hfx;rw[hdy]at hfy;clear hdx hdy HNO HYE HDI HCO HPF HE0;go_wp2_with fail
 refine hfx.mono ?_;rintro e v ⟨rfl,rfl⟩;clear hfx;go_wp2_with fail
 refine hfy.mono ?_;rintro e v ⟨rfl,rfl⟩;clear hfy;obtain⟨x0,x1,_⟩:=X1.two;have hp4:=zap u1.heap.size G3 _ (o.cs.length:Int) u3 hP3 ⟨by omega,by omega⟩ (by show 0+4<=1048576;decide);rw[zb0 (by omega) (by omega)]at hp4;obtain⟨y1,hy1⟩:∃y,([]:LN)++be2 (o.cs.length:Int)=y:=⟨_,rfl⟩;have hyl1:y1.length<=2:=by rw[<-hy1];exact qE _
 rw[hy1]at hp4 HE hco;clear hP3 hy1;go_wp2_with fail
 refine hp4.mono ?_;rintro e u4 ⟨rfl,hP4,hK4⟩;have z0w:Below u1.heap.size u3 u4:=hK4.below hG3w;have z0z:Hid (w.heap.size<=_):=hbW.size;replace hbW:Below w.heap.size w u4:=hbW.trans (z0w.mono (Nat.le_of_lt hgs));replace X1:=X1.kept hK4 (hG3w _ hgs);replace hg2:=hg2.keptP hK4 (fun b o e _=>hG3p b o e);replace hr3:=hr3.kept hK4 hG3x;replace hr4:=hr4.kept hK4 hG3y;clear hp4 x0 x1 hK4 z0w;obtain⟨x0,x1,_⟩:=X1.two;replace zpi:=zpi u4 hbW;go_wp2_with fail
 refine zpi.mono ?_;rintro e u5 ⟨a5,c5,rfl,hr5,hbk5,hb5⟩;obtain⟨G5,hP5,z2w,hG5b⟩:=hP4.wide' hb5;replace hbW:Below w.heap.size w u5:=hbW.trans (hb5.mono hbW.size);replace hg2:=hg2.below hb5;replace hr3:=hr3.below hb5;replace hr4:=hr4.below hb5;have hG5w:∀k,k<u1.heap.size->G5 k:=fun k hk=>z2w k (hG3w k hk);have hG5p:∀b o,a2=some ⟨b,o,none⟩->G5 b:=fun b o e=>z2w b (hG3p b o e);have hG5x:∀b o,a3=some ⟨b,o,none⟩->G5 b:=fun b o e=>z2w b (hG3x b o e);have hG5y:∀b o,a4=some ⟨b,o,none⟩->G5 b:=fun b o e=>z2w b (hG3y b o e);have hG5e:∀b o,a5=some ⟨b,o,none⟩->G5 b:=fun b o e=>hG5b b (hbk5 b o e).1 (hbk5 b o e).2;have HR5:Hid (Ri u5 a5 c5 E):=hr5;have HP5:Hid (Pc u5 u1.heap.size G5 ⟨y1,[],false⟩):=hP5;have HG2:Hid (Gr PnE (fun _=>True) u5 a2 c2 L):=hg2;have HR3:Hid (Ri u5 a3 c3 (stX L)):=hr3;have HR4:Hid (Ri u5 a4 c4 (stY L)):=hr4;have HBW:Hid (Below w.heap.size w u5):=hbW;have HW5:Hid ((∀k,k<u1.heap.size->G5 k)/\(∀b o,a2=some ⟨b,o,none⟩->G5 b)/\(∀b o,a3=some ⟨b,o,none⟩->G5 b)/\(∀b o,a4=some ⟨b,o,none⟩->G5 b)/\(∀b o,a5=some ⟨b,o,none⟩->G5 b)):=⟨hG5w,hG5p,hG5x,hG5y,hG5e⟩;clear zpi hb5 hP4 hG3w hG3p hG3x hG3y z2w hG5b hbk5 X1 x0 x1 hr5 hP5 hg2 hr3 hr4 hbW hG5w hG5p hG5x hG5y hG5e;go_wp2
 go_loopw [50] (fun i wr=>∃k:Nat,k<=E.length/\i=.int .i64 k/\Pc wr u1.heap.size G5 ⟨y1++(E.take k).flatMap be2,[],false⟩/\Keep G5 u5 wr) (fun i _=>E.length-(intOf i).toNat)
 case atStart=>exact⟨0,qD _,rfl,by simpa using HP5.out,Keep.refl _ _⟩
 case round =>
  clear HP5;obtain⟨k,hk,rfl,hP,hK⟩:=hrel;by_cases hkn:k<E.length
  . obtain⟨b5,off5,ea,hb5,d0⟩:=(HR5.out.kept hK HW5.out.2.2.2.2).get k hkn
    have hx:=HEN.out _ (zc8 hkn);obtain⟨x,hx0⟩:∃x,E.getD k 0=x:=⟨_,rfl⟩;have HS:Hid (_):=ze8 (f:=be2) hkn hx0;have hle:((E.take k).flatMap be2).length<=2*E.length:=zet (fun x=>by simp[be2]) E k;rw[hx0]at d0 hx;subst ea;clear hx0;obtain⟨zs,hzs⟩:∃zs,(E.take k).flatMap be2=zs:=⟨_,rfl⟩;rw[hzs]at HS hle hP;have HT:Hid (y1++zs++be2 x=y1++(E.take (k+1)).flatMap be2):=(by show _=_;rw[HS.out,qI]);clear hzs HS;have hp:=zap u1.heap.size G5 _ x wr hP ⟨by omega,by omega⟩ (by show(y1++zs).length+4<=_;rw[qA];omega);rw[zb0 hx.1 hx.2,HT.out]at hp;have i1:(0:Int)<=(k:Int):=(by omega);have i2:(k:Int)<(E.length:Int):=(by omega);clear hP hx HT;go_wp2_with fail
    refine hp.mono ?_;rintro e v1 ⟨rfl,hP,hK1⟩;replace hK:=hK.trans hK1;clear hp hK1;go_wp2;go_roundw
    case rel=>exact⟨k+1,by omega,by go_num,hP,hK⟩
    case measure=>simp[intOf];omega
  . obtain rfl:k=E.length:=by omega
    rw[List.take_length]at hP;obtain⟨y2,hy2⟩:∃y,y1++E.flatMap be2=y:=⟨_,rfl⟩;have hyl2:y2.length<=22:=by
     rw[<-hy2,qA];have:=zfa (f:=be2) (fun x=>by simp[be2]) E;omega
    rw[hy2]at hP HE hco;have g2:¬(E.length:Int)<(E.length:Int):=(by omega);have hg2:=HG2.out.keptP hK (fun b o e _=>HW5.out.2.1 b o e);have hr3:=HR3.out.kept hK HW5.out.2.2.1;have hr4:=HR4.out.kept hK HW5.out.2.2.2.1;have hbW:Below w.heap.size w wr:=HBW.out.trans (hK.below (fun k hk=>HW5.out.1 k (Nat.lt_trans hk hgs)));clear hy2 HR5 HG2 HR3 HR4 hK HBW HEN hkn hk;have hfl:=zp0 _ a2 c2 a3 c3 a4 c4 L wr hg2 hr3 hr4 (by omega);go_wp2_with fail
    refine hfl.mono ?_;rintro e u6 ⟨a6,c6,rfl,hr6,hbk6,hb6⟩;obtain⟨G6,hP6,hG6a,hG6b⟩:=hP.wide' hb6;replace hbW:Below w.heap.size w u6:=hbW.trans (hb6.mono hbW.size);replace hr3:=hr3.below hb6;replace hr4:=hr4.below hb6;have hG6w:∀k,k<u1.heap.size->G6 k:=fun k hk=>hG6a k (HW5.out.1 k hk);have hG6x:∀b o,a3=some ⟨b,o,none⟩->G6 b:=fun b o e=>hG6a b (HW5.out.2.2.1 b o e);have hG6y:∀b o,a4=some ⟨b,o,none⟩->G6 b:=fun b o e=>hG6a b (HW5.out.2.2.2.1 b o e);have hG6f:∀b o,a6=some ⟨b,o,none⟩->G6 b:=fun b o e=>hG6b b (hbk6 b o e).1 (hbk6 b o e).2;clear hfl hP hg2 hb6 hG6a hG6b hbk6 HW5;have hco3:(y2++rl (flL L)).length<=20000:=(by simp only[qA]at hco ⊢;omega);have hpf:=zj6 u1.heap.size G6 y2 a6 c6 (flL L) u6 hP6 hr6 hG6f HFLO.out hco3 (by omega);obtain⟨y3,hy3⟩:∃y,y2++rl (flL L)=y:=⟨_,rfl⟩;rw[hy3]at hpf HE hco hco3;clear hP6 hr6 hG6f hy3 hyl2;go_wp2_with fail
    refine hpf.mono ?_;rintro e u7 ⟨rfl,hP7,hK7⟩;replace hbW:Below w.heap.size w u7:=hbW.trans (hK7.below (fun k hk=>hG6w k (Nat.lt_trans hk hgs)));replace hr3:=hr3.kept hK7 hG6x;replace hr4:=hr4.kept hK7 hG6y;clear hpf hK7;have hps1:=zfb u1.heap.size G6 y3 a3 c3 (stX L) u7 hP7 hr3 hG6x HFX.out (by omega);obtain⟨y4,hy4⟩:∃y,y3++(stX L).flatMap axB=y:=⟨_,rfl⟩;have hyl4:y4.length<=20400:=by
     rw[<-hy4,qA];have:=zfa zdv (stX L);omega
    rw[hy4]at hps1 HE hco;clear hP7 hy4;go_wp2_with fail
    refine hps1.mono ?_;rintro e u8 ⟨rfl,hP8,hK8⟩;replace hbW:Below w.heap.size w u8:=hbW.trans (hK8.below (fun k hk=>hG6w k (Nat.lt_trans hk hgs)));replace hr4:=hr4.kept hK8 hG6y;clear hps1 hK8 hr3;have hps2:=zfb u1.heap.size G6 y4 a4 c4 (stY L) u8 hP8 hr4 hG6y HFY.out (by omega);rw[<-HE.out.2]at hps2 hco;clear hP8;go_wp2_with fail
    refine hps2.mono ?_;rintro e u9 ⟨rfl,hP9,hK9⟩;replace hbW:Below w.heap.size w u9:=hbW.trans (hK9.below (fun k hk=>hG6w k (Nat.lt_trans hk hgs)));clear hps2 hK9 hr4;have hal:=zfn u1.heap.size _ _ u9 hP9 (by show(wrOB o).length<=_;omega);rw[all_B,all_E]at hal;clear hP9;go_wp2_with fail
    refine hal.mono ?_;rintro e t4 ⟨a9,c9,rfl,hrw,hb9⟩;clear hal;have z0z:Hid (w.heap.size<=_):=hbW.size;replace hbW:Below w.heap.size w t4:=hbW.trans (hb9.mono hbW.size);go_wp2;go_ret2;exact⟨a9,c9,by rw[HE.out.1];rfl,hrw.mono z0z.out,hbW⟩
theorem zmg(S:Nat->Prop)(a:OA)(ca:Nat)(b:OA)(cb:Nat)(o:Ol)(w:World)(hc:Gr PnE.row S w a ca o.cs)(hp:Gr PaE S w b cb o.ps) :
 Calls Tryz.prog 77 #[.agg #[.slice a o.cs.length ca,.slice b o.ps.length cb]] w fun e w'=>∃a' c',e=.returned (.tuple #[.slice a' (wrOB o).length c',.int .i64 (wrOE o)])/\Rb w' a' c' (wrOB o)/\Below w.heap.size w w' :=
 (zf0 S a ca b cb o w hc hp).mono (fun e w' ⟨a',c',h1,h2,h3⟩=>⟨a',c',h1,h2.rd,h3⟩)
theorem Rw.lo15{e:TypeId}{base:Nat}{w:World}{a:OA}{cap:Nat}{xs:LN}(h:Rw e base w a cap xs):∀b o,a=some ⟨b,o,none⟩->base<=b:=by
 intro b o ea;rcases h.2.2 with h2|⟨g,c,cur,e2,hg,_⟩
 . rw[ea]at h2
   cases h2.1
 . rw[ea]at e2
   cases e2;exact hg
theorem Rw.lt15{e:TypeId}{base:Nat}{w:World}{a:OA}{cap:Nat}{xs:LN}(h:Rw e base w a cap xs):∀b o,a=some ⟨b,o,none⟩->b<w.heap.size:=by
 intro b o ea;subst ea;exact(h.2.lt b rfl).2
