import Derived.Test.YtkmcodofnckdmaaGreatZK19
set_option maxHeartbeats 4000000
set_option maxRecDepth 100000
set_option linter.unusedSimpArgs false
set_option linter.unusedVariables false
namespace Go.Proofs.YtkmcodofnckdmaaGreat
open Tryz Go.RowKit Go.Maps
theorem zmy(z:Nat)(w:World)(h:z<2147483648) :
 Calls Tryz.prog 112 #[.int .i64 (z:Int)] w fun e w'=>∃x1 x2 x3 y1 y2 y3,e=.returned (.agg #[.bool false,.slice x1 x2 x3,.slice y1 y2 y3])/\W1E.rep (fun k=>w.heap.size<=k) w' [.bool false,.slice x1 x2 x3,.slice y1 y2 y3] z/\Below w.heap.size w w':=by
 have gz:¬(z:Int)<0:=by omega
 go_enter func112,ntmps112;go_wp2_with fail
 refine(zzb (z:Int) _ (by omega) (by omega)).mono ?_;rintro e u ⟨rfl,rfl⟩;go_wp2_with fail
 refine(ziu (z:Int).natAbs _ (by omega)).mono ?_;rintro e u1 ⟨a1,c1,xs,rfl,hv1,ht1,hr1,hb1⟩;obtain⟨B1,hbW⟩:=zon hb1;have rx:=hr1.rd;have S1:Hid (∀b o,a1=some ⟨b,o,none⟩->xs≠[]->w.heap.size<=b):=fun b o e hne=>by
  rcases hr1.blk with h|⟨g,e2,hg,_⟩
  . exact absurd h hne
  . rw[e]at e2
    cases e2;simp at hg;omega
 clear hr1 hb1;go_wp2_with fail
 refine(ziu 1 _ (by omega)).mono ?_;rintro e u2 ⟨a2,c2,ys,rfl,hv2,ht2,hr2,hb2⟩;have ry:=hr2.rd;have S2:Hid (∀b o,a2=some ⟨b,o,none⟩->ys≠[]->w.heap.size<=b):=fun b o e hne=>by
  rcases hr2.blk with h|⟨g,e2,hg,_⟩
  . exact absurd h hne
  . rw[e]at e2
    cases e2;have:=hbW.size;omega
 replace rx:=rx.below hb2;replace B1:=B1.below hb2;replace hbW:Below w.heap.size w u2:=hbW.trans (hb2.mono hbW.size);clear hr2 hb2;obtain⟨q1,q2,q3,q4,q5,q6⟩:=B1.cells;have hs:=B1.lt;go_wp2;refine ret3 (v:=.agg #[.bool false,.slice a1 xs.length c1,.slice a2 ys.length c2]) B1 rfl (fun U hU=>by obtain⟨r1,r2,r3,_⟩:=hU.cells;simp[results,results112,go_sem,r1,r2,r3]) (fun U hU hK=>⟨_,_,_,_,_,_,rfl,⟨a1,c1,xs,a2,c2,ys,rfl,hK _ _ _ rx,hK _ _ _ ry,ht1,ht2,by rw[hv1];omega,hv2,S1.out,S2.out⟩,hU _ _ hbW (by omega)⟩)
theorem Bk.one{t:TypeId}{w:World}{g:Nat}{x:Value}(h:Bk t w g [x]):w.cell? ⟨g,0,none⟩=some x/\w.frozen? ⟨g,0,none⟩=false:=⟨h.cell 0 (by simp),h.fz 0⟩
theorem awS{N n:Nat}{w:World}{vs:LV}{z:Nat}(h:W1E.rep (fun k=>n<=k) w vs z)(hN:N<=n):W1E.rep (fun k=>N<=k) w vs z:=W1E.stay h (qE _) (fun k hk _=>⟨qF hN hk,rfl⟩)
theorem awRow{N:Nat}{u1:World}{x1:OA}{x2 x3:Nat}{y1:OA}{y2 y3 z:Nat}(hr:W1E.rep (fun k=>N<=k) u1 [.bool false,.slice x1 x2 x3,.slice y1 y2 y3] z)(hN:N<=u1.heap.size) :
 Gr W1E.row (fun k=>N<=k/\(Value.slice none 0 0).ownBlock≠some k) ((u1.alloc (.cells #[.bool false,.slice x1 x2 x3,.slice y1 y2 y3] 125)).alloc (.cells #[.slice (some ⟨u1.heap.size,0,none⟩) 1 1] 173)) (some ⟨u1.heap.size+1,0,none⟩) 1 [[z]]/\Below u1.heap.size u1 ((u1.alloc (.cells #[.bool false,.slice x1 x2 x3,.slice y1 y2 y3] 125)).alloc (.cells #[.slice (some ⟨u1.heap.size,0,none⟩) 1 1] 173)):=by
 have hb:Below u1.heap.size u1 ((u1.alloc (.cells #[.bool false,.slice x1 x2 x3,.slice y1 y2 y3] 125)).alloc (.cells #[.slice (some ⟨u1.heap.size,0,none⟩) 1 1] 173)):=bl2 _ _;have A1:Bk 125 _ u1.heap.size [.bool false,.slice x1 x2 x3,.slice y1 y2 y3]:=(Bk.new 125 u1 [.bool false,.slice x1 x2 x3,.slice y1 y2 y3]).below (bl1 (.cells #[.slice (some ⟨u1.heap.size,0,none⟩) 1 1] 173));have A2:=Bk.new1 173 u1 (.cells #[.bool false,.slice x1 x2 x3,.slice y1 y2 y3] 125) [.slice (some ⟨u1.heap.size,0,none⟩) 1 1];have hrow:W1E.row.rep (fun k=>N<=k) _ [.slice (some ⟨u1.heap.size,0,none⟩) 1 1] [z]:=⟨_,_,rfl,fun b o e _=>by cases e;exact hN,Gr.one (zal hr hb) A1.lt (fun j hj=>A1.cell j hj),by simp⟩;exact⟨Gr.one (E:=W1E.row) (W1E.row.stay hrow (qE _) (fun k hk _=>⟨⟨hk,fun e=>by cases e⟩,rfl⟩)) A2.lt (fun j hj=>A2.cell j hj),hb⟩
theorem awFin{gx gy x:Nat}{w V w9:World}{v9:Value}(hX:Bk 230 w gx [.slice none 0 0])(hY:Bk 230 w gy [.slice none 0 0])(hne:gx≠gy)(hbc:Below w.heap.size w V)(hg:V.grownBy w9 (Value.slice none 0 0).ownBlock)(hT:Gw W1E.row 173 w.heap.size (fun k=>w.heap.size<=k) w9 v9 ([]++[[x]])) :
 ∃va vc,v9=.slice va 1 vc/\Bk 230 w9 gx [.slice none 0 0]/\(Bk 230 (w9.setCell ⟨gx,0,none⟩ (.slice va 1 vc)) gx [.slice va 1 vc]/\Bk 230 (w9.setCell ⟨gx,0,none⟩ (.slice va 1 vc)) gy [.slice none 0 0]/\W1E.row.row.rep (fun k=>w.heap.size<=k) (w9.setCell ⟨gx,0,none⟩ (.slice va 1 vc)) [.slice va 1 vc] [[x]]/\Keep (fun k=>k<w.heap.size/\k≠gx) w (w9.setCell ⟨gx,0,none⟩ (.slice va 1 vc))):=by
 have hB9:=hbc.grown hg hbc.size (fun q hq=>by cases hq);have hrp:=hT.rep (by simp);obtain⟨va,vc,rfl,-,-⟩:=hT.slice;exact⟨va,vc,rfl,hX.below hB9,(hX.below hB9).set 0 _,(hY.below hB9).other 0 _ (fun e=>hne e.symm),zaf hrp (K3.set _ hX.lt 0 _),Keep.setCell (Keep.of_below hB9 (fun k hk=>hk.1)) (p:=⟨gx,0,none⟩) (fun e=>e.2 rfl) _⟩
theorem zol{gx gy x y:Nat}{w u V w9:World}{v9 vx:Value}(hY:Bk 230 u gy [.slice none 0 0])(hX:Bk 230 u gx [vx])(hne:gy≠gx)(hgy:gy<w.heap.size)(hrx:W1E.row.row.rep (fun k=>w.heap.size<=k) u [vx] [[x]])(hkp:Keep (fun k=>k<w.heap.size/\k≠gx) w u)(hs:w.heap.size<=u.heap.size)(hbc:Below u.heap.size u V)(hg:V.grownBy w9 (Value.slice none 0 0).ownBlock)(hT:Gw W1E.row 173 w.heap.size (fun k=>w.heap.size<=k) w9 v9 ([]++[[y]])) :
 ∃va vc,v9=.slice va 1 vc/\Bk 230 w9 gy [.slice none 0 0]/\(Bk 230 (w9.setCell ⟨gy,0,none⟩ (.slice va 1 vc)) gy [.slice va 1 vc]/\Bk 230 (w9.setCell ⟨gy,0,none⟩ (.slice va 1 vc)) gx [vx]/\W1E.row.row.rep (fun k=>w.heap.size<=k) (w9.setCell ⟨gy,0,none⟩ (.slice va 1 vc)) [.slice va 1 vc] [[y]]/\W1E.row.row.rep (fun k=>w.heap.size<=k) (w9.setCell ⟨gy,0,none⟩ (.slice va 1 vc)) [vx] [[x]]/\Keep (fun k=>k<w.heap.size/\k≠gx/\k≠gy) w (w9.setCell ⟨gy,0,none⟩ (.slice va 1 vc))):=by
 have hB9:=hbc.grown hg hbc.size (fun q hq=>by cases hq);have hrp:=hT.rep (by simp);obtain⟨va,vc,rfl,-,-⟩:=hT.slice;exact⟨va,vc,rfl,hY.below hB9,(hY.below hB9).set 0 _,(hX.below hB9).other 0 _ (fun e=>hne e.symm),zaf hrp (K3.set _ hgy 0 _),zaf (zal hrx hB9) (K3.set _ hgy 0 _),Keep.setCell (Keep.trans (Keep.mono hkp (fun k hk=>⟨hk.1,hk.2.1⟩)) (Keep.of_below hB9 (fun k hk=>by omega))) (p:=⟨gy,0,none⟩) (fun e=>e.2.2 rfl) _⟩
theorem addW(gx gy x y:Nat)(w:World)(hX:Bk 230 w gx [.slice none 0 0])(hY:Bk 230 w gy [.slice none 0 0])(hne:gx≠gy)(hx:x<2147483648)(hy:y<2147483648) :
 Calls Tryz.prog 225 #[.int .i64 (x:Int),.int .i64 (y:Int),.pointer (some ⟨gx,0,none⟩),.pointer (some ⟨gy,0,none⟩)] w fun e w'=>e=.returned (.tuple #[])/\∃vx vy,Bk 230 w' gx [vx]/\Bk 230 w' gy [vy]/\W1E.row.row.rep (fun k=>w.heap.size<=k) w' [vx] [[x]]/\W1E.row.row.rep (fun k=>w.heap.size<=k) w' [vy] [[y]]/\Keep (fun k=>k<w.heap.size/\k≠gx/\k≠gy) w w':=by
 have hgy:=hY.lt;go_enter func225,ntmps225;go_upto_region 0 with fail
 go_cut []from 6 to 11 (fun wx=>∃vx,Bk 230 wx gx [vx]/\Bk 230 wx gy [.slice none 0 0]/\W1E.row.row.rep (fun k=>w.heap.size<=k) wx [vx] [[x]]/\Keep (fun k=>k<w.heap.size/\k≠gx) w wx/\w.heap.size<=wx.heap.size)
 case first =>
  refine wp_region_held_drew (S:=(fun _=>True)) (by kernel_rfl) ?_ (fun hH=>?_)
  . (try dsimp only)
    all_goals go_keep
  have hbc:Below w.heap.size w w.drew:=Below.drew1;generalize w.drew=ud at hbc hH ⊢;refine hT 1 hH ?_;refine wpAnyH_ready (rs:=[0,2]) (by kernel_rfl) (by simp) (hCons (i:=0) rfl (by rfl) (fun K hK=>?_) (hCons (i:=2) rfl (by rfl) (fun K hK=>?_) AllReadyH.nil))
  . obtain⟨c0,f0⟩:=(hX.below hbc).one
    go_simp;refine hK.out _ _ trivial (fun hH=>?_);try simp only[Act.put,pZ]
    clear c0 f0;refine hCall (i:=2) rfl (by kernel_rfl) (by rfl) (fun K hK=>?_);go_simp;refine(zmy x _ (by omega)).mono ?_;rintro e u1 ⟨x1,x2,x3,y1,y2,y3,rfl,hr,hb0⟩;replace hr:=awS (N:=w.heap.size) hr (by have:=hbc.size;omega);replace hbc:=hbc.trans (hb0.mono hbc.size);go_wp2_with fail
    refine hK.out _ _ trivial (fun hH=>?_);try simp only[Act.put,pZ]
    refine hCall (i:=3) rfl (by kernel_rfl) (by rfl) (fun K hK=>?_);go_simp;refine hK.out _ _ trivial (fun hH=>?_);try simp only[Act.put,pZ]
    refine hCall (i:=4) rfl (by kernel_rfl) (by rfl) (fun K hK=>?_);go_simp;refine hK.out _ _ trivial (fun hH=>?_);try simp only[Act.put,pZ]
    obtain⟨zar,hb2⟩:=awRow hr (by have:=hbc.size;omega);replace hbc:=hbc.trans (hb2.mono hbc.size);refine hCall (i:=5) rfl (by kernel_rfl) (by rfl) (fun K hK=>?_);refine zai 230 173 underlying230 zb2 rfl (by decide) (by decide) _ _ rfl w.heap.size (fun k=>w.heap.size<=k) _ [] rfl (Gw.nil _ _ _ _ _) ⟨u1.heap.size+1,0,none⟩ 1 1 [[x]] rfl rfl zar (by simp) (by have:=hbc.size;omega) ?_;intro v9 w9 hT9 hgrow _;refine hK.out _ _ trivial (fun hH=>?_);try simp only[Act.put,pZ]
    obtain⟨va,vc,rfl,BX3,zbs⟩:=awFin hX hY hne hbc hgrow hT9;obtain⟨c0,f0⟩:=BX3.one;refine hCall (i:=6) rfl (by kernel_rfl) (by rfl) (fun K hK=>?_);go_simp;generalize w9.setCell ⟨gx,0,none⟩ (.slice va 1 vc)=wz at zbs ⊢;refine hK.out _ _ trivial (fun hH=>?_);try simp only[Act.put,pZ]
    refine wpAnyH_done (by kernel_rfl) ?_ _;clear c0 f0 hH;go_wp2_with fail
    go_meet;exact⟨_,zbs.1,zbs.2.1,zbs.2.2.1,zbs.2.2.2,Keep.size zbs.2.2.2⟩
  . go_simp
    refine(zmy x _ (by omega)).mono ?_;rintro e u1 ⟨x1,x2,x3,y1,y2,y3,rfl,hr,hb0⟩;replace hr:=awS (N:=w.heap.size) hr (by have:=hbc.size;omega);replace hbc:=hbc.trans (hb0.mono hbc.size);go_wp2_with fail
    refine hK.out _ _ trivial (fun hH=>?_);try simp only[Act.put,pZ]
    refine wpAnyH_ready (rs:=[0,3]) (by kernel_rfl) (by simp) (hCons (i:=0) rfl (by rfl) (fun K hK=>?_) (hCons (i:=3) rfl (by rfl) (fun K hK=>?_) AllReadyH.nil))
    . obtain⟨c0,f0⟩:=(hX.below hbc).one
      go_simp;refine hK.out _ _ trivial (fun hH=>?_);try simp only[Act.put,pZ]
      clear c0 f0;refine hCall (i:=3) rfl (by kernel_rfl) (by rfl) (fun K hK=>?_);go_simp;refine hK.out _ _ trivial (fun hH=>?_);try simp only[Act.put,pZ]
      refine hCall (i:=4) rfl (by kernel_rfl) (by rfl) (fun K hK=>?_);go_simp;refine hK.out _ _ trivial (fun hH=>?_);try simp only[Act.put,pZ]
      obtain⟨zar,hb2⟩:=awRow hr (by have:=hbc.size;omega);replace hbc:=hbc.trans (hb2.mono hbc.size);refine hCall (i:=5) rfl (by kernel_rfl) (by rfl) (fun K hK=>?_);refine zai 230 173 underlying230 zb2 rfl (by decide) (by decide) _ _ rfl w.heap.size (fun k=>w.heap.size<=k) _ [] rfl (Gw.nil _ _ _ _ _) ⟨u1.heap.size+1,0,none⟩ 1 1 [[x]] rfl rfl zar (by simp) (by have:=hbc.size;omega) ?_;intro v9 w9 hT9 hgrow _;refine hK.out _ _ trivial (fun hH=>?_);try simp only[Act.put,pZ]
      obtain⟨va,vc,rfl,BX3,zbs⟩:=awFin hX hY hne hbc hgrow hT9;obtain⟨c0,f0⟩:=BX3.one;refine hCall (i:=6) rfl (by kernel_rfl) (by rfl) (fun K hK=>?_);go_simp;generalize w9.setCell ⟨gx,0,none⟩ (.slice va 1 vc)=wz at zbs ⊢;refine hK.out _ _ trivial (fun hH=>?_);try simp only[Act.put,pZ]
      refine wpAnyH_done (by kernel_rfl) ?_ _;clear c0 f0 hH;go_wp2_with fail
      go_meet;exact⟨_,zbs.1,zbs.2.1,zbs.2.2.1,zbs.2.2.2,Keep.size zbs.2.2.2⟩
    . go_simp
      refine hK.out _ _ trivial (fun hH=>?_);try simp only[Act.put,pZ]
      refine wpAnyH_ready (rs:=[0,4]) (by kernel_rfl) (by simp) (hCons (i:=0) rfl (by rfl) (fun K hK=>?_) (hCons (i:=4) rfl (by rfl) (fun K hK=>?_) AllReadyH.nil))
      . obtain⟨c0,f0⟩:=(hX.below (hbc.alloc hbc.size (.cells #[.bool false,.slice x1 x2 x3,.slice y1 y2 y3] 125))).one
        go_simp;refine hK.out _ _ trivial (fun hH=>?_);try simp only[Act.put,pZ]
        clear c0 f0;refine hCall (i:=4) rfl (by kernel_rfl) (by rfl) (fun K hK=>?_);go_simp;refine hK.out _ _ trivial (fun hH=>?_);try simp only[Act.put,pZ]
        obtain⟨zar,hb2⟩:=awRow hr (by have:=hbc.size;omega);replace hbc:=hbc.trans (hb2.mono hbc.size);refine hCall (i:=5) rfl (by kernel_rfl) (by rfl) (fun K hK=>?_);refine zai 230 173 underlying230 zb2 rfl (by decide) (by decide) _ _ rfl w.heap.size (fun k=>w.heap.size<=k) _ [] rfl (Gw.nil _ _ _ _ _) ⟨u1.heap.size+1,0,none⟩ 1 1 [[x]] rfl rfl zar (by simp) (by have:=hbc.size;omega) ?_;intro v9 w9 hT9 hgrow _;refine hK.out _ _ trivial (fun hH=>?_);try simp only[Act.put,pZ]
        obtain⟨va,vc,rfl,BX3,zbs⟩:=awFin hX hY hne hbc hgrow hT9;obtain⟨c0,f0⟩:=BX3.one;refine hCall (i:=6) rfl (by kernel_rfl) (by rfl) (fun K hK=>?_);go_simp;generalize w9.setCell ⟨gx,0,none⟩ (.slice va 1 vc)=wz at zbs ⊢;refine hK.out _ _ trivial (fun hH=>?_);try simp only[Act.put,pZ]
        refine wpAnyH_done (by kernel_rfl) ?_ _;clear c0 f0 hH;go_wp2_with fail
        go_meet;exact⟨_,zbs.1,zbs.2.1,zbs.2.2.1,zbs.2.2.2,Keep.size zbs.2.2.2⟩
      . go_simp
        refine hK.out _ _ trivial (fun hH=>?_);try simp only[Act.put,pZ]
        refine hCall (i:=0) rfl (by kernel_rfl) (by rfl) (fun K hK=>?_);obtain⟨c0,f0⟩:=(hX.below ((hbc.alloc hbc.size (.cells #[.bool false,.slice x1 x2 x3,.slice y1 y2 y3] 125)).alloc (by have:=hbc.size;simp;omega) (.cells #[.slice (some ⟨u1.heap.size,0,none⟩) 1 1] 173))).one;go_simp;refine hK.out _ _ trivial (fun hH=>?_);try simp only[Act.put,pZ]
        clear c0 f0;obtain⟨zar,hb2⟩:=awRow hr (by have:=hbc.size;omega);replace hbc:=hbc.trans (hb2.mono hbc.size);refine hCall (i:=5) rfl (by kernel_rfl) (by rfl) (fun K hK=>?_);refine zai 230 173 underlying230 zb2 rfl (by decide) (by decide) _ _ rfl w.heap.size (fun k=>w.heap.size<=k) _ [] rfl (Gw.nil _ _ _ _ _) ⟨u1.heap.size+1,0,none⟩ 1 1 [[x]] rfl rfl zar (by simp) (by have:=hbc.size;omega) ?_;intro v9 w9 hT9 hgrow _;refine hK.out _ _ trivial (fun hH=>?_);try simp only[Act.put,pZ]
        obtain⟨va,vc,rfl,BX3,zbs⟩:=awFin hX hY hne hbc hgrow hT9;obtain⟨c0,f0⟩:=BX3.one;refine hCall (i:=6) rfl (by kernel_rfl) (by rfl) (fun K hK=>?_);go_simp;generalize w9.setCell ⟨gx,0,none⟩ (.slice va 1 vc)=wz at zbs ⊢;refine hK.out _ _ trivial (fun hH=>?_);try simp only[Act.put,pZ]
        refine wpAnyH_done (by kernel_rfl) ?_ _;clear c0 f0 hH;go_wp2_with fail
        go_meet;exact⟨_,zbs.1,zbs.2.1,zbs.2.2.1,zbs.2.2.2,Keep.size zbs.2.2.2⟩
 case rest =>
  obtain⟨vx,hX2,hY2,hrx,hkp,hbase⟩:=hcut;clear hX hY;go_upto_region 1 with fail
  refine wp_region_held_drew (S:=(fun _=>True)) (by kernel_rfl) ?_ (fun hH=>?_)
  . (try dsimp only)
    all_goals go_keep
  have hbc:Below wc.heap.size wc wc.drew:=Below.drew1;generalize wc.drew=ud at hbc hH ⊢;refine hT 1 hH ?_;refine wpAnyH_ready (rs:=[0,2]) (by kernel_rfl) (by simp) (hCons (i:=0) rfl (by rfl) (fun K hK=>?_) (hCons (i:=2) rfl (by rfl) (fun K hK=>?_) AllReadyH.nil))
  . obtain⟨c0,f0⟩:=(hY2.below hbc).one
    go_simp;refine hK.out _ _ trivial (fun hH=>?_);try simp only[Act.put,pZ]
    clear c0 f0;refine hCall (i:=2) rfl (by kernel_rfl) (by rfl) (fun K hK=>?_);go_simp;refine(zmy y _ (by omega)).mono ?_;rintro e u1 ⟨x1,x2,x3,y1,y2,y3,rfl,hr,hb0⟩;replace hr:=awS (N:=w.heap.size) hr (by have:=hbc.size;omega);replace hbc:=hbc.trans (hb0.mono hbc.size);go_wp2_with fail
    refine hK.out _ _ trivial (fun hH=>?_);try simp only[Act.put,pZ]
    refine hCall (i:=3) rfl (by kernel_rfl) (by rfl) (fun K hK=>?_);go_simp;refine hK.out _ _ trivial (fun hH=>?_);try simp only[Act.put,pZ]
    refine hCall (i:=4) rfl (by kernel_rfl) (by rfl) (fun K hK=>?_);go_simp;refine hK.out _ _ trivial (fun hH=>?_);try simp only[Act.put,pZ]
    obtain⟨zar,hb2⟩:=awRow hr (by have:=hbc.size;omega);replace hbc:=hbc.trans (hb2.mono hbc.size);refine hCall (i:=5) rfl (by kernel_rfl) (by rfl) (fun K hK=>?_);refine zai 230 173 underlying230 zb2 rfl (by decide) (by decide) _ _ rfl w.heap.size (fun k=>w.heap.size<=k) _ [] rfl (Gw.nil _ _ _ _ _) ⟨u1.heap.size+1,0,none⟩ 1 1 [[y]] rfl rfl zar (by simp) (by have:=hbc.size;omega) ?_;intro v9 w9 hT9 hgrow _;refine hK.out _ _ trivial (fun hH=>?_);try simp only[Act.put,pZ]
    obtain⟨va,vc,rfl,BX3,zbs⟩:=zol hY2 hX2 (fun e=>hne e.symm) hgy hrx hkp hbase hbc hgrow hT9;obtain⟨c0,f0⟩:=BX3.one;refine hCall (i:=6) rfl (by kernel_rfl) (by rfl) (fun K hK=>?_);go_simp;generalize w9.setCell ⟨gy,0,none⟩ (.slice va 1 vc)=wz at zbs ⊢;refine hK.out _ _ trivial (fun hH=>?_);try simp only[Act.put,pZ]
    refine wpAnyH_done (by kernel_rfl) ?_ _;clear c0 f0 hH;go_wp2
    go_end0
    exact⟨rfl,_,_,zbs.2.1,zbs.1,zbs.2.2.2.1,zbs.2.2.1,zbs.2.2.2.2⟩
  . go_simp
    refine(zmy y _ (by omega)).mono ?_;rintro e u1 ⟨x1,x2,x3,y1,y2,y3,rfl,hr,hb0⟩;replace hr:=awS (N:=w.heap.size) hr (by have:=hbc.size;omega);replace hbc:=hbc.trans (hb0.mono hbc.size);go_wp2_with fail
    refine hK.out _ _ trivial (fun hH=>?_);try simp only[Act.put,pZ]
    refine wpAnyH_ready (rs:=[0,3]) (by kernel_rfl) (by simp) (hCons (i:=0) rfl (by rfl) (fun K hK=>?_) (hCons (i:=3) rfl (by rfl) (fun K hK=>?_) AllReadyH.nil))
    . obtain⟨c0,f0⟩:=(hY2.below hbc).one
      go_simp;refine hK.out _ _ trivial (fun hH=>?_);try simp only[Act.put,pZ]
      clear c0 f0;refine hCall (i:=3) rfl (by kernel_rfl) (by rfl) (fun K hK=>?_);go_simp;refine hK.out _ _ trivial (fun hH=>?_);try simp only[Act.put,pZ]
      refine hCall (i:=4) rfl (by kernel_rfl) (by rfl) (fun K hK=>?_);go_simp;refine hK.out _ _ trivial (fun hH=>?_);try simp only[Act.put,pZ]
      obtain⟨zar,hb2⟩:=awRow hr (by have:=hbc.size;omega);replace hbc:=hbc.trans (hb2.mono hbc.size);refine hCall (i:=5) rfl (by kernel_rfl) (by rfl) (fun K hK=>?_);refine zai 230 173 underlying230 zb2 rfl (by decide) (by decide) _ _ rfl w.heap.size (fun k=>w.heap.size<=k) _ [] rfl (Gw.nil _ _ _ _ _) ⟨u1.heap.size+1,0,none⟩ 1 1 [[y]] rfl rfl zar (by simp) (by have:=hbc.size;omega) ?_;intro v9 w9 hT9 hgrow _;refine hK.out _ _ trivial (fun hH=>?_);try simp only[Act.put,pZ]
      obtain⟨va,vc,rfl,BX3,zbs⟩:=zol hY2 hX2 (fun e=>hne e.symm) hgy hrx hkp hbase hbc hgrow hT9;obtain⟨c0,f0⟩:=BX3.one;refine hCall (i:=6) rfl (by kernel_rfl) (by rfl) (fun K hK=>?_);go_simp;generalize w9.setCell ⟨gy,0,none⟩ (.slice va 1 vc)=wz at zbs ⊢;refine hK.out _ _ trivial (fun hH=>?_);try simp only[Act.put,pZ]
      refine wpAnyH_done (by kernel_rfl) ?_ _;clear c0 f0 hH;go_wp2
      go_end0
      exact⟨rfl,_,_,zbs.2.1,zbs.1,zbs.2.2.2.1,zbs.2.2.1,zbs.2.2.2.2⟩
    . go_simp
      refine hK.out _ _ trivial (fun hH=>?_);try simp only[Act.put,pZ]
      refine wpAnyH_ready (rs:=[0,4]) (by kernel_rfl) (by simp) (hCons (i:=0) rfl (by rfl) (fun K hK=>?_) (hCons (i:=4) rfl (by rfl) (fun K hK=>?_) AllReadyH.nil))
      . obtain⟨c0,f0⟩:=(hY2.below (hbc.alloc hbc.size (.cells #[.bool false,.slice x1 x2 x3,.slice y1 y2 y3] 125))).one
        go_simp;refine hK.out _ _ trivial (fun hH=>?_);try simp only[Act.put,pZ]
        clear c0 f0;refine hCall (i:=4) rfl (by kernel_rfl) (by rfl) (fun K hK=>?_);go_simp;refine hK.out _ _ trivial (fun hH=>?_);try simp only[Act.put,pZ]
        obtain⟨zar,hb2⟩:=awRow hr (by have:=hbc.size;omega);replace hbc:=hbc.trans (hb2.mono hbc.size);refine hCall (i:=5) rfl (by kernel_rfl) (by rfl) (fun K hK=>?_);refine zai 230 173 underlying230 zb2 rfl (by decide) (by decide) _ _ rfl w.heap.size (fun k=>w.heap.size<=k) _ [] rfl (Gw.nil _ _ _ _ _) ⟨u1.heap.size+1,0,none⟩ 1 1 [[y]] rfl rfl zar (by simp) (by have:=hbc.size;omega) ?_;intro v9 w9 hT9 hgrow _;refine hK.out _ _ trivial (fun hH=>?_);try simp only[Act.put,pZ]
        obtain⟨va,vc,rfl,BX3,zbs⟩:=zol hY2 hX2 (fun e=>hne e.symm) hgy hrx hkp hbase hbc hgrow hT9;obtain⟨c0,f0⟩:=BX3.one;refine hCall (i:=6) rfl (by kernel_rfl) (by rfl) (fun K hK=>?_);go_simp;generalize w9.setCell ⟨gy,0,none⟩ (.slice va 1 vc)=wz at zbs ⊢;refine hK.out _ _ trivial (fun hH=>?_);try simp only[Act.put,pZ]
        refine wpAnyH_done (by kernel_rfl) ?_ _;clear c0 f0 hH;go_wp2
        go_end0
        exact⟨rfl,_,_,zbs.2.1,zbs.1,zbs.2.2.2.1,zbs.2.2.1,zbs.2.2.2.2⟩
      . go_simp
        refine hK.out _ _ trivial (fun hH=>?_);try simp only[Act.put,pZ]
        refine hCall (i:=0) rfl (by kernel_rfl) (by rfl) (fun K hK=>?_);obtain⟨c0,f0⟩:=(hY2.below ((hbc.alloc hbc.size (.cells #[.bool false,.slice x1 x2 x3,.slice y1 y2 y3] 125)).alloc (by have:=hbc.size;simp;omega) (.cells #[.slice (some ⟨u1.heap.size,0,none⟩) 1 1] 173))).one;go_simp;refine hK.out _ _ trivial (fun hH=>?_);try simp only[Act.put,pZ]
        clear c0 f0;obtain⟨zar,hb2⟩:=awRow hr (by have:=hbc.size;omega);replace hbc:=hbc.trans (hb2.mono hbc.size);refine hCall (i:=5) rfl (by kernel_rfl) (by rfl) (fun K hK=>?_);refine zai 230 173 underlying230 zb2 rfl (by decide) (by decide) _ _ rfl w.heap.size (fun k=>w.heap.size<=k) _ [] rfl (Gw.nil _ _ _ _ _) ⟨u1.heap.size+1,0,none⟩ 1 1 [[y]] rfl rfl zar (by simp) (by have:=hbc.size;omega) ?_;intro v9 w9 hT9 hgrow _;refine hK.out _ _ trivial (fun hH=>?_);try simp only[Act.put,pZ]
        obtain⟨va,vc,rfl,BX3,zbs⟩:=zol hY2 hX2 (fun e=>hne e.symm) hgy hrx hkp hbase hbc hgrow hT9;obtain⟨c0,f0⟩:=BX3.one;refine hCall (i:=6) rfl (by kernel_rfl) (by rfl) (fun K hK=>?_);go_simp;generalize w9.setCell ⟨gy,0,none⟩ (.slice va 1 vc)=wz at zbs ⊢;refine hK.out _ _ trivial (fun hH=>?_);try simp only[Act.put,pZ]
        refine wpAnyH_done (by kernel_rfl) ?_ _;clear c0 f0 hH;go_wp2
        go_end0
        exact⟨rfl,_,_,zbs.2.1,zbs.1,zbs.2.2.2.1,zbs.2.2.1,zbs.2.2.2.2⟩
structure Two1(w:World)(x y:Nat)(vx vy:Value)(w':World):Prop where
 x:W1E.row.row.rep (fun _=>True) w' [vx] [[x]]
 y:W1E.row.row.rep (fun _=>True) w' [vy] [[y]]
 b:Below w.heap.size w w'
theorem z3q(S:Nat->Prop)(a:OA)(ca:Nat)(b:OA)(cb:Nat)(on:Bool)(x y:Nat)(w:World)(hc:Gr PnE.row S w a ca [[⟨(x:Int),(y:Int),on⟩]])(hx:x<2147483648)(hy:y<2147483648) :
 Calls Tryz.prog 178 #[.agg #[.slice a 1 ca,.slice b 0 cb]] w fun e w'=>∃vx vy,e=.returned (.tuple #[vx,vy])/\Two1 w x y vx vy w':=by
 obtain⟨W,hW,X0,X1,X2,hbW⟩:∃W,W=((w.alloc (.cells #[.slice a 1 ca,.slice b 0 cb] 57)).alloc (.cells #[.slice none 0 0] 230)).alloc (.cells #[.slice none 0 0] 230)/\Bk 57 W w.heap.size [.slice a 1 ca,.slice b 0 cb]/\Bk 230 W (w.heap.size+1) [.slice none 0 0]/\Bk 230 W (w.heap.size+1+1) [.slice none 0 0]/\Below w.heap.size w W :=
  ⟨_,rfl,(Bk.new 57 w [.slice a 1 ca,.slice b 0 cb]).below (bl2 (.cells #[.slice none 0 0] 230) (.cells #[.slice none 0 0] 230)),(Bk.new1 230 w (.cells #[.slice a 1 ca,.slice b 0 cb] 57) [.slice none 0 0]).below (bl1 (.cells #[.slice none 0 0] 230)),by
   have h:=Bk.new1 230 (w.alloc (.cells #[.slice a 1 ca,.slice b 0 cb] 57)) (.cells #[.slice none 0 0] 230) [.slice none 0 0]
   simpa using h,(bl2 _ _).alloc (by simp;omega) _⟩
 have hpt:Calls Tryz.prog 128 #[.agg #[.slice a 1 ca,.slice b 0 cb]] W fun e w'=>∃a' c',e=.returned (.slice a' 1 c')/\Gr PnE (fun _=>True) w' a' c' [⟨(x:Int),(y:Int),on⟩]/\(∀b o,a'=some ⟨b,o,none⟩->W.heap.size<=b/\b<w'.heap.size)/\Below W.heap.size W w':=zdt S a ca (.slice b 0 cb) [[⟨(x:Int),(y:Int),on⟩]] W (hc.below hbW) (by simp) rfl;obtain⟨p0,p1,-⟩:=X0.two;go_enter func178,ntmps178;go_upto_region 3 with fail
 try rw[<-hW]
 go_wp2_with fail
 try rw[<-hW]
 clear hW;refine hpt.mono ?_;rintro e u ⟨a',c',rfl,hGp,-,hb1⟩
 skip
 replace X0:=X0.below hb1;replace X1:=X1.below hb1;replace X2:=X2.below hb1;replace hbW:=hbW.trans (hb1.mono hbW.size);clear hpt hb1 p0 p1;obtain⟨r0,s0,e2,hq1,-,k1,k2,k3⟩:=hGp.pn (Below.refl _ _) 0 (by simp);subst e2;replace k1:u.cell? ⟨r0,s0,none⟩=some (.int .i64 (x:Int)):=by simpa using k1
 replace k2:u.cell? ⟨r0,s0+1,none⟩=some (.int .i64 (y:Int)):=by simpa using k2
 replace k3:u.cell? ⟨r0,s0+2,none⟩=some (.bool on):=by simpa using k3
 go_wp2;refine wp_loop_rounds 2 ?_;rw[rounds_succ];obtain⟨V,hV,X9,hb9⟩:∃V,V=u.alloc (.cells #[.int .i64 (x:Int),.int .i64 (y:Int),.bool on] 65)/\Bk 65 V u.heap.size [.int .i64 (x:Int),.int .i64 (y:Int),.bool on]/\Below u.heap.size u V:=⟨_,rfl,Bk.new _ _ _,bl1 _⟩;replace X0:=X0.below hb9;replace X1:=X1.below hb9;replace X2:=X2.below hb9;replace hbW:=hbW.trans (hb9.mono hbW.size);have hlt:=X9.lt;go_upto_region 6 with fail
 rw[<-hV];clear hV k1 k2 k3 hGp hq1;obtain⟨k1,k2,k3,-⟩:=X9.three;have had:=addW (w.heap.size+1) (w.heap.size+1+1) x y V X1 X2 (by omega) hx hy;go_wp2_with fail
 refine had.mono ?_;rintro e u3 ⟨rfl,vx,vy,BX,BY,hrx,hry,hkp⟩;have hlv:=hbW.size;replace X0:=X0.kept hkp ⟨X0.lt,by omega,by omega⟩;have HB3:Hid (Below w.heap.size w u3):=hbW.trans (Keep.below hkp (fun k hk=>⟨by omega,by omega,by omega⟩));have HRX:Hid (W1E.row.row.rep (fun _=>True) u3 [vx] [[x]]):=zff hrx;have HRY:Hid (W1E.row.row.rep (fun _=>True) u3 [vy] [[y]]):=zff hry;clear had k1 k2 k3 X9 X1 X2 hrx hry hkp hbW hb9;obtain⟨p0,p1,-⟩:=X0.two;go_wp2;rw[rounds_succ];go_wp2;refine wp_loop_rounds 1 ?_;rw[rounds_succ];go_upto_region 13 with fail
 clear p0 p1 X0;obtain⟨m0,-⟩:=BX.one;obtain⟨m1,-⟩:=BY.one;refine wp_region_held_drew (S:=fun w9=>w9.cell? ⟨w.heap.size+1,0,none⟩=some vx/\w9.cell? ⟨w.heap.size+1+1,0,none⟩=some vy) (by kernel_rfl) ?_ (fun hH=>?_)
 . (try dsimp only)
   go_keep
 have hdr:Below u3.heap.size u3 u3.drew:=Below.drew1;generalize u3.drew=Z at hdr hH ⊢;refine hT 0 hH ?_;refine hT 1 hH ?_;refine hT 2 hH ?_;refine hT 3 hH ?_;refine wpAnyH_done (by kernel_rfl) ?_ _;have HF:Hid (Two1 w x y vx vy Z):=⟨zal HRX.out hdr,zal HRY.out hdr,HB3.out.trans (hdr.mono HB3.out.size)⟩;clear hH hdr m0 m1 BX BY;go_wp2;go_ret2;exact⟨vx,vy,rfl,HF.out⟩
theorem z3p(S:Nat->Prop)(a:OA)(ca:Nat)(b:OA)(cb:Nat)(g:Int)(x y:Nat)(w:World)(hc:Gr PnE.row S w a ca [])(hp:Gr PaE S w b cb [⟨g,(x:Int),(y:Int)⟩])(hx:x<2147483648)(hy:y<2147483648) :
 Calls Tryz.prog 178 #[.agg #[.slice a 0 ca,.slice b 1 cb]] w fun e w'=>∃vx vy,e=.returned (.tuple #[vx,vy])/\Two1 w x y vx vy w':=by
 obtain⟨W,hW,X0,X1,X2,hbW⟩:∃W,W=((w.alloc (.cells #[.slice a 0 ca,.slice b 1 cb] 57)).alloc (.cells #[.slice none 0 0] 230)).alloc (.cells #[.slice none 0 0] 230)/\Bk 57 W w.heap.size [.slice a 0 ca,.slice b 1 cb]/\Bk 230 W (w.heap.size+1) [.slice none 0 0]/\Bk 230 W (w.heap.size+1+1) [.slice none 0 0]/\Below w.heap.size w W :=
  ⟨_,rfl,(Bk.new 57 w [.slice a 0 ca,.slice b 1 cb]).below (bl2 (.cells #[.slice none 0 0] 230) (.cells #[.slice none 0 0] 230)),(Bk.new1 230 w (.cells #[.slice a 0 ca,.slice b 1 cb] 57) [.slice none 0 0]).below (bl1 (.cells #[.slice none 0 0] 230)),by
   have h:=Bk.new1 230 (w.alloc (.cells #[.slice a 0 ca,.slice b 1 cb] 57)) (.cells #[.slice none 0 0] 230) [.slice none 0 0]
   simpa using h,(bl2 _ _).alloc (by simp;omega) _⟩
 have hpt:Calls Tryz.prog 128 #[.agg #[.slice a 0 ca,.slice b 1 cb]] W fun e w'=>∃a' c',e=.returned (.slice a' 0 c')/\Gr PnE (fun _=>True) w' a' c' []/\(∀b o,a'=some ⟨b,o,none⟩->W.heap.size<=b/\b<w'.heap.size)/\Below W.heap.size W w':=zdt S a ca (.slice b 1 cb) [] W (hc.below hbW) (by simp) rfl;obtain⟨p0,p1,-⟩:=X0.two;go_enter func178,ntmps178;go_upto_region 3 with fail
 try rw[<-hW]
 go_wp2_with fail
 try rw[<-hW]
 clear hW;refine hpt.mono ?_;rintro e u ⟨a',c',rfl,hGp,-,hb1⟩;replace hp:=(hp.below hbW).below hb1;replace X0:=X0.below hb1;replace X1:=X1.below hb1;replace X2:=X2.below hb1;replace hbW:=hbW.trans (hb1.mono hbW.size);clear hpt hb1 p0 p1;obtain⟨r0,s0,e2,hq1,-,k1,k2,k3⟩:=hp.pa (Below.refl _ _) 0 (by simp);subst e2;replace k1:u.cell? ⟨r0,s0,none⟩=some (.int .i64 g):=by simpa using k1
 replace k2:u.cell? ⟨r0,s0+1,none⟩=some (.int .i64 (x:Int)):=by simpa using k2
 replace k3:u.cell? ⟨r0,s0+2,none⟩=some (.int .i64 (y:Int)):=by simpa using k3
 obtain⟨p0,p1,-⟩:=X0.two;go_wp2;refine wp_loop_rounds 1 ?_;rw[rounds_succ];go_wp2;refine wp_loop_rounds 2 ?_;rw[rounds_succ];obtain⟨V,hV,X9,hb9⟩:∃V,V=u.alloc (.cells #[.int .i64 g,.int .i64 (x:Int),.int .i64 (y:Int)] 54)/\Bk 54 V u.heap.size [.int .i64 g,.int .i64 (x:Int),.int .i64 (y:Int)]/\Below u.heap.size u V:=⟨_,rfl,Bk.new _ _ _,bl1 _⟩;replace X0:=X0.below hb9;replace X1:=X1.below hb9;replace X2:=X2.below hb9;replace hbW:=hbW.trans (hb9.mono hbW.size);have hlt:=X9.lt;go_upto_region 11 with fail
 rw[<-hV];clear hV k1 k2 k3 hp hq1 p0 p1;obtain⟨k1,k2,k3,-⟩:=X9.three;have had:=addW (w.heap.size+1) (w.heap.size+1+1) x y V X1 X2 (by omega) hx hy;go_wp2_with fail
 refine had.mono ?_;rintro e u3 ⟨rfl,vx,vy,BX,BY,hrx,hry,hkp⟩;have hlv:=hbW.size;replace X0:=X0.kept hkp ⟨X0.lt,by omega,by omega⟩;have HB3:Hid (Below w.heap.size w u3):=hbW.trans (Keep.below hkp (fun k hk=>⟨by omega,by omega,by omega⟩));have HRX:Hid (W1E.row.row.rep (fun _=>True) u3 [vx] [[x]]):=zff hrx;have HRY:Hid (W1E.row.row.rep (fun _=>True) u3 [vy] [[y]]):=zff hry;clear had k1 k2 k3 X9 X1 X2 hrx hry hkp hbW hb9;go_wp2;rw[rounds_succ];go_upto_region 13 with fail
 clear X0;obtain⟨m0,-⟩:=BX.one;obtain⟨m1,-⟩:=BY.one;refine wp_region_held_drew (S:=fun w9=>w9.cell? ⟨w.heap.size+1,0,none⟩=some vx/\w9.cell? ⟨w.heap.size+1+1,0,none⟩=some vy) (by kernel_rfl) ?_ (fun hH=>?_)
 . (try dsimp only)
   go_keep
 have hdr:Below u3.heap.size u3 u3.drew:=Below.drew1;generalize u3.drew=Z at hdr hH ⊢;refine hT 0 hH ?_;refine hT 1 hH ?_;refine hT 2 hH ?_;refine hT 3 hH ?_;refine wpAnyH_done (by kernel_rfl) ?_ _;have HF:Hid (Two1 w x y vx vy Z):=⟨zal HRX.out hdr,zal HRY.out hdr,HB3.out.trans (hdr.mono HB3.out.size)⟩;clear hH hdr m0 m1 BX BY;go_wp2;go_ret2;exact⟨vx,vy,rfl,HF.out⟩
theorem zxh(S:Nat->Prop)(a:OA)(ca:Nat)(b:OA)(cb:Nat)(o:Ol)(x y:Nat)(w:World)(hc:Gr PnE.row S w a ca o.cs)(hp:Gr PaE S w b cb o.ps)(hfo:foT o [] 0=true)
    (hbs:∀U,Below w.heap.size w U->Calls Tryz.prog 178 #[.agg #[.slice a o.cs.length ca,.slice b o.ps.length cb]] U fun e w'=>∃vx vy,e=.returned (.tuple #[vx,vy])/\Two1 U x y vx vy w') :
    Calls Tryz.prog 118 #[.agg #[.slice a o.cs.length ca,.slice b o.ps.length cb],.slice none 0 0,.slice none 0 0] w fun e w'=>∃vx vy,e=.returned (.tuple #[vx,vy,.int .i64 0])/\W1E.row.rep (fun _=>True) w' [vx] [x]/\W1E.row.rep (fun _=>True) w' [vy] [y]/\Below w.heap.size w w':=by
 have kc:=hc.lenB;have kp:=hp.lenB;obtain⟨W,hW,X0,hbW⟩:∃W,W=w.alloc (.cells #[.slice a o.cs.length ca,.slice b o.ps.length cb] 57)/\Bk 57 W w.heap.size [.slice a o.cs.length ca,.slice b o.ps.length cb]/\Below w.heap.size w W:=⟨_,rfl,Bk.new _ _ _,bl1 _⟩;have hf:Calls Tryz.prog 58 #[.agg #[.slice a o.cs.length ca,.slice b o.ps.length cb],.slice none 0 0,.int .i64 0] W fun e w'=>e=.returned (.bool (foT o [] 0))/\Below W.heap.size W w':=zd8 S a ca b cb o (fun _=>True) none 0 [] 0 W (hc.below hbW) (hp.below hbW) (Gr.nil _ _ _ _ _ (qD _) (fun _=>rfl)) ⟨by decide,by decide⟩;rw[hfo]at hf;obtain⟨p0,p1,-⟩:=X0.two;clear hc hp hfo;go_enter func118,ntmps118;go_upto_region 1 with fail
 rw[<-hW];clear hW;go_wp2_with fail
 refine hf.mono ?_;rintro e u1 ⟨rfl,hb1⟩;replace X0:=X0.below hb1;replace hbW:=hbW.trans (hb1.mono hbW.size);clear hf hb1 p0 p1;obtain⟨p0,p1,-⟩:=X0.two;have h1:=hbs u1 hbW;go_wp2_with fail
 refine h1.mono ?_;rintro e u2 ⟨vx,vy,rfl,hT2⟩;obtain⟨a1,c1,e1,-⟩:=zbz hT2.x;obtain⟨a2,c2,e2,-⟩:=zbz hT2.y;have h2:=sumsW vx x u2 hT2.x;have HY:Hid (W1E.row.row.rep (fun _=>True) u2 [vy] [[y]]):=hT2.y;replace hbW:=hbW.trans (hT2.b.mono hbW.size);subst e1 e2;clear h1 hbs p0 p1 X0 hT2;go_wp2;refine wp_loop_rounds 1 ?_;rw[rounds_succ];go_wp2_with fail
 refine h2.mono ?_;rintro e u3 ⟨sx,rfl,hsx,hb3⟩;have h3:=sumsW _ y u3 (zal HY.out hb3);replace hbW:=hbW.trans (hb3.mono hbW.size);clear h2 hb3 HY;go_wp2_with fail
 refine h3.mono ?_;rintro e u4 ⟨sy,rfl,hsy,hb4⟩;have HSX:Hid (W1E.row.rep (fun _=>True) u4 [sx] [x]):=zal hsx hb4;replace hbW:=hbW.trans (hb4.mono hbW.size);clear h3 hb4 hsx;go_wp2;refine bodyPost_ret (v:=.tuple #[sx,sy,.int .i64 0]) (by simp[results,results118,go_sem]) rfl ⟨sx,sy,rfl,HSX.out,hsy,hbW⟩
