import Derived.Test.YtkmcodofnckdmaaGreatZK31
import Derived.Laws.Cover1
set_option maxHeartbeats 8000000
set_option maxRecDepth 100000
set_option linter.unusedSimpArgs false
set_option linter.unusedVariables false
namespace Go.Proofs.YtkmcodofnckdmaaGreat
open Go.RowKit Go.Maps
abbrev S5 (w:World) (g:Nat) (v0 v1 v2 v3 v4:Value):World:=((((w.setCell ⟨g,0,none⟩ v0).setCell ⟨g,1,none⟩ v1).setCell ⟨g,2,none⟩ v2).setCell ⟨g,3,none⟩ v3).setCell ⟨g,4,none⟩ v4
theorem Bk.set5U{t:TypeId}{w:World}{g:Nat}{x0 x1 x2 x3 x4:Value}(h:Bk t w g [x0,x1,x2,x3,x4])(y0 y1 y2 y3 y4:Value):Bk t (((((w.setCell ⟨g,0,none⟩ y0).setCell ⟨g,1,none⟩ y1).setCell ⟨g,2,none⟩ y2).setCell ⟨g,3,none⟩ y3).setCell ⟨g,4,none⟩ y4) g [y0,y1,y2,y3,y4]:=((((h.set 0 y0).set 1 y1).set 2 y2).set 3 y3).set 4 y4
theorem Kp.new5{g b:Nat}{a w:World}(h:Kp g a w)(hb:a.heap.size<=b)(y0 y1 y2 y3 y4:Value):Kp g a (((((w.setCell ⟨b,0,none⟩ y0).setCell ⟨b,1,none⟩ y1).setCell ⟨b,2,none⟩ y2).setCell ⟨b,3,none⟩ y3).setCell ⟨b,4,none⟩ y4):=((((h.new hb 0 y0).new hb 1 y1).new hb 2 y2).new hb 3 y3).new hb 4 y4
theorem Bk.other5{t:TypeId}{w:World}{g b:Nat}{cs:LV}(h:Bk t w g cs)(hb:g≠b)(y0 y1 y2 y3 y4:Value):Bk t (((((w.setCell ⟨b,0,none⟩ y0).setCell ⟨b,1,none⟩ y1).setCell ⟨b,2,none⟩ y2).setCell ⟨b,3,none⟩ y3).setCell ⟨b,4,none⟩ y4) g cs:=((((h.other 0 y0 hb).other 1 y1 hb).other 2 y2 hb).other 3 y3 hb).other 4 y4 hb
def K3(n:Nat)(w w':World):Prop:=Keep (fun k=>n<=k/\k<w.heap.size) w w'
theorem K3.kp{n g:Nat}{w w':World}(h:Kp g w w')(hg:g<n):K3 n w w':=Keep.mono h (fun k hk=>⟨hk.2,by omega⟩)
theorem K3.set{n b:Nat}(w:World)(hb:b<n)(j:Nat)(z:Value):K3 n w (w.setCell ⟨b,j,none⟩ z):=Keep.setCell (Keep.refl _ _) (p:=⟨b,j,none⟩) (fun e=>absurd hb (Nat.not_lt.2 e.1)) z
theorem K3.trans{n:Nat}{a b c:World}(h:K3 n a b)(k:K3 n b c):K3 n a c:=Keep.trans h (Keep.mono k (fun i hi=>⟨hi.1,Nat.lt_of_lt_of_le hi.2 (Keep.size h)⟩))
theorem K3.set5{n b:Nat}(w:World)(hb:b<n)(y0 y1 y2 y3 y4:Value):K3 n w (((((w.setCell ⟨b,0,none⟩ y0).setCell ⟨b,1,none⟩ y1).setCell ⟨b,2,none⟩ y2).setCell ⟨b,3,none⟩ y3).setCell ⟨b,4,none⟩ y4):=((((K3.set w hb 0 y0).trans (K3.set _ hb 1 y1)).trans (K3.set _ hb 2 y2)).trans (K3.set _ hb 3 y3)).trans (K3.set _ hb 4 y4)
theorem zai{α:Type}{E:El α}{n:Nat}{u u':World}{vs:LV}{l:List α}(h:E.row.rep (fun k=>n<=k) u vs l)(hk:K3 n u u'):E.row.rep (fun k=>n<=k) u' vs l:=E.row.stay h (Keep.size hk) (fun k h1 h2=>⟨h1,Keep.block hk k ⟨h1,h2⟩⟩)
theorem Ri.row{S:Nat->Prop}{w:World}{a:OA}{c:Nat}{l:LI}(h:Ri w a c l)(hS:∀b o,a=some ⟨b,o,none⟩->S b)(h0:a=none->c=0)(hl:l.length<=140737488351232):El.int.row.rep S w [.slice a l.length c] l:=by
 refine⟨a,c,rfl,fun b o e _=>hS b o e,⟨h.2.1,h.2.2.1,h0,fun i hi=>?_⟩,hl⟩
 rcases h.2.2.2 with h4|⟨b,off,e,hb,hc⟩
 . rw[h4]at hi;simp at hi
 . refine⟨b,off,[.int .i64 (l.getD i 0)],e,hb,El.int_rep.2 ⟨rfl,h.i64 hi⟩,fun j hj=>?_⟩
   obtain rfl:j=0:=by simp[El.int,El.num]at hj;exact hj
   rw[show i*El.int.sz=i from Nat.mul_one i]
   exact hc i hi
theorem Gw.rowU{α:Type}{E:El α}{t:TypeId}{n:Nat}{w:World}{a:OA}{c:Nat}{l:List α}(h:Gw E t n (fun _=>False) w (.slice a l.length c) l)(hl:l.length<=140737488351232):E.row.rep (fun k=>n<=k) w [.slice a l.length c] l:=by
 obtain⟨a',c',e,hg,hb⟩:=h.slice;injection e with e1 e2 e3;subst e1 e3
 exact⟨a,c,rfl,fun b o e _=>(hb b o e).1,hg.wide (fun k hk=>hk.elim),hl⟩
theorem z0n{b:LN}{l:LI}{q:Nat}(h:rpO b=some (l,q)):rpL b=l/\rpN b=(q:Int)/\rpE b=0/\q<=b.length/\l.length<=2000:=by
 refine⟨by unfold rpL;rw[h],by unfold rpN;rw[h],by unfold rpE;rw[h],?_,?_⟩
 all_goals
  unfold rpO at h
  split at h
  . rename_i h0
    cases hr:rdF RPt b (ptN b) (ptA b) (ptN b) with
    | none=>rw[hr]at h;cases h
    | some r =>
     rw[hr]at h;dsimp only at h
     split at h
     . rename_i hp
       injection h with h;injection h with h1 h2
       first
       | (rw[<-h2];exact(zio _ _ _ _ _ _ _ (show rdF RPt b (ptN b) (ptA b) (ptN b)=some (r.1,r.2)from hr)).2.2 (of_decide_eq_true h0))
       | (rw[<-h1];exact(zdf hp).2)
     . cases h
  . cases h
theorem zfu{b:LN}{n:Int}{l:LI}{q:Nat}(h:rcO b n=some (l,q)):rcL b n=l/\(rcN b n).toNat=q/\q<=b.length/\l.length<=2000:=by
 refine⟨by unfold rcL;rw[h],by unfold rcN;rw[h];rfl,?_,?_⟩
 all_goals
  unfold rcO at h
  split at h
  . rename_i h0
    have:=zio _ _ _ _ _ _ _ h
    first | exact this.2.2 (Nat.zero_le _) | (rw[this.1];omega)
  . cases h
theorem zvs{b:LN}{ax cnt p:Nat}(h:¬p+6*ax<=b.length):rdTu b ax cnt p=none:=if_neg h
theorem zvr{b:LN}{ax cnt p q:Nat}(hq:p+6*ax=q)(h:q<=b.length)(h2:rpO (b.drop q)=none):rdTu b ax cnt p=none:=by
 subst hq
 unfold rdTu
 rw[if_pos h,h2]
 rfl
theorem znk{b:LN}{ax cnt p q q1:Nat}{ps:LI}(hq:p+6*ax=q)(h:q<=b.length)(h2:rpO (b.drop q)=some (ps,q1))(h3:rcO (b.drop (q+q1)) (cnN cnt ps:Int)=none):rdTu b ax cnt p=none:=by
 subst hq
 unfold rdTu
 rw[if_pos h,h2,Option.bind_some]
 dsimp only
 rw[h3]
 rfl
theorem znj{b:LN}{ax cnt p q q1 q2:Nat}{ps dx:LI}(hq:p+6*ax=q)(h:q<=b.length)(h2:rpO (b.drop q)=some (ps,q1))(h3:rcO (b.drop (q+q1)) (cnN cnt ps:Int)=some (dx,q2))(h4:rcO (b.drop (q+q1+q2)) (cnN cnt ps:Int)=none):rdTu b ax cnt p=none:=by
 subst hq
 unfold rdTu
 rw[if_pos h,h2,Option.bind_some]
 dsimp only
 rw[h3,Option.bind_some]
 dsimp only
 rw[h4]
 rfl
theorem zni{b:LN}{ax cnt p q q1 q2 q3:Nat}{ps dx dy:LI}(hq:p+6*ax=q)(h:q<=b.length)(h2:rpO (b.drop q)=some (ps,q1))(h3:rcO (b.drop (q+q1)) (cnN cnt ps:Int)=some (dx,q2))(h4:rcO (b.drop (q+q1+q2)) (cnN cnt ps:Int)=some (dy,q3)):rdTu b ax cnt p=some (⟨tesAt b p ax,decide (ps.length=0),ps,dx,dy⟩,q+q1+q2+q3):=by
 subst hq
 unfold rdTu
 rw[if_pos h,h2,Option.bind_some]
 dsimp only
 rw[h3,Option.bind_some]
 dsimp only
 rw[h4]
 rfl
def TuA(w:World)(g:Nat)(pa:OA)(pc:Nat)(xs:LN)(r:Option (Tu×Nat))(e:Ending)(w':World):Prop :=
 match r with
 | some (t,q)=>∃ra rc pa' pc' xa xc ya yc,e=.returned (.tuple #[.agg #[.slice ra t.rg.length rc,.bool t.al,.slice pa' t.pts.length pc',.slice xa t.dx.length xc,.slice ya t.dy.length yc],.bool true])/\TuC (fun k=>w.heap.size+2<=k) w' ra rc pa' pc' xa xc ya yc t/\Sc 203 w' g pa pc xs q/\q<=xs.length
 | none=>∃ra rn rc bb pa' pn pc' xa xn xc ya yn yc,e=.returned (.tuple #[.agg #[.slice ra rn rc,.bool bb,.slice pa' pn pc',.slice xa xn xc,.slice ya yn yc],.bool false])
theorem z3w{b:LN}(hb:Byt b)(p:Nat):Tw (teAt b p):=by
 have h0:=zd1 hb p 0
 have h1:=zd1 hb p 1
 have h2:=zd1 hb p 2
 rw[zyn]
 unfold Tw
 unfold I64
 refine⟨⟨?_,?_⟩,⟨?_,?_⟩,⟨?_,?_⟩⟩ <;> dsimp only <;> omega
theorem zo2(g:Nat)(pa:OA)(pc:Nat)(xs:LN)(p ax cnt:Nat)(w:World)(h:Sc 203 w g pa pc xs p)(hp:p<=xs.length)(hxl:xs.length<=100000)(hax:ax<=4)(hcnt:cnt<=2000) :
 Calls Tryz.prog 149 #[pg g,.int .i64 (ax:Int),.int .i64 (cnt:Int)] w fun e w'=>TuA w g pa pc xs (rdTu xs ax cnt p) e w'/\Kp g w w':=by
 have hglt:=h.bk.lt
 obtain⟨W,hW,hX6,hX8,hbW⟩:∃W,W=(w.alloc (.cells #[.slice none 0 0,.bool false,.slice none 0 0,.slice none 0 0,.slice none 0 0] 144)).alloc (.cells #[.slice none 0 0,.bool false,.slice none 0 0,.slice none 0 0,.slice none 0 0] 144)/\Bk 144 W w.heap.size [.slice none 0 0,.bool false,.slice none 0 0,.slice none 0 0,.slice none 0 0]/\Bk 144 W (w.heap.size+1) [.slice none 0 0,.bool false,.slice none 0 0,.slice none 0 0,.slice none 0 0]/\Below w.heap.size w W :=
  ⟨_,rfl,(Bk.new _ _ [.slice none 0 0,.bool false,.slice none 0 0,.slice none 0 0,.slice none 0 0]).below (bl1 _),Bk.new1 _ _ _ [.slice none 0 0,.bool false,.slice none 0 0,.slice none 0 0,.slice none 0 0],(bl1 _).alloc (by simp) _⟩
 have HS0:Hid (Sc 203 w g pa pc xs p):=h
 have hS:Sc 203 W g pa pc xs p:=h.below hbW
 have hKp:Kp g w W:=Kp.of hbW
 have hpc:=h.rb.le
 have hpm:=h.rb.cap
 unfold maxLen at hpm
 clear h hbW
 obtain⟨gr,hgr⟩:∃n,w.heap.size=n:=⟨_,rfl⟩
 obtain⟨gt,hgt⟩:∃n,gr+1=n:=⟨_,rfl⟩
 have HGR:Hid (w.heap.size=gr):=hgr
 have HGT:Hid (gr+1=gt):=hgt
 rw[hgr]at hX6 hX8 hglt;rw[hgt]at hX8
 have hrt:gr<gt:=by omega
 go_enter Tryz.func149,Tryz.ntmps149
 go_upto_region 2 with fail
 rw[<-hW];clear hW hgr hgt;obtain⟨x0,x1,_⟩:=hS.bk.two
 refine wp_region_held_drew (S:=(fun u=>u.cell? ⟨g,0,none⟩=some (.slice pa xs.length pc)/\u.cell? ⟨g,1,none⟩=some (.int .i64 (p:Int)))) (by kernel_rfl) ?_ (fun hH=>?_)
 . (try dsimp only)
   go_keep
 have hdr:Below W.heap.size W W.drew:=Below.drew1
 replace hKp:Kp g w W.drew:=hKp.drew
 generalize W.drew=wz at hdr hKp hH ⊢
 replace hS:=hS.below hdr;replace hX6:=hX6.below hdr;replace hX8:=hX8.below hdr;clear hdr x0 x1;refine hT 0 hH ?_;refine hT 1 hH ?_;refine hT 2 hH ?_;refine hT 3 hH ?_;refine hT 4 hH ?_;refine hT 5 hH ?_;refine hT 6 hH ?_;refine hT 7 hH ?_;refine hT 8 hH ?_
 refine hT 9 hH ?_;refine hT 10 hH ?_;refine hT 11 hH ?_;refine hT 12 hH ?_
 refine wpAnyH_done (by kernel_rfl) ?_ _
 clear hH
 have hwr:IntKind.i64.wrap ((p:Int)+IntKind.i64.wrap ((ax:Int)*6))=(p:Int)+(ax:Int)*6:=by rw[zbb (z:=(ax:Int)*6) (by omega) (by omega),zbb (by omega) (by omega)]
 rw[hwr];clear hwr
 by_cases hle:p+6*ax<=xs.length
 rotate_left
 . have HNO:Hid (rdTu xs ax cnt p=none):=zvs hle
   have gd:(xs.length:Int)<(p:Int)+(ax:Int)*6:=by omega
   clear hS;obtain⟨d0,d1,d2,d3,d4,-⟩:=hX8.five;obtain⟨y0,y1,y2,y3,y4,f0,f1,f2,f3,f4⟩:=hX6.five
   have HA5:Hid (_):=(hX6.set5U (.slice none 0 0) (.bool false) (.slice none 0 0) (.slice none 0 0) (.slice none 0 0)).five
   have HKF:Hid (Kp g w (S5 wz gr (.slice none 0 0) (.bool false) (.slice none 0 0) (.slice none 0 0) (.slice none 0 0))):=hKp.new5 (by have:=HGR.out;omega) _ _ _ _ _
   clear hX6 hX8 hKp;go_wp2
   refine bodyPost_ret (v:=.tuple #[.agg #[.slice none 0 0,.bool false,.slice none 0 0,.slice none 0 0,.slice none 0 0],.bool false]) (by obtain⟨r0,r1,r2,r3,r4,-⟩:=HA5.out;simp[results,Tryz.results149,go_sem,r0,r1,r2,r3,r4]) rfl ⟨by rw[HNO.out];exact⟨_,_,_,_,_,_,_,_,_,_,_,_,_,rfl⟩,HKF.out⟩
 have gd:¬(xs.length:Int)<(p:Int)+(ax:Int)*6:=by omega
 have hS':Sc 203 wz g pa pc xs (p+6*0):=hS
 have hG:Gw TeE 146 (gt+1) (fun _=>False) wz (.slice none 0 0) (tesAt xs p 0):=Gw.nil _ _ _ _ _
 clear hS;go_wp2;clear gd
 go_loopw [28] (fun i wr=>∃(k:Nat) (a8:OA) (c8:Nat),k<=ax/\i=.int .i64 k/\Bk 144 wr gt [.slice a8 k c8,.bool false,.slice none 0 0,.slice none 0 0,.slice none 0 0]/\Gw TeE 146 (gt+1) (fun _=>False) wr (.slice a8 k c8) (tesAt xs p k)/\Sc 203 wr g pa pc xs (p+6*k)/\Bk 144 wr gr [.slice none 0 0,.bool false,.slice none 0 0,.slice none 0 0,.slice none 0 0]/\Kp g w wr) (fun i _=>ax-(intOf i).toNat)
 case atStart=>exact⟨0,none,0,Nat.zero_le _,rfl,hX8,hG,hS',hX6,hKp⟩
 case round =>
  clear hX8 hX6 hKp hG hS';obtain⟨k,a8,c8,hk,rfl,hX8,hG,hS,hX6,hKp⟩:=hrel
  by_cases hkn:k<ax
  . obtain⟨q,hq⟩:∃q,p+6*k=q:=⟨_,rfl⟩
    have HMP:Hid (tesAt xs p (k+1)=tesAt xs p k++[teAt xs (p+6*k)]):=zo9 xs p k
    have HQ6:Hid (p+6*(k+1)=q+6):=by show _=_;omega
    have hl7:(tesAt xs p k).length+1<=1000000:=by rw[za5];omega
    have hC:=fun U hs=>zqs g pa pc xs q U hs (by omega)
    have HTW:Hid (Tw (teAt xs q)):=z3w hS.rb.lim q
    rw[hq]at hS HMP
    obtain⟨tt,htt⟩:∃x,teAt xs q=x:=⟨_,rfl⟩
    rw[htt]at HTW HMP
    simp only[htt]at hC
    obtain⟨z0,z1,z2⟩:=tt;dsimp only at hC;clear htt hq
    go_upto_region 6 with fail
    refine wp_region_held_drew (S:=(fun _=>True)) (by kernel_rfl) ?_ (fun hH=>?_)
    . (try dsimp only)
      all_goals go_keep
    have hdr:Below wr.heap.size wr wr.drew:=Below.drew1
    replace hKp:Kp g w wr.drew:=hKp.drew
    generalize wr.drew=ud at hdr hKp hH ⊢
    replace hS:=hS.below hdr;replace hX6:=hX6.below hdr;replace hX8:=hX8.below hdr;replace hG:=hG.below hdr;clear hdr;refine hT 0 hH ?_;refine hT 2 hH ?_
    refine wpAnyH_ready (rs:=[1,3]) (by kernel_rfl) (by simp) (hCons (i:=1) rfl (by rfl) (fun K hK=>?_) (hCons (i:=3) rfl (by rfl) (fun K hK=>?_) AllReadyH.nil))
    . obtain⟨y0,y1,y2,y3,y4,-⟩:=hX8.five
      go_simp
      refine hK.out _ _ ?_ (fun hH=>?_)
      . (try dsimp only)
        all_goals trivial
      clear hK K
      try simp only[Act.put,pZ]
      clear y0 y1 y2 y3 y4
      refine hCall (i:=3) rfl (by kernel_rfl) (by rfl) (fun K hK=>?_)
      go_simp
      refine(hC _ hS).mono ?_
      rintro e u3 ⟨rfl,hS3,hk3⟩
      replace hX8:=hX8.kp hk3 (by omega)
      replace hX6:=hX6.kp hk3 (by omega)
      replace hG:=hG.kp hS.bk (by decide) hk3
      replace hKp:=hKp.trans hk3
      replace hS:=hS3
      clear hS3 hk3
      go_wp2_with fail
      refine hK.out _ _ ?_ (fun hH=>?_)
      . (try dsimp only)
        all_goals trivial
      clear hK K
      try simp only[Act.put,pZ]
      refine hCall (i:=4) rfl (by kernel_rfl) (by rfl) (fun K hK=>?_)
      go_simp
      obtain⟨V1,hV1,A1,hb1⟩:∃U,U=u3.alloc (.cells #[.int .i64 z0,.int .i64 z1,.int .i64 z2] 146)/\Bk 146 U u3.heap.size [.int .i64 z0,.int .i64 z1,.int .i64 z2]/\Below u3.heap.size u3 U:=⟨_,rfl,Bk.new _ _ _,bl1 _⟩
      rw[<-hV1];clear hV1;replace hX8:=hX8.below hb1;replace hX6:=hX6.below hb1;replace hG:=hG.below hb1;replace hS:=hS.below hb1
      replace hKp:=hKp.trans (Kp.of hb1)
      clear hb1
      generalize u3.heap.size=gq at *
      refine hK.out _ _ ?_ (fun hH=>?_)
      . (try dsimp only)
        all_goals trivial
      clear hK K
      try simp only[Act.put,pZ]
      have zba:Gr TeE (fun k=>False/\(Value.slice a8 k c8).ownBlock≠some k) V1 (some ⟨gq,0,none⟩) 1 [⟨z0,z1,z2⟩]:=Gr.one (E:=TeE) (vs:=teV ⟨z0,z1,z2⟩) (zhg.2 ⟨rfl,HTW.out⟩) A1.lt (fun j hj=>A1.cell j hj)
      have hbs:gt+1<=V1.heap.size:=hX8.lt
      refine hCall (i:=5) rfl (by kernel_rfl) (by rfl) (fun K hK=>?_)
      refine zbh 116 146 Tryz.underlying116 zlx rfl (by decide) (by decide) _ _ rfl (gt+1) (fun _=>False) (.slice a8 k c8) (tesAt xs p k) rfl hG ⟨gq,0,none⟩ 1 1 [⟨z0,z1,z2⟩] rfl rfl zba hl7 hbs ?_
      intro v9 w9 hT9 hgrow _
      have hne:∀q,q<=gt->(Value.slice a8 k c8).ownBlock≠some q:=fun q hq e=>by have:=(hG.lo e).1;omega
      have hX9:=hX8.grown hgrow (hne _ (by omega))
      have zy8:=hX6.grown hgrow (hne _ (by omega))
      have hK9:Kp g w w9:=hKp.grown hgrow (fun k hk=>by have:=(hG.lo hk).1;have:=HGR.out;omega)
      have hS9:=HS0.out.of hK9 (hS.bk.grown hgrow (hne _ (by omega)))
      rw[<-HMP.out]at hT9;obtain⟨a9,c9,e9,-,-⟩:=hT9.slice;rw[za5]at e9;subst e9;clear hG hX8 hX6 hKp hS zba hbs hgrow hne A1
      refine hK.out _ _ ?_ (fun hH=>?_)
      . (try dsimp only)
        all_goals trivial
      clear hK K
      try simp only[Act.put,pZ]
      refine hT 6 hH ?_
      refine hCall (i:=7) rfl (by kernel_rfl) (by rfl) (fun K hK=>?_)
      obtain⟨y0,-,-,-,-,f0,-⟩:=hX9.five;go_simp
      have zy9:=hX9.set 0 (.slice a9 (k+1) c9)
      have zkt:=zy8.other 0 (.slice a9 (k+1) c9) (b:=gt) (by omega)
      have zl3:Kp g w (w9.setCell ⟨gt,0,none⟩ (.slice a9 (k+1) c9)):=hK9.new (by have:=HGR.out;omega) 0 _
      have zxa:=HS0.out.of zl3 (hS9.bk.other 0 (.slice a9 (k+1) c9) (b:=gt) (by omega))
      have z47:=hT9.setB hX9 (by decide) 0 (.slice a9 (k+1) c9)
      clear y0 f0 hX9 zy8 hK9 hS9 hT9
      generalize w9.setCell ⟨gt,0,none⟩ (.slice a9 (k+1) c9)=w10 at *
      refine hK.out _ _ ?_ (fun hH=>?_)
      . (try dsimp only)
        all_goals trivial
      clear hK K
      try simp only[Act.put,pZ]
      refine wpAnyH_done (by kernel_rfl) ?_ _
      have zuu:Hid (Bk 144 w10 gt [.slice a9 (k+1) c9,.bool false,.slice none 0 0,.slice none 0 0,.slice none 0 0]):=zy9
      have HY6:Hid (_):=zkt
      clear hH zy9 zkt HMP hl7 hC HTW;go_wp2
      go_roundw
      case rel=>exact⟨k+1,a9,c9,by omega,by go_num,zuu.out,z47,by rw[HQ6.out];exact zxa,HY6.out,zl3⟩
      case measure=>simp[intOf];omega
    . go_simp
      refine(hC _ hS).mono ?_
      rintro e u3 ⟨rfl,hS3,hk3⟩
      replace hX8:=hX8.kp hk3 (by omega)
      replace hX6:=hX6.kp hk3 (by omega)
      replace hG:=hG.kp hS.bk (by decide) hk3
      replace hKp:=hKp.trans hk3
      replace hS:=hS3
      clear hS3 hk3
      go_wp2_with fail
      refine hK.out _ _ ?_ (fun hH=>?_)
      . (try dsimp only)
        all_goals trivial
      clear hK K
      try simp only[Act.put,pZ]
      refine wpAnyH_ready (rs:=[1,4]) (by kernel_rfl) (by simp) (hCons (i:=1) rfl (by rfl) (fun K hK=>?_) (hCons (i:=4) rfl (by rfl) (fun K hK=>?_) AllReadyH.nil))
      . obtain⟨y0,y1,y2,y3,y4,-⟩:=hX8.five
        go_simp
        refine hK.out _ _ ?_ (fun hH=>?_)
        . (try dsimp only)
          all_goals trivial
        clear hK K
        try simp only[Act.put,pZ]
        clear y0 y1 y2 y3 y4
        refine hCall (i:=4) rfl (by kernel_rfl) (by rfl) (fun K hK=>?_)
        go_simp
        obtain⟨V1,hV1,A1,hb1⟩:∃U,U=u3.alloc (.cells #[.int .i64 z0,.int .i64 z1,.int .i64 z2] 146)/\Bk 146 U u3.heap.size [.int .i64 z0,.int .i64 z1,.int .i64 z2]/\Below u3.heap.size u3 U:=⟨_,rfl,Bk.new _ _ _,bl1 _⟩
        rw[<-hV1];clear hV1;replace hX8:=hX8.below hb1;replace hX6:=hX6.below hb1;replace hG:=hG.below hb1;replace hS:=hS.below hb1
        replace hKp:=hKp.trans (Kp.of hb1)
        clear hb1
        generalize u3.heap.size=gq at *
        refine hK.out _ _ ?_ (fun hH=>?_)
        . (try dsimp only)
          all_goals trivial
        clear hK K
        try simp only[Act.put,pZ]
        have zba:Gr TeE (fun k=>False/\(Value.slice a8 k c8).ownBlock≠some k) V1 (some ⟨gq,0,none⟩) 1 [⟨z0,z1,z2⟩]:=Gr.one (E:=TeE) (vs:=teV ⟨z0,z1,z2⟩) (zhg.2 ⟨rfl,HTW.out⟩) A1.lt (fun j hj=>A1.cell j hj)
        have hbs:gt+1<=V1.heap.size:=hX8.lt
        refine hCall (i:=5) rfl (by kernel_rfl) (by rfl) (fun K hK=>?_)
        refine zbh 116 146 Tryz.underlying116 zlx rfl (by decide) (by decide) _ _ rfl (gt+1) (fun _=>False) (.slice a8 k c8) (tesAt xs p k) rfl hG ⟨gq,0,none⟩ 1 1 [⟨z0,z1,z2⟩] rfl rfl zba hl7 hbs ?_
        intro v9 w9 hT9 hgrow _
        have hne:∀q,q<=gt->(Value.slice a8 k c8).ownBlock≠some q:=fun q hq e=>by have:=(hG.lo e).1;omega
        have hX9:=hX8.grown hgrow (hne _ (by omega))
        have zy8:=hX6.grown hgrow (hne _ (by omega))
        have hK9:Kp g w w9:=hKp.grown hgrow (fun k hk=>by have:=(hG.lo hk).1;have:=HGR.out;omega)
        have hS9:=HS0.out.of hK9 (hS.bk.grown hgrow (hne _ (by omega)))
        rw[<-HMP.out]at hT9;obtain⟨a9,c9,e9,-,-⟩:=hT9.slice;rw[za5]at e9;subst e9;clear hG hX8 hX6 hKp hS zba hbs hgrow hne A1
        refine hK.out _ _ ?_ (fun hH=>?_)
        . (try dsimp only)
          all_goals trivial
        clear hK K
        try simp only[Act.put,pZ]
        refine hT 6 hH ?_
        refine hCall (i:=7) rfl (by kernel_rfl) (by rfl) (fun K hK=>?_)
        obtain⟨y0,-,-,-,-,f0,-⟩:=hX9.five;go_simp
        have zy9:=hX9.set 0 (.slice a9 (k+1) c9)
        have zkt:=zy8.other 0 (.slice a9 (k+1) c9) (b:=gt) (by omega)
        have zl3:Kp g w (w9.setCell ⟨gt,0,none⟩ (.slice a9 (k+1) c9)):=hK9.new (by have:=HGR.out;omega) 0 _
        have zxa:=HS0.out.of zl3 (hS9.bk.other 0 (.slice a9 (k+1) c9) (b:=gt) (by omega))
        have z47:=hT9.setB hX9 (by decide) 0 (.slice a9 (k+1) c9)
        clear y0 f0 hX9 zy8 hK9 hS9 hT9
        generalize w9.setCell ⟨gt,0,none⟩ (.slice a9 (k+1) c9)=w10 at *
        refine hK.out _ _ ?_ (fun hH=>?_)
        . (try dsimp only)
          all_goals trivial
        clear hK K
        try simp only[Act.put,pZ]
        refine wpAnyH_done (by kernel_rfl) ?_ _
        have zuu:Hid (Bk 144 w10 gt [.slice a9 (k+1) c9,.bool false,.slice none 0 0,.slice none 0 0,.slice none 0 0]):=zy9
        have HY6:Hid (_):=zkt
        clear hH zy9 zkt HMP hl7 hC HTW;go_wp2
        go_roundw
        case rel=>exact⟨k+1,a9,c9,by omega,by go_num,zuu.out,z47,by rw[HQ6.out];exact zxa,HY6.out,zl3⟩
        case measure=>simp[intOf];omega
      . go_simp
        obtain⟨V1,hV1,A1,hb1⟩:∃U,U=u3.alloc (.cells #[.int .i64 z0,.int .i64 z1,.int .i64 z2] 146)/\Bk 146 U u3.heap.size [.int .i64 z0,.int .i64 z1,.int .i64 z2]/\Below u3.heap.size u3 U:=⟨_,rfl,Bk.new _ _ _,bl1 _⟩
        rw[<-hV1];clear hV1;replace hX8:=hX8.below hb1;replace hX6:=hX6.below hb1;replace hG:=hG.below hb1;replace hS:=hS.below hb1
        replace hKp:=hKp.trans (Kp.of hb1)
        clear hb1
        generalize u3.heap.size=gq at *
        refine hK.out _ _ ?_ (fun hH=>?_)
        . (try dsimp only)
          all_goals trivial
        clear hK K
        try simp only[Act.put,pZ]
        refine hCall (i:=1) rfl (by kernel_rfl) (by rfl) (fun K hK=>?_)
        obtain⟨y0,y1,y2,y3,y4,-⟩:=hX8.five;go_simp
        refine hK.out _ _ ?_ (fun hH=>?_)
        . (try dsimp only)
          all_goals trivial
        clear hK K
        try simp only[Act.put,pZ]
        clear y0 y1 y2 y3 y4
        have zba:Gr TeE (fun k=>False/\(Value.slice a8 k c8).ownBlock≠some k) V1 (some ⟨gq,0,none⟩) 1 [⟨z0,z1,z2⟩]:=Gr.one (E:=TeE) (vs:=teV ⟨z0,z1,z2⟩) (zhg.2 ⟨rfl,HTW.out⟩) A1.lt (fun j hj=>A1.cell j hj)
        have hbs:gt+1<=V1.heap.size:=hX8.lt
        refine hCall (i:=5) rfl (by kernel_rfl) (by rfl) (fun K hK=>?_)
        refine zbh 116 146 Tryz.underlying116 zlx rfl (by decide) (by decide) _ _ rfl (gt+1) (fun _=>False) (.slice a8 k c8) (tesAt xs p k) rfl hG ⟨gq,0,none⟩ 1 1 [⟨z0,z1,z2⟩] rfl rfl zba hl7 hbs ?_
        intro v9 w9 hT9 hgrow _
        have hne:∀q,q<=gt->(Value.slice a8 k c8).ownBlock≠some q:=fun q hq e=>by have:=(hG.lo e).1;omega
        have hX9:=hX8.grown hgrow (hne _ (by omega))
        have zy8:=hX6.grown hgrow (hne _ (by omega))
        have hK9:Kp g w w9:=hKp.grown hgrow (fun k hk=>by have:=(hG.lo hk).1;have:=HGR.out;omega)
        have hS9:=HS0.out.of hK9 (hS.bk.grown hgrow (hne _ (by omega)))
        rw[<-HMP.out]at hT9;obtain⟨a9,c9,e9,-,-⟩:=hT9.slice;rw[za5]at e9;subst e9;clear hG hX8 hX6 hKp hS zba hbs hgrow hne A1
        refine hK.out _ _ ?_ (fun hH=>?_)
        . (try dsimp only)
          all_goals trivial
        clear hK K
        try simp only[Act.put,pZ]
        refine hT 6 hH ?_
        refine hCall (i:=7) rfl (by kernel_rfl) (by rfl) (fun K hK=>?_)
        obtain⟨y0,-,-,-,-,f0,-⟩:=hX9.five;go_simp
        have zy9:=hX9.set 0 (.slice a9 (k+1) c9)
        have zkt:=zy8.other 0 (.slice a9 (k+1) c9) (b:=gt) (by omega)
        have zl3:Kp g w (w9.setCell ⟨gt,0,none⟩ (.slice a9 (k+1) c9)):=hK9.new (by have:=HGR.out;omega) 0 _
        have zxa:=HS0.out.of zl3 (hS9.bk.other 0 (.slice a9 (k+1) c9) (b:=gt) (by omega))
        have z47:=hT9.setB hX9 (by decide) 0 (.slice a9 (k+1) c9)
        clear y0 f0 hX9 zy8 hK9 hS9 hT9
        generalize w9.setCell ⟨gt,0,none⟩ (.slice a9 (k+1) c9)=w10 at *
        refine hK.out _ _ ?_ (fun hH=>?_)
        . (try dsimp only)
          all_goals trivial
        clear hK K
        try simp only[Act.put,pZ]
        refine wpAnyH_done (by kernel_rfl) ?_ _
        have zuu:Hid (Bk 144 w10 gt [.slice a9 (k+1) c9,.bool false,.slice none 0 0,.slice none 0 0,.slice none 0 0]):=zy9
        have HY6:Hid (_):=zkt
        clear hH zy9 zkt HMP hl7 hC HTW;go_wp2
        go_roundw
        case rel=>exact⟨k+1,a9,c9,by omega,by go_num,zuu.out,z47,by rw[HQ6.out];exact zxa,HY6.out,zl3⟩
        case measure=>simp[intOf];omega
  . have ek:k=ax:=by omega
    rw[ek]at hX8 hG hS ⊢
    have g4:¬(ax:Int)<(ax:Int):=by omega
    clear ek hk hkn k
    obtain⟨q,hq⟩:∃q,p+6*ax=q:=⟨_,rfl⟩
    have HQ:Hid (p+6*ax=q):=hq
    rw[hq]at hS hle
    have hqx:q<=xs.length:=hle
    have hRT:TeE.row.rep (fun k=>gt+1<=k) wr [.slice a8 ax c8] (tesAt xs p ax):=by
     have:=Gw.rowU (l:=tesAt xs p ax) (a:=a8) (c:=c8) (by rw[za5];exact hG) (by rw[za5];omega)
     rw[za5]at this
     exact this
    clear hq hG hle
    have HDL:Hid ((xs.drop q).length=xs.length-q):=List.length_drop ..
    have hF:=fun U (hr:Rb U pa pc xs)=>zc5 _ _ (xs.drop q) U (hr.from q hqx) (by rw[HDL.out];omega)
    rw[HDL.out]at hF
    obtain⟨pa2,z1x⟩:∃x,(if pc=q then pa else pa.map (fun x=>x.add q))=x:=⟨_,rfl⟩
    rw[z1x]at hF
    have HPA:Hid ((if pc=q then pa else pa.map (fun x=>x.add q))=pa2):=z1x
    clear z1x;obtain⟨x0,x1,_⟩:=hS.bk.two
    go_upto_region 8 with fail
    refine wp_region_held_drew (S:=(fun u=>u.cell? ⟨g,0,none⟩=some (.slice pa xs.length pc)/\u.cell? ⟨g,1,none⟩=some (.int .i64 (q:Int)))) (by kernel_rfl) ?_ (fun hH=>?_)
    . (try dsimp only)
      go_keep
    have hdr:Below wr.heap.size wr wr.drew:=Below.drew1
    replace hKp:Kp g w wr.drew:=hKp.drew
    generalize wr.drew=ud at hdr hKp hH ⊢
    replace hS:=hS.below hdr;replace hX6:=hX6.below hdr;replace hX8:=hX8.below hdr
    replace hRT:=zai hRT (K3.kp (n:=gt+1) (Kp.of (g:=g) hdr) (by omega))
    have hgtu:=hX8.lt
    clear hdr x0 x1;refine hT 0 hH ?_;refine hT 1 hH ?_;refine hT 2 hH ?_;refine hT 3 hH ?_;refine hT 4 hH ?_;refine hT 5 hH ?_;refine hT 6 hH ?_;refine hT 7 hH ?_
    refine hTake (i:=8) (v:=.slice pa2 (xs.length-q) (pc-q)) rfl (by kernel_rfl) (by kernel_rfl) (by kernel_rfl) (fun _ _ _ h=>h) (Or.inl ⟨by rfl,?y1⟩) hH ?r1
    case y1 =>
     intro w9 hSw
     (try dsimp only at hSw)
     go_simp
     exact HPA.out
    try simp only[Act.put,pZ]
    refine hCall (i:=9) rfl (by kernel_rfl) (by rfl) (fun K hK=>?_)
    go_simp
    refine(hF _ hS.rb).mono ?_
    rintro e u1 ⟨a1,c1,rfl,hri,hlo,hno,hb1⟩;replace hS:=hS.below hb1;replace hX6:=hX6.below hb1;replace hX8:=hX8.below hb1
    replace hRT:=zai hRT (K3.kp (n:=gt+1) (Kp.of (g:=g) hb1) (by omega))
    replace hKp:=hKp.trans (Kp.of hb1)
    obtain⟨x0,x1,_⟩:=hS.bk.two
    go_wp2_with fail
    refine hK.out _ _ ?_ (fun hH=>?_)
    . (try dsimp only)
      exact⟨x0,x1⟩
    clear hK K x0 x1 hb1 hF
    try simp only[Act.put,pZ]
    refine hT 10 hH ?_;refine hT 11 hH ?_;refine hT 12 hH ?_;refine hT 13 hH ?_;refine hT 14 hH ?_;refine hT 15 hH ?_;refine hT 16 hH ?_
    refine wpAnyH_done (by kernel_rfl) ?_ _
    clear hH
    cases ho:rpO (xs.drop q) with
    | none =>
     have HNO:Hid (rdTu xs ax cnt p=none):=zvr HQ.out hqx ho
     obtain⟨k1,k2,k3⟩:=z0l ho
     rw[k1,k2,k3];clear k1 k2 k3 ho hri hlo hno hRT hS
     generalize u1=wz at hX8 hX6 hKp ⊢
     obtain⟨d0,d1,d2,d3,d4,-⟩:=hX8.five;obtain⟨y0,y1,y2,y3,y4,f0,f1,f2,f3,f4⟩:=hX6.five
     have HA5:Hid (_):=(hX6.set5U (.slice a8 ax c8) (.bool false) (.slice none 0 0) (.slice none 0 0) (.slice none 0 0)).five
     have HKF:Hid (Kp g w (S5 wz gr (.slice a8 ax c8) (.bool false) (.slice none 0 0) (.slice none 0 0) (.slice none 0 0))):=hKp.new5 (by have:=HGR.out;omega) _ _ _ _ _
     clear hX6 hX8 hKp;go_wp2
     refine bodyPost_ret (v:=.tuple #[.agg #[.slice a8 ax c8,.bool false,.slice none 0 0,.slice none 0 0,.slice none 0 0],.bool false]) (by obtain⟨r0,r1,r2,r3,r4,-⟩:=HA5.out;simp[results,Tryz.results149,go_sem,r0,r1,r2,r3,r4]) rfl ⟨by rw[HNO.out];exact⟨_,_,_,_,_,_,_,_,_,_,_,_,_,rfl⟩,HKF.out⟩
    | some r =>
     obtain⟨ps,q1⟩:=r
     obtain⟨k1,k2,k3,k4,k5⟩:=z0n ho
     rw[k1]at hri;rw[k1,k2,k3]
     have HRP:Hid (rpO (xs.drop q)=some (ps,q1)):=ho
     obtain⟨n1,hn1⟩:∃n,ps.length=n:=⟨_,rfl⟩
     have HN1:Hid (ps.length=n1):=hn1
     have hRP:=hri.row (S:=fun k=>gt+1<=k) (fun b o e=>by have:=hlo b o e;omega) hno (by omega)
     rw[hn1]at hRP ⊢;rw[hn1]at k5;rw[HDL.out]at k4
     obtain⟨q5,hq5⟩:∃n,q+q1=n:=⟨_,rfl⟩
     have HQ5:Hid (q+q1=q5):=hq5
     have hq5x:q5<=xs.length:=by omega
     clear k1 k2 k3 ho hri hlo hno hn1 hq5
     by_cases hz:n1=0
     . have gb:((n1:Int)==0)=true:=by simpa using hz
       clear hz
       have HAL:Hid (decide (ps.length=0)=true):=by show _=_;rw[HN1.out];simpa using gb
       have HCN:Hid ((cnN cnt ps:Int)=(cnt:Int)):=by show _=_;unfold cnN;rw[HN1.out];rw[if_pos (by simpa using gb)]
       obtain⟨s0,s1,g0,g1⟩:=hS.bk.two;obtain⟨y0,y1,y2,y3,y4,f0,f1,f2,f3,f4⟩:=hX8.five
       have hpn:(q:Int)+(q1:Int)=(q5:Int):=by have:=HQ5.out;omega
       have hK1:Kp g w (u1.setCell ⟨g,1,none⟩ (.int .i64 (q5:Int))):=hKp.setCell 1 _
       have hS1:Sc 203 (u1.setCell ⟨g,1,none⟩ (.int .i64 (q5:Int))) g pa pc xs q5:=hS.step q5
       have z19:=(((hX8.other 1 (.int .i64 (q5:Int)) (b:=g) (by omega)).set 2 (.slice a1 n1 c1)).set 1 (.bool true))
       have z2a:=(((hX6.other 1 (.int .i64 (q5:Int)) (b:=g) (by omega)).other 2 (.slice a1 n1 c1) (b:=gt) (by omega)).other 1 (.bool true) (b:=gt) (by omega))
       have zxb:Kp g w (((u1.setCell ⟨g,1,none⟩ (.int .i64 (q5:Int))).setCell ⟨gt,2,none⟩ (.slice a1 n1 c1)).setCell ⟨gt,1,none⟩ (.bool true)):=((hK1.new (b:=gt) (by have:=HGR.out;omega) 2 _).new (b:=gt) (by have:=HGR.out;omega) 1 _)
       have hSD:Sc 203 (((u1.setCell ⟨g,1,none⟩ (.int .i64 (q5:Int))).setCell ⟨gt,2,none⟩ (.slice a1 n1 c1)).setCell ⟨gt,1,none⟩ (.bool true)) g pa pc xs q5:=HS0.out.of zxb ((hS1.bk.other 2 (.slice a1 n1 c1) (b:=gt) (by omega)).other 1 (.bool true) (b:=gt) (by omega))
       have z2c:=zai hRT (((K3.set (n:=gt+1) u1 (b:=g) (by omega) 1 (.int .i64 (q5:Int))).trans (K3.set _ (b:=gt) (by omega) 2 (.slice a1 n1 c1))).trans (K3.set _ (b:=gt) (by omega) 1 (.bool true)))
       have z2d:=zai hRP (((K3.set (n:=gt+1) u1 (b:=g) (by omega) 1 (.int .i64 (q5:Int))).trans (K3.set _ (b:=gt) (by omega) 2 (.slice a1 n1 c1))).trans (K3.set _ (b:=gt) (by omega) 1 (.bool true)))
       clear hX8 hX6 hKp hS hRT hRP hK1 hS1
       go_upto_region 13 with fail
       generalize (((u1.setCell ⟨g,1,none⟩ (.int .i64 (q5:Int))).setCell ⟨gt,2,none⟩ (.slice a1 n1 c1)).setCell ⟨gt,1,none⟩ (.bool true))=u4 at z19 z2a zxb hSD z2c z2d ⊢
       clear s0 s1 g0 g1 y0 y1 y2 y3 y4 f0 f1 f2 f3 f4 hpn
       have hX8:Bk 144 u4 gt [.slice a8 ax c8,.bool true,.slice a1 n1 c1,.slice none 0 0,.slice none 0 0]:=z19
       have hX6:=z2a
       have hKp:=zxb
       have hS:=hSD
       have hRT:=z2c
       have hRP:=z2d
       clear z19 z2a zxb hSD z2c z2d
       have hgtu2:=hX8.lt
       obtain⟨y0,y1,y2,y3,y4,f0,f1,f2,f3,f4⟩:=hX8.five
       have hcx:=zfr g pa pc xs q5 (cnt:Int) u4 hS (by omega) hxl ⟨by omega,by omega⟩
       go_wp2_with fail
       refine hcx.mono ?_
       rintro e u5 ⟨a2,c2,rfl,zlz,zl0,z1z,hS5,hk5⟩
       replace hX8:=hX8.kp hk5 (by omega)
       replace hX6:=hX6.kp hk5 (by omega)
       replace hKp:=hKp.trans hk5
       replace hRT:=zai hRT (K3.kp (n:=gt+1) hk5 (by omega))
       replace hRP:=zai hRP (K3.kp (n:=gt+1) hk5 (by omega))
       replace hS:=hS5
       clear hcx hS5 hk5 y0 y1 y2 y3 y4 f0 f1 f2 f3 f4
       obtain⟨n2,hn2⟩:∃n,(rcL (xs.drop q5) (cnt:Int)).length=n:=⟨_,rfl⟩
       have hnl2:n2<=9223372036854775807:=by have:=zlz.lenB;omega
       cases ho2:rcO (xs.drop q5) (cnt:Int) with
       | none =>
        have HNO:Hid (rdTu xs ax cnt p=none):=znk HQ.out hqx HRP.out (by rw[HCN.out,HQ5.out];exact ho2)
        rw[hn2];clear hn2 zlz zl0 z1z ho2 hS hRT hRP;obtain⟨y0,y1,y2,y3,y4,f0,f1,f2,f3,f4⟩:=hX8.five
        replace hX8:=hX8.set 3 (.slice a2 n2 c2)
        replace hX6:=hX6.other 3 (.slice a2 n2 c2) (b:=gt) (by omega)
        replace hKp:=hKp.new (b:=gt) (by have:=HGR.out;omega) 3 (.slice a2 n2 c2)
        go_upto_region 18 with fail
        generalize (u5.setCell ⟨gt,3,none⟩ (.slice a2 n2 c2))=wz at hX8 hX6 hKp ⊢
        obtain⟨d0,d1,d2,d3,d4,-⟩:=hX8.five;obtain⟨y0,y1,y2,y3,y4,f0,f1,f2,f3,f4⟩:=hX6.five
        have HA5:Hid (_):=(hX6.set5U (.slice a8 ax c8) (.bool true) (.slice a1 n1 c1) (.slice a2 n2 c2) (.slice none 0 0)).five
        have HKF:Hid (Kp g w (S5 wz gr (.slice a8 ax c8) (.bool true) (.slice a1 n1 c1) (.slice a2 n2 c2) (.slice none 0 0))):=hKp.new5 (by have:=HGR.out;omega) _ _ _ _ _
        clear hX6 hX8 hKp;go_wp2
        refine bodyPost_ret (v:=.tuple #[.agg #[.slice a8 ax c8,.bool true,.slice a1 n1 c1,.slice a2 n2 c2,.slice none 0 0],.bool false]) (by obtain⟨r0,r1,r2,r3,r4,-⟩:=HA5.out;simp[results,Tryz.results149,go_sem,r0,r1,r2,r3,r4]) rfl ⟨by rw[HNO.out];exact⟨_,_,_,_,_,_,_,_,_,_,_,_,_,rfl⟩,HKF.out⟩
       | some r2 =>
        obtain⟨dx,q2⟩:=r2
        obtain⟨k1,k2,k3,k4⟩:=zfu ho2
        rw[k1]at zlz hn2;rw[k2]at hS;rw[k1,hn2]
        have hRX:=zlz.row (S:=fun k=>gt+1<=k) (fun b o e=>by have:=zl0 b o e;omega) z1z (by omega)
        rw[hn2]at hRX
        have HO2:Hid (rcO (xs.drop q5) (cnt:Int)=some (dx,q2)):=ho2
        have HN2:Hid (dx.length=n2):=hn2
        rw[List.length_drop]at k3
        obtain⟨q6,hq6⟩:∃n,q5+q2=n:=⟨_,rfl⟩
        have HQ6:Hid (q5+q2=q6):=hq6
        have hq6x:q6<=xs.length:=by omega
        rw[hq6]at hS;clear hn2 zlz zl0 z1z ho2 k1 k2 k3 hq6
        have hSn:Sc 203 (u5.setCell ⟨gt,3,none⟩ (.slice a2 n2 c2)) g pa pc xs q6:=HS0.out.of (hKp.new (b:=gt) (by have:=HGR.out;omega) 3 _) (hS.bk.other 3 (.slice a2 n2 c2) (b:=gt) (by omega))
        obtain⟨y0,y1,y2,y3,y4,f0,f1,f2,f3,f4⟩:=hX8.five
        replace hX8:=hX8.set 3 (.slice a2 n2 c2)
        replace hX6:=hX6.other 3 (.slice a2 n2 c2) (b:=gt) (by omega)
        replace hKp:=hKp.new (b:=gt) (by have:=HGR.out;omega) 3 (.slice a2 n2 c2)
        replace hRT:=zai hRT (K3.set (n:=gt+1) u5 (b:=gt) (by omega) 3 (.slice a2 n2 c2))
        replace hRP:=zai hRP (K3.set (n:=gt+1) u5 (b:=gt) (by omega) 3 (.slice a2 n2 c2))
        replace hRX:=zai hRX (K3.set (n:=gt+1) u5 (b:=gt) (by omega) 3 (.slice a2 n2 c2))
        clear hS
        go_upto_region 19 with fail
        generalize (u5.setCell ⟨gt,3,none⟩ (.slice a2 n2 c2))=u6 at hX8 hX6 hKp hSn hRT hRP hRX ⊢
        have hS:=hSn
        have z43:Bk 144 u6 gt [.slice a8 ax c8,.bool true,.slice a1 n1 c1,.slice a2 n2 c2,.slice none 0 0]:=hX8
        clear hSn hX8 y0 y1 y2 y3 y4 f0 f1 f2 f3 f4
        have hX8:=z43
        clear z43
        have hgtu3:=hX8.lt
        obtain⟨y0,y1,y2,y3,y4,f0,f1,f2,f3,f4⟩:=hX8.five
        have hcx:=zfr g pa pc xs q6 (cnt:Int) u6 hS (by omega) hxl ⟨by omega,by omega⟩
        go_wp2_with fail
        refine hcx.mono ?_
        rintro e u7 ⟨a3,c3,rfl,zs8,z10,z1y,hS5,hk5⟩
        replace hX8:=hX8.kp hk5 (by omega)
        replace hX6:=hX6.kp hk5 (by omega)
        replace hKp:=hKp.trans hk5
        replace hRT:=zai hRT (K3.kp (n:=gt+1) hk5 (by omega))
        replace hRP:=zai hRP (K3.kp (n:=gt+1) hk5 (by omega))
        replace hRX:=zai hRX (K3.kp (n:=gt+1) hk5 (by omega))
        replace hS:=hS5
        clear hcx hS5 hk5 y0 y1 y2 y3 y4 f0 f1 f2 f3 f4
        obtain⟨n3,hn3⟩:∃n,(rcL (xs.drop q6) (cnt:Int)).length=n:=⟨_,rfl⟩
        have hnl3:n3<=9223372036854775807:=by have:=zs8.lenB;omega
        cases ho3:rcO (xs.drop q6) (cnt:Int) with
        | none =>
         have HNO:Hid (rdTu xs ax cnt p=none):=znj HQ.out hqx HRP.out (by rw[HCN.out,HQ5.out];exact HO2.out) (by rw[HCN.out,HQ5.out,HQ6.out];exact ho3)
         rw[hn3];clear hn3 zs8 z10 z1y ho3 hS hRT hRP hRX;obtain⟨y0,y1,y2,y3,y4,f0,f1,f2,f3,f4⟩:=hX8.five
         replace hX8:=hX8.set 4 (.slice a3 n3 c3)
         replace hX6:=hX6.other 4 (.slice a3 n3 c3) (b:=gt) (by omega)
         replace hKp:=hKp.new (b:=gt) (by have:=HGR.out;omega) 4 (.slice a3 n3 c3)
         go_upto_region 20 with fail
         generalize (u7.setCell ⟨gt,4,none⟩ (.slice a3 n3 c3))=wz at hX8 hX6 hKp ⊢
         obtain⟨d0,d1,d2,d3,d4,-⟩:=hX8.five;obtain⟨y0,y1,y2,y3,y4,f0,f1,f2,f3,f4⟩:=hX6.five
         have HA5:Hid (_):=(hX6.set5U (.slice a8 ax c8) (.bool true) (.slice a1 n1 c1) (.slice a2 n2 c2) (.slice a3 n3 c3)).five
         have HKF:Hid (Kp g w (S5 wz gr (.slice a8 ax c8) (.bool true) (.slice a1 n1 c1) (.slice a2 n2 c2) (.slice a3 n3 c3))):=hKp.new5 (by have:=HGR.out;omega) _ _ _ _ _
         clear hX6 hX8 hKp;go_wp2
         refine bodyPost_ret (v:=.tuple #[.agg #[.slice a8 ax c8,.bool true,.slice a1 n1 c1,.slice a2 n2 c2,.slice a3 n3 c3],.bool false]) (by obtain⟨r0,r1,r2,r3,r4,-⟩:=HA5.out;simp[results,Tryz.results149,go_sem,r0,r1,r2,r3,r4]) rfl ⟨by rw[HNO.out];exact⟨_,_,_,_,_,_,_,_,_,_,_,_,_,rfl⟩,HKF.out⟩
        | some r3 =>
         obtain⟨dy,q3⟩:=r3
         obtain⟨k1,k2,k3,k5⟩:=zfu ho3
         rw[k1]at zs8 hn3;rw[k2]at hS;rw[k1,hn3]
         have hRY:=zs8.row (S:=fun k=>gt+1<=k) (fun b o e=>by have:=z10 b o e;omega) z1y (by omega)
         rw[hn3]at hRY
         have zqk:Hid (_):=zni (cnt:=cnt) HQ.out hqx HRP.out (by rw[HCN.out,HQ5.out];exact HO2.out) (by rw[HCN.out,HQ5.out,HQ6.out];exact ho3)
         rw[HAL.out,HQ5.out,HQ6.out]at zqk
         have HN3:Hid (dy.length=n3):=hn3
         rw[List.length_drop]at k3;clear hn3 zs8 z10 z1y ho3 k1 k2
         have hSn:Sc 203 (u7.setCell ⟨gt,4,none⟩ (.slice a3 n3 c3)) g pa pc xs (q6+q3):=HS0.out.of (hKp.new (b:=gt) (by have:=HGR.out;omega) 4 _) (hS.bk.other 4 (.slice a3 n3 c3) (b:=gt) (by omega))
         obtain⟨y0,y1,y2,y3,y4,f0,f1,f2,f3,f4⟩:=hX8.five
         replace hX8:=hX8.set 4 (.slice a3 n3 c3)
         replace hX6:=hX6.other 4 (.slice a3 n3 c3) (b:=gt) (by omega)
         replace hKp:=hKp.new (b:=gt) (by have:=HGR.out;omega) 4 (.slice a3 n3 c3)
         replace hRT:=zai hRT (K3.set (n:=gt+1) u7 (b:=gt) (by omega) 4 (.slice a3 n3 c3))
         replace hRP:=zai hRP (K3.set (n:=gt+1) u7 (b:=gt) (by omega) 4 (.slice a3 n3 c3))
         replace hRX:=zai hRX (K3.set (n:=gt+1) u7 (b:=gt) (by omega) 4 (.slice a3 n3 c3))
         replace hRY:=zai hRY (K3.set (n:=gt+1) u7 (b:=gt) (by omega) 4 (.slice a3 n3 c3))
         clear hS
         go_upto_region 20 with fail
         generalize (u7.setCell ⟨gt,4,none⟩ (.slice a3 n3 c3))=wz at hX8 hX6 hKp hSn hRT hRP hRX hRY ⊢
         obtain⟨d0,d1,d2,d3,d4,-⟩:=hX8.five;obtain⟨y0,y1,y2,y3,y4,f0,f1,f2,f3,f4⟩:=hX6.five
         have HA5:Hid (_):=(hX6.set5U (.slice a8 ax c8) (.bool true) (.slice a1 n1 c1) (.slice a2 n2 c2) (.slice a3 n3 c3)).five
         have HKF:Hid (Kp g w (S5 wz gr (.slice a8 ax c8) (.bool true) (.slice a1 n1 c1) (.slice a2 n2 c2) (.slice a3 n3 c3))):=hKp.new5 (by have:=HGR.out;omega) _ _ _ _ _
         have HSF:Hid (Sc 203 (S5 wz gr (.slice a8 ax c8) (.bool true) (.slice a1 n1 c1) (.slice a2 n2 c2) (.slice a3 n3 c3)) g pa pc xs (q6+q3)):=HS0.out.of HKF.out (hSn.bk.other5 (by omega) _ _ _ _ _)
         have HLE:Hid (q6+q3<=xs.length):=by show _<=_;omega
         have HTF:Hid (TeE.row.rep (fun k=>w.heap.size+2<=k) (S5 wz gr (.slice a8 ax c8) (.bool true) (.slice a1 n1 c1) (.slice a2 n2 c2) (.slice a3 n3 c3)) [.slice a8 (tesAt xs p ax).length c8] (tesAt xs p ax)/\El.int.row.rep (fun k=>w.heap.size+2<=k) (S5 wz gr (.slice a8 ax c8) (.bool true) (.slice a1 n1 c1) (.slice a2 n2 c2) (.slice a3 n3 c3)) [.slice a1 ps.length c1] ps/\El.int.row.rep (fun k=>w.heap.size+2<=k) (S5 wz gr (.slice a8 ax c8) (.bool true) (.slice a1 n1 c1) (.slice a2 n2 c2) (.slice a3 n3 c3)) [.slice a2 dx.length c2] dx/\El.int.row.rep (fun k=>w.heap.size+2<=k) (S5 wz gr (.slice a8 ax c8) (.bool true) (.slice a1 n1 c1) (.slice a2 n2 c2) (.slice a3 n3 c3)) [.slice a3 dy.length c3] dy):=by
          show _/\_
          rw[HN1.out,HN2.out,HN3.out,za5,show w.heap.size+2=gt+1 by have:=HGR.out;have:=HGT.out;omega]
          have hks:=K3.set5 (n:=gt+1) wz (b:=gr) (by omega) (.slice a8 ax c8) (.bool true) (.slice a1 n1 c1) (.slice a2 n2 c2) (.slice a3 n3 c3)
          exact⟨zai hRT hks,zai hRP hks,zai hRX hks,zai hRY hks⟩
         clear hSn hRT hRP hRX hRY;clear hX6 hX8 hKp;go_wp2
         refine bodyPost_ret (v:=.tuple #[.agg #[.slice a8 ax c8,.bool true,.slice a1 n1 c1,.slice a2 n2 c2,.slice a3 n3 c3],.bool true]) (by obtain⟨r0,r1,r2,r3,r4,-⟩:=HA5.out;simp[results,Tryz.results149,go_sem,r0,r1,r2,r3,r4]) rfl ⟨by rw[zqk.out];exact⟨a8,c8,a1,c1,a2,c2,a3,c3,by show _=_;rw[HN1.out,HN2.out,HN3.out,za5],⟨HTF.out.1,HTF.out.2.1,HTF.out.2.2.1,HTF.out.2.2.2⟩,HSF.out,HLE.out⟩,HKF.out⟩
     . have gb:((n1:Int)==0)=false:=by simpa using hz
       clear hz
       have HAL:Hid (decide (ps.length=0)=false):=by show _=_;rw[HN1.out];simpa using gb
       have HCN:Hid ((cnN cnt ps:Int)=(n1:Int)):=by show _=_;unfold cnN;rw[HN1.out];rw[if_neg (by simpa using gb)]
       obtain⟨s0,s1,g0,g1⟩:=hS.bk.two;obtain⟨y0,y1,y2,y3,y4,f0,f1,f2,f3,f4⟩:=hX8.five
       have hpn:(q:Int)+(q1:Int)=(q5:Int):=by have:=HQ5.out;omega
       have hK1:Kp g w (u1.setCell ⟨g,1,none⟩ (.int .i64 (q5:Int))):=hKp.setCell 1 _
       have hS1:Sc 203 (u1.setCell ⟨g,1,none⟩ (.int .i64 (q5:Int))) g pa pc xs q5:=hS.step q5
       have z19:=(((hX8.other 1 (.int .i64 (q5:Int)) (b:=g) (by omega)).set 2 (.slice a1 n1 c1)).set 1 (.bool false))
       have z2a:=(((hX6.other 1 (.int .i64 (q5:Int)) (b:=g) (by omega)).other 2 (.slice a1 n1 c1) (b:=gt) (by omega)).other 1 (.bool false) (b:=gt) (by omega))
       have zxb:Kp g w (((u1.setCell ⟨g,1,none⟩ (.int .i64 (q5:Int))).setCell ⟨gt,2,none⟩ (.slice a1 n1 c1)).setCell ⟨gt,1,none⟩ (.bool false)):=((hK1.new (b:=gt) (by have:=HGR.out;omega) 2 _).new (b:=gt) (by have:=HGR.out;omega) 1 _)
       have hSD:Sc 203 (((u1.setCell ⟨g,1,none⟩ (.int .i64 (q5:Int))).setCell ⟨gt,2,none⟩ (.slice a1 n1 c1)).setCell ⟨gt,1,none⟩ (.bool false)) g pa pc xs q5:=HS0.out.of zxb ((hS1.bk.other 2 (.slice a1 n1 c1) (b:=gt) (by omega)).other 1 (.bool false) (b:=gt) (by omega))
       have z2c:=zai hRT (((K3.set (n:=gt+1) u1 (b:=g) (by omega) 1 (.int .i64 (q5:Int))).trans (K3.set _ (b:=gt) (by omega) 2 (.slice a1 n1 c1))).trans (K3.set _ (b:=gt) (by omega) 1 (.bool false)))
       have z2d:=zai hRP (((K3.set (n:=gt+1) u1 (b:=g) (by omega) 1 (.int .i64 (q5:Int))).trans (K3.set _ (b:=gt) (by omega) 2 (.slice a1 n1 c1))).trans (K3.set _ (b:=gt) (by omega) 1 (.bool false)))
       clear hX8 hX6 hKp hS hRT hRP hK1 hS1
       go_upto_region 13 with fail
       generalize (((u1.setCell ⟨g,1,none⟩ (.int .i64 (q5:Int))).setCell ⟨gt,2,none⟩ (.slice a1 n1 c1)).setCell ⟨gt,1,none⟩ (.bool false))=u4 at z19 z2a zxb hSD z2c z2d ⊢
       clear s0 s1 g0 g1 y0 y1 y2 y3 y4 f0 f1 f2 f3 f4 hpn
       have hX8:Bk 144 u4 gt [.slice a8 ax c8,.bool false,.slice a1 n1 c1,.slice none 0 0,.slice none 0 0]:=z19
       have hX6:=z2a
       have hKp:=zxb
       have hS:=hSD
       have hRT:=z2c
       have hRP:=z2d
       clear z19 z2a zxb hSD z2c z2d
       have hgtu2:=hX8.lt
       obtain⟨y0,y1,y2,y3,y4,f0,f1,f2,f3,f4⟩:=hX8.five
       have hcx:=zfr g pa pc xs q5 (n1:Int) u4 hS (by omega) hxl ⟨by omega,by omega⟩
       go_wp2_with fail
       refine hcx.mono ?_
       rintro e u5 ⟨a2,c2,rfl,zlz,zl0,z1z,hS5,hk5⟩
       replace hX8:=hX8.kp hk5 (by omega)
       replace hX6:=hX6.kp hk5 (by omega)
       replace hKp:=hKp.trans hk5
       replace hRT:=zai hRT (K3.kp (n:=gt+1) hk5 (by omega))
       replace hRP:=zai hRP (K3.kp (n:=gt+1) hk5 (by omega))
       replace hS:=hS5
       clear hcx hS5 hk5 y0 y1 y2 y3 y4 f0 f1 f2 f3 f4
       obtain⟨n2,hn2⟩:∃n,(rcL (xs.drop q5) (n1:Int)).length=n:=⟨_,rfl⟩
       have hnl2:n2<=9223372036854775807:=by have:=zlz.lenB;omega
       cases ho2:rcO (xs.drop q5) (n1:Int) with
       | none =>
        have HNO:Hid (rdTu xs ax cnt p=none):=znk HQ.out hqx HRP.out (by rw[HCN.out,HQ5.out];exact ho2)
        rw[hn2];clear hn2 zlz zl0 z1z ho2 hS hRT hRP;obtain⟨y0,y1,y2,y3,y4,f0,f1,f2,f3,f4⟩:=hX8.five
        replace hX8:=hX8.set 3 (.slice a2 n2 c2)
        replace hX6:=hX6.other 3 (.slice a2 n2 c2) (b:=gt) (by omega)
        replace hKp:=hKp.new (b:=gt) (by have:=HGR.out;omega) 3 (.slice a2 n2 c2)
        go_upto_region 18 with fail
        generalize (u5.setCell ⟨gt,3,none⟩ (.slice a2 n2 c2))=wz at hX8 hX6 hKp ⊢
        obtain⟨d0,d1,d2,d3,d4,-⟩:=hX8.five;obtain⟨y0,y1,y2,y3,y4,f0,f1,f2,f3,f4⟩:=hX6.five
        have HA5:Hid (_):=(hX6.set5U (.slice a8 ax c8) (.bool false) (.slice a1 n1 c1) (.slice a2 n2 c2) (.slice none 0 0)).five
        have HKF:Hid (Kp g w (S5 wz gr (.slice a8 ax c8) (.bool false) (.slice a1 n1 c1) (.slice a2 n2 c2) (.slice none 0 0))):=hKp.new5 (by have:=HGR.out;omega) _ _ _ _ _
        clear hX6 hX8 hKp;go_wp2
        refine bodyPost_ret (v:=.tuple #[.agg #[.slice a8 ax c8,.bool false,.slice a1 n1 c1,.slice a2 n2 c2,.slice none 0 0],.bool false]) (by obtain⟨r0,r1,r2,r3,r4,-⟩:=HA5.out;simp[results,Tryz.results149,go_sem,r0,r1,r2,r3,r4]) rfl ⟨by rw[HNO.out];exact⟨_,_,_,_,_,_,_,_,_,_,_,_,_,rfl⟩,HKF.out⟩
       | some r2 =>
        obtain⟨dx,q2⟩:=r2
        obtain⟨k1,k2,k3,k4⟩:=zfu ho2
        rw[k1]at zlz hn2;rw[k2]at hS;rw[k1,hn2]
        have hRX:=zlz.row (S:=fun k=>gt+1<=k) (fun b o e=>by have:=zl0 b o e;omega) z1z (by omega)
        rw[hn2]at hRX
        have HO2:Hid (rcO (xs.drop q5) (n1:Int)=some (dx,q2)):=ho2
        have HN2:Hid (dx.length=n2):=hn2
        rw[List.length_drop]at k3
        obtain⟨q6,hq6⟩:∃n,q5+q2=n:=⟨_,rfl⟩
        have HQ6:Hid (q5+q2=q6):=hq6
        have hq6x:q6<=xs.length:=by omega
        rw[hq6]at hS;clear hn2 zlz zl0 z1z ho2 k1 k2 k3 hq6
        have hSn:Sc 203 (u5.setCell ⟨gt,3,none⟩ (.slice a2 n2 c2)) g pa pc xs q6:=HS0.out.of (hKp.new (b:=gt) (by have:=HGR.out;omega) 3 _) (hS.bk.other 3 (.slice a2 n2 c2) (b:=gt) (by omega))
        obtain⟨y0,y1,y2,y3,y4,f0,f1,f2,f3,f4⟩:=hX8.five
        replace hX8:=hX8.set 3 (.slice a2 n2 c2)
        replace hX6:=hX6.other 3 (.slice a2 n2 c2) (b:=gt) (by omega)
        replace hKp:=hKp.new (b:=gt) (by have:=HGR.out;omega) 3 (.slice a2 n2 c2)
        replace hRT:=zai hRT (K3.set (n:=gt+1) u5 (b:=gt) (by omega) 3 (.slice a2 n2 c2))
        replace hRP:=zai hRP (K3.set (n:=gt+1) u5 (b:=gt) (by omega) 3 (.slice a2 n2 c2))
        replace hRX:=zai hRX (K3.set (n:=gt+1) u5 (b:=gt) (by omega) 3 (.slice a2 n2 c2))
        clear hS
        go_upto_region 19 with fail
        generalize (u5.setCell ⟨gt,3,none⟩ (.slice a2 n2 c2))=u6 at hX8 hX6 hKp hSn hRT hRP hRX ⊢
        have hS:=hSn
        have z43:Bk 144 u6 gt [.slice a8 ax c8,.bool false,.slice a1 n1 c1,.slice a2 n2 c2,.slice none 0 0]:=hX8
        clear hSn hX8 y0 y1 y2 y3 y4 f0 f1 f2 f3 f4
        have hX8:=z43
        clear z43
        have hgtu3:=hX8.lt
        obtain⟨y0,y1,y2,y3,y4,f0,f1,f2,f3,f4⟩:=hX8.five
        have hcx:=zfr g pa pc xs q6 (n1:Int) u6 hS (by omega) hxl ⟨by omega,by omega⟩
        go_wp2_with fail
        refine hcx.mono ?_
        rintro e u7 ⟨a3,c3,rfl,zs8,z10,z1y,hS5,hk5⟩
        replace hX8:=hX8.kp hk5 (by omega)
        replace hX6:=hX6.kp hk5 (by omega)
        replace hKp:=hKp.trans hk5
        replace hRT:=zai hRT (K3.kp (n:=gt+1) hk5 (by omega))
        replace hRP:=zai hRP (K3.kp (n:=gt+1) hk5 (by omega))
        replace hRX:=zai hRX (K3.kp (n:=gt+1) hk5 (by omega))
        replace hS:=hS5
        clear hcx hS5 hk5 y0 y1 y2 y3 y4 f0 f1 f2 f3 f4
        obtain⟨n3,hn3⟩:∃n,(rcL (xs.drop q6) (n1:Int)).length=n:=⟨_,rfl⟩
        have hnl3:n3<=9223372036854775807:=by have:=zs8.lenB;omega
        cases ho3:rcO (xs.drop q6) (n1:Int) with
        | none =>
         have HNO:Hid (rdTu xs ax cnt p=none):=znj HQ.out hqx HRP.out (by rw[HCN.out,HQ5.out];exact HO2.out) (by rw[HCN.out,HQ5.out,HQ6.out];exact ho3)
         rw[hn3];clear hn3 zs8 z10 z1y ho3 hS hRT hRP hRX;obtain⟨y0,y1,y2,y3,y4,f0,f1,f2,f3,f4⟩:=hX8.five
         replace hX8:=hX8.set 4 (.slice a3 n3 c3)
         replace hX6:=hX6.other 4 (.slice a3 n3 c3) (b:=gt) (by omega)
         replace hKp:=hKp.new (b:=gt) (by have:=HGR.out;omega) 4 (.slice a3 n3 c3)
         go_upto_region 20 with fail
         generalize (u7.setCell ⟨gt,4,none⟩ (.slice a3 n3 c3))=wz at hX8 hX6 hKp ⊢
         obtain⟨d0,d1,d2,d3,d4,-⟩:=hX8.five;obtain⟨y0,y1,y2,y3,y4,f0,f1,f2,f3,f4⟩:=hX6.five
         have HA5:Hid (_):=(hX6.set5U (.slice a8 ax c8) (.bool false) (.slice a1 n1 c1) (.slice a2 n2 c2) (.slice a3 n3 c3)).five
         have HKF:Hid (Kp g w (S5 wz gr (.slice a8 ax c8) (.bool false) (.slice a1 n1 c1) (.slice a2 n2 c2) (.slice a3 n3 c3))):=hKp.new5 (by have:=HGR.out;omega) _ _ _ _ _
         clear hX6 hX8 hKp;go_wp2
         refine bodyPost_ret (v:=.tuple #[.agg #[.slice a8 ax c8,.bool false,.slice a1 n1 c1,.slice a2 n2 c2,.slice a3 n3 c3],.bool false]) (by obtain⟨r0,r1,r2,r3,r4,-⟩:=HA5.out;simp[results,Tryz.results149,go_sem,r0,r1,r2,r3,r4]) rfl ⟨by rw[HNO.out];exact⟨_,_,_,_,_,_,_,_,_,_,_,_,_,rfl⟩,HKF.out⟩
        | some r3 =>
         obtain⟨dy,q3⟩:=r3
         obtain⟨k1,k2,k3,k5⟩:=zfu ho3
         rw[k1]at zs8 hn3;rw[k2]at hS;rw[k1,hn3]
         have hRY:=zs8.row (S:=fun k=>gt+1<=k) (fun b o e=>by have:=z10 b o e;omega) z1y (by omega)
         rw[hn3]at hRY
         have zqk:Hid (_):=zni (cnt:=cnt) HQ.out hqx HRP.out (by rw[HCN.out,HQ5.out];exact HO2.out) (by rw[HCN.out,HQ5.out,HQ6.out];exact ho3)
         rw[HAL.out,HQ5.out,HQ6.out]at zqk
         have HN3:Hid (dy.length=n3):=hn3
         rw[List.length_drop]at k3;clear hn3 zs8 z10 z1y ho3 k1 k2
         have hSn:Sc 203 (u7.setCell ⟨gt,4,none⟩ (.slice a3 n3 c3)) g pa pc xs (q6+q3):=HS0.out.of (hKp.new (b:=gt) (by have:=HGR.out;omega) 4 _) (hS.bk.other 4 (.slice a3 n3 c3) (b:=gt) (by omega))
         obtain⟨y0,y1,y2,y3,y4,f0,f1,f2,f3,f4⟩:=hX8.five
         replace hX8:=hX8.set 4 (.slice a3 n3 c3)
         replace hX6:=hX6.other 4 (.slice a3 n3 c3) (b:=gt) (by omega)
         replace hKp:=hKp.new (b:=gt) (by have:=HGR.out;omega) 4 (.slice a3 n3 c3)
         replace hRT:=zai hRT (K3.set (n:=gt+1) u7 (b:=gt) (by omega) 4 (.slice a3 n3 c3))
         replace hRP:=zai hRP (K3.set (n:=gt+1) u7 (b:=gt) (by omega) 4 (.slice a3 n3 c3))
         replace hRX:=zai hRX (K3.set (n:=gt+1) u7 (b:=gt) (by omega) 4 (.slice a3 n3 c3))
         replace hRY:=zai hRY (K3.set (n:=gt+1) u7 (b:=gt) (by omega) 4 (.slice a3 n3 c3))
         clear hS
         go_upto_region 20 with fail
         generalize (u7.setCell ⟨gt,4,none⟩ (.slice a3 n3 c3))=wz at hX8 hX6 hKp hSn hRT hRP hRX hRY ⊢
         obtain⟨d0,d1,d2,d3,d4,-⟩:=hX8.five;obtain⟨y0,y1,y2,y3,y4,f0,f1,f2,f3,f4⟩:=hX6.five
         have HA5:Hid (_):=(hX6.set5U (.slice a8 ax c8) (.bool false) (.slice a1 n1 c1) (.slice a2 n2 c2) (.slice a3 n3 c3)).five
         have HKF:Hid (Kp g w (S5 wz gr (.slice a8 ax c8) (.bool false) (.slice a1 n1 c1) (.slice a2 n2 c2) (.slice a3 n3 c3))):=hKp.new5 (by have:=HGR.out;omega) _ _ _ _ _
         have HSF:Hid (Sc 203 (S5 wz gr (.slice a8 ax c8) (.bool false) (.slice a1 n1 c1) (.slice a2 n2 c2) (.slice a3 n3 c3)) g pa pc xs (q6+q3)):=HS0.out.of HKF.out (hSn.bk.other5 (by omega) _ _ _ _ _)
         have HLE:Hid (q6+q3<=xs.length):=by show _<=_;omega
         have HTF:Hid (TeE.row.rep (fun k=>w.heap.size+2<=k) (S5 wz gr (.slice a8 ax c8) (.bool false) (.slice a1 n1 c1) (.slice a2 n2 c2) (.slice a3 n3 c3)) [.slice a8 (tesAt xs p ax).length c8] (tesAt xs p ax)/\El.int.row.rep (fun k=>w.heap.size+2<=k) (S5 wz gr (.slice a8 ax c8) (.bool false) (.slice a1 n1 c1) (.slice a2 n2 c2) (.slice a3 n3 c3)) [.slice a1 ps.length c1] ps/\El.int.row.rep (fun k=>w.heap.size+2<=k) (S5 wz gr (.slice a8 ax c8) (.bool false) (.slice a1 n1 c1) (.slice a2 n2 c2) (.slice a3 n3 c3)) [.slice a2 dx.length c2] dx/\El.int.row.rep (fun k=>w.heap.size+2<=k) (S5 wz gr (.slice a8 ax c8) (.bool false) (.slice a1 n1 c1) (.slice a2 n2 c2) (.slice a3 n3 c3)) [.slice a3 dy.length c3] dy):=by
          show _/\_
          rw[HN1.out,HN2.out,HN3.out,za5,show w.heap.size+2=gt+1 by have:=HGR.out;have:=HGT.out;omega]
          have hks:=K3.set5 (n:=gt+1) wz (b:=gr) (by omega) (.slice a8 ax c8) (.bool false) (.slice a1 n1 c1) (.slice a2 n2 c2) (.slice a3 n3 c3)
          exact⟨zai hRT hks,zai hRP hks,zai hRX hks,zai hRY hks⟩
         clear hSn hRT hRP hRX hRY;clear hX6 hX8 hKp;go_wp2
         refine bodyPost_ret (v:=.tuple #[.agg #[.slice a8 ax c8,.bool false,.slice a1 n1 c1,.slice a2 n2 c2,.slice a3 n3 c3],.bool true]) (by obtain⟨r0,r1,r2,r3,r4,-⟩:=HA5.out;simp[results,Tryz.results149,go_sem,r0,r1,r2,r3,r4]) rfl ⟨by rw[zqk.out];exact⟨a8,c8,a1,c1,a2,c2,a3,c3,by show _=_;rw[HN1.out,HN2.out,HN3.out,za5],⟨HTF.out.1,HTF.out.2.1,HTF.out.2.2.1,HTF.out.2.2.2⟩,HSF.out,HLE.out⟩,HKF.out⟩
theorem z3v{a b:ByteArray}(h:a≠b):(a.toList==b.toList)=false:=beq_eq_false_iff_ne.2 (fun e=>h (toList_inj e))
theorem Rb.strA{w:World}{a:OA}{cap:Nat}{xs:LN}(h:Rb w a cap xs) :
 (convert 42 9 (.slice a xs.length cap)).run Tryz.prog w=.ok (.string (str8 xs)) w:=by
 by_cases hx:xs=[]
 . subst hx
   have e:(convert 42 9 (.slice a 0 cap)).run Tryz.prog w=.ok (.string ByteArray.empty) w:=by
    rw[run_convert_bytes_string w 42 9 5 _ 0 cap Tryz.underlying42 Tryz.underlying5 Tryz.underlying9]
    cases a <;> simp[Conv.bytesToString,loadCells,loadCellsFrom]
   exact e
 . exact h.str hx
theorem zvi{xs ys:LN}(hx:Byt xs)(hy:Byt ys)(e:str8 xs=str8 ys):xs=ys:=by
 rw[<-zrl hx,e,zrl hy]
theorem zk1(a b:OA)(ca cb:Nat)(xs ys:LN)(w:World)(ha:Rb w a ca xs)(hb:Rb w b cb ys) :
 Calls Tryz.prog 146 #[.slice a xs.length ca,.slice b ys.length cb] w fun e w'=>e=.returned (.bool (decide (xs=ys)))/\w=w':=by
 have h1:=ha.strA
 have h2:=hb.strA
 by_cases he:xs=ys
 . have hd:=decide_eq_true he
   have hq:(str8 xs).toList==(str8 ys).toList:=by rw[he];simp
   have HD:Hid (decide (xs=ys)=true):=hd
   clear hd he
   go_enter Tryz.func146,Tryz.ntmps146
   go_wp2
   go_ret
   exact⟨zaa (by rw[HD.out]),rfl⟩
 . have hd:=decide_eq_false he
   have hq:=z3v (fun e=>he (zvi ha.lim hb.lim e))
   have HD:Hid (decide (xs=ys)=false):=hd
   clear hd he
   go_enter Tryz.func146,Tryz.ntmps146
   go_wp2
   go_ret
   exact⟨zaa (by rw[HD.out]),rfl⟩
