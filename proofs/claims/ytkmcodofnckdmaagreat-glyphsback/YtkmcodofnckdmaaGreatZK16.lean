import Derived.Test.YtkmcodofnckdmaaGreatZK15
import Derived.Laws.Cover1
import Derived.Laws.OwnMore
set_option maxHeartbeats 8000000
set_option maxRecDepth 100000
set_option linter.unusedSimpArgs false
set_option linter.unusedVariables false
namespace Go.Proofs.YtkmcodofnckdmaaGreat
open Go.RowKit Go.Maps
abbrev S5 (w:World) (g:Nat) (v0 v1 v2 v3 v4:Value):World:=((((w.setCell ⟨g,0,none⟩ v0).setCell ⟨g,1,none⟩ v1).setCell ⟨g,2,none⟩ v2).setCell ⟨g,3,none⟩ v3).setCell ⟨g,4,none⟩ v4
theorem Bk.set5U{t:TypeId}{w:World}{g:Nat}{x0 x1 x2 x3 x4:Value}(h:Bk t w g [x0,x1,x2,x3,x4])(y0 y1 y2 y3 y4:Value):Bk t (((((w.setCell ⟨g,0,none⟩ y0).setCell ⟨g,1,none⟩ y1).setCell ⟨g,2,none⟩ y2).setCell ⟨g,3,none⟩ y3).setCell ⟨g,4,none⟩ y4) g [y0,y1,y2,y3,y4]:=((((h.set 0 y0).set 1 y1).set 2 y2).set 3 y3).set 4 y4
theorem Kp.new5{g b:Nat}{a w:World}(h:Kp g a w)(hb:a.heap.size<=b)(y0 y1 y2 y3 y4:Value):Kp g a (((((w.setCell ⟨b,0,none⟩ y0).setCell ⟨b,1,none⟩ y1).setCell ⟨b,2,none⟩ y2).setCell ⟨b,3,none⟩ y3).setCell ⟨b,4,none⟩ y4):=((((h.new hb 0 y0).new hb 1 y1).new hb 2 y2).new hb 3 y3).new hb 4 y4
theorem Bk.other5{t:TypeId}{w:World}{g b:Nat}{cs:List Value}(h:Bk t w g cs)(hb:g≠b)(y0 y1 y2 y3 y4:Value):Bk t (((((w.setCell ⟨b,0,none⟩ y0).setCell ⟨b,1,none⟩ y1).setCell ⟨b,2,none⟩ y2).setCell ⟨b,3,none⟩ y3).setCell ⟨b,4,none⟩ y4) g cs:=((((h.other 0 y0 hb).other 1 y1 hb).other 2 y2 hb).other 3 y3 hb).other 4 y4 hb
def K3(n:Nat)(w w':World):Prop:=Keep (fun k=>n<=k/\k<w.heap.size) w w'
theorem K3.kp{n g:Nat}{w w':World}(h:Kp g w w')(hg:g<n):K3 n w w':=Keep.mono h (fun k hk=>⟨hk.2,by omega⟩)
theorem K3.set{n b:Nat}(w:World)(hb:b<n)(j:Nat)(z:Value):K3 n w (w.setCell ⟨b,j,none⟩ z):=Keep.setCell (Keep.refl _ _) (p:=⟨b,j,none⟩) (fun e=>absurd hb (Nat.not_lt.2 e.1)) z
theorem K3.trans{n:Nat}{a b c:World}(h:K3 n a b)(k:K3 n b c):K3 n a c:=Keep.trans h (Keep.mono k (fun i hi=>⟨hi.1,Nat.lt_of_lt_of_le hi.2 (Keep.size h)⟩))
theorem K3.set5{n b:Nat}(w:World)(hb:b<n)(y0 y1 y2 y3 y4:Value):K3 n w (((((w.setCell ⟨b,0,none⟩ y0).setCell ⟨b,1,none⟩ y1).setCell ⟨b,2,none⟩ y2).setCell ⟨b,3,none⟩ y3).setCell ⟨b,4,none⟩ y4):=((((K3.set w hb 0 y0).trans (K3.set _ hb 1 y1)).trans (K3.set _ hb 2 y2)).trans (K3.set _ hb 3 y3)).trans (K3.set _ hb 4 y4)
theorem zai{α:Type}{E:El α}{n:Nat}{u u':World}{vs:List Value}{l:List α}(h:E.row.rep (fun k=>n<=k) u vs l)(hk:K3 n u u'):E.row.rep (fun k=>n<=k) u' vs l:=E.row.stay h (Keep.size hk) (fun k h1 h2=>⟨h1,Keep.block hk k ⟨h1,h2⟩⟩)
theorem Ri.row{S:Nat->Prop}{w:World}{a:OA}{c:Nat}{l:List Int}(h:Ri w a c l)(hS:∀b o,a=some ⟨b,o,none⟩->S b)(h0:a=none->c=0)(hl:l.length<=140737488351232):El.int.row.rep S w [.slice a l.length c] l:=by
 refine⟨a,c,rfl,fun b o e _=>hS b o e,⟨h.2.1,h.2.2.1,h0,fun i hi=>?_⟩,hl⟩
 rcases h.2.2.2 with h4|⟨b,off,e,hb,hc⟩
 . rw[h4]at hi;simp at hi
 . refine⟨b,off,[.int .i64 (l.getD i 0)],e,hb,El.int_rep.2 ⟨rfl,h.i64 hi⟩,fun j hj=>?_⟩
   obtain rfl:j=0:=by simp[El.int,El.num]at hj;exact hj
   rw[show i*El.int.sz=i from Nat.mul_one i]
   exact hc i hi
theorem Gw.rowU{α:Type}{E:El α}{t:TypeId}{n:Nat}{w:World}{a:OA}{c:Nat}{l:List α}(h:Gw E t n (fun _=>False) w (.slice a l.length c) l)(hl:l.length<=140737488351232):E.row.rep (fun k=>n<=k) w [.slice a l.length c] l:=by
 obtain⟨a',c',e,hg,hb⟩:=h.slice;injection e with e1 e2 e3;subst e1 e3
 exact⟨a,c,rfl,fun b o e _=>(hb b o e).1,hg.wide (fun k hk=>hk.elim),hl⟩
theorem z0s{b:LN}{l:List Int}{q:Nat}(h:rpO b=some (l,q)):rpL b=l/\rpN b=(q:Int)/\rpE b=0/\q<=b.length/\l.length<=2000:=by
 refine⟨by unfold rpL;rw[h],by unfold rpN;rw[h],by unfold rpE;rw[h],?_,?_⟩
 all_goals
  unfold rpO at h
  split at h
  . rename_i h0
    cases hr:rdF RPt b (ptN b) (ptA b) (ptN b) with
    | none=>rw[hr]at h;cases h
    | some r =>
     rw[hr]at h;dsimp only at h
     split at h
     . rename_i hp
       injection h with h;injection h with h1 h2
       first
       | (rw[<-h2];exact(zip _ _ _ _ _ _ _ (show rdF RPt b (ptN b) (ptA b) (ptN b)=some (r.1,r.2)from hr)).2.2 (of_decide_eq_true h0))
       | (rw[<-h1];exact(zdf hp).2)
     . cases h
  . cases h
theorem zfu{b:LN}{n:Int}{l:List Int}{q:Nat}(h:rcO b n=some (l,q)):rcL b n=l/\(rcN b n).toNat=q/\q<=b.length/\l.length<=2000:=by
 refine⟨by unfold rcL;rw[h],by unfold rcN;rw[h];rfl,?_,?_⟩
 all_goals
  unfold rcO at h
  split at h
  . rename_i h0
    have:=zip _ _ _ _ _ _ _ h
    first | exact this.2.2 (Nat.zero_le _) | (rw[this.1];omega)
  . cases h
theorem zvx{b:LN}{ax cnt p:Nat}(h:¬p+6*ax<=b.length):rdTu b ax cnt p=none:=if_neg h
theorem zvw{b:LN}{ax cnt p q:Nat}(hq:p+6*ax=q)(h:q<=b.length)(h2:rpO (b.drop q)=none):rdTu b ax cnt p=none:=by
 subst hq
 unfold rdTu
 rw[if_pos h,h2]
 rfl
theorem znm{b:LN}{ax cnt p q q1:Nat}{ps:List Int}(hq:p+6*ax=q)(h:q<=b.length)(h2:rpO (b.drop q)=some (ps,q1))(h3:rcO (b.drop (q+q1)) (cnN cnt ps:Int)=none):rdTu b ax cnt p=none:=by
 subst hq
 unfold rdTu
 rw[if_pos h,h2,Option.bind_some]
 dsimp only
 rw[h3]
 rfl
theorem znl{b:LN}{ax cnt p q q1 q2:Nat}{ps dx:List Int}(hq:p+6*ax=q)(h:q<=b.length)(h2:rpO (b.drop q)=some (ps,q1))(h3:rcO (b.drop (q+q1)) (cnN cnt ps:Int)=some (dx,q2))(h4:rcO (b.drop (q+q1+q2)) (cnN cnt ps:Int)=none):rdTu b ax cnt p=none:=by
 subst hq
 unfold rdTu
 rw[if_pos h,h2,Option.bind_some]
 dsimp only
 rw[h3,Option.bind_some]
 dsimp only
 rw[h4]
 rfl
theorem znk{b:LN}{ax cnt p q q1 q2 q3:Nat}{ps dx dy:List Int}(hq:p+6*ax=q)(h:q<=b.length)(h2:rpO (b.drop q)=some (ps,q1))(h3:rcO (b.drop (q+q1)) (cnN cnt ps:Int)=some (dx,q2))(h4:rcO (b.drop (q+q1+q2)) (cnN cnt ps:Int)=some (dy,q3)):rdTu b ax cnt p=some (⟨tesAt b p ax,decide (ps.length=0),ps,dx,dy⟩,q+q1+q2+q3):=by
 subst hq
 unfold rdTu
 rw[if_pos h,h2,Option.bind_some]
 dsimp only
 rw[h3,Option.bind_some]
 dsimp only
 rw[h4]
 rfl
def TuA(w:World)(g:Nat)(pa:OA)(pc:Nat)(xs:LN)(r:Option (Tu×Nat))(e:Ending)(w':World):Prop :=
 match r with
 | some (t,q)=>∃ra rc pa' pc' xa xc ya yc,e=.returned (.tuple #[.agg #[.slice ra t.rg.length rc,.bool t.al,.slice pa' t.pts.length pc',.slice xa t.dx.length xc,.slice ya t.dy.length yc],.bool true])/\TuC (fun k=>w.heap.size+2<=k) w' ra rc pa' pc' xa xc ya yc t/\Sc 203 w' g pa pc xs q/\q<=xs.length
 | none=>∃ra rn rc bb pa' pn pc' xa xn xc ya yn yc,e=.returned (.tuple #[.agg #[.slice ra rn rc,.bool bb,.slice pa' pn pc',.slice xa xn xc,.slice ya yn yc],.bool false])
theorem z31{b:LN}(hb:Byt b)(p:Nat):Tw (teAt b p):=by
 have h0:=zd1 hb p 0
 have h1:=zd1 hb p 1
 have h2:=zd1 hb p 2
 rw[zys]
 unfold Tw
 unfold I64
 refine⟨⟨?_,?_⟩,⟨?_,?_⟩,⟨?_,?_⟩⟩ <;> dsimp only <;> omega
theorem zo5(g:Nat)(pa:OA)(pc:Nat)(xs:LN)(p ax cnt:Nat)(w:World)(h:Sc 203 w g pa pc xs p)(hp:p<=xs.length)(hxl:xs.length<=100000)(hax:ax<=4)(hcnt:cnt<=2000) :
 Calls Tryz.prog 149 #[pg g,.int .i64 (ax:Int),.int .i64 (cnt:Int)] w fun e w'=>TuA w g pa pc xs (rdTu xs ax cnt p) e w'/\Kp g w w':=by
 have hglt:=h.bk.lt
 obtain⟨W,hW,hX6,hX8,hbW⟩:∃W,W=(w.alloc (.cells #[.slice none 0 0,.bool false,.slice none 0 0,.slice none 0 0,.slice none 0 0] 144)).alloc (.cells #[.slice none 0 0,.bool false,.slice none 0 0,.slice none 0 0,.slice none 0 0] 144)/\Bk 144 W w.heap.size [.slice none 0 0,.bool false,.slice none 0 0,.slice none 0 0,.slice none 0 0]/\Bk 144 W (w.heap.size+1) [.slice none 0 0,.bool false,.slice none 0 0,.slice none 0 0,.slice none 0 0]/\Below w.heap.size w W :=
  ⟨_,rfl,(Bk.new _ _ [.slice none 0 0,.bool false,.slice none 0 0,.slice none 0 0,.slice none 0 0]).below (bl1 _),Bk.new1 _ _ _ [.slice none 0 0,.bool false,.slice none 0 0,.slice none 0 0,.slice none 0 0],(bl1 _).alloc (by simp) _⟩
 have HS0:Hid (Sc 203 w g pa pc xs p):=h
 have hS:Sc 203 W g pa pc xs p:=h.below hbW
 have hKp:Kp g w W:=Kp.of hbW
 have hpc:=h.rb.le
 have hpm:=h.rb.cap
 unfold maxLen at hpm
 clear h hbW
 obtain⟨gr,hgr⟩:∃n,w.heap.size=n:=⟨_,rfl⟩
 obtain⟨gt,hgt⟩:∃n,gr+1=n:=⟨_,rfl⟩
 have HGR:Hid (w.heap.size=gr):=hgr
 have HGT:Hid (gr+1=gt):=hgt
 rw[hgr]at hX6 hX8 hglt;rw[hgt]at hX8
 have hrt:gr<gt:=by omega
 go_enter Tryz.func149,Tryz.ntmps149
 go_upto_region 2 with fail
 rw[<-hW];clear hW hgr hgt;obtain⟨x0,x1,_⟩:=hS.bk.two
 refine wp_region_held_drew (S:=(fun u=>u.cell? ⟨g,0,none⟩=some (.slice pa xs.length pc)/\u.cell? ⟨g,1,none⟩=some (.int .i64 (p:Int)))) (by kernel_rfl) ?_ (fun hH=>?_)
 . (try dsimp only)
   go_keep
 have hdr:Below W.heap.size W W.drew:=Below.drew1
 replace hKp:Kp g w W.drew:=hKp.drew
 generalize W.drew=wz at hdr hKp hH ⊢
 replace hS:=hS.below hdr;replace hX6:=hX6.below hdr;replace hX8:=hX8.below hdr;clear hdr x0 x1;refine hT 0 hH ?_;refine hT 1 hH ?_;refine hT 2 hH ?_;refine hT 3 hH ?_;refine hT 4 hH ?_;refine hT 5 hH ?_;refine hT 6 hH ?_;refine hT 7 hH ?_;refine hT 8 hH ?_
 refine hT 9 hH ?_;refine hT 10 hH ?_;refine hT 11 hH ?_;refine hT 12 hH ?_
 refine wpAnyH_done (by kernel_rfl) ?_ _
 clear hH
 have hwr:IntKind.i64.wrap ((p:Int)+IntKind.i64.wrap ((ax:Int)*6))=(p:Int)+(ax:Int)*6:=by rw[zbb (z:=(ax:Int)*6) (by omega) (by omega),zbb (by omega) (by omega)]
 rw[hwr];clear hwr
 by_cases hle:p+6*ax<=xs.length
 rotate_left
 . have HNO:Hid (rdTu xs ax cnt p=none):=zvx hle
   have gd:(xs.length:Int)<(p:Int)+(ax:Int)*6:=by omega
   clear hS;obtain⟨d0,d1,d2,d3,d4,-⟩:=hX8.five;obtain⟨y0,y1,y2,y3,y4,f0,f1,f2,f3,f4⟩:=hX6.five
   have HA5:Hid (_):=(hX6.set5U (.slice none 0 0) (.bool false) (.slice none 0 0) (.slice none 0 0) (.slice none 0 0)).five
   have HKF:Hid (Kp g w (S5 wz gr (.slice none 0 0) (.bool false) (.slice none 0 0) (.slice none 0 0) (.slice none 0 0))):=hKp.new5 (by have:=HGR.out;omega) _ _ _ _ _
   clear hX6 hX8 hKp;go_wp2
   refine bodyPost_ret (v:=.tuple #[.agg #[.slice none 0 0,.bool false,.slice none 0 0,.slice none 0 0,.slice none 0 0],.bool false]) (by obtain⟨r0,r1,r2,r3,r4,-⟩:=HA5.out;simp[results,Tryz.results149,go_sem,r0,r1,r2,r3,r4]) rfl ⟨by rw[HNO.out];exact⟨_,_,_,_,_,_,_,_,_,_,_,_,_,rfl⟩,HKF.out⟩
 have gd:¬(xs.length:Int)<(p:Int)+(ax:Int)*6:=by omega
 have hS':Sc 203 wz g pa pc xs (p+6*0):=hS
 have hG:Gw TeE 146 (gt+1) (fun _=>False) wz (.slice none 0 0) (tesAt xs p 0):=Gw.nil _ _ _ _ _
 clear hS;go_wp2;clear gd
 go_loopw [28] (fun i wr=>∃(k:Nat) (a8:OA) (c8:Nat),k<=ax/\i=.int .i64 k/\Bk 144 wr gt [.slice a8 k c8,.bool false,.slice none 0 0,.slice none 0 0,.slice none 0 0]/\Gw TeE 146 (gt+1) (fun _=>False) wr (.slice a8 k c8) (tesAt xs p k)/\Sc 203 wr g pa pc xs (p+6*k)/\Bk 144 wr gr [.slice none 0 0,.bool false,.slice none 0 0,.slice none 0 0,.slice none 0 0]/\Kp g w wr) (fun i _=>ax-(intOf i).toNat)
 case atStart=>exact⟨0,none,0,Nat.zero_le _,rfl,hX8,hG,hS',hX6,hKp⟩
 case round =>
  clear hX8 hX6 hKp hG hS';obtain⟨k,a8,c8,hk,rfl,hX8,hG,hS,hX6,hKp⟩:=hrel
  by_cases hkn:k<ax
  . obtain⟨q,hq⟩:∃q,p+6*k=q:=⟨_,rfl⟩
    have HMP:Hid (tesAt xs p (k+1)=tesAt xs p k++[teAt xs (p+6*k)]):=zpc xs p k
    have HQ6:Hid (p+6*(k+1)=q+6):=by show _=_;omega
    have hl7:(tesAt xs p k).length+1<=1000000:=by rw[za5];omega
    have hC:=fun U hs=>zqv g pa pc xs q U hs (by omega)
    have HTW:Hid (Tw (teAt xs q)):=z31 hS.rb.lim q
    rw[hq]at hS HMP
    obtain⟨tt,htt⟩:∃x,teAt xs q=x:=⟨_,rfl⟩
    rw[htt]at HTW HMP
    simp only[htt]at hC
    obtain⟨z0,z1,z2⟩:=tt;dsimp only at hC;clear htt hq
    go_upto_region 6 with fail
    refine wp_region_held_drew (S:=(fun _=>True)) (by kernel_rfl) ?_ (fun hH=>?_)
    . (try dsimp only)
      all_goals go_keep
    have hdr:Below wr.heap.size wr wr.drew:=Below.drew1
    replace hKp:Kp g w wr.drew:=hKp.drew
    generalize wr.drew=ud at hdr hKp hH ⊢
    replace hS:=hS.below hdr;replace hX6:=hX6.below hdr;replace hX8:=hX8.below hdr;replace hG:=hG.below hdr;clear hdr;refine hT 0 hH ?_;refine hT 2 hH ?_
    refine wpAnyH_ready (rs:=[1,3]) (by kernel_rfl) (by simp) (hCons (i:=1) rfl (by rfl) (fun K hK=>?_) (hCons (i:=3) rfl (by rfl) (fun K hK=>?_) AllReadyH.nil))
    . obtain⟨y0,y1,y2,y3,y4,-⟩:=hX8.five
      go_simp
      refine hK.out _ _ ?_ (fun hH=>?_)
      . (try dsimp only)
        all_goals trivial
      clear hK K
      try simp only[Act.put,pZ]
      clear y0 y1 y2 y3 y4
      refine hCall (i:=3) rfl (by kernel_rfl) (by rfl) (fun K hK=>?_)
      go_simp
      refine(hC _ hS).mono ?_
      rintro e u3 ⟨rfl,hS3,hk3⟩
      replace hX8:=hX8.kp hk3 (by omega)
      replace hX6:=hX6.kp hk3 (by omega)
      replace hG:=hG.kp hS.bk (by decide) hk3
      replace hKp:=hKp.trans hk3
      replace hS:=hS3
      clear hS3 hk3
      go_wp2_with fail
      refine hK.out _ _ ?_ (fun hH=>?_)
      . (try dsimp only)
        all_goals trivial
      clear hK K
      try simp only[Act.put,pZ]
      refine hCall (i:=4) rfl (by kernel_rfl) (by rfl) (fun K hK=>?_)
      go_simp
      obtain⟨V1,hV1,A1,hb1⟩:∃U,U=u3.alloc (.cells #[.int .i64 z0,.int .i64 z1,.int .i64 z2] 146)/\Bk 146 U u3.heap.size [.int .i64 z0,.int .i64 z1,.int .i64 z2]/\Below u3.heap.size u3 U:=⟨_,rfl,Bk.new _ _ _,bl1 _⟩
      rw[<-hV1];clear hV1;replace hX8:=hX8.below hb1;replace hX6:=hX6.below hb1;replace hG:=hG.below hb1;replace hS:=hS.below hb1
      replace hKp:=hKp.trans (Kp.of hb1)
      clear hb1
      generalize u3.heap.size=gq at *
      refine hK.out _ _ ?_ (fun hH=>?_)
      . (try dsimp only)
        all_goals trivial
      clear hK K
      try simp only[Act.put,pZ]
      have zba:Gr TeE (fun k=>False/\(Value.slice a8 k c8).ownBlock≠some k) V1 (some ⟨gq,0,none⟩) 1 [⟨z0,z1,z2⟩]:=Gr.one (E:=TeE) (vs:=teV ⟨z0,z1,z2⟩) (zhg.2 ⟨rfl,HTW.out⟩) A1.lt (fun j hj=>A1.cell j hj)
      have hbs:gt+1<=V1.heap.size:=hX8.lt
      refine hCall (i:=5) rfl (by kernel_rfl) (by rfl) (fun K hK=>?_)
      refine zbh 116 146 Tryz.underlying116 zlz rfl (by decide) (by decide) _ _ rfl (gt+1) (fun _=>False) (.slice a8 k c8) (tesAt xs p k) rfl hG ⟨gq,0,none⟩ 1 1 [⟨z0,z1,z2⟩] rfl rfl zba hl7 hbs ?_
      intro v9 w9 hT9 hgrow _
      have hne:∀q,q<=gt->(Value.slice a8 k c8).ownBlock≠some q:=fun q hq e=>by have:=(hG.lo e).1;omega
      have hX9:=hX8.grown hgrow (hne _ (by omega))
      have zzd:=hX6.grown hgrow (hne _ (by omega))
      have hK9:Kp g w w9:=hKp.grown hgrow (fun k hk=>by have:=(hG.lo hk).1;have:=HGR.out;omega)
      have hS9:=HS0.out.of hK9 (hS.bk.grown hgrow (hne _ (by omega)))
      rw[<-HMP.out]at hT9;obtain⟨a9,c9,e9,-,-⟩:=hT9.slice;rw[za5]at e9;subst e9;clear hG hX8 hX6 hKp hS zba hbs hgrow hne A1
      refine hK.out _ _ ?_ (fun hH=>?_)
      . (try dsimp only)
        all_goals trivial
      clear hK K
      try simp only[Act.put,pZ]
      refine hT 6 hH ?_
      refine hCall (i:=7) rfl (by kernel_rfl) (by rfl) (fun K hK=>?_)
      obtain⟨y0,-,-,-,-,f0,-⟩:=hX9.five;go_simp
      have zze:=hX9.set 0 (.slice a9 (k+1) c9)
      have zkv:=zzd.other 0 (.slice a9 (k+1) c9) (b:=gt) (by omega)
      have zl5:Kp g w (w9.setCell ⟨gt,0,none⟩ (.slice a9 (k+1) c9)):=hK9.new (by have:=HGR.out;omega) 0 _
      have zxf:=HS0.out.of zl5 (hS9.bk.other 0 (.slice a9 (k+1) c9) (b:=gt) (by omega))
      have z5c:=hT9.setB hX9 (by decide) 0 (.slice a9 (k+1) c9)
      clear y0 f0 hX9 zzd hK9 hS9 hT9
      generalize w9.setCell ⟨gt,0,none⟩ (.slice a9 (k+1) c9)=w10 at *
      refine hK.out _ _ ?_ (fun hH=>?_)
      . (try dsimp only)
        all_goals trivial
      clear hK K
      try simp only[Act.put,pZ]
      refine wpAnyH_done (by kernel_rfl) ?_ _
      have zuz:Hid (Bk 144 w10 gt [.slice a9 (k+1) c9,.bool false,.slice none 0 0,.slice none 0 0,.slice none 0 0]):=zze
      have HY6:Hid (_):=zkv
      clear hH zze zkv HMP hl7 hC HTW;go_wp2
      go_roundw
      case rel=>exact⟨k+1,a9,c9,by omega,by go_num,zuz.out,z5c,by rw[HQ6.out];exact zxf,HY6.out,zl5⟩
      case measure=>simp[intOf];omega
    . go_simp
      refine(hC _ hS).mono ?_
      rintro e u3 ⟨rfl,hS3,hk3⟩
      replace hX8:=hX8.kp hk3 (by omega)
      replace hX6:=hX6.kp hk3 (by omega)
      replace hG:=hG.kp hS.bk (by decide) hk3
      replace hKp:=hKp.trans hk3
      replace hS:=hS3
      clear hS3 hk3
      go_wp2_with fail
      refine hK.out _ _ ?_ (fun hH=>?_)
      . (try dsimp only)
        all_goals trivial
      clear hK K
      try simp only[Act.put,pZ]
      refine wpAnyH_ready (rs:=[1,4]) (by kernel_rfl) (by simp) (hCons (i:=1) rfl (by rfl) (fun K hK=>?_) (hCons (i:=4) rfl (by rfl) (fun K hK=>?_) AllReadyH.nil))
      . obtain⟨y0,y1,y2,y3,y4,-⟩:=hX8.five
        go_simp
        refine hK.out _ _ ?_ (fun hH=>?_)
        . (try dsimp only)
          all_goals trivial
        clear hK K
        try simp only[Act.put,pZ]
        clear y0 y1 y2 y3 y4
        refine hCall (i:=4) rfl (by kernel_rfl) (by rfl) (fun K hK=>?_)
        go_simp
        obtain⟨V1,hV1,A1,hb1⟩:∃U,U=u3.alloc (.cells #[.int .i64 z0,.int .i64 z1,.int .i64 z2] 146)/\Bk 146 U u3.heap.size [.int .i64 z0,.int .i64 z1,.int .i64 z2]/\Below u3.heap.size u3 U:=⟨_,rfl,Bk.new _ _ _,bl1 _⟩
        rw[<-hV1];clear hV1;replace hX8:=hX8.below hb1;replace hX6:=hX6.below hb1;replace hG:=hG.below hb1;replace hS:=hS.below hb1
        replace hKp:=hKp.trans (Kp.of hb1)
        clear hb1
        generalize u3.heap.size=gq at *
        refine hK.out _ _ ?_ (fun hH=>?_)
        . (try dsimp only)
          all_goals trivial
        clear hK K
        try simp only[Act.put,pZ]
        have zba:Gr TeE (fun k=>False/\(Value.slice a8 k c8).ownBlock≠some k) V1 (some ⟨gq,0,none⟩) 1 [⟨z0,z1,z2⟩]:=Gr.one (E:=TeE) (vs:=teV ⟨z0,z1,z2⟩) (zhg.2 ⟨rfl,HTW.out⟩) A1.lt (fun j hj=>A1.cell j hj)
        have hbs:gt+1<=V1.heap.size:=hX8.lt
        refine hCall (i:=5) rfl (by kernel_rfl) (by rfl) (fun K hK=>?_)
        refine zbh 116 146 Tryz.underlying116 zlz rfl (by decide) (by decide) _ _ rfl (gt+1) (fun _=>False) (.slice a8 k c8) (tesAt xs p k) rfl hG ⟨gq,0,none⟩ 1 1 [⟨z0,z1,z2⟩] rfl rfl zba hl7 hbs ?_
        intro v9 w9 hT9 hgrow _
        have hne:∀q,q<=gt->(Value.slice a8 k c8).ownBlock≠some q:=fun q hq e=>by have:=(hG.lo e).1;omega
        have hX9:=hX8.grown hgrow (hne _ (by omega))
        have zzd:=hX6.grown hgrow (hne _ (by omega))
        have hK9:Kp g w w9:=hKp.grown hgrow (fun k hk=>by have:=(hG.lo hk).1;have:=HGR.out;omega)
        have hS9:=HS0.out.of hK9 (hS.bk.grown hgrow (hne _ (by omega)))
        rw[<-HMP.out]at hT9;obtain⟨a9,c9,e9,-,-⟩:=hT9.slice;rw[za5]at e9;subst e9;clear hG hX8 hX6 hKp hS zba hbs hgrow hne A1
        refine hK.out _ _ ?_ (fun hH=>?_)
        . (try dsimp only)
          all_goals trivial
        clear hK K
        try simp only[Act.put,pZ]
        refine hT 6 hH ?_
        refine hCall (i:=7) rfl (by kernel_rfl) (by rfl) (fun K hK=>?_)
        obtain⟨y0,-,-,-,-,f0,-⟩:=hX9.five;go_simp
        have zze:=hX9.set 0 (.slice a9 (k+1) c9)
        have zkv:=zzd.other 0 (.slice a9 (k+1) c9) (b:=gt) (by omega)
        have zl5:Kp g w (w9.setCell ⟨gt,0,none⟩ (.slice a9 (k+1) c9)):=hK9.new (by have:=HGR.out;omega) 0 _
        have zxf:=HS0.out.of zl5 (hS9.bk.other 0 (.slice a9 (k+1) c9) (b:=gt) (by omega))
        have z5c:=hT9.setB hX9 (by decide) 0 (.slice a9 (k+1) c9)
        clear y0 f0 hX9 zzd hK9 hS9 hT9
        generalize w9.setCell ⟨gt,0,none⟩ (.slice a9 (k+1) c9)=w10 at *
        refine hK.out _ _ ?_ (fun hH=>?_)
        . (try dsimp only)
          all_goals trivial
        clear hK K
        try simp only[Act.put,pZ]
        refine wpAnyH_done (by kernel_rfl) ?_ _
        have zuz:Hid (Bk 144 w10 gt [.slice a9 (k+1) c9,.bool false,.slice none 0 0,.slice none 0 0,.slice none 0 0]):=zze
        have HY6:Hid (_):=zkv
        clear hH zze zkv HMP hl7 hC HTW;go_wp2
        go_roundw
        case rel=>exact⟨k+1,a9,c9,by omega,by go_num,zuz.out,z5c,by rw[HQ6.out];exact zxf,HY6.out,zl5⟩
        case measure=>simp[intOf];omega
      . go_simp
        obtain⟨V1,hV1,A1,hb1⟩:∃U,U=u3.alloc (.cells #[.int .i64 z0,.int .i64 z1,.int .i64 z2] 146)/\Bk 146 U u3.heap.size [.int .i64 z0,.int .i64 z1,.int .i64 z2]/\Below u3.heap.size u3 U:=⟨_,rfl,Bk.new _ _ _,bl1 _⟩
        rw[<-hV1];clear hV1;replace hX8:=hX8.below hb1;replace hX6:=hX6.below hb1;replace hG:=hG.below hb1;replace hS:=hS.below hb1
        replace hKp:=hKp.trans (Kp.of hb1)
        clear hb1
        generalize u3.heap.size=gq at *
        refine hK.out _ _ ?_ (fun hH=>?_)
        . (try dsimp only)
          all_goals trivial
        clear hK K
        try simp only[Act.put,pZ]
        refine hCall (i:=1) rfl (by kernel_rfl) (by rfl) (fun K hK=>?_)
        obtain⟨y0,y1,y2,y3,y4,-⟩:=hX8.five;go_simp
        refine hK.out _ _ ?_ (fun hH=>?_)
        . (try dsimp only)
          all_goals trivial
        clear hK K
        try simp only[Act.put,pZ]
        clear y0 y1 y2 y3 y4
        have zba:Gr TeE (fun k=>False/\(Value.slice a8 k c8).ownBlock≠some k) V1 (some ⟨gq,0,none⟩) 1 [⟨z0,z1,z2⟩]:=Gr.one (E:=TeE) (vs:=teV ⟨z0,z1,z2⟩) (zhg.2 ⟨rfl,HTW.out⟩) A1.lt (fun j hj=>A1.cell j hj)
        have hbs:gt+1<=V1.heap.size:=hX8.lt
        refine hCall (i:=5) rfl (by kernel_rfl) (by rfl) (fun K hK=>?_)
        refine zbh 116 146 Tryz.underlying116 zlz rfl (by decide) (by decide) _ _ rfl (gt+1) (fun _=>False) (.slice a8 k c8) (tesAt xs p k) rfl hG ⟨gq,0,none⟩ 1 1 [⟨z0,z1,z2⟩] rfl rfl zba hl7 hbs ?_
        intro v9 w9 hT9 hgrow _
        have hne:∀q,q<=gt->(Value.slice a8 k c8).ownBlock≠some q:=fun q hq e=>by have:=(hG.lo e).1;omega
        have hX9:=hX8.grown hgrow (hne _ (by omega))
        have zzd:=hX6.grown hgrow (hne _ (by omega))
        have hK9:Kp g w w9:=hKp.grown hgrow (fun k hk=>by have:=(hG.lo hk).1;have:=HGR.out;omega)
        have hS9:=HS0.out.of hK9 (hS.bk.grown hgrow (hne _ (by omega)))
        rw[<-HMP.out]at hT9;obtain⟨a9,c9,e9,-,-⟩:=hT9.slice;rw[za5]at e9;subst e9;clear hG hX8 hX6 hKp hS zba hbs hgrow hne A1
        refine hK.out _ _ ?_ (fun hH=>?_)
        . (try dsimp only)
          all_goals trivial
        clear hK K
        try simp only[Act.put,pZ]
        refine hT 6 hH ?_
        refine hCall (i:=7) rfl (by kernel_rfl) (by rfl) (fun K hK=>?_)
        obtain⟨y0,-,-,-,-,f0,-⟩:=hX9.five;go_simp
        have zze:=hX9.set 0 (.slice a9 (k+1) c9)
        have zkv:=zzd.other 0 (.slice a9 (k+1) c9) (b:=gt) (by omega)
        have zl5:Kp g w (w9.setCell ⟨gt,0,none⟩ (.slice a9 (k+1) c9)):=hK9.new (by have:=HGR.out;omega) 0 _
        have zxf:=HS0.out.of zl5 (hS9.bk.other 0 (.slice a9 (k+1) c9) (b:=gt) (by omega))
        have z5c:=hT9.setB hX9 (by decide) 0 (.slice a9 (k+1) c9)
        clear y0 f0 hX9 zzd hK9 hS9 hT9
        generalize w9.setCell ⟨gt,0,none⟩ (.slice a9 (k+1) c9)=w10 at *
        refine hK.out _ _ ?_ (fun hH=>?_)
        . (try dsimp only)
          all_goals trivial
        clear hK K
        try simp only[Act.put,pZ]
        refine wpAnyH_done (by kernel_rfl) ?_ _
        have zuz:Hid (Bk 144 w10 gt [.slice a9 (k+1) c9,.bool false,.slice none 0 0,.slice none 0 0,.slice none 0 0]):=zze
        have HY6:Hid (_):=zkv
        clear hH zze zkv HMP hl7 hC HTW;go_wp2
        go_roundw
        case rel=>exact⟨k+1,a9,c9,by omega,by go_num,zuz.out,z5c,by rw[HQ6.out];exact zxf,HY6.out,zl5⟩
        case measure=>simp[intOf];omega
  . have ek:k=ax:=by omega
    rw[ek]at hX8 hG hS ⊢
    have g4:¬(ax:Int)<(ax:Int):=by omega
    clear ek hk hkn k
    obtain⟨q,hq⟩:∃q,p+6*ax=q:=⟨_,rfl⟩
    have HQ:Hid (p+6*ax=q):=hq
    rw[hq]at hS hle
    have hqx:q<=xs.length:=hle
    have hRT:TeE.row.rep (fun k=>gt+1<=k) wr [.slice a8 ax c8] (tesAt xs p ax):=by
     have:=Gw.rowU (l:=tesAt xs p ax) (a:=a8) (c:=c8) (by rw[za5];exact hG) (by rw[za5];omega)
     rw[za5]at this
     exact this
    clear hq hG hle
    have HDL:Hid ((xs.drop q).length=xs.length-q):=List.length_drop ..
    have hF:=fun U (hr:Rb U pa pc xs)=>zc5 _ _ (xs.drop q) U (hr.from q hqx) (by rw[HDL.out];omega)
    rw[HDL.out]at hF
    obtain⟨pa2,z12⟩:∃x,(if pc=q then pa else pa.map (fun x=>x.add q))=x:=⟨_,rfl⟩
    rw[z12]at hF
    have HPA:Hid ((if pc=q then pa else pa.map (fun x=>x.add q))=pa2):=z12
    clear z12;obtain⟨x0,x1,_⟩:=hS.bk.two
    go_upto_region 8 with fail
    refine wp_region_held_drew (S:=(fun u=>u.cell? ⟨g,0,none⟩=some (.slice pa xs.length pc)/\u.cell? ⟨g,1,none⟩=some (.int .i64 (q:Int)))) (by kernel_rfl) ?_ (fun hH=>?_)
    . (try dsimp only)
      go_keep
    have hdr:Below wr.heap.size wr wr.drew:=Below.drew1
    replace hKp:Kp g w wr.drew:=hKp.drew
    generalize wr.drew=ud at hdr hKp hH ⊢
    replace hS:=hS.below hdr;replace hX6:=hX6.below hdr;replace hX8:=hX8.below hdr
    replace hRT:=zai hRT (K3.kp (n:=gt+1) (Kp.of (g:=g) hdr) (by omega))
    have hgtu:=hX8.lt
    clear hdr x0 x1;refine hT 0 hH ?_;refine hT 1 hH ?_;refine hT 2 hH ?_;refine hT 3 hH ?_;refine hT 4 hH ?_;refine hT 5 hH ?_;refine hT 6 hH ?_;refine hT 7 hH ?_
    refine hTake (i:=8) (v:=.slice pa2 (xs.length-q) (pc-q)) rfl (by kernel_rfl) (by kernel_rfl) (by kernel_rfl) (fun _ _ _ h=>h) (Or.inl ⟨by rfl,?y1⟩) hH ?r1
    case y1 =>
     intro w9 hSw
     (try dsimp only at hSw)
     go_simp
     exact HPA.out
    try simp only[Act.put,pZ]
    refine hCall (i:=9) rfl (by kernel_rfl) (by rfl) (fun K hK=>?_)
    go_simp
    refine(hF _ hS.rb).mono ?_
    rintro e u1 ⟨a1,c1,rfl,hri,hlo,hno,hb1⟩;replace hS:=hS.below hb1;replace hX6:=hX6.below hb1;replace hX8:=hX8.below hb1
    replace hRT:=zai hRT (K3.kp (n:=gt+1) (Kp.of (g:=g) hb1) (by omega))
    replace hKp:=hKp.trans (Kp.of hb1)
    obtain⟨x0,x1,_⟩:=hS.bk.two
    go_wp2_with fail
    refine hK.out _ _ ?_ (fun hH=>?_)
    . (try dsimp only)
      exact⟨x0,x1⟩
    clear hK K x0 x1 hb1 hF
    try simp only[Act.put,pZ]
    refine hT 10 hH ?_;refine hT 11 hH ?_;refine hT 12 hH ?_;refine hT 13 hH ?_;refine hT 14 hH ?_;refine hT 15 hH ?_;refine hT 16 hH ?_
    refine wpAnyH_done (by kernel_rfl) ?_ _
    clear hH
    cases ho:rpO (xs.drop q) with
    | none =>
     have HNO:Hid (rdTu xs ax cnt p=none):=zvw HQ.out hqx ho
     obtain⟨k1,k2,k3⟩:=z0q ho
     rw[k1,k2,k3];clear k1 k2 k3 ho hri hlo hno hRT hS
     generalize u1=wz at hX8 hX6 hKp ⊢
     obtain⟨d0,d1,d2,d3,d4,-⟩:=hX8.five;obtain⟨y0,y1,y2,y3,y4,f0,f1,f2,f3,f4⟩:=hX6.five
     have HA5:Hid (_):=(hX6.set5U (.slice a8 ax c8) (.bool false) (.slice none 0 0) (.slice none 0 0) (.slice none 0 0)).five
     have HKF:Hid (Kp g w (S5 wz gr (.slice a8 ax c8) (.bool false) (.slice none 0 0) (.slice none 0 0) (.slice none 0 0))):=hKp.new5 (by have:=HGR.out;omega) _ _ _ _ _
     clear hX6 hX8 hKp;go_wp2
     refine bodyPost_ret (v:=.tuple #[.agg #[.slice a8 ax c8,.bool false,.slice none 0 0,.slice none 0 0,.slice none 0 0],.bool false]) (by obtain⟨r0,r1,r2,r3,r4,-⟩:=HA5.out;simp[results,Tryz.results149,go_sem,r0,r1,r2,r3,r4]) rfl ⟨by rw[HNO.out];exact⟨_,_,_,_,_,_,_,_,_,_,_,_,_,rfl⟩,HKF.out⟩
    | some r =>
     obtain⟨ps,q1⟩:=r
     obtain⟨k1,k2,k3,k4,k5⟩:=z0s ho
     rw[k1]at hri;rw[k1,k2,k3]
     have HRP:Hid (rpO (xs.drop q)=some (ps,q1)):=ho
     obtain⟨n1,hn1⟩:∃n,ps.length=n:=⟨_,rfl⟩
     have HN1:Hid (ps.length=n1):=hn1
     have hRP:=hri.row (S:=fun k=>gt+1<=k) (fun b o e=>by have:=hlo b o e;omega) hno (by omega)
     rw[hn1]at hRP ⊢;rw[hn1]at k5;rw[HDL.out]at k4
     obtain⟨q5,hq5⟩:∃n,q+q1=n:=⟨_,rfl⟩
     have HQ5:Hid (q+q1=q5):=hq5
     have hq5x:q5<=xs.length:=by omega
     clear k1 k2 k3 ho hri hlo hno hn1 hq5
     by_cases hz:n1=0
     . have gb:((n1:Int)==0)=true:=by simpa using hz
       clear hz
       have HAL:Hid (decide (ps.length=0)=true):=by show _=_;rw[HN1.out];simpa using gb
       have HCN:Hid ((cnN cnt ps:Int)=(cnt:Int)):=by show _=_;unfold cnN;rw[HN1.out];rw[if_pos (by simpa using gb)]
       obtain⟨s0,s1,g0,g1⟩:=hS.bk.two;obtain⟨y0,y1,y2,y3,y4,f0,f1,f2,f3,f4⟩:=hX8.five
       have hpn:(q:Int)+(q1:Int)=(q5:Int):=by have:=HQ5.out;omega
       have hK1:Kp g w (u1.setCell ⟨g,1,none⟩ (.int .i64 (q5:Int))):=hKp.setCell 1 _
       have hS1:Sc 203 (u1.setCell ⟨g,1,none⟩ (.int .i64 (q5:Int))) g pa pc xs q5:=hS.step q5
       have z2e:=(((hX8.other 1 (.int .i64 (q5:Int)) (b:=g) (by omega)).set 2 (.slice a1 n1 c1)).set 1 (.bool true))
       have z2f:=(((hX6.other 1 (.int .i64 (q5:Int)) (b:=g) (by omega)).other 2 (.slice a1 n1 c1) (b:=gt) (by omega)).other 1 (.bool true) (b:=gt) (by omega))
       have zxg:Kp g w (((u1.setCell ⟨g,1,none⟩ (.int .i64 (q5:Int))).setCell ⟨gt,2,none⟩ (.slice a1 n1 c1)).setCell ⟨gt,1,none⟩ (.bool true)):=((hK1.new (b:=gt) (by have:=HGR.out;omega) 2 _).new (b:=gt) (by have:=HGR.out;omega) 1 _)
       have hSD:Sc 203 (((u1.setCell ⟨g,1,none⟩ (.int .i64 (q5:Int))).setCell ⟨gt,2,none⟩ (.slice a1 n1 c1)).setCell ⟨gt,1,none⟩ (.bool true)) g pa pc xs q5:=HS0.out.of zxg ((hS1.bk.other 2 (.slice a1 n1 c1) (b:=gt) (by omega)).other 1 (.bool true) (b:=gt) (by omega))
       have z2h:=zai hRT (((K3.set (n:=gt+1) u1 (b:=g) (by omega) 1 (.int .i64 (q5:Int))).trans (K3.set _ (b:=gt) (by omega) 2 (.slice a1 n1 c1))).trans (K3.set _ (b:=gt) (by omega) 1 (.bool true)))
       have z2i:=zai hRP (((K3.set (n:=gt+1) u1 (b:=g) (by omega) 1 (.int .i64 (q5:Int))).trans (K3.set _ (b:=gt) (by omega) 2 (.slice a1 n1 c1))).trans (K3.set _ (b:=gt) (by omega) 1 (.bool true)))
       clear hX8 hX6 hKp hS hRT hRP hK1 hS1
       go_upto_region 13 with fail
       generalize (((u1.setCell ⟨g,1,none⟩ (.int .i64 (q5:Int))).setCell ⟨gt,2,none⟩ (.slice a1 n1 c1)).setCell ⟨gt,1,none⟩ (.bool true))=u4 at z2e z2f zxg hSD z2h z2i ⊢
       clear s0 s1 g0 g1 y0 y1 y2 y3 y4 f0 f1 f2 f3 f4 hpn
       have hX8:Bk 144 u4 gt [.slice a8 ax c8,.bool true,.slice a1 n1 c1,.slice none 0 0,.slice none 0 0]:=z2e
       have hX6:=z2f
       have hKp:=zxg
       have hS:=hSD
       have hRT:=z2h
       have hRP:=z2i
       clear z2e z2f zxg hSD z2h z2i
       have hgtu2:=hX8.lt
       obtain⟨y0,y1,y2,y3,y4,f0,f1,f2,f3,f4⟩:=hX8.five
       have hcx:=zfr g pa pc xs q5 (cnt:Int) u4 hS (by omega) hxl ⟨by omega,by omega⟩
       go_wp2_with fail
       refine hcx.mono ?_
       rintro e u5 ⟨a2,c2,rfl,zl1,zl2,z14,hS5,hk5⟩
       replace hX8:=hX8.kp hk5 (by omega)
       replace hX6:=hX6.kp hk5 (by omega)
       replace hKp:=hKp.trans hk5
       replace hRT:=zai hRT (K3.kp (n:=gt+1) hk5 (by omega))
       replace hRP:=zai hRP (K3.kp (n:=gt+1) hk5 (by omega))
       replace hS:=hS5
       clear hcx hS5 hk5 y0 y1 y2 y3 y4 f0 f1 f2 f3 f4
       obtain⟨n2,hn2⟩:∃n,(rcL (xs.drop q5) (cnt:Int)).length=n:=⟨_,rfl⟩
       have hnl2:n2<=9223372036854775807:=by have:=zl1.lenB;omega
       cases ho2:rcO (xs.drop q5) (cnt:Int) with
       | none =>
        have HNO:Hid (rdTu xs ax cnt p=none):=znm HQ.out hqx HRP.out (by rw[HCN.out,HQ5.out];exact ho2)
        rw[hn2];clear hn2 zl1 zl2 z14 ho2 hS hRT hRP;obtain⟨y0,y1,y2,y3,y4,f0,f1,f2,f3,f4⟩:=hX8.five
        replace hX8:=hX8.set 3 (.slice a2 n2 c2)
        replace hX6:=hX6.other 3 (.slice a2 n2 c2) (b:=gt) (by omega)
        replace hKp:=hKp.new (b:=gt) (by have:=HGR.out;omega) 3 (.slice a2 n2 c2)
        go_upto_region 18 with fail
        generalize (u5.setCell ⟨gt,3,none⟩ (.slice a2 n2 c2))=wz at hX8 hX6 hKp ⊢
        obtain⟨d0,d1,d2,d3,d4,-⟩:=hX8.five;obtain⟨y0,y1,y2,y3,y4,f0,f1,f2,f3,f4⟩:=hX6.five
        have HA5:Hid (_):=(hX6.set5U (.slice a8 ax c8) (.bool true) (.slice a1 n1 c1) (.slice a2 n2 c2) (.slice none 0 0)).five
        have HKF:Hid (Kp g w (S5 wz gr (.slice a8 ax c8) (.bool true) (.slice a1 n1 c1) (.slice a2 n2 c2) (.slice none 0 0))):=hKp.new5 (by have:=HGR.out;omega) _ _ _ _ _
        clear hX6 hX8 hKp;go_wp2
        refine bodyPost_ret (v:=.tuple #[.agg #[.slice a8 ax c8,.bool true,.slice a1 n1 c1,.slice a2 n2 c2,.slice none 0 0],.bool false]) (by obtain⟨r0,r1,r2,r3,r4,-⟩:=HA5.out;simp[results,Tryz.results149,go_sem,r0,r1,r2,r3,r4]) rfl ⟨by rw[HNO.out];exact⟨_,_,_,_,_,_,_,_,_,_,_,_,_,rfl⟩,HKF.out⟩
       | some r2 =>
        obtain⟨dx,q2⟩:=r2
        obtain⟨k1,k2,k3,k4⟩:=zfu ho2
        rw[k1]at zl1 hn2;rw[k2]at hS;rw[k1,hn2]
        have hRX:=zl1.row (S:=fun k=>gt+1<=k) (fun b o e=>by have:=zl2 b o e;omega) z14 (by omega)
        rw[hn2]at hRX
        have HO2:Hid (rcO (xs.drop q5) (cnt:Int)=some (dx,q2)):=ho2
        have HN2:Hid (dx.length=n2):=hn2
        rw[List.length_drop]at k3
        obtain⟨q6,hq6⟩:∃n,q5+q2=n:=⟨_,rfl⟩
        have HQ6:Hid (q5+q2=q6):=hq6
        have hq6x:q6<=xs.length:=by omega
        rw[hq6]at hS;clear hn2 zl1 zl2 z14 ho2 k1 k2 k3 hq6
        have hSn:Sc 203 (u5.setCell ⟨gt,3,none⟩ (.slice a2 n2 c2)) g pa pc xs q6:=HS0.out.of (hKp.new (b:=gt) (by have:=HGR.out;omega) 3 _) (hS.bk.other 3 (.slice a2 n2 c2) (b:=gt) (by omega))
        obtain⟨y0,y1,y2,y3,y4,f0,f1,f2,f3,f4⟩:=hX8.five
        replace hX8:=hX8.set 3 (.slice a2 n2 c2)
        replace hX6:=hX6.other 3 (.slice a2 n2 c2) (b:=gt) (by omega)
        replace hKp:=hKp.new (b:=gt) (by have:=HGR.out;omega) 3 (.slice a2 n2 c2)
        replace hRT:=zai hRT (K3.set (n:=gt+1) u5 (b:=gt) (by omega) 3 (.slice a2 n2 c2))
        replace hRP:=zai hRP (K3.set (n:=gt+1) u5 (b:=gt) (by omega) 3 (.slice a2 n2 c2))
        replace hRX:=zai hRX (K3.set (n:=gt+1) u5 (b:=gt) (by omega) 3 (.slice a2 n2 c2))
        clear hS
        go_upto_region 19 with fail
        generalize (u5.setCell ⟨gt,3,none⟩ (.slice a2 n2 c2))=u6 at hX8 hX6 hKp hSn hRT hRP hRX ⊢
        have hS:=hSn
        have z48:Bk 144 u6 gt [.slice a8 ax c8,.bool true,.slice a1 n1 c1,.slice a2 n2 c2,.slice none 0 0]:=hX8
        clear hSn hX8 y0 y1 y2 y3 y4 f0 f1 f2 f3 f4
        have hX8:=z48
        clear z48
        have hgtu3:=hX8.lt
        obtain⟨y0,y1,y2,y3,y4,f0,f1,f2,f3,f4⟩:=hX8.five
        have hcx:=zfr g pa pc xs q6 (cnt:Int) u6 hS (by omega) hxl ⟨by omega,by omega⟩
        go_wp2_with fail
        refine hcx.mono ?_
        rintro e u7 ⟨a3,c3,rfl,ztb,z15,z13,hS5,hk5⟩
        replace hX8:=hX8.kp hk5 (by omega)
        replace hX6:=hX6.kp hk5 (by omega)
        replace hKp:=hKp.trans hk5
        replace hRT:=zai hRT (K3.kp (n:=gt+1) hk5 (by omega))
        replace hRP:=zai hRP (K3.kp (n:=gt+1) hk5 (by omega))
        replace hRX:=zai hRX (K3.kp (n:=gt+1) hk5 (by omega))
        replace hS:=hS5
        clear hcx hS5 hk5 y0 y1 y2 y3 y4 f0 f1 f2 f3 f4
        obtain⟨n3,hn3⟩:∃n,(rcL (xs.drop q6) (cnt:Int)).length=n:=⟨_,rfl⟩
        have hnl3:n3<=9223372036854775807:=by have:=ztb.lenB;omega
        cases ho3:rcO (xs.drop q6) (cnt:Int) with
        | none =>
         have HNO:Hid (rdTu xs ax cnt p=none):=znl HQ.out hqx HRP.out (by rw[HCN.out,HQ5.out];exact HO2.out) (by rw[HCN.out,HQ5.out,HQ6.out];exact ho3)
         rw[hn3];clear hn3 ztb z15 z13 ho3 hS hRT hRP hRX;obtain⟨y0,y1,y2,y3,y4,f0,f1,f2,f3,f4⟩:=hX8.five
         replace hX8:=hX8.set 4 (.slice a3 n3 c3)
         replace hX6:=hX6.other 4 (.slice a3 n3 c3) (b:=gt) (by omega)
         replace hKp:=hKp.new (b:=gt) (by have:=HGR.out;omega) 4 (.slice a3 n3 c3)
         go_upto_region 20 with fail
         generalize (u7.setCell ⟨gt,4,none⟩ (.slice a3 n3 c3))=wz at hX8 hX6 hKp ⊢
         obtain⟨d0,d1,d2,d3,d4,-⟩:=hX8.five;obtain⟨y0,y1,y2,y3,y4,f0,f1,f2,f3,f4⟩:=hX6.five
         have HA5:Hid (_):=(hX6.set5U (.slice a8 ax c8) (.bool true) (.slice a1 n1 c1) (.slice a2 n2 c2) (.slice a3 n3 c3)).five
         have HKF:Hid (Kp g w (S5 wz gr (.slice a8 ax c8) (.bool true) (.slice a1 n1 c1) (.slice a2 n2 c2) (.slice a3 n3 c3))):=hKp.new5 (by have:=HGR.out;omega) _ _ _ _ _
         clear hX6 hX8 hKp;go_wp2
         refine bodyPost_ret (v:=.tuple #[.agg #[.slice a8 ax c8,.bool true,.slice a1 n1 c1,.slice a2 n2 c2,.slice a3 n3 c3],.bool false]) (by obtain⟨r0,r1,r2,r3,r4,-⟩:=HA5.out;simp[results,Tryz.results149,go_sem,r0,r1,r2,r3,r4]) rfl ⟨by rw[HNO.out];exact⟨_,_,_,_,_,_,_,_,_,_,_,_,_,rfl⟩,HKF.out⟩
        | some r3 =>
         obtain⟨dy,q3⟩:=r3
         obtain⟨k1,k2,k3,k5⟩:=zfu ho3
         rw[k1]at ztb hn3;rw[k2]at hS;rw[k1,hn3]
         have hRY:=ztb.row (S:=fun k=>gt+1<=k) (fun b o e=>by have:=z15 b o e;omega) z13 (by omega)
         rw[hn3]at hRY
         have zqm:Hid (_):=znk (cnt:=cnt) HQ.out hqx HRP.out (by rw[HCN.out,HQ5.out];exact HO2.out) (by rw[HCN.out,HQ5.out,HQ6.out];exact ho3)
         rw[HAL.out,HQ5.out,HQ6.out]at zqm
         have HN3:Hid (dy.length=n3):=hn3
         rw[List.length_drop]at k3;clear hn3 ztb z15 z13 ho3 k1 k2
         have hSn:Sc 203 (u7.setCell ⟨gt,4,none⟩ (.slice a3 n3 c3)) g pa pc xs (q6+q3):=HS0.out.of (hKp.new (b:=gt) (by have:=HGR.out;omega) 4 _) (hS.bk.other 4 (.slice a3 n3 c3) (b:=gt) (by omega))
         obtain⟨y0,y1,y2,y3,y4,f0,f1,f2,f3,f4⟩:=hX8.five
         replace hX8:=hX8.set 4 (.slice a3 n3 c3)
         replace hX6:=hX6.other 4 (.slice a3 n3 c3) (b:=gt) (by omega)
         replace hKp:=hKp.new (b:=gt) (by have:=HGR.out;omega) 4 (.slice a3 n3 c3)
         replace hRT:=zai hRT (K3.set (n:=gt+1) u7 (b:=gt) (by omega) 4 (.slice a3 n3 c3))
         replace hRP:=zai hRP (K3.set (n:=gt+1) u7 (b:=gt) (by omega) 4 (.slice a3 n3 c3))
         replace hRX:=zai hRX (K3.set (n:=gt+1) u7 (b:=gt) (by omega) 4 (.slice a3 n3 c3))
         replace hRY:=zai hRY (K3.set (n:=gt+1) u7 (b:=gt) (by omega) 4 (.slice a3 n3 c3))
         clear hS
         go_upto_region 20 with fail
         generalize (u7.setCell ⟨gt,4,none⟩ (.slice a3 n3 c3))=wz at hX8 hX6 hKp hSn hRT hRP hRX hRY ⊢
         obtain⟨d0,d1,d2,d3,d4,-⟩:=hX8.five;obtain⟨y0,y1,y2,y3,y4,f0,f1,f2,f3,f4⟩:=hX6.five
         have HA5:Hid (_):=(hX6.set5U (.slice a8 ax c8) (.bool true) (.slice a1 n1 c1) (.slice a2 n2 c2) (.slice a3 n3 c3)).five
         have HKF:Hid (Kp g w (S5 wz gr (.slice a8 ax c8) (.bool true) (.slice a1 n1 c1) (.slice a2 n2 c2) (.slice a3 n3 c3))):=hKp.new5 (by have:=HGR.out;omega) _ _ _ _ _
         have HSF:Hid (Sc 203 (S5 wz gr (.slice a8 ax c8) (.bool true) (.slice a1 n1 c1) (.slice a2 n2 c2) (.slice a3 n3 c3)) g pa pc xs (q6+q3)):=HS0.out.of HKF.out (hSn.bk.other5 (by omega) _ _ _ _ _)
         have HLE:Hid (q6+q3<=xs.length):=by show _<=_;omega
         have HTF:Hid (TeE.row.rep (fun k=>w.heap.size+2<=k) (S5 wz gr (.slice a8 ax c8) (.bool true) (.slice a1 n1 c1) (.slice a2 n2 c2) (.slice a3 n3 c3)) [.slice a8 (tesAt xs p ax).length c8] (tesAt xs p ax)/\El.int.row.rep (fun k=>w.heap.size+2<=k) (S5 wz gr (.slice a8 ax c8) (.bool true) (.slice a1 n1 c1) (.slice a2 n2 c2) (.slice a3 n3 c3)) [.slice a1 ps.length c1] ps/\El.int.row.rep (fun k=>w.heap.size+2<=k) (S5 wz gr (.slice a8 ax c8) (.bool true) (.slice a1 n1 c1) (.slice a2 n2 c2) (.slice a3 n3 c3)) [.slice a2 dx.length c2] dx/\El.int.row.rep (fun k=>w.heap.size+2<=k) (S5 wz gr (.slice a8 ax c8) (.bool true) (.slice a1 n1 c1) (.slice a2 n2 c2) (.slice a3 n3 c3)) [.slice a3 dy.length c3] dy):=by
          show _/\_
          rw[HN1.out,HN2.out,HN3.out,za5,show w.heap.size+2=gt+1 by have:=HGR.out;have:=HGT.out;omega]
          have hks:=K3.set5 (n:=gt+1) wz (b:=gr) (by omega) (.slice a8 ax c8) (.bool true) (.slice a1 n1 c1) (.slice a2 n2 c2) (.slice a3 n3 c3)
          exact⟨zai hRT hks,zai hRP hks,zai hRX hks,zai hRY hks⟩
         clear hSn hRT hRP hRX hRY;clear hX6 hX8 hKp;go_wp2
         refine bodyPost_ret (v:=.tuple #[.agg #[.slice a8 ax c8,.bool true,.slice a1 n1 c1,.slice a2 n2 c2,.slice a3 n3 c3],.bool true]) (by obtain⟨r0,r1,r2,r3,r4,-⟩:=HA5.out;simp[results,Tryz.results149,go_sem,r0,r1,r2,r3,r4]) rfl ⟨by rw[zqm.out];exact⟨a8,c8,a1,c1,a2,c2,a3,c3,by show _=_;rw[HN1.out,HN2.out,HN3.out,za5],⟨HTF.out.1,HTF.out.2.1,HTF.out.2.2.1,HTF.out.2.2.2⟩,HSF.out,HLE.out⟩,HKF.out⟩
     . have gb:((n1:Int)==0)=false:=by simpa using hz
       clear hz
       have HAL:Hid (decide (ps.length=0)=false):=by show _=_;rw[HN1.out];simpa using gb
       have HCN:Hid ((cnN cnt ps:Int)=(n1:Int)):=by show _=_;unfold cnN;rw[HN1.out];rw[if_neg (by simpa using gb)]
       obtain⟨s0,s1,g0,g1⟩:=hS.bk.two;obtain⟨y0,y1,y2,y3,y4,f0,f1,f2,f3,f4⟩:=hX8.five
       have hpn:(q:Int)+(q1:Int)=(q5:Int):=by have:=HQ5.out;omega
       have hK1:Kp g w (u1.setCell ⟨g,1,none⟩ (.int .i64 (q5:Int))):=hKp.setCell 1 _
       have hS1:Sc 203 (u1.setCell ⟨g,1,none⟩ (.int .i64 (q5:Int))) g pa pc xs q5:=hS.step q5
       have z2e:=(((hX8.other 1 (.int .i64 (q5:Int)) (b:=g) (by omega)).set 2 (.slice a1 n1 c1)).set 1 (.bool false))
       have z2f:=(((hX6.other 1 (.int .i64 (q5:Int)) (b:=g) (by omega)).other 2 (.slice a1 n1 c1) (b:=gt) (by omega)).other 1 (.bool false) (b:=gt) (by omega))
       have zxg:Kp g w (((u1.setCell ⟨g,1,none⟩ (.int .i64 (q5:Int))).setCell ⟨gt,2,none⟩ (.slice a1 n1 c1)).setCell ⟨gt,1,none⟩ (.bool false)):=((hK1.new (b:=gt) (by have:=HGR.out;omega) 2 _).new (b:=gt) (by have:=HGR.out;omega) 1 _)
       have hSD:Sc 203 (((u1.setCell ⟨g,1,none⟩ (.int .i64 (q5:Int))).setCell ⟨gt,2,none⟩ (.slice a1 n1 c1)).setCell ⟨gt,1,none⟩ (.bool false)) g pa pc xs q5:=HS0.out.of zxg ((hS1.bk.other 2 (.slice a1 n1 c1) (b:=gt) (by omega)).other 1 (.bool false) (b:=gt) (by omega))
       have z2h:=zai hRT (((K3.set (n:=gt+1) u1 (b:=g) (by omega) 1 (.int .i64 (q5:Int))).trans (K3.set _ (b:=gt) (by omega) 2 (.slice a1 n1 c1))).trans (K3.set _ (b:=gt) (by omega) 1 (.bool false)))
       have z2i:=zai hRP (((K3.set (n:=gt+1) u1 (b:=g) (by omega) 1 (.int .i64 (q5:Int))).trans (K3.set _ (b:=gt) (by omega) 2 (.slice a1 n1 c1))).trans (K3.set _ (b:=gt) (by omega) 1 (.bool false)))
       clear hX8 hX6 hKp hS hRT hRP hK1 hS1
       go_upto_region 13 with fail
       generalize (((u1.setCell ⟨g,1,none⟩ (.int .i64 (q5:Int))).setCell ⟨gt,2,none⟩ (.slice a1 n1 c1)).setCell ⟨gt,1,none⟩ (.bool false))=u4 at z2e z2f zxg hSD z2h z2i ⊢
       clear s0 s1 g0 g1 y0 y1 y2 y3 y4 f0 f1 f2 f3 f4 hpn
       have hX8:Bk 144 u4 gt [.slice a8 ax c8,.bool false,.slice a1 n1 c1,.slice none 0 0,.slice none 0 0]:=z2e
       have hX6:=z2f
       have hKp:=zxg
       have hS:=hSD
       have hRT:=z2h
       have hRP:=z2i
       clear z2e z2f zxg hSD z2h z2i
       have hgtu2:=hX8.lt
       obtain⟨y0,y1,y2,y3,y4,f0,f1,f2,f3,f4⟩:=hX8.five
       have hcx:=zfr g pa pc xs q5 (n1:Int) u4 hS (by omega) hxl ⟨by omega,by omega⟩
       go_wp2_with fail
       refine hcx.mono ?_
       rintro e u5 ⟨a2,c2,rfl,zl1,zl2,z14,hS5,hk5⟩
       replace hX8:=hX8.kp hk5 (by omega)
       replace hX6:=hX6.kp hk5 (by omega)
       replace hKp:=hKp.trans hk5
       replace hRT:=zai hRT (K3.kp (n:=gt+1) hk5 (by omega))
       replace hRP:=zai hRP (K3.kp (n:=gt+1) hk5 (by omega))
       replace hS:=hS5
       clear hcx hS5 hk5 y0 y1 y2 y3 y4 f0 f1 f2 f3 f4
       obtain⟨n2,hn2⟩:∃n,(rcL (xs.drop q5) (n1:Int)).length=n:=⟨_,rfl⟩
       have hnl2:n2<=9223372036854775807:=by have:=zl1.lenB;omega
       cases ho2:rcO (xs.drop q5) (n1:Int) with
       | none =>
        have HNO:Hid (rdTu xs ax cnt p=none):=znm HQ.out hqx HRP.out (by rw[HCN.out,HQ5.out];exact ho2)
        rw[hn2];clear hn2 zl1 zl2 z14 ho2 hS hRT hRP;obtain⟨y0,y1,y2,y3,y4,f0,f1,f2,f3,f4⟩:=hX8.five
        replace hX8:=hX8.set 3 (.slice a2 n2 c2)
        replace hX6:=hX6.other 3 (.slice a2 n2 c2) (b:=gt) (by omega)
        replace hKp:=hKp.new (b:=gt) (by have:=HGR.out;omega) 3 (.slice a2 n2 c2)
        go_upto_region 18 with fail
        generalize (u5.setCell ⟨gt,3,none⟩ (.slice a2 n2 c2))=wz at hX8 hX6 hKp ⊢
        obtain⟨d0,d1,d2,d3,d4,-⟩:=hX8.five;obtain⟨y0,y1,y2,y3,y4,f0,f1,f2,f3,f4⟩:=hX6.five
        have HA5:Hid (_):=(hX6.set5U (.slice a8 ax c8) (.bool false) (.slice a1 n1 c1) (.slice a2 n2 c2) (.slice none 0 0)).five
        have HKF:Hid (Kp g w (S5 wz gr (.slice a8 ax c8) (.bool false) (.slice a1 n1 c1) (.slice a2 n2 c2) (.slice none 0 0))):=hKp.new5 (by have:=HGR.out;omega) _ _ _ _ _
        clear hX6 hX8 hKp;go_wp2
        refine bodyPost_ret (v:=.tuple #[.agg #[.slice a8 ax c8,.bool false,.slice a1 n1 c1,.slice a2 n2 c2,.slice none 0 0],.bool false]) (by obtain⟨r0,r1,r2,r3,r4,-⟩:=HA5.out;simp[results,Tryz.results149,go_sem,r0,r1,r2,r3,r4]) rfl ⟨by rw[HNO.out];exact⟨_,_,_,_,_,_,_,_,_,_,_,_,_,rfl⟩,HKF.out⟩
       | some r2 =>
        obtain⟨dx,q2⟩:=r2
        obtain⟨k1,k2,k3,k4⟩:=zfu ho2
        rw[k1]at zl1 hn2;rw[k2]at hS;rw[k1,hn2]
        have hRX:=zl1.row (S:=fun k=>gt+1<=k) (fun b o e=>by have:=zl2 b o e;omega) z14 (by omega)
        rw[hn2]at hRX
        have HO2:Hid (rcO (xs.drop q5) (n1:Int)=some (dx,q2)):=ho2
        have HN2:Hid (dx.length=n2):=hn2
        rw[List.length_drop]at k3
        obtain⟨q6,hq6⟩:∃n,q5+q2=n:=⟨_,rfl⟩
        have HQ6:Hid (q5+q2=q6):=hq6
        have hq6x:q6<=xs.length:=by omega
        rw[hq6]at hS;clear hn2 zl1 zl2 z14 ho2 k1 k2 k3 hq6
        have hSn:Sc 203 (u5.setCell ⟨gt,3,none⟩ (.slice a2 n2 c2)) g pa pc xs q6:=HS0.out.of (hKp.new (b:=gt) (by have:=HGR.out;omega) 3 _) (hS.bk.other 3 (.slice a2 n2 c2) (b:=gt) (by omega))
        obtain⟨y0,y1,y2,y3,y4,f0,f1,f2,f3,f4⟩:=hX8.five
        replace hX8:=hX8.set 3 (.slice a2 n2 c2)
        replace hX6:=hX6.other 3 (.slice a2 n2 c2) (b:=gt) (by omega)
        replace hKp:=hKp.new (b:=gt) (by have:=HGR.out;omega) 3 (.slice a2 n2 c2)
        replace hRT:=zai hRT (K3.set (n:=gt+1) u5 (b:=gt) (by omega) 3 (.slice a2 n2 c2))
        replace hRP:=zai hRP (K3.set (n:=gt+1) u5 (b:=gt) (by omega) 3 (.slice a2 n2 c2))
        replace hRX:=zai hRX (K3.set (n:=gt+1) u5 (b:=gt) (by omega) 3 (.slice a2 n2 c2))
        clear hS
        go_upto_region 19 with fail
        generalize (u5.setCell ⟨gt,3,none⟩ (.slice a2 n2 c2))=u6 at hX8 hX6 hKp hSn hRT hRP hRX ⊢
        have hS:=hSn
        have z48:Bk 144 u6 gt [.slice a8 ax c8,.bool false,.slice a1 n1 c1,.slice a2 n2 c2,.slice none 0 0]:=hX8
        clear hSn hX8 y0 y1 y2 y3 y4 f0 f1 f2 f3 f4
        have hX8:=z48
        clear z48
        have hgtu3:=hX8.lt
        obtain⟨y0,y1,y2,y3,y4,f0,f1,f2,f3,f4⟩:=hX8.five
        have hcx:=zfr g pa pc xs q6 (n1:Int) u6 hS (by omega) hxl ⟨by omega,by omega⟩
        go_wp2_with fail
        refine hcx.mono ?_
        rintro e u7 ⟨a3,c3,rfl,ztb,z15,z13,hS5,hk5⟩
        replace hX8:=hX8.kp hk5 (by omega)
        replace hX6:=hX6.kp hk5 (by omega)
        replace hKp:=hKp.trans hk5
        replace hRT:=zai hRT (K3.kp (n:=gt+1) hk5 (by omega))
        replace hRP:=zai hRP (K3.kp (n:=gt+1) hk5 (by omega))
        replace hRX:=zai hRX (K3.kp (n:=gt+1) hk5 (by omega))
        replace hS:=hS5
        clear hcx hS5 hk5 y0 y1 y2 y3 y4 f0 f1 f2 f3 f4
        obtain⟨n3,hn3⟩:∃n,(rcL (xs.drop q6) (n1:Int)).length=n:=⟨_,rfl⟩
        have hnl3:n3<=9223372036854775807:=by have:=ztb.lenB;omega
        cases ho3:rcO (xs.drop q6) (n1:Int) with
        | none =>
         have HNO:Hid (rdTu xs ax cnt p=none):=znl HQ.out hqx HRP.out (by rw[HCN.out,HQ5.out];exact HO2.out) (by rw[HCN.out,HQ5.out,HQ6.out];exact ho3)
         rw[hn3];clear hn3 ztb z15 z13 ho3 hS hRT hRP hRX;obtain⟨y0,y1,y2,y3,y4,f0,f1,f2,f3,f4⟩:=hX8.five
         replace hX8:=hX8.set 4 (.slice a3 n3 c3)
         replace hX6:=hX6.other 4 (.slice a3 n3 c3) (b:=gt) (by omega)
         replace hKp:=hKp.new (b:=gt) (by have:=HGR.out;omega) 4 (.slice a3 n3 c3)
         go_upto_region 20 with fail
         generalize (u7.setCell ⟨gt,4,none⟩ (.slice a3 n3 c3))=wz at hX8 hX6 hKp ⊢
         obtain⟨d0,d1,d2,d3,d4,-⟩:=hX8.five;obtain⟨y0,y1,y2,y3,y4,f0,f1,f2,f3,f4⟩:=hX6.five
         have HA5:Hid (_):=(hX6.set5U (.slice a8 ax c8) (.bool false) (.slice a1 n1 c1) (.slice a2 n2 c2) (.slice a3 n3 c3)).five
         have HKF:Hid (Kp g w (S5 wz gr (.slice a8 ax c8) (.bool false) (.slice a1 n1 c1) (.slice a2 n2 c2) (.slice a3 n3 c3))):=hKp.new5 (by have:=HGR.out;omega) _ _ _ _ _
         clear hX6 hX8 hKp;go_wp2
         refine bodyPost_ret (v:=.tuple #[.agg #[.slice a8 ax c8,.bool false,.slice a1 n1 c1,.slice a2 n2 c2,.slice a3 n3 c3],.bool false]) (by obtain⟨r0,r1,r2,r3,r4,-⟩:=HA5.out;simp[results,Tryz.results149,go_sem,r0,r1,r2,r3,r4]) rfl ⟨by rw[HNO.out];exact⟨_,_,_,_,_,_,_,_,_,_,_,_,_,rfl⟩,HKF.out⟩
        | some r3 =>
         obtain⟨dy,q3⟩:=r3
         obtain⟨k1,k2,k3,k5⟩:=zfu ho3
         rw[k1]at ztb hn3;rw[k2]at hS;rw[k1,hn3]
         have hRY:=ztb.row (S:=fun k=>gt+1<=k) (fun b o e=>by have:=z15 b o e;omega) z13 (by omega)
         rw[hn3]at hRY
         have zqm:Hid (_):=znk (cnt:=cnt) HQ.out hqx HRP.out (by rw[HCN.out,HQ5.out];exact HO2.out) (by rw[HCN.out,HQ5.out,HQ6.out];exact ho3)
         rw[HAL.out,HQ5.out,HQ6.out]at zqm
         have HN3:Hid (dy.length=n3):=hn3
         rw[List.length_drop]at k3;clear hn3 ztb z15 z13 ho3 k1 k2
         have hSn:Sc 203 (u7.setCell ⟨gt,4,none⟩ (.slice a3 n3 c3)) g pa pc xs (q6+q3):=HS0.out.of (hKp.new (b:=gt) (by have:=HGR.out;omega) 4 _) (hS.bk.other 4 (.slice a3 n3 c3) (b:=gt) (by omega))
         obtain⟨y0,y1,y2,y3,y4,f0,f1,f2,f3,f4⟩:=hX8.five
         replace hX8:=hX8.set 4 (.slice a3 n3 c3)
         replace hX6:=hX6.other 4 (.slice a3 n3 c3) (b:=gt) (by omega)
         replace hKp:=hKp.new (b:=gt) (by have:=HGR.out;omega) 4 (.slice a3 n3 c3)
         replace hRT:=zai hRT (K3.set (n:=gt+1) u7 (b:=gt) (by omega) 4 (.slice a3 n3 c3))
         replace hRP:=zai hRP (K3.set (n:=gt+1) u7 (b:=gt) (by omega) 4 (.slice a3 n3 c3))
         replace hRX:=zai hRX (K3.set (n:=gt+1) u7 (b:=gt) (by omega) 4 (.slice a3 n3 c3))
         replace hRY:=zai hRY (K3.set (n:=gt+1) u7 (b:=gt) (by omega) 4 (.slice a3 n3 c3))
         clear hS
         go_upto_region 20 with fail
         generalize (u7.setCell ⟨gt,4,none⟩ (.slice a3 n3 c3))=wz at hX8 hX6 hKp hSn hRT hRP hRX hRY ⊢
         obtain⟨d0,d1,d2,d3,d4,-⟩:=hX8.five;obtain⟨y0,y1,y2,y3,y4,f0,f1,f2,f3,f4⟩:=hX6.five
         have HA5:Hid (_):=(hX6.set5U (.slice a8 ax c8) (.bool false) (.slice a1 n1 c1) (.slice a2 n2 c2) (.slice a3 n3 c3)).five
         have HKF:Hid (Kp g w (S5 wz gr (.slice a8 ax c8) (.bool false) (.slice a1 n1 c1) (.slice a2 n2 c2) (.slice a3 n3 c3))):=hKp.new5 (by have:=HGR.out;omega) _ _ _ _ _
         have HSF:Hid (Sc 203 (S5 wz gr (.slice a8 ax c8) (.bool false) (.slice a1 n1 c1) (.slice a2 n2 c2) (.slice a3 n3 c3)) g pa pc xs (q6+q3)):=HS0.out.of HKF.out (hSn.bk.other5 (by omega) _ _ _ _ _)
         have HLE:Hid (q6+q3<=xs.length):=by show _<=_;omega
         have HTF:Hid (TeE.row.rep (fun k=>w.heap.size+2<=k) (S5 wz gr (.slice a8 ax c8) (.bool false) (.slice a1 n1 c1) (.slice a2 n2 c2) (.slice a3 n3 c3)) [.slice a8 (tesAt xs p ax).length c8] (tesAt xs p ax)/\El.int.row.rep (fun k=>w.heap.size+2<=k) (S5 wz gr (.slice a8 ax c8) (.bool false) (.slice a1 n1 c1) (.slice a2 n2 c2) (.slice a3 n3 c3)) [.slice a1 ps.length c1] ps/\El.int.row.rep (fun k=>w.heap.size+2<=k) (S5 wz gr (.slice a8 ax c8) (.bool false) (.slice a1 n1 c1) (.slice a2 n2 c2) (.slice a3 n3 c3)) [.slice a2 dx.length c2] dx/\El.int.row.rep (fun k=>w.heap.size+2<=k) (S5 wz gr (.slice a8 ax c8) (.bool false) (.slice a1 n1 c1) (.slice a2 n2 c2) (.slice a3 n3 c3)) [.slice a3 dy.length c3] dy):=by
          show _/\_
          rw[HN1.out,HN2.out,HN3.out,za5,show w.heap.size+2=gt+1 by have:=HGR.out;have:=HGT.out;omega]
          have hks:=K3.set5 (n:=gt+1) wz (b:=gr) (by omega) (.slice a8 ax c8) (.bool false) (.slice a1 n1 c1) (.slice a2 n2 c2) (.slice a3 n3 c3)
          exact⟨zai hRT hks,zai hRP hks,zai hRX hks,zai hRY hks⟩
         clear hSn hRT hRP hRX hRY;clear hX6 hX8 hKp;go_wp2
         refine bodyPost_ret (v:=.tuple #[.agg #[.slice a8 ax c8,.bool false,.slice a1 n1 c1,.slice a2 n2 c2,.slice a3 n3 c3],.bool true]) (by obtain⟨r0,r1,r2,r3,r4,-⟩:=HA5.out;simp[results,Tryz.results149,go_sem,r0,r1,r2,r3,r4]) rfl ⟨by rw[zqm.out];exact⟨a8,c8,a1,c1,a2,c2,a3,c3,by show _=_;rw[HN1.out,HN2.out,HN3.out,za5],⟨HTF.out.1,HTF.out.2.1,HTF.out.2.2.1,HTF.out.2.2.2⟩,HSF.out,HLE.out⟩,HKF.out⟩
theorem z30{a b:ByteArray}(h:a≠b):(a.toList==b.toList)=false:=beq_eq_false_iff_ne.2 (fun e=>h (toList_inj e))
theorem Rb.strA{w:World}{a:OA}{cap:Nat}{xs:LN}(h:Rb w a cap xs) :
 (convert 42 9 (.slice a xs.length cap)).run Tryz.prog w=.ok (.string (str8 xs)) w:=by
 by_cases hx:xs=[]
 . subst hx
   have e:(convert 42 9 (.slice a 0 cap)).run Tryz.prog w=.ok (.string ByteArray.empty) w:=by
    rw[run_convert_bytes_string w 42 9 5 _ 0 cap Tryz.underlying42 Tryz.underlying5 Tryz.underlying9]
    cases a <;> simp[Conv.bytesToString,loadCells,loadCellsFrom]
   exact e
 . exact h.str hx
theorem zvn{xs ys:LN}(hx:Byt xs)(hy:Byt ys)(e:str8 xs=str8 ys):xs=ys:=by
 rw[<-zro hx,e,zro hy]
theorem zk3(a b:OA)(ca cb:Nat)(xs ys:LN)(w:World)(ha:Rb w a ca xs)(hb:Rb w b cb ys) :
 Calls Tryz.prog 146 #[.slice a xs.length ca,.slice b ys.length cb] w fun e w'=>e=.returned (.bool (decide (xs=ys)))/\w=w':=by
 have h1:=ha.strA
 have h2:=hb.strA
 by_cases he:xs=ys
 . have hd:=decide_eq_true he
   have hq:(str8 xs).toList==(str8 ys).toList:=by rw[he];simp
   have HD:Hid (decide (xs=ys)=true):=hd
   clear hd he
   go_enter Tryz.func146,Tryz.ntmps146
   go_wp2
   go_ret
   exact⟨zaa (by rw[HD.out]),rfl⟩
 . have hd:=decide_eq_false he
   have hq:=z30 (fun e=>he (zvn ha.lim hb.lim e))
   have HD:Hid (decide (xs=ys)=false):=hd
   clear hd he
   go_enter Tryz.func146,Tryz.ntmps146
   go_wp2
   go_ret
   exact⟨zaa (by rw[HD.out]),rfl⟩
theorem zw8:(Tryz.prog.info? 144).map (fun i=>(i.zero,i.size,i.bytes))=some (some (.agg #[.slice none 0 0,.bool false,.slice none 0 0,.slice none 0 0,.slice none 0 0]),5,104):=by kernel_rfl
theorem zwq{xs:LN}(h:0<nmV xs 0 2):2<=xs.length:=by
 unfold nmV at h
 cases hi:inB xs.length 0 2 with
 | false=>rw[show inB xs.length 0 ((2:Nat):Int)=false from hi]at h;simp at h
 | true=>simp[inB]at hi;omega
theorem Gw.kpS{α:Type}{E:El α}{t u:TypeId}{base g n:Nat}{w w':World}{v:Value}{l:List α}{cs:List Value}(h:Gw E t base (fun k=>n<=k) w v l)(hb:Bk u w g cs)(ht:u≠t)(hg:g<n)(hk:Kp g w w'):Gw E t base (fun k=>n<=k) w' v l:=by
 refine h.stay hk.size (fun k h1 _ h2=>⟨h1,hk.block h2 (by omega)⟩) (fun k hv=>hk.block (h.lo hv).2 (fun e=>?_))
 obtain⟨cur,k1⟩:=h.ty hv
 rw[e,hb]at k1
 simp at k1
 exact ht k1.2
theorem zv3{b:LN}{ax cnt k:Nat}{l:List Tu}{q:Nat}(h:rdK b ax cnt k=some (l,q)){t:Tu}{q2:Nat}(ht:rdTu b ax cnt q=some (t,q2)):rdK b ax cnt (k+1)=some (l++[t],q2):=by
 rw[rdK,h,Option.bind_some]
 dsimp only
 rw[ht]
 rfl
theorem zv4{b:LN}{ax cnt k:Nat}{l:List Tu}{q:Nat}(h:rdK b ax cnt k=some (l,q))(ht:rdTu b ax cnt q=none):rdK b ax cnt (k+1)=none:=by
 rw[rdK,h,Option.bind_some]
 dsimp only
 rw[ht]
 rfl
theorem zo6(ba:OA)(bc:Nat)(xs:LN)(S:Nat->Prop)(a:OA)(ca:Nat)(b:OA)(cb:Nat)(o:Ol)(ax:Int)(w:World)(hx:Rb w ba bc xs)(hc:Gr PnE.row S w a ca o.cs)(hp:Gr PaE S w b cb o.ps)(hi:I64 ax)(hxl:xs.length<=100000) :
 Calls Tryz.prog 89 #[.slice ba xs.length bc,.agg #[.slice a o.cs.length ca,.slice b o.ps.length cb],.int .i64 ax] w fun e w'=>∃a' c',e=.returned (.tuple #[.slice a' (rdTL xs o ax).length c',.int .i64 (rdTE xs o ax)])/\Gr TuE (fun k=>w.heap.size<=k) w' a' c' (rdTL xs o ax)/\(∀c o,a'=some ⟨c,o,none⟩->w.heap.size<=c)/\Below w.heap.size w w':=by
 have kc:=hc.lenB
 have kp:=hp.lenB
 have hpc:=hx.le
 have hpm:=hx.cap
 unfold maxLen at hpm
 obtain⟨W,hW,X1,hbW⟩:∃W,W=w.alloc (.cells #[.slice a o.cs.length ca,.slice b o.ps.length cb] 57)/\Bk 57 W w.heap.size [.slice a o.cs.length ca,.slice b o.ps.length cb]/\Below w.heap.size w W:=⟨_,rfl,Bk.new _ _ _,bl1 _⟩
 replace hc:=hc.below hbW;replace hp:=hp.below hbW;replace hx:=hx.below hbW
 have hu:=zgd ba bc xs 0 W hx ⟨by decide,by decide⟩
 have hnl:=zbd hx.lim 0 2
 have HNP:Hid (0<nmV xs 0 2->2<=xs.length):=zwq
 have zqo:Hid (rdTOk xs o ax=false->rdTL xs o ax=[]/\rdTE xs o ax=2):=z4c
 have HB3:Hid (∀k,rdK xs ax.toNat (cntO o) k=none->k<=nmV xs 0 2->rdTOk xs o ax=false):=fun k h1 h2=>zvz h1 h2
 have HB2:Hid (¬nmV xs 0 2<=40->rdTOk xs o ax=false):=zv0
 have HB4:Hid (∀l p,rdK xs ax.toNat (cntO o) (nmV xs 0 2)=some (l,p)->(foT o l ax=false\/tuBt l≠xs)->rdTOk xs o ax=false):=fun l p h1 h2=>zvy h1 h2
 have HGD:Hid (∀l p,rdK xs ax.toNat (cntO o) (nmV xs 0 2)=some (l,p)->foT o l ax=true->tuBt l=xs->rdTL xs o ax=l/\rdTE xs o ax=0):=fun l p h1 h2 h3=>znn h1 h2 h3
 obtain⟨n,hn⟩:∃n,nmV xs 0 2=n:=⟨_,rfl⟩
 generalize inB xs.length 0 2=qb at hu
 rw[hn]at hu hnl HNP HB3 HB2 HB4 HGD
 have hn6:n<65536:=hnl
 clear hnl hn
 have hf1:Calls Tryz.prog 58 #[.agg #[.slice a o.cs.length ca,.slice b o.ps.length cb],.slice none 0 0,.int .i64 ax] W fun e w'=>e=.returned (.bool (foT o [] ax))/\Below W.heap.size W w':=zdt S a ca b cb o (fun _=>True) none 0 [] ax W hc hp (Gr.nil _ _ _ _ _ (Nat.zero_le _) (fun _=>rfl)) hi
 obtain⟨p0,p1,_⟩:=X1.two
 go_enter Tryz.func89,Tryz.ntmps89
 go_upto_region 1 with fail
 rw[<-hW];clear hW
 go_wp2_with fail
 refine hu.mono ?_
 rintro e u0 ⟨rfl,rfl⟩;clear hu
 cases hfo:foT o [] ax with
 | false =>
  rw[hfo]at hf1
  have HNO:Hid (_):=zqo.out (zv1 hfo)
  clear hfo hc hp hx HB2 HB3 HB4 HGD HNP
  go_wp2_with fail
  refine hf1.mono ?_
  rintro e m2 ⟨rfl,hb1⟩
  have zau:=hbW.trans (hb1.mono hbW.size)
  clear hb1 hf1;go_wp2
  go_ret2
  exact⟨none,0,by rw[HNO.out.1,HNO.out.2];rfl,by rw[HNO.out.1];exact Gr.nil _ _ _ _ _ (Nat.zero_le _) (fun _=>rfl),(fun c o e=>by cases e),zau⟩
 | true =>
 rw[hfo]at hf1
 obtain⟨hF1,hF2,-,-⟩:=zbc.1 hfo
 have hcn:=zfl hF1
 have hfl:=(za1.1 hF1).2.2.2.2.1
 have hfp:=(za1.1 hF1).2.2.1
 clear hfo hF1
 go_wp2_with fail
 refine hf1.mono ?_
 rintro e m2 ⟨rfl,hb1⟩;replace hc:=hc.below hb1;replace hp:=hp.below hb1;replace hx:=hx.below hb1;replace X1:=X1.below hb1
 replace hbW:=hbW.trans (hb1.mono hbW.size)
 clear hb1 hf1 p0 p1
 by_cases hn4:n<=40
 rotate_left
 . have g1:(40:Int)<(n:Int):=by omega
   have HNO:Hid (_):=zqo.out (HB2.out hn4)
   clear hc hp hx HB2 HB3 HB4 HGD HNP X1;go_wp2
   go_ret2
   exact⟨none,0,by rw[HNO.out.1,HNO.out.2];rfl,by rw[HNO.out.1];exact Gr.nil _ _ _ _ _ (Nat.zero_le _) (fun _=>rfl),(fun c o e=>by cases e),hbW⟩
 have g1:¬(40:Int)<(n:Int):=by omega
 obtain⟨A,rfl⟩:∃A:Nat,ax=(A:Int):=⟨ax.toNat,by omega⟩
 rw[Int.toNat_natCast]at HB3 HB4 HGD
 obtain⟨N,hN⟩:∃N,cntO o=N:=⟨_,rfl⟩
 have HN:Hid (cntO o=N):=hN
 rw[hN]at HB3 HB4 HGD hcn;clear hN
 obtain⟨V,hV,XS,hbV⟩:∃V,V=m2.alloc (.cells #[.slice ba xs.length bc,.int .i64 2] 203)/\Bk 203 V m2.heap.size [.slice ba xs.length bc,.int .i64 2]/\Below m2.heap.size m2 V:=⟨_,rfl,Bk.new _ _ _,bl1 _⟩
 have hS0:Sc 203 V m2.heap.size ba bc xs 2:=⟨XS,hx.below hbV,fun b o e hne=>Nat.ne_of_lt (hx.blk hne e)⟩
 have HX1:Hid (Bk 57 m2 w.heap.size [.slice a o.cs.length ca,.slice b o.ps.length cb]):=X1
 have HC:Hid (Gr PnE.row S m2 a ca o.cs):=hc
 have HP:Hid (Gr PaE S m2 b cb o.ps):=hp
 have HX:Hid (Rb m2 ba bc xs):=hx
 have HBW:Hid (Below w.heap.size w m2):=hbW
 have HVS:Hid (V.heap.size=m2.heap.size+1):=by show _=_;rw[hV];simp
 obtain⟨g,hg⟩:∃g,m2.heap.size=g:=⟨_,rfl⟩
 have HG:Hid (m2.heap.size=g):=hg
 have hB0:Below m2.heap.size m2 V:=hbV
 go_upto_region 5 with fail
 rw[<-hV];rw[hg]at hS0 HVS;clear hV XS hbV X1 hc hp hx hbW hg;go_wp2
 go_loopw [11,33] (fun v i wr=>∃(k:Nat) (tl:List Tu) (q:Nat),k<=n/\i=.int .i64 k/\rdK xs A N k=some (tl,q)/\(0<n->q<=xs.length)/\Sc 203 wr g ba bc xs q/\Gw TuE 144 (g+1) (fun k=>g+1<=k) wr v tl/\g+1<=wr.heap.size/\Below m2.heap.size m2 wr) (fun _ i _=>n-(intOf i).toNat)
 case atStart=>exact⟨0,[],2,Nat.zero_le _,rfl,rfl,HNP.out,hS0,Gw.nil _ _ _ _ _,by rw[HVS.out];exact Nat.le_refl _,hB0⟩
 case round =>
  clear hS0 hB0;obtain⟨k,tl,q,hk,rfl,hrk,hqx,hS,hGw,hgs,hB⟩:=hrel
  have hX1:=HX1.out.below hB
  have hlk:=zrz hrk
  by_cases hkn:k<n
  . have hqx2:=hqx (by omega)
    have hcc:=zfb S a ca b cb o wr (HC.out.below hB) (HP.out.below hB) (by omega) (by omega)
    rw[HN.out]at hcc;obtain⟨p0,p1,_⟩:=hX1.two
    have g2:(k:Int)<(n:Int):=by omega
    obtain⟨a6,c6,rfl,-,-⟩:=hGw.slice;rw[hlk]at hGw ⊢
    go_wp2_with fail
    refine hcc.mono ?_
    rintro e u1 ⟨rfl,hb1⟩;replace hS:=hS.below hb1;replace hGw:=hGw.below hb1
    replace hB:=hB.trans (hb1.mono hB.size)
    replace hgs:=Nat.le_trans hgs hb1.size
    clear hcc hb1 p0 p1 hX1
    have htu:=zo5 g ba bc xs q A N u1 hS hqx2 hxl (by omega) (by omega)
    go_wp2_with fail
    refine htu.mono ?_
    rintro e u2 ⟨hta,hk2⟩
    have hs2:=hk2.size
    have hOW:∀q,(Value.slice a6 k c6).ownBlock=some q->g+1<=q/\q<u1.heap.size:=fun q e=>hGw.lo e
    replace hGw:=hGw.kpS hS.bk (by decide) (by omega) hk2
    replace hB:=hB.trans (hk2.below hB.size (by rw[HG.out];exact Nat.le_refl _))
    cases hrd:rdTu xs A N q with
    | none =>
     rw[hrd]at hta;obtain⟨ra,rn,rc,bb,p2,pn,p3,xa,xn,xc,ya,yn,yc,rfl⟩:=hta
     have HNO:Hid (_):=zqo.out (HB3.out (k+1) (zv4 hrk hrd) hkn)
     have hBf:Below m2.heap.size m2 (u2.alloc (.cells #[.slice ra rn rc,.bool bb,.slice p2 pn p3,.slice xa xn xc,.slice ya yn yc] 144)):=hB.trans ((bl1 _).mono hB.size)
     have zqp:Hid (_):=HBW.out.trans (hBf.mono HBW.out.size)
     clear hrd hrk hGw hS htu hk2 hB HB2 HB3 HB4 HGD hBf;go_wp2
     go_ret2
     exact⟨none,0,by rw[HNO.out.1,HNO.out.2];rfl,by rw[HNO.out.1];exact Gr.nil _ _ _ _ _ (Nat.zero_le _) (fun _=>rfl),(fun c o e=>by cases e),zqp.out⟩
    | some r =>
     obtain⟨t,q2⟩:=r;rw[hrd]at hta;obtain⟨ra,rc,p2,p3,xa,xc,ya,yc,rfl,hTC,hS2,hq2⟩:=hta
     have HRK:Hid (rdK xs A N (k+1)=some (tl++[t],q2)):=zv3 hrk hrd
     have HOW:Hid (∀q,(Value.slice a6 k c6).ownBlock=some q->g+1<=q/\q<u1.heap.size):=fun q e=>hOW q e
     obtain⟨l1,l2,l3,l4⟩:=hTC.len
     obtain⟨U,hU,XU,hbU⟩:∃U,U=u2.alloc (.cells #[.slice ra t.rg.length rc,.bool t.al,.slice p2 t.pts.length p3,.slice xa t.dx.length xc,.slice ya t.dy.length yc] 144)/\Bk 144 U u2.heap.size [.slice ra t.rg.length rc,.bool t.al,.slice p2 t.pts.length p3,.slice xa t.dx.length xc,.slice ya t.dy.length yc]/\Below u2.heap.size u2 U:=⟨_,rfl,Bk.new _ _ _,bl1 _⟩
     clear hrd hrk hS htu hk2 hOW
     go_upto_region 9 with fail
     rw[<-hU];clear hU;replace hS2:=hS2.below hbU;replace hGw:=hGw.below hbU;replace hTC:=hTC.below hbU
     replace hB:=hB.trans (hbU.mono hB.size)
     have hs3:=hbU.size
     clear hbU
     obtain⟨V9,hV9,Y9,hb9⟩:∃V,V=U.alloc (.cells #[.slice ra t.rg.length rc,.bool t.al,.slice p2 t.pts.length p3,.slice xa t.dx.length xc,.slice ya t.dy.length yc] 144)/\Bk 144 V U.heap.size [.slice ra t.rg.length rc,.bool t.al,.slice p2 t.pts.length p3,.slice xa t.dx.length xc,.slice ya t.dy.length yc]/\Below U.heap.size U V:=⟨_,rfl,Bk.new _ _ _,bl1 _⟩
     obtain⟨y0,y1,y2,y3,y4,-⟩:=XU.five
     have hGb:=hGw.below hb9
     have zjw:TuE.rep (fun q=>g+1<=q/\(Value.slice a6 k c6).ownBlock≠some q) V9 [.slice ra t.rg.length rc,.bool t.al,.slice p2 t.pts.length p3,.slice xa t.dx.length xc,.slice ya t.dy.length yc] t:=TuE.stay (zux.2 ⟨ra,rc,p2,p3,xa,xc,ya,yc,rfl,hTC.below hb9⟩) (Nat.le_refl _) (fun q h1 _=>⟨⟨by omega,fun e=>by have:=(HOW.out q e).2;omega⟩,rfl⟩)
     have zba:=Gr.one (E:=TuE) zjw Y9.lt (fun j hj=>Y9.cell j hj)
     have hBb:Below m2.heap.size m2 V9:=hB.trans (hb9.mono hB.size)
     have hs9:=hb9.size
     have hbs:g+1<=V9.heap.size:=by omega
     have hS9:=hS2.below hb9
     have hll:tl.length+1<=1000000:=by omega
     clear zjw hGw hTC hS2 hB
     go_wp2_with (at_builtin;rw[<-hV9];refine zad 58 144 Tryz.underlying58 zw8 rfl (by decide) (by decide) rfl _ _ rfl (g+1) (fun k=>g+1<=k) _ tl rfl hGb (some ⟨U.heap.size,0,none⟩) 1 1 [t] rfl rfl zba hll hbs ?_)
     intro v9 w9 hT9 hgrow _
     rw[<-hV9]at hgrow
     have hB9:Below m2.heap.size m2 w9:=hBb.grown hgrow hBb.size (fun q hq=>by have:=(HOW.out q hq).1;have:=HG.out;omega)
     have zxf:=hS9.grown hgrow (fun e=>by have:=(HOW.out g e).1;omega) (fun b o e hne e2=>by have:=(HOW.out b e2).1;have:=HX.out.blk hne e;have:=HG.out;omega)
     have hs10:g+1<=w9.heap.size:=Nat.le_trans hbs hgrow.size
     clear hgrow hGb zba hbs hll hBb hV9 Y9 y0 y1 y2 y3 y4 XU hb9 hS9;go_wp2
     go_roundw
     case rel=>exact⟨k+1,tl++[t],q2,by omega,by go_num,HRK.out,fun _=>hq2,zxf,hT9,hs10,hB9⟩
     case measure=>simp[intOf];omega
  . obtain rfl:k=n:=by omega
    have g4:¬(k:Int)<(k:Int):=by omega
    obtain⟨a6,c6,rfl,hgr,hb6⟩:=hGw.slice
    have HLO:Hid (∀c o,a6=some ⟨c,o,none⟩->w.heap.size<=c):=fun c o e=>by
     have h1:=(hb6 c o e).1
     have h2:=HBW.out.size
     have h3:=HG.out
     omega
    have HLW:Hid (∀k,g+1<=k->w.heap.size<=k):=fun k h1=>by
     have h2:=HBW.out.size
     have h3:=HG.out
     omega
    clear hb6
    have hwr:=zo4 S a ca b cb o _ a6 c6 tl (A:Int) wr (HC.out.below hB) (HP.out.below hB) hgr hi
    obtain⟨p0,p1,_⟩:=hX1.two
    have HRK:Hid (rdK xs A N k=some (tl,q)):=hrk
    have hBw:=HBW.out.trans (hB.mono HBW.out.size)
    have hrx:=HX.out.below hB
    clear hGw hS hrk hlk hqx hX1
    cases hfo:foT o tl (A:Int) with
    | false =>
     have HNO:Hid (_):=zqo.out (HB4.out tl q HRK.out (.inl hfo))
     rw[(zm3 hfo).1,(zm3 hfo).2]at hwr
     clear hfo HB2 HB3 HB4 HGD HRK hgr
     go_wp2_with fail
     refine hwr.mono ?_
     rintro e u1 ⟨a1,c1,rfl,hr1,hb1⟩
     have zau:=hBw.trans (hb1.mono hBw.size)
     clear hwr hb1 hr1;go_wp2
     go_ret2
     exact⟨none,0,by rw[HNO.out.1,HNO.out.2];rfl,by rw[HNO.out.1];exact Gr.nil _ _ _ _ _ (Nat.zero_le _) (fun _=>rfl),(fun c o e=>by cases e),zau⟩
    | true =>
     have HFO:Hid (foT o tl (A:Int)=true):=hfo
     rw[(zex hfo).1,(zex hfo).2]at hwr
     clear hfo
     go_wp2_with fail
     refine hwr.mono ?_
     rintro e u1 ⟨a1,c1,rfl,hr1,hb1⟩
     have zau:=hBw.trans (hb1.mono hBw.size)
     have heq:=zk3 a1 ba c1 bc (tuBt tl) xs u1 hr1 (hrx.below hb1)
     replace hgr:=(hgr.below hb1).wide (S':=fun k=>w.heap.size<=k) (fun k h1 _=>HLW.out k h1)
     have hl1:=hr1.le
     clear hwr hb1 p0 p1
     by_cases he:tuBt tl=xs
     . have HG2:Hid (_):=HGD.out tl q HRK.out HFO.out he
       rw[decide_eq_true he]at heq;clear he HB2 HB3 HB4 HGD zqo HRK hr1
       generalize tuBt tl=tb at *
       go_wp2_with fail
       refine heq.mono ?_
       rintro e u2 ⟨rfl,rfl⟩;clear heq;go_wp2
       go_ret2
       exact⟨a6,c6,by rw[HG2.out.1,HG2.out.2];rfl,by rw[HG2.out.1];exact hgr,HLO.out,zau⟩
     . have HNO:Hid (_):=zqo.out (HB4.out tl q HRK.out (.inr he))
       rw[decide_eq_false he]at heq;clear he HB2 HB3 HB4 HGD zqo HRK hr1
       generalize tuBt tl=tb at *
       go_wp2_with fail
       refine heq.mono ?_
       rintro e u2 ⟨rfl,rfl⟩;clear heq;go_wp2
       go_ret2
       exact⟨none,0,by rw[HNO.out.1,HNO.out.2];rfl,by rw[HNO.out.1];exact Gr.nil _ _ _ _ _ (Nat.zero_le _) (fun _=>rfl),(fun c o e=>by cases e),zau⟩
def rdR(sh sm:Nat)(fs:LN)(s:LN)(a:Int)(k:Nat):LN:=(rdD sh sm (fs.take k) s a).2
theorem zno(sh sm:Nat)(fs s:LN)(a:Int):rdR sh sm fs s a 0=s:=rfl
theorem zry(sh sm:Nat)(fs s:LN)(a:Int):rdR sh sm fs s a fs.length=(rdD sh sm fs s a).2:=by unfold rdR;rw[List.take_length]
theorem zkd(sh sm:Nat):∀(fs s:LN) (a:Int) (k:Nat),k<fs.length->(rdD sh sm fs s a).1.getD k 0=(if k=0 then a else (rdD sh sm fs s a).1.getD (k-1) 0)+(dfR (fs.getD k 0) sh sm (rdR sh sm fs s a k)).1/\rdR sh sm fs s a (k+1)=(dfR (fs.getD k 0) sh sm (rdR sh sm fs s a k)).2:=by
 intro fs
 induction fs with
 | nil=>intro s a k hk;simp at hk
 | cons f t ih =>
  intro s a k hk
  cases k with
  | zero=>exact⟨rfl,rfl⟩
  | succ k =>
   obtain⟨h1,h2⟩:=ih (dfR f sh sm s).2 (a+(dfR f sh sm s).1) k (by simpa using hk)
   have e:∀j,rdR sh sm (f::t) s a (j+1)=rdR sh sm t (dfR f sh sm s).2 (a+(dfR f sh sm s).1) j:=fun j=>rfl
   refine⟨?_,by rw[e,e,List.getD_cons_succ];exact h2⟩
   rw[e,List.getD_cons_succ,rdD,List.getD_cons_succ,h1]
   cases k with
   | zero=>rfl
   | succ k=>simp
theorem zor(f sh sm:Nat){s:LN}(hs:Byt s):-32768<=(dfR f sh sm s).1/\(dfR f sh sm s).1<=32767:=by
 have h1:hd1 s<256:=by
  unfold hd1
  cases s with
  | nil=>decide
  | cons x t=>exact hs x (by simp)
 have h2:hd2 s<65536:=by
  match s,hs with
  | [],_=>decide
  | [x],_=>exact(by decide:(0:Nat)<65536)
  | x::y::t,hs =>
   have:=hs x (by simp)
   have:=hs y (by simp)
   show 256*x+y<65536
   omega
 unfold dfR sx16
 split
 . split <;> dsimp only <;> omega
 . split
   . dsimp only;omega
   . dsimp only;split <;> omega
theorem zx4(f sh sm:Nat)(s:LN):∃j,j<=2/\(dfR f sh sm s).2=s.drop j:=by
 unfold dfR
 split
 . split
   . exact⟨1,by omega,rfl⟩
   . exact⟨1,by omega,rfl⟩
 . split
   . exact⟨0,by omega,rfl⟩
   . exact⟨2,by omega,rfl⟩
theorem zlo{sh sm:Nat}{fs s:LN}{a:Int}(hs:Byt s):∀k,k<=fs.length->Byt (rdR sh sm fs s a k):=by
 intro k
 induction k with
 | zero=>intro _;exact hs
 | succ k ih =>
  intro hk
  rw[(zkd sh sm fs s a k (by omega)).2]
  obtain⟨j,_,e⟩:=zx4 (fs.getD k 0) sh sm (rdR sh sm fs s a k)
  rw[e]
  exact(ih (by omega)).drop j
theorem zyz{sh sm:Nat}{fs s:LN}(hs:Byt s):∀k,k<fs.length->-32768*((k:Int)+1)<=(rdD sh sm fs s 0).1.getD k 0/\(rdD sh sm fs s 0).1.getD k 0<=32767*((k:Int)+1):=by
 intro k
 induction k with
 | zero =>
  intro hk
  have h1:=(zkd sh sm fs s 0 0 hk).1
  have h2:=zor (fs.getD 0 0) sh sm (zlo (sh:=sh) (sm:=sm) (fs:=fs) (a:=0) hs 0 (Nat.zero_le _))
  rw[if_pos rfl]at h1;rw[h1]
  omega
 | succ k ih =>
  intro hk
  have h0:=ih (by omega)
  have h1:=(zkd sh sm fs s 0 (k+1) hk).1
  have h2:=zor (fs.getD (k+1) 0) sh sm (zlo (sh:=sh) (sm:=sm) (fs:=fs) (a:=0) hs (k+1) (by omega))
  rw[if_neg (by omega),Nat.add_sub_cancel]at h1
  rw[h1]
  omega
theorem z01:∀(f n:Nat) (s acc:LN),n<=acc.length+f->n<=(rdG f n s acc).1.length:=by
 intro f
 induction f with
 | zero=>intro n s acc h;exact h
 | succ f ih =>
  intro n s acc h
  rw[rdG]
  split
  . split
    . exact ih _ _ _ (by rw[List.length_append,List.length_replicate];omega)
    . exact ih _ _ _ (by rw[List.length_append,List.length_singleton];omega)
  . dsimp only;omega
theorem z02:∀(f n:Nat) (s acc:LN),Byt s->Byt acc->Byt (rdG f n s acc).1:=by
 intro f
 induction f with
 | zero=>intro n s acc _ h;exact h
 | succ f ih =>
  intro n s acc hs h
  have h1:hd1 s<256:=by
   unfold hd1
   cases s with
   | nil=>decide
   | cons x t=>exact hs x (by simp)
  rw[rdG]
  split
  . split
    . exact ih _ _ _ (hs.drop 2) (h.append (fun x hx=>by rw[List.eq_of_mem_replicate hx];exact h1))
    . exact ih _ _ _ (hs.drop 1) (h.append (fun x hx=>by rw[List.mem_singleton.1 hx];exact h1))
  . exact h
def cutK:LN->Nat->List Pn->List (List Pn)
 | [],_,_=>[]
 | e::t,p,l=>(l.drop p).take (min (e+1) l.length-p)::cutK t (max p (min (e+1) l.length)) l
def numK(L:Nat):LN->Nat->Nat->Nat
 | _,p,0=>p
 | [],p,_+1=>p
 | e::t,p,k+1=>numK L t (max p (min (e+1) L)) k
theorem zx5:∀(es:LN) (p:Nat) (l:List Pn),(cutK es p l).length=es.length:=by
 intro es
 induction es with
 | nil=>intro p l;rfl
 | cons e t ih=>intro p l;rw[cutK,List.length_cons,List.length_cons,ih]
theorem z3b:∀(es:LN) (p:Nat) (l:List Pn) (k:Nat),k<es.length->(cutK es p l).getD k []=(l.drop (numK l.length es p k)).take (min (es.getD k 0+1) l.length-numK l.length es p k)/\numK l.length es p (k+1)=max (numK l.length es p k) (min (es.getD k 0+1) l.length):=by
 intro es
 induction es with
 | nil=>intro p l k hk;simp at hk
 | cons e t ih =>
  intro p l k hk
  cases k with
  | zero =>
   refine⟨rfl,?_⟩
   rw[numK]
   cases t <;> rfl
  | succ k =>
   obtain⟨h1,h2⟩:=ih (max p (min (e+1) l.length)) l k (by simpa using hk)
   exact⟨h1,h2⟩
theorem z1f{L:Nat}:∀(es:LN) (p k:Nat),p<=L->numK L es p k<=L:=by
 intro es
 induction es with
 | nil=>intro p k h;cases k <;> exact h
 | cons e t ih =>
  intro p k h
  cases k with
  | zero=>exact h
  | succ k=>exact ih _ k (by omega)
theorem zub:∀(es:LN) (p:Nat) (l:List Pn) (cs:List (List Pn)),cutC es p l=some cs->cutK es p l=cs:=by
 intro es
 induction es with
 | nil=>intro p l cs h;injection h
 | cons e t ih =>
  intro p l cs h
  rw[cutC]at h
  split at h
  . cases h
  . rename_i hn
    cases hc:cutC t (e+1) l with
    | none=>rw[hc]at h;cases h
    | some r =>
     rw[hc]at h;injection h with h
     rw[cutK,<-h,show min (e+1) l.length=e+1 by omega,show max p (e+1)=e+1 by omega,ih _ _ _ hc]
def cntK(m:Nat)(es:LN):Nat:=if m=0 then 0 else min (es.getD (m-1) 0+1) 80
def fgK(n:Nat)(s:LN):LN×LN:=rdG n n s []
def fsK(n:Nat)(s:LN):LN:=(fgK n s).1.take n
def xsK(n:Nat)(s:LN):List Int×LN:=rdD 2 16 (fsK n s) (fgK n s).2 0
def ysK(n:Nat)(s:LN):List Int×LN:=rdD 4 32 (fsK n s) (xsK n s).2 0
def ptK(n:Nat)(s:LN):List Pn:=mkP (xsK n s).1 (ysK n s).1 (fsK n s)
theorem zmb(n:Nat)(s:LN):(fsK n s).length=n:=by
 unfold fsK fgK
 rw[List.length_take]
 have:=z01 n n s [] (by simp)
 omega
theorem zlr(n:Nat)(s:LN):(ptK n s).length=n:=by
 unfold ptK
 rw[z1o _ _ _ (by unfold xsK;rw[zir]) (by unfold ysK;rw[zir]),zmb]
def conK(m:Nat)(s:LN):List (List Pn):=cutK (rdE m s).1 0 (ptK (cntK m (rdE m s).1) (rdE m s).2)
def candK(b:LN):Ol:=if sx16 (hd2 b)=-1 then ⟨[],psR ((b.drop 2).drop 2) (min (hd2 (b.drop 2)) 6)⟩else ⟨conK (min (sx16 (hd2 b)) 10).toNat (b.drop 2),[]⟩
theorem z4i{n:Nat}{s:LN}(h:ptsW n (rdE n s).1<=80):ptK (cntK n (rdE n s).1) (rdE n s).2=lsW n s:=by
 have e:cntK n (rdE n s).1=ptsW n (rdE n s).1:=by
  unfold cntK
  unfold ptsW at h ⊢
  split
  . rfl
  . rename_i h0
    rw[if_neg h0]at h
    omega
 have e1:fgK (ptsW n (rdE n s).1) (rdE n s).2=flW n s:=by unfold fgK flW;rw[if_pos h]
 rw[e]
 unfold ptK lsW ysK ysW xsK xsW fsK fsW
 rw[e1]
theorem zqf{o:Ol}(h:wrOE o=0):candK (wrOB o)=o:=by
 obtain⟨⟨f1,f2,f3,f4,f5,f6,f7⟩,hdi⟩:=zh6 h
 by_cases h0:o.ps.length=0
 . rw[zlg h h0]
   have hd:=zt8.1 (hdi h0)
   obtain⟨cs,ps⟩:=o
   have hps:ps=[]:=List.length_eq_zero_iff.1 h0
   subst hps
   dsimp only at *
   unfold coB
   have v0:V8 (be2 (cs.length:Int))=cs.length:=by rw[zdx (by omega) (by omega),Int.toNat_natCast]
   have hsx:sx16 cs.length=(cs.length:Int):=by unfold sx16;rw[if_neg (by omega)]
   unfold candK
   rw[zcy,zds,v0,hsx,if_neg (by omega),show(min (cs.length:Int) 10).toNat=cs.length by omega]
   obtain⟨hpt,hC⟩:=zue f4 f5 hd [] (s:=(endF 0 cs).flatMap be2++(rl (flL cs.flatten)++((difs 0 0 cs.flatten).flatMap (fun t=>axB t.1)++(difs 0 0 cs.flatten).flatMap (fun t=>axB t.2.1)))) (by rw[List.append_nil])
   unfold conK
   rw[z4i (by rw[hpt];exact f5),zub _ _ _ _ hC]
 . rw[zlf h h0]
   obtain⟨cs,ps⟩:=o
   have hcs:cs=[]:=List.length_eq_zero_iff.1 (by rcases f1 with f1 | f1;exact f1;exact absurd f1 h0)
   subst hcs
   dsimp only at *
   have v0:V8 (be2 (ps.length:Int))=ps.length:=by rw[zdx (by omega) (by omega),Int.toNat_natCast]
   have hb:=znt ps f7 []
   rw[List.append_nil]at hb
   unfold paB candK
   have e1:hd2 ([255,255]++(be2 (ps.length:Int)++ps.flatMap paE))=65535:=rfl
   have e2:([255,255]++(be2 (ps.length:Int)++ps.flatMap paE)).drop 2=be2 (ps.length:Int)++ps.flatMap paE:=rfl
   rw[e1,e2,if_pos (by decide),zcy,zds,v0,show min ps.length 6=ps.length by omega,hb]
theorem zyd(b:LN):(decide (wrOE (candK b)=0)&&decide (wrOB (candK b)=b))=rdOk b/\(rdOk b=true->candK b=candO b):=by
 have h2:rdOk b=true->candK b=candO b:=fun h=>by
  obtain⟨h1,h2⟩:=zil.1 h
  have:=zqf h1
  rw[h2]at this
  exact this
 refine⟨?_,h2⟩
 rw[Bool.eq_iff_iff]
 constructor
 . intro h
   rw[Bool.and_eq_true,decide_eq_true_iff,decide_eq_true_iff]at h
   exact(z4e h.1 h.2).1
 . intro h
   rw[h2 h]
   exact h
theorem zp6(v:Int)(q:Bool)(n:Nat)(g:Nat)(pa:OA)(pc:Nat)(xs:LN)(p:Nat)(w:World)(h:Sc 200 w g pa pc xs p)(hp:p<=1000000)(hn:n<=2)
    (hF:∀U,Rb U pa pc xs->Calls Tryz.prog 91 #[.slice pa xs.length pc,.int .i64 (p:Int)] U fun e w'=>e=.returned (.tuple #[.int .i64 v,.bool q])/\U=w') :
    Calls Tryz.prog 246 #[pg g,.func (.func 91) #[] #[],.int .i64 (n:Int)] w fun e w'=>e=.returned (.int .i64 v)/\Sc 200 w' g pa pc xs (p+n)/\Kp g w w':=by
 obtain⟨x0,x1,_⟩:=h.bk.two
 go_enter Tryz.func246,Tryz.ntmps246
 go_upto_region 1 with fail
 refine wp_region_held_drew (S:=(fun u=>u.cell? ⟨g,0,none⟩=some (.slice pa xs.length pc)/\u.cell? ⟨g,1,none⟩=some (.int .i64 (p:Int)))) (by kernel_rfl) ?_ (fun hH=>?_)
 . (try dsimp only)
   go_keep
 have hdr:Below w.heap.size w w.drew:=Below.drew1
 have hkp:Kp g w w.drew:=(Kp.refl g w).drew
 generalize w.drew=ud at hdr hkp hH ⊢
 replace h:=h.below hdr;clear hdr x0 x1;refine hT 0 hH ?_;refine hT 1 hH ?_;refine hT 2 hH ?_;refine hT 3 hH ?_;refine hT 4 hH ?_;refine hT 5 hH ?_;refine hT 6 hH ?_;refine hT 7 hH ?_;refine hT 8 hH ?_
 refine hCall (i:=9) rfl (by kernel_rfl) (by rfl) (fun K hK=>?_)
 go_simp
 refine(hF _ h.rb).mono ?_
 rintro e u1 ⟨rfl,rfl⟩
 go_wp2_with fail
 refine hK.out _ _ ?_ (fun hH=>?_)
 . (try dsimp only)
   exact hH
 clear hK K
 try simp only[Act.put,pZ]
 refine hT 10 hH ?_;refine hT 11 hH ?_;refine hT 13 hH ?_;refine hT 12 hH ?_;refine hT 14 hH ?_
 refine wpAnyH_done (by kernel_rfl) ?_ _
 clear hH;obtain⟨x0,x1,f0,f1⟩:=h.bk.two
 have hs:=h.step (p+n)
 have hk2:=hkp.setCell 1 (.int .i64 ((p+n:Nat):Int))
 have hpn:(p:Int)+(n:Int)=((p+n:Nat):Int):=by omega
 have HS:Hid (_):=hs
 have HK2:Hid (_):=hk2
 clear hs hk2
 obtain⟨m,hm⟩:∃m:Nat,p+n=m:=⟨_,rfl⟩
 have hml:m<=1000002:=by omega
 rw[hm]at hpn HS HK2
 have HM:Hid (p+n=m):=hm
 clear hm;go_wp2
 go_ret
 exact⟨rfl,by rw[HM.out];exact HS.out,HK2.out⟩
theorem zmi(v:Int)(q:Bool)(n:Nat)(g:Nat)(pa:OA)(pc:Nat)(xs:LN)(p:Nat)(w:World)(h:Sc 200 w g pa pc xs p)(hp:p<=1000000)(hn:n<=2)
    (hF:∀U,Rb U pa pc xs->Calls Tryz.prog 47 #[.slice pa xs.length pc,.int .i64 (p:Int)] U fun e w'=>e=.returned (.tuple #[.int .i64 v,.bool q])/\U=w') :
    Calls Tryz.prog 246 #[pg g,.func (.func 47) #[] #[],.int .i64 (n:Int)] w fun e w'=>e=.returned (.int .i64 v)/\Sc 200 w' g pa pc xs (p+n)/\Kp g w w':=by
 obtain⟨x0,x1,_⟩:=h.bk.two
 go_enter Tryz.func246,Tryz.ntmps246
 go_upto_region 1 with fail
 refine wp_region_held_drew (S:=(fun u=>u.cell? ⟨g,0,none⟩=some (.slice pa xs.length pc)/\u.cell? ⟨g,1,none⟩=some (.int .i64 (p:Int)))) (by kernel_rfl) ?_ (fun hH=>?_)
 . (try dsimp only)
   go_keep
 have hdr:Below w.heap.size w w.drew:=Below.drew1
 have hkp:Kp g w w.drew:=(Kp.refl g w).drew
 generalize w.drew=ud at hdr hkp hH ⊢
 replace h:=h.below hdr;clear hdr x0 x1;refine hT 0 hH ?_;refine hT 1 hH ?_;refine hT 2 hH ?_;refine hT 3 hH ?_;refine hT 4 hH ?_;refine hT 5 hH ?_;refine hT 6 hH ?_;refine hT 7 hH ?_;refine hT 8 hH ?_
 refine hCall (i:=9) rfl (by kernel_rfl) (by rfl) (fun K hK=>?_)
 go_simp
 refine(hF _ h.rb).mono ?_
 rintro e u1 ⟨rfl,rfl⟩
 go_wp2_with fail
 refine hK.out _ _ ?_ (fun hH=>?_)
 . (try dsimp only)
   exact hH
 clear hK K
 try simp only[Act.put,pZ]
 refine hT 10 hH ?_;refine hT 11 hH ?_;refine hT 13 hH ?_;refine hT 12 hH ?_;refine hT 14 hH ?_
 refine wpAnyH_done (by kernel_rfl) ?_ _
 clear hH;obtain⟨x0,x1,f0,f1⟩:=h.bk.two
 have hs:=h.step (p+n)
 have hk2:=hkp.setCell 1 (.int .i64 ((p+n:Nat):Int))
 have hpn:(p:Int)+(n:Int)=((p+n:Nat):Int):=by omega
 have HS:Hid (_):=hs
 have HK2:Hid (_):=hk2
 clear hs hk2
 obtain⟨m,hm⟩:∃m:Nat,p+n=m:=⟨_,rfl⟩
 have hml:m<=1000002:=by omega
 rw[hm]at hpn HS HK2
 have HM:Hid (p+n=m):=hm
 clear hm;go_wp2
 go_ret
 exact⟨rfl,by rw[HM.out];exact HS.out,HK2.out⟩
theorem zp5(v:Int)(q:Bool)(n:Nat)(g:Nat)(pa:OA)(pc:Nat)(xs:LN)(p:Nat)(w:World)(h:Sc 200 w g pa pc xs p)(hp:p<=1000000)(hn:n<=2)
    (hF:∀U,Rb U pa pc xs->Calls Tryz.prog 90 #[.slice pa xs.length pc,.int .i64 (p:Int)] U fun e w'=>e=.returned (.tuple #[.int .i64 v,.bool q])/\U=w') :
    Calls Tryz.prog 246 #[pg g,.func (.func 90) #[] #[],.int .i64 (n:Int)] w fun e w'=>e=.returned (.int .i64 v)/\Sc 200 w' g pa pc xs (p+n)/\Kp g w w':=by
 obtain⟨x0,x1,_⟩:=h.bk.two
 go_enter Tryz.func246,Tryz.ntmps246
 go_upto_region 1 with fail
 refine wp_region_held_drew (S:=(fun u=>u.cell? ⟨g,0,none⟩=some (.slice pa xs.length pc)/\u.cell? ⟨g,1,none⟩=some (.int .i64 (p:Int)))) (by kernel_rfl) ?_ (fun hH=>?_)
 . (try dsimp only)
   go_keep
 have hdr:Below w.heap.size w w.drew:=Below.drew1
 have hkp:Kp g w w.drew:=(Kp.refl g w).drew
 generalize w.drew=ud at hdr hkp hH ⊢
 replace h:=h.below hdr;clear hdr x0 x1;refine hT 0 hH ?_;refine hT 1 hH ?_;refine hT 2 hH ?_;refine hT 3 hH ?_;refine hT 4 hH ?_;refine hT 5 hH ?_;refine hT 6 hH ?_;refine hT 7 hH ?_;refine hT 8 hH ?_
 refine hCall (i:=9) rfl (by kernel_rfl) (by rfl) (fun K hK=>?_)
 go_simp
 refine(hF _ h.rb).mono ?_
 rintro e u1 ⟨rfl,rfl⟩
 go_wp2_with fail
 refine hK.out _ _ ?_ (fun hH=>?_)
 . (try dsimp only)
   exact hH
 clear hK K
 try simp only[Act.put,pZ]
 refine hT 10 hH ?_;refine hT 11 hH ?_;refine hT 13 hH ?_;refine hT 12 hH ?_;refine hT 14 hH ?_
 refine wpAnyH_done (by kernel_rfl) ?_ _
 clear hH;obtain⟨x0,x1,f0,f1⟩:=h.bk.two
 have hs:=h.step (p+n)
 have hk2:=hkp.setCell 1 (.int .i64 ((p+n:Nat):Int))
 have hpn:(p:Int)+(n:Int)=((p+n:Nat):Int):=by omega
 have HS:Hid (_):=hs
 have HK2:Hid (_):=hk2
 clear hs hk2
 obtain⟨m,hm⟩:∃m:Nat,p+n=m:=⟨_,rfl⟩
 have hml:m<=1000002:=by omega
 rw[hm]at hpn HS HK2
 have HM:Hid (p+n=m):=hm
 clear hm;go_wp2
 go_ret
 exact⟨rfl,by rw[HM.out];exact HS.out,HK2.out⟩
theorem zdu(g:Nat)(pa:OA)(pc:Nat)(xs:LN)(p:Nat)(w:World)(h:Sc 200 w g pa pc xs p)(hp:p<=1000000) :
 Calls Tryz.prog 280 #[pg g] w fun e w'=>e=.returned (.int .i64 (hd1 (xs.drop p):Int))/\Sc 200 w' g pa pc xs (p+1)/\Kp g w w':=by
 have ht:=zp6 (hd1 (xs.drop p):Int) (inB xs.length (p:Int) 1) 1 g pa pc xs p w h hp (by decide) (fun U hU=>by rw[<-z1k];exact zgc pa pc xs (p:Int) U hU ⟨by omega,by omega⟩)
 go_enter Tryz.func280,Tryz.ntmps280
 go_wp2_with fail
 refine ht.mono ?_
 rintro e u ⟨rfl,h1,h2⟩;go_wp2
 go_ret
 exact⟨rfl,h1,h2⟩
theorem zhc(g:Nat)(pa:OA)(pc:Nat)(xs:LN)(p:Nat)(w:World)(h:Sc 200 w g pa pc xs p)(hp:p<=1000000) :
 Calls Tryz.prog 247 #[pg g] w fun e w'=>e=.returned (.int .i64 (hd2 (xs.drop p):Int))/\Sc 200 w' g pa pc xs (p+2)/\Kp g w w':=by
 have ht:=zmi (hd2 (xs.drop p):Int) (inB xs.length (p:Int) 2) 2 g pa pc xs p w h hp (by decide) (fun U hU=>by rw[<-zsu];exact zgd pa pc xs (p:Int) U hU ⟨by omega,by omega⟩)
 go_enter Tryz.func247,Tryz.ntmps247
 go_wp2_with fail
 refine ht.mono ?_
 rintro e u ⟨rfl,h1,h2⟩;go_wp2
 go_ret
 exact⟨rfl,h1,h2⟩
theorem zdl(g:Nat)(pa:OA)(pc:Nat)(xs:LN)(p:Nat)(w:World)(h:Sc 200 w g pa pc xs p)(hp:p<=1000000) :
 Calls Tryz.prog 191 #[pg g] w fun e w'=>e=.returned (.int .i64 (sx16 (hd2 (xs.drop p))))/\Sc 200 w' g pa pc xs (p+2)/\Kp g w w':=by
 have ht:=zp5 (sx16 (hd2 (xs.drop p))) (inB xs.length (p:Int) 2) 2 g pa pc xs p w h hp (by decide) (fun U hU=>by rw[<-zsu];exact zgw pa pc xs (p:Int) U hU ⟨by omega,by omega⟩)
 go_enter Tryz.func191,Tryz.ntmps191
 go_wp2_with fail
 refine ht.mono ?_
 rintro e u ⟨rfl,h1,h2⟩;go_wp2
 go_ret
 exact⟨rfl,h1,h2⟩
theorem and_x:∀f:Fin 256,bits BinOp.and IntKind.i64 (f.val:Int) 18=(if f.val/2%2=1 then 2 else 0)+(if f.val/16%2=1 then 16 else 0):=by decide +kernel
theorem and_y:∀f:Fin 256,bits BinOp.and IntKind.i64 (f.val:Int) 36=(if f.val/4%2=1 then 4 else 0)+(if f.val/32%2=1 then 32 else 0):=by decide +kernel
theorem and_8:∀f:Fin 256,bits BinOp.and IntKind.i64 (f.val:Int) 8=(if f.val/8%2=1 then 8 else 0):=by decide +kernel
theorem and_1:∀f:Fin 256,bits BinOp.and IntKind.i64 (f.val:Int) 1=(if f.val%2=1 then 1 else 0):=by decide +kernel
theorem z5u{f:Nat}(h:f<256):bits BinOp.and IntKind.i64 (f:Int) 8=(if f/8%2=1 then 8 else 0):=and_8 ⟨f,h⟩
theorem z5v{f:Nat}(h:f<256):bits BinOp.and IntKind.i64 (f:Int) 1=(if f%2=1 then 1 else 0):=and_1 ⟨f,h⟩
theorem or_x2:bits BinOp.or IntKind.i64 2 16=18:=by decide
theorem or_y2:bits BinOp.or IntKind.i64 4 32=36:=by decide
theorem zn5{s:LN}(hs:Byt s):hd1 s<256:=by
 unfold hd1
 cases s with
 | nil=>decide
 | cons x t=>exact hs x (by simp)
theorem zhu{s:LN}(hs:Byt s):hd2 s<65536:=by
 match s,hs with
 | [],_=>decide
 | [x],_=>exact(by decide:(0:Nat)<65536)
 | x::y::t,hs =>
  have:=hs x (by simp)
  have:=hs y (by simp)
  show 256*x+y<65536
  omega
theorem zp9(f:Nat)(g:Nat)(pa:OA)(pc:Nat)(xs:LN)(p:Nat)(w:World)(h:Sc 200 w g pa pc xs p)(hp:p<=900000)(hf:f<256) :
 Calls Tryz.prog 270 #[pg g,.int .i64 (f:Int),.int .i64 2,.int .i64 16] w fun e w'=>∃p',e=.returned (.int .i64 (dfR f 2 16 (xs.drop p)).1)/\Sc 200 w' g pa pc xs p'/\xs.drop p'=(dfR f 2 16 (xs.drop p)).2/\p'<=p+2/\Kp g w w':=by
 have hor:=or_x2
 have hand:=and_x ⟨f,hf⟩
 have hb:=zn5 (h.rb.lim.drop p)
 dsimp only at hand
 by_cases ha:f/2%2=1
 . by_cases hbb:f/16%2=1
   . have HE:Hid (dfR f 2 16 (xs.drop p)=((hd1 (xs.drop p):Int),(xs.drop p).drop 1)):=by show _=_;rw[dfR,if_pos ha,if_pos hbb]
     rw[if_pos ha,if_pos hbb,show((2:Int)+16)=18 from rfl]at hand
     have hu:=zdu g pa pc xs p w h (by omega)
     clear ha hbb h
     go_enter Tryz.func270,Tryz.ntmps270
     go_wp2_with fail
     refine hu.mono ?_
     rintro e u1 ⟨rfl,h1,hk1⟩;clear hu;go_wp2
     go_ret
     exact⟨p+1,by rw[HE.out];rfl,h1,by rw[HE.out,List.drop_drop],by omega,hk1⟩
   . have HE:Hid (dfR f 2 16 (xs.drop p)=(-(hd1 (xs.drop p):Int),(xs.drop p).drop 1)):=by show _=_;rw[dfR,if_pos ha,if_neg hbb]
     rw[if_pos ha,if_neg hbb,show((2:Int)+0)=2 from rfl]at hand
     have hu:=zdu g pa pc xs p w h (by omega)
     clear ha hbb h
     generalize hd1 (xs.drop p)=z at *
     go_enter Tryz.func270,Tryz.ntmps270
     go_wp2_with fail
     refine hu.mono ?_
     rintro e u1 ⟨rfl,h1,hk1⟩;clear hu;go_wp2
     go_ret
     exact⟨p+1,by rw[HE.out];rfl,h1,by rw[HE.out,List.drop_drop],by omega,hk1⟩
 . by_cases hbb:f/16%2=1
   . have HE:Hid (dfR f 2 16 (xs.drop p)=(0,xs.drop p)):=by show _=_;rw[dfR,if_neg ha,if_pos hbb]
     rw[if_neg ha,if_pos hbb,show((0:Int)+16)=16 from rfl]at hand
     clear ha hbb
     go_enter Tryz.func270,Tryz.ntmps270
     go_wp2
     go_ret
     exact⟨p,by rw[HE.out];rfl,h,by rw[HE.out],by omega,Kp.refl _ _⟩
   . have HE:Hid (dfR f 2 16 (xs.drop p)=(sx16 (hd2 (xs.drop p)),(xs.drop p).drop 2)):=by show _=_;rw[dfR,if_neg ha,if_neg hbb]
     rw[if_neg ha,if_neg hbb,show((0:Int)+0)=0 from rfl]at hand
     have hu:=zdl g pa pc xs p w h (by omega)
     clear ha hbb h
     generalize sx16 (hd2 (xs.drop p))=z at *
     go_enter Tryz.func270,Tryz.ntmps270
     go_wp2_with fail
     refine hu.mono ?_
     rintro e u1 ⟨rfl,h1,hk1⟩;clear hu;go_wp2
     go_ret
     exact⟨p+2,by rw[HE.out];rfl,h1,by rw[HE.out,List.drop_drop],by omega,hk1⟩
theorem zp8(f:Nat)(g:Nat)(pa:OA)(pc:Nat)(xs:LN)(p:Nat)(w:World)(h:Sc 200 w g pa pc xs p)(hp:p<=900000)(hf:f<256) :
 Calls Tryz.prog 270 #[pg g,.int .i64 (f:Int),.int .i64 4,.int .i64 32] w fun e w'=>∃p',e=.returned (.int .i64 (dfR f 4 32 (xs.drop p)).1)/\Sc 200 w' g pa pc xs p'/\xs.drop p'=(dfR f 4 32 (xs.drop p)).2/\p'<=p+2/\Kp g w w':=by
 have hor:=or_y2
 have hand:=and_y ⟨f,hf⟩
 have hb:=zn5 (h.rb.lim.drop p)
 dsimp only at hand
 by_cases ha:f/4%2=1
 . by_cases hbb:f/32%2=1
   . have HE:Hid (dfR f 4 32 (xs.drop p)=((hd1 (xs.drop p):Int),(xs.drop p).drop 1)):=by show _=_;rw[dfR,if_pos ha,if_pos hbb]
     rw[if_pos ha,if_pos hbb,show((4:Int)+32)=36 from rfl]at hand
     have hu:=zdu g pa pc xs p w h (by omega)
     clear ha hbb h
     go_enter Tryz.func270,Tryz.ntmps270
     go_wp2_with fail
     refine hu.mono ?_
     rintro e u1 ⟨rfl,h1,hk1⟩;clear hu;go_wp2
     go_ret
     exact⟨p+1,by rw[HE.out];rfl,h1,by rw[HE.out,List.drop_drop],by omega,hk1⟩
   . have HE:Hid (dfR f 4 32 (xs.drop p)=(-(hd1 (xs.drop p):Int),(xs.drop p).drop 1)):=by show _=_;rw[dfR,if_pos ha,if_neg hbb]
     rw[if_pos ha,if_neg hbb,show((4:Int)+0)=4 from rfl]at hand
     have hu:=zdu g pa pc xs p w h (by omega)
     clear ha hbb h
     generalize hd1 (xs.drop p)=z at *
     go_enter Tryz.func270,Tryz.ntmps270
     go_wp2_with fail
     refine hu.mono ?_
     rintro e u1 ⟨rfl,h1,hk1⟩;clear hu;go_wp2
     go_ret
     exact⟨p+1,by rw[HE.out];rfl,h1,by rw[HE.out,List.drop_drop],by omega,hk1⟩
 . by_cases hbb:f/32%2=1
   . have HE:Hid (dfR f 4 32 (xs.drop p)=(0,xs.drop p)):=by show _=_;rw[dfR,if_neg ha,if_pos hbb]
     rw[if_neg ha,if_pos hbb,show((0:Int)+32)=32 from rfl]at hand
     clear ha hbb
     go_enter Tryz.func270,Tryz.ntmps270
     go_wp2
     go_ret
     exact⟨p,by rw[HE.out];rfl,h,by rw[HE.out],by omega,Kp.refl _ _⟩
   . have HE:Hid (dfR f 4 32 (xs.drop p)=(sx16 (hd2 (xs.drop p)),(xs.drop p).drop 2)):=by show _=_;rw[dfR,if_neg ha,if_neg hbb]
     rw[if_neg ha,if_neg hbb,show((0:Int)+0)=0 from rfl]at hand
     have hu:=zdl g pa pc xs p w h (by omega)
     clear ha hbb h
     generalize sx16 (hd2 (xs.drop p))=z at *
     go_enter Tryz.func270,Tryz.ntmps270
     go_wp2_with fail
     refine hu.mono ?_
     rintro e u1 ⟨rfl,h1,hk1⟩;clear hu;go_wp2
     go_ret
     exact⟨p+2,by rw[HE.out];rfl,h1,by rw[HE.out,List.drop_drop],by omega,hk1⟩
def nI(l:LN):List Int:=l.map (fun x:Nat=>(x:Int))
theorem zgt(l:LN):(nI l).length=l.length:=List.length_map ..
theorem zsz(l m:LN):nI (l++m)=nI l++nI m:=List.map_append
theorem zsy(l:LN)(k:Nat):(nI l).getD k 0=((l.getD k 0:Nat):Int):=by
 unfold nI
 by_cases h:k<l.length
 . simp[List.getD,h]
 . simp[List.getD,Nat.not_lt.1 h]
theorem z1l(l:LN)(k:Nat):nI (l.take k)=(nI l).take k:=by unfold nI;rw[List.map_take]
theorem z22{n:Nat}{s acc:LN}(h:acc.length<n)(h8:hd1 s/8%2=1){acc':LN}(ha:acc'=acc++List.replicate (hd1 (s.drop 1)+1) (hd1 s)):rdG (n-acc.length) n s acc=rdG (n-acc'.length) n (s.drop 2) acc':=by
 subst ha
 obtain⟨f,hf⟩:∃f,n-acc.length=f+1:=⟨n-acc.length-1,by omega⟩
 rw[hf,rdG,if_pos h,if_pos h8]
 exact zio _ _ _ _ _ (by rw[List.length_append,List.length_replicate];omega) (by omega)
theorem z5l{n:Nat}{s acc:LN}(h:acc.length<n)(h8:¬hd1 s/8%2=1){acc':LN}(ha:acc'=acc++List.replicate (0+1) (hd1 s)):rdG (n-acc.length) n s acc=rdG (n-acc'.length) n (s.drop 1) acc':=by
 subst ha
 obtain⟨f,hf⟩:∃f,n-acc.length=f+1:=⟨n-acc.length-1,by omega⟩
 rw[hf,rdG,if_pos h,if_neg h8]
 exact zio _ _ _ _ _ (by rw[List.length_append,List.length_singleton];omega) (by show n-(acc++[hd1 s]).length<=n-(acc++[hd1 s]).length;omega)
theorem znj(acc:LN)(j f:Nat):acc++List.replicate (j+1) f=(acc++List.replicate j f)++[f]:=by rw[List.replicate_succ',List.append_assoc]
theorem zhl(n:Nat)(g:Nat)(pa:OA)(pc:Nat)(xs:LN)(p:Nat)(w:World)(h:Sc 200 w g pa pc xs p)(hp:p<=100000)(hn:n<=80)(hpb:∀b o,pa=some ⟨b,o,none⟩->xs≠[]->b<w.heap.size) :
 Calls Tryz.prog 269 #[pg g,.int .i64 (n:Int)] w fun e w'=>∃a' c',e=.returned (.slice a' (nI (fsK n (xs.drop p))).length c')/\Ri w' a' c' (nI (fsK n (xs.drop p)))/\(∀b o,a'=some ⟨b,o,none⟩->w.heap.size<=b/\b<w'.heap.size)/\∃p',Sc 200 w' g pa pc xs p'/\xs.drop p'=(fgK n (xs.drop p)).2/\p'<=p+1000/\Kp g w w':=by
 have HG0:Hid (fgK n (xs.drop p)=rdG (n-([]:LN).length) n (xs.drop p) []):=rfl
 have hgl:g<w.heap.size:=h.bk.lt
 go_enter Tryz.func269,Tryz.ntmps269
 go_wp2
 go_loopw [5] (fun v wr=>∃(acc:LN) (q:Nat),v.ownBlock≠some g/\Gi w.heap.size wr v (nI acc)/\acc.length<=n+255/\Sc 200 wr g pa pc xs q/\q<=p+2*acc.length/\fgK n (xs.drop p)=rdG (n-acc.length) n (xs.drop q) acc/\Kp g w wr) (fun v _=>n-slLen v)
 case atStart=>exact⟨[],p,(fun e=>by cases e),Gi.nil _ _,by simp,h,by omega,HG0.out,Kp.refl _ _⟩
 case round =>
  clear h HG0;obtain⟨acc,q,hvg,hG,hal,hS,hq,hfg,hK⟩:=hrel;obtain⟨a5,c5,rfl,hri,hbk⟩:=hG.slice
  have HF:Hid (fgK n (xs.drop p)=rdG (n-acc.length) n (xs.drop q) acc):=hfg
  have hcp:=hri.2.1
  have hcm:=hri.2.2.1
  unfold maxLen at hcm
  have hnl:=zgt acc
  rw[hnl]at hcp ⊢;clear hfg
  by_cases hlt:acc.length<n
  rotate_left
  . have HFE:Hid (fgK n (xs.drop p)=(acc,xs.drop q)):=by show _=_;rw[HF.out,zdo (by omega)]
    have HFS:Hid (nI (fsK n (xs.drop p))=(nI acc).take n):=by show _=_;unfold fsK;rw[HFE.out,z1l]
    have HL:Hid (((nI acc).take n).length=n):=by show _=_;rw[List.length_take,zgt];omega
    have HRI:Hid (Ri wr a5 c5 (nI acc)):=hri
    have HBK:Hid (∀b o,a5=some ⟨b,o,none⟩->w.heap.size<=b/\b<wr.heap.size):=hbk
    have g1:¬(acc.length:Int)<(n:Int):=by omega
    have i1:(0:Int)<=(n:Int):=by omega
    have i2:(n:Int)<=(c5:Int):=by omega
    clear HF hG hri hbk hvg hnl
    cases a5 with
    | none =>
     go_wp2
     go_ret
     exact⟨none,c5,by rw[HFS.out,HL.out];rfl,by rw[HFS.out];exact HRI.out.take n,HBK.out,q,hS,by rw[HFE.out],by omega,hK⟩
    | some ad =>
     obtain⟨b5,o5,s5⟩:=ad;go_wp2
     go_ret
     exact⟨_,c5,by rw[HFS.out,HL.out];rfl,by rw[HFS.out];exact HRI.out.take n,HBK.out,q,hS,by rw[HFE.out],by omega,hK⟩
  have g1:(acc.length:Int)<(n:Int):=by omega
  have hu:=zdu g pa pc xs q wr hS (by omega)
  have hfl:=zn5 (hS.rb.lim.drop q)
  have hml:=zn5 (hS.rb.lim.drop (q+1))
  have hand:=z5u hfl
  have hG2:=hG
  obtain⟨f,hf⟩:∃f,hd1 (xs.drop q)=f:=⟨_,rfl⟩
  have HST:Hid (f/8%2=1->∀m,hd1 (xs.drop (q+1))=m->rdG (n-acc.length) n (xs.drop q) acc=rdG (n-(acc++List.replicate (m+1) f).length) n (xs.drop (q+1+1)) (acc++List.replicate (m+1) f)):=fun h8 m hm=>by
   have:=z22 (s:=xs.drop q) hlt (by rw[hf];exact h8) (acc':=acc++List.replicate (m+1) f) (by rw[List.drop_drop,hm,hf])
   rw[this,List.drop_drop]
  have HSO:Hid (¬f/8%2=1->rdG (n-acc.length) n (xs.drop q) acc=rdG (n-(acc++List.replicate (0+1) f).length) n (xs.drop (q+1)) (acc++List.replicate (0+1) f)):=fun h8=>by
   have:=z5l (s:=xs.drop q) hlt (by rw[hf];exact h8) (acc':=acc++List.replicate (0+1) f) (by rw[hf])
   rw[this,List.drop_drop]
  rw[hf]at hu hfl hand
  have HVG:Hid ((Value.slice a5 acc.length c5).ownBlock≠some g):=by rw[hnl]at hvg;exact hvg
  clear hf hri hbk hvg
  go_wp2_with fail
  refine hu.mono ?_
  rintro e u1 ⟨rfl,hS1,hK1⟩
  have hG1:=hG.kp hS.bk (by decide) hK1
  have HKK:Hid (Kp g w u1):=hK.trans hK1
  clear hu hS hK hK1 hG hG2
  by_cases h8:f/8%2=1
  . rw[if_pos h8]at hand
    have hu2:=zdu g pa pc xs (q+1) u1 hS1 (by omega)
    obtain⟨m,hm⟩:∃m,hd1 (xs.drop (q+1))=m:=⟨_,rfl⟩
    rw[hm]at hu2 hml
    have HST2:Hid (_):=HST.out h8 m hm
    clear hm HSO HST h8
    go_wp2_with fail
    refine hu2.mono ?_
    rintro e u2 ⟨rfl,hS2,hK2⟩
    replace hG1:=hG1.kp hS1.bk (by decide) hK2
    have HKK2:Hid (Kp g w u2):=HKK.out.trans hK2
    clear hu2 hS1 hK2
    have HG1:Hid (Gi w.heap.size u2 (.slice a5 acc.length c5) (nI acc)):=by rw[hnl]at hG1;exact hG1
    have HSS:Hid (Sc 200 u2 g pa pc xs (q+1+1)):=hS2
    have HK1:Hid (Kp g w u2):=HKK2.out
    clear hG1 hS2 HKK HKK2;go_wp2
    go_loopw [5,21] (fun v i wr=>∃j:Nat,j<=m+1/\i=.int .i64 j/\v.ownBlock≠some g/\Gi w.heap.size wr v (nI (acc++List.replicate j f))/\Sc 200 wr g pa pc xs (q+1+1)/\Kp g w wr) (fun _ i _=>m+1-(intOf i).toNat)
    case atStart=>exact⟨0,Nat.zero_le _,rfl,HVG.out,by rw[List.replicate_zero,List.append_nil];exact HG1.out,HSS.out,HK1.out⟩
    case round =>
     clear HG1 HSS HK1 HVG;obtain⟨j,hj,rfl,hvg,hG,hS,hK⟩:=hrel;obtain⟨a6,c6,rfl,hri,hbk⟩:=hG.slice
     have hln:(nI (acc++List.replicate j f)).length=acc.length+j:=by rw[zgt,List.length_append,List.length_replicate]
     by_cases hjm:j<=m
     . have g2:(j:Int)<1+(m:Int):=by omega
       have hll:(nI (acc++List.replicate j f)).length+1<=1000000:=by omega
       have HAP:Hid (nI (acc++List.replicate (j+1) f)=nI (acc++List.replicate j f)++[(f:Int)]):=by show _=_;rw[znj,zsz];rfl
       have bp:=bl1 (w:=wr) (.cells #[.int .i64 (f:Int)] 3)
       have hGb:=hG.below bp
       have hSb:=hS.below bp
       have hN:=Bk.new 3 wr [.int .i64 (f:Int)]
       have n0:=hN.cell 0 (by simp)
       have zzb:wr.heap.size<(wr.alloc (.cells #[.int .i64 (f:Int)] 3)).heap.size:=hN.lt
       have hKb:Kp g w (wr.alloc (.cells #[.int .i64 (f:Int)] 3)):=hK.alloc _
       have hbs:=hKb.size
       have hfi:I64 (f:Int):=⟨by omega,by omega⟩
       clear hN bp hri hbk hln
       generalize nI (acc++List.replicate j f)=L at *
       go_wp2_with (at_builtin;refine zaf rfl _ _ rfl w.heap.size _ L rfl hGb wr.heap.size (f:Int) rfl zzb n0 hfi hll hbs ?_)
       intro v9 w9 hG9 hgrow hown
       have hS9:=hSb.grown hgrow hvg (fun b o e hne e2=>by
        have:=(hGb.lo e2).1
        have:=hpb b o e hne
        omega)
       have hK9:Kp g w w9:=hKb.grown hgrow (fun k hk=>(hGb.lo hk).1)
       have HV9:Hid (v9.ownBlock≠some g):=by
        rcases hown with ho|ho
        . show _≠_
          rw[ho]
          exact hvg
        . show _≠_
          rw[ho]
          intro e
          have h1:=Option.some.inj e
          have h2:=hS.bk.lt
          (try simp at h1)
          omega
       rw[<-HAP.out]at hG9;clear hgrow hown hGb hSb n0 zzb hKb hbs hvg hll HAP;go_wp2
       go_roundw
       case rel=>exact⟨j+1,by omega,by go_num,HV9.out,hG9,hS9,hK9⟩
       case measure=>simp[intOf];omega
     . obtain rfl:j=m+1:=by omega
       have g2:¬(((m+1:Nat):Nat):Int)<1+(m:Int):=by omega
       have HFF:Hid (fgK n (xs.drop p)=rdG (n-(acc++List.replicate (m+1) f).length) n (xs.drop (q+1+1)) (acc++List.replicate (m+1) f)):=by
        show _=_
        rw[HF.out,HST2.out]
       have HLN:Hid ((acc++List.replicate (m+1) f).length=acc.length+(m+1)):=by show _=_;rw[List.length_append,List.length_replicate]
       have z4y:=hln
       rw[hln];clear hri hbk hln;go_wp2
       go_roundw
       case rel=>exact⟨acc++List.replicate (m+1) f,q+1+1,by rw[z4y]at hvg;exact hvg,by rw[z4y]at hG;exact hG,by rw[HLN.out];omega,hS,by rw[HLN.out];omega,HFF.out,hK⟩
       case measure=>show n-(acc.length+(m+1))<n-acc.length;omega
  . rw[if_neg h8]at hand
    have HSO2:Hid (_):=HSO.out h8
    clear HSO HST h8 hml
    have HG1:Hid (Gi w.heap.size u1 (.slice a5 acc.length c5) (nI acc)):=by rw[hnl]at hG1;exact hG1
    have HSS:Hid (Sc 200 u1 g pa pc xs (q+1)):=hS1
    have HK1:Hid (Kp g w u1):=HKK.out
    clear hG1 hS1 HKK;go_wp2
    go_loopw [5,21] (fun v i wr=>∃j:Nat,j<=0+1/\i=.int .i64 j/\v.ownBlock≠some g/\Gi w.heap.size wr v (nI (acc++List.replicate j f))/\Sc 200 wr g pa pc xs (q+1)/\Kp g w wr) (fun _ i _=>0+1-(intOf i).toNat)
    case atStart=>exact⟨0,Nat.zero_le _,rfl,HVG.out,by rw[List.replicate_zero,List.append_nil];exact HG1.out,HSS.out,HK1.out⟩
    case round =>
     clear HG1 HSS HK1 HVG;obtain⟨j,hj,rfl,hvg,hG,hS,hK⟩:=hrel;obtain⟨a6,c6,rfl,hri,hbk⟩:=hG.slice
     have hln:(nI (acc++List.replicate j f)).length=acc.length+j:=by rw[zgt,List.length_append,List.length_replicate]
     by_cases hjm:j<=0
     . have g2:(j:Int)<1:=by omega
       have hll:(nI (acc++List.replicate j f)).length+1<=1000000:=by omega
       have HAP:Hid (nI (acc++List.replicate (j+1) f)=nI (acc++List.replicate j f)++[(f:Int)]):=by show _=_;rw[znj,zsz];rfl
       have bp:=bl1 (w:=wr) (.cells #[.int .i64 (f:Int)] 3)
       have hGb:=hG.below bp
       have hSb:=hS.below bp
       have hN:=Bk.new 3 wr [.int .i64 (f:Int)]
       have n0:=hN.cell 0 (by simp)
       have zzb:wr.heap.size<(wr.alloc (.cells #[.int .i64 (f:Int)] 3)).heap.size:=hN.lt
       have hKb:Kp g w (wr.alloc (.cells #[.int .i64 (f:Int)] 3)):=hK.alloc _
       have hbs:=hKb.size
       have hfi:I64 (f:Int):=⟨by omega,by omega⟩
       clear hN bp hri hbk hln
       generalize nI (acc++List.replicate j f)=L at *
       go_wp2_with (at_builtin;refine zaf rfl _ _ rfl w.heap.size _ L rfl hGb wr.heap.size (f:Int) rfl zzb n0 hfi hll hbs ?_)
       intro v9 w9 hG9 hgrow hown
       have hS9:=hSb.grown hgrow hvg (fun b o e hne e2=>by
        have:=(hGb.lo e2).1
        have:=hpb b o e hne
        omega)
       have hK9:Kp g w w9:=hKb.grown hgrow (fun k hk=>(hGb.lo hk).1)
       have HV9:Hid (v9.ownBlock≠some g):=by
        rcases hown with ho|ho
        . show _≠_
          rw[ho]
          exact hvg
        . show _≠_
          rw[ho]
          intro e
          have h1:=Option.some.inj e
          have h2:=hS.bk.lt
          (try simp at h1)
          omega
       rw[<-HAP.out]at hG9;clear hgrow hown hGb hSb n0 zzb hKb hbs hvg hll HAP;go_wp2
       go_roundw
       case rel=>exact⟨j+1,by omega,by go_num,HV9.out,hG9,hS9,hK9⟩
       case measure=>simp[intOf];omega
     . obtain rfl:j=0+1:=by omega
       have g2:¬(((0+1:Nat):Nat):Int)<1:=by omega
       have HFF:Hid (fgK n (xs.drop p)=rdG (n-(acc++List.replicate (0+1) f).length) n (xs.drop (q+1)) (acc++List.replicate (0+1) f)):=by
        show _=_
        rw[HF.out,HSO2.out]
       have HLN:Hid ((acc++List.replicate (0+1) f).length=acc.length+(0+1)):=by show _=_;rw[List.length_append,List.length_replicate]
       have z4y:=hln
       rw[hln];clear hri hbk hln;go_wp2
       go_roundw
       case rel=>exact⟨acc++List.replicate (0+1) f,q+1,by rw[z4y]at hvg;exact hvg,by rw[z4y]at hG;exact hG,by rw[HLN.out];omega,hS,by rw[HLN.out];omega,HFF.out,hK⟩
       case measure=>show n-(acc.length+(0+1))<n-acc.length;omega
theorem zxu(vs:List Value):∀n:Nat,(List.replicate n vs).flatten.length=n*vs.length:=by
 intro n
 induction n with
 | zero=>simp
 | succ n ih=>rw[List.replicate_succ,List.flatten_cons,List.length_append,ih,Nat.add_mul];omega
theorem zs1{z:Array Value}{vs:List Value}(hz:z.toList=vs)(hs:0<vs.length)(n:Nat):(madeCells z (n*vs.length)).toList=(List.replicate n vs).flatten:=by
 apply List.ext_getElem?
 intro i
 subst hz
 by_cases hi:i<n*z.toList.length
 . have h5:∀j,j<(List.replicate n z.toList).length->((List.replicate n z.toList).getD j []).length=z.toList.length:=fun j hj=>by
     rw[List.length_replicate]at hj
     simp[List.getD,hj]
   have hd:i/z.toList.length<n:=(Nat.div_lt_iff_lt_mul hs).2 hi
   have e1:i/z.toList.length*z.toList.length+i%z.toList.length=i:=by rw[Nat.mul_comm];exact Nat.div_add_mod i _
   have h2:=zf4 h5 (i:=i/z.toList.length) (j:=i%z.toList.length) (by rw[List.length_replicate];exact hd) (Nat.mod_lt _ hs)
   rw[e1]at h2;rw[h2]
   have h3:(List.replicate n z.toList).getD (i/z.toList.length) []=z.toList:=by rw[List.getD_eq_getElem?_getD,List.getElem?_replicate,if_pos hd];rfl
   have hm:i%z.size<z.size:=Nat.mod_lt _ hs
   have hi':i<n*z.size:=hi
   rw[h3]
   show(madeCells z (n*z.size)).toList[i]?=z.toList[i%z.size]?
   have e2:(madeCells z (n*z.size)).toList[i]?=some (z[i%z.size]!):=by simp[madeCells,hi']
   rw[e2,List.getElem?_eq_getElem hm,getElem!_pos z _ hm]
   rfl
 . rw[List.getElem?_eq_none (by rw[Array.length_toList,size_madeCells];omega),List.getElem?_eq_none (by rw[zxu];omega)]
theorem Gw.zeros{α:Type}{E:El α}{t:TypeId}{base:Nat}{w:World}{v:Value}{n:Nat}{z:Value}{vs:List Value}(h:w.ownsRow base t E.sz v n (madeCells z.cells (n*E.sz)).toList)(hz:z.cells.toList=vs)(hs:0<E.sz)(hr:E.rep (fun k=>False/\v.ownBlock≠some k) w vs E.dfl):Gw E t base (fun _=>False) w v (List.replicate n E.dfl):=by
 have hl:=E.len hr
 refine⟨List.replicate n vs,by rw[List.length_replicate,List.length_replicate],?_,fun i hi=>?_⟩
 . rw[List.length_replicate,<-zs1 hz (by omega),hl]
   exact h
 . rw[List.length_replicate]at hi
   have e1:(List.replicate n vs).getD i []=vs:=by rw[List.getD_eq_getElem?_getD,List.getElem?_replicate,if_pos hi];rfl
   have e2:(List.replicate n E.dfl).getD i E.dfl=E.dfl:=by rw[List.getD_eq_getElem?_getD,List.getElem?_replicate,if_pos hi];rfl
   rw[e1,e2]
   exact hr
theorem Gw.pnSet{base:Nat}{w:World}{gP n c:Nat}{L:List Pn}(h:Gw PnE 65 base (fun _=>False) w (.slice (some ⟨gP,0,none⟩) n c) L){k:Nat}(hk:k<L.length) :
 (∀x,I64 x->Gw PnE 65 base (fun _=>False) (w.setCell ⟨gP,k*3,none⟩ (.int .i64 x)) (.slice (some ⟨gP,0,none⟩) n c) (L.set k ⟨x,(L.getD k Pn.none).y,(L.getD k Pn.none).on⟩)) /\
    (∀y,I64 y->Gw PnE 65 base (fun _=>False) (w.setCell ⟨gP,k*3+1,none⟩ (.int .i64 y)) (.slice (some ⟨gP,0,none⟩) n c) (L.set k ⟨(L.getD k Pn.none).x,y,(L.getD k Pn.none).on⟩)) /\
    (∀o,Gw PnE 65 base (fun _=>False) (w.setCell ⟨gP,k*3+2,none⟩ (.bool o)) (.slice (some ⟨gP,0,none⟩) n c) (L.set k ⟨(L.getD k Pn.none).x,(L.getD k Pn.none).y,o⟩))/\(∀j,w.frozen? ⟨gP,j,none⟩=false) /\
    w.cell? ⟨gP,k*3,none⟩=some (.int .i64 (L.getD k Pn.none).x)/\w.cell? ⟨gP,k*3+1,none⟩=some (.int .i64 (L.getD k Pn.none).y)/\w.cell? ⟨gP,k*3+2,none⟩=some (.bool (L.getD k Pn.none).on):=by
 have hne:L≠[]:=fun e=>by rw[e]at hk;simp at hk
 obtain⟨g,cap,ev,_,_,_,hfz,z41,zks⟩:=h.own hne
 have eg:gP=g:=by injection ev with e1 _ _;cases e1;rfl
 subst eg
 obtain⟨vs,hr,hc⟩:=z41 k hk
 obtain⟨rfl,hw⟩:=zaz.1 hr
 refine⟨fun x hx=>?_,fun y hy=>?_,fun o=>?_,hfz,hc 0 (by decide),hc 1 (by decide),hc 2 (by decide)⟩
 . exact zks k 0 (.int .i64 x) _ hk (by decide) (fun S' us hu=>by obtain⟨rfl,h1,h2⟩:=zaz.1 hu;exact zaz.2 ⟨rfl,hx,h2⟩)
 . exact zks k 1 (.int .i64 y) _ hk (by decide) (fun S' us hu=>by obtain⟨rfl,h1,h2⟩:=zaz.1 hu;exact zaz.2 ⟨rfl,h1,hy⟩)
 . exact zks k 2 (.bool o) _ hk (by decide) (fun S' us hu=>by obtain⟨rfl,h1,h2⟩:=zaz.1 hu;exact zaz.2 ⟨rfl,h1,h2⟩)
theorem Sc.other{t:TypeId}{w:World}{g b:Nat}{pa:OA}{pc:Nat}{xs:LN}{p:Nat}(h:Sc t w g pa pc xs p)(j:Nat)(z:Value)(h1:g≠b)(h2:∀c o,pa=some ⟨c,o,none⟩->xs≠[]->c≠b):Sc t (w.setCell ⟨b,j,none⟩ z) g pa pc xs p :=
 ⟨h.1.other j z h1,h.2.1.keep' (by simp[World.setCell]) (fun c o _ e hne=>Below.heap_setCell _ _ _ _ (fun e2=>h2 c o e hne e2)),h.2.2⟩
theorem Kp.other{g b:Nat}{a w:World}(h:Kp g a w)(j:Nat)(z:Value)(hb:a.heap.size<=b):Kp g a (w.setCell ⟨b,j,none⟩ z):=Keep.setCell h (p:=⟨b,j,none⟩) (fun e=>by have h1:b<a.heap.size:=e.1;omega) z
theorem z2p{n:Nat}{s:LN}(hs:Byt s):Byt (fsK n s):=(z02 n n s [] hs Byt.nil).take n
theorem zv8:∀(f n:Nat) (s acc:LN),∃j,(rdG f n s acc).2=s.drop j:=by
 intro f
 induction f with
 | zero=>intro n s acc;exact⟨0,rfl⟩
 | succ f ih =>
  intro n s acc
  rw[rdG]
  split
  . split
    . obtain⟨j,e⟩:=ih n (s.drop 2) (acc++List.replicate (hd1 (s.drop 1)+1) (hd1 s))
      exact⟨2+j,by rw[e,List.drop_drop]⟩
    . obtain⟨j,e⟩:=ih n (s.drop 1) (acc++[hd1 s])
      exact⟨1+j,by rw[e,List.drop_drop]⟩
  . exact⟨0,rfl⟩
theorem ztx{n:Nat}{s:LN}(hs:Byt s):Byt (fgK n s).2:=by
 obtain⟨j,e⟩:=zv8 n n s []
 unfold fgK
 rw[e]
 exact hs.drop j
theorem zzz{n:Nat}{s:LN}(hs:Byt s):Byt (xsK n s).2:=by
 have:=zlo (sh:=2) (sm:=16) (fs:=fsK n s) (a:=0) (ztx (n:=n) hs) (fsK n s).length (Nat.le_refl _)
 rw[zry]at this
 exact this
theorem zen{L:List Pn}{k i:Nat}{q:Pn}(hk:k<L.length):(L.set k q).getD i Pn.none=if i=k then q else L.getD i Pn.none:=by
 by_cases h:i=k
 . subst h;simp[List.getD,hk]
 . rw[if_neg h];simp[List.getD,List.getElem?_set_ne (fun e=>h e.symm)]
def onK(fs:LN)(i:Nat):Bool:=decide (fs.getD i 0%2=1)
def pXk(X:List Int)(fs:LN)(k i:Nat):Pn:=if i<k then ⟨X.getD i 0,0,onK fs i⟩else Pn.none
def pYk(X Y:List Int)(fs:LN)(k i:Nat):Pn:=⟨X.getD i 0,if i<k then Y.getD i 0 else 0,onK fs i⟩
theorem z07{L:List Pn}{n:Nat}{s:LN}(hl:L.length=n)(h:∀i,i<n->L.getD i Pn.none=pYk (xsK n s).1 (ysK n s).1 (fsK n s) n i):L=ptK n s:=by
 apply List.ext_getElem (by rw[hl,zlr])
 intro i h1 h2
 have e:=h i (by omega)
 have e2:=z1p (xsK n s).1 (ysK n s).1 (fsK n s) i (by unfold xsK;rw[zir]) (by unfold ysK;rw[zir]) (by rw[zmb];omega)
 rw[List.getD_eq_getElem?_getD,List.getElem?_eq_getElem h1,Option.getD_some]at e
 have e3:(ptK n s).getD i Pn.none=(ptK n s)[i]:=by rw[List.getD_eq_getElem?_getD,List.getElem?_eq_getElem h2,Option.getD_some]
 rw[e,<-e3]
 unfold ptK
 rw[e2]
 unfold pYk onK
 rw[if_pos (by omega)]
