import Derived.Test.YtkmcodofnckdmaaGreatZK18
set_option maxHeartbeats 8000000
set_option maxRecDepth 100000
set_option linter.unusedSimpArgs false
set_option linter.unusedVariables false
namespace Go.Proofs.YtkmcodofnckdmaaGreat
open Tryz Go.RowKit Go.Maps
abbrev S5 (w:World) (g:Nat) (v0 v1 v2 v3 v4:Value):World:=((((w.setCell ⟨g,0,none⟩ v0).setCell ⟨g,1,none⟩ v1).setCell ⟨g,2,none⟩ v2).setCell ⟨g,3,none⟩ v3).setCell ⟨g,4,none⟩ v4
theorem Bk.set5U{t:TypeId}{w:World}{g:Nat}{x0 x1 x2 x3 x4:Value}(h:Bk t w g [x0,x1,x2,x3,x4])(y0 y1 y2 y3 y4:Value):Bk t (((((w.setCell ⟨g,0,none⟩ y0).setCell ⟨g,1,none⟩ y1).setCell ⟨g,2,none⟩ y2).setCell ⟨g,3,none⟩ y3).setCell ⟨g,4,none⟩ y4) g [y0,y1,y2,y3,y4]:=((((h.set 0 y0).set 1 y1).set 2 y2).set 3 y3).set 4 y4
theorem Kp.new5{g b:Nat}{a w:World}(h:Kp g a w)(hb:a.heap.size<=b)(y0 y1 y2 y3 y4:Value):Kp g a (((((w.setCell ⟨b,0,none⟩ y0).setCell ⟨b,1,none⟩ y1).setCell ⟨b,2,none⟩ y2).setCell ⟨b,3,none⟩ y3).setCell ⟨b,4,none⟩ y4):=((((h.new hb 0 y0).new hb 1 y1).new hb 2 y2).new hb 3 y3).new hb 4 y4
theorem Bk.other5{t:TypeId}{w:World}{g b:Nat}{cs:LV}(h:Bk t w g cs)(hb:g≠b)(y0 y1 y2 y3 y4:Value):Bk t (((((w.setCell ⟨b,0,none⟩ y0).setCell ⟨b,1,none⟩ y1).setCell ⟨b,2,none⟩ y2).setCell ⟨b,3,none⟩ y3).setCell ⟨b,4,none⟩ y4) g cs:=((((h.other 0 y0 hb).other 1 y1 hb).other 2 y2 hb).other 3 y3 hb).other 4 y4 hb
def K3(n:Nat)(w w':World):Prop:=Keep (fun k=>n<=k/\k<w.heap.size) w w'
theorem K3.kp{n g:Nat}{w w':World}(h:Kp g w w')(hg:g<n):K3 n w w':=Keep.mono h (fun k hk=>⟨hk.2,by omega⟩)
theorem K3.set{n b:Nat}(w:World)(hb:b<n)(j:Nat)(z:Value):K3 n w (w.setCell ⟨b,j,none⟩ z):=Keep.setCell (Keep.refl _ _) (p:=⟨b,j,none⟩) (fun e=>absurd hb (Nat.not_lt.2 e.1)) z
theorem K3.trans{n:Nat}{a b c:World}(h:K3 n a b)(k:K3 n b c):K3 n a c:=Keep.trans h (Keep.mono k (fun i hi=>⟨hi.1,qN hi.2 (Keep.size h)⟩))
theorem K3.set5{n b:Nat}(w:World)(hb:b<n)(y0 y1 y2 y3 y4:Value):K3 n w (((((w.setCell ⟨b,0,none⟩ y0).setCell ⟨b,1,none⟩ y1).setCell ⟨b,2,none⟩ y2).setCell ⟨b,3,none⟩ y3).setCell ⟨b,4,none⟩ y4):=((((K3.set w hb 0 y0).trans (K3.set _ hb 1 y1)).trans (K3.set _ hb 2 y2)).trans (K3.set _ hb 3 y3)).trans (K3.set _ hb 4 y4)
theorem zaf{α:Type}{E:El α}{n:Nat}{u u':World}{vs:LV}{l:List α}(h:E.row.rep (fun k=>n<=k) u vs l)(hk:K3 n u u'):E.row.rep (fun k=>n<=k) u' vs l:=E.row.stay h (Keep.size hk) (fun k h1 h2=>⟨h1,Keep.block hk k ⟨h1,h2⟩⟩)
theorem Ri.row{S:Nat->Prop}{w:World}{a:OA}{c:Nat}{l:LI}(h:Ri w a c l)(hS:∀b o,a=some ⟨b,o,none⟩->S b)(h0:a=none->c=0)(hl:l.length<=140737488351232):El.int.row.rep S w [.slice a l.length c] l:=by
 refine⟨a,c,rfl,fun b o e _=>hS b o e,⟨h.2.1,h.2.2.1,h0,fun i hi=>?_⟩,hl⟩;rcases h.2.2.2 with h4|⟨b,off,e,hb,hc⟩
 . rw[h4]at hi;simp at hi
 . refine⟨b,off,[.int .i64 (l.getD i 0)],e,hb,El.int_rep.2 ⟨rfl,h.i64 hi⟩,fun j hj=>?_⟩
   obtain rfl:j=0:=by simp[El.int,El.num]at hj;exact hj
   rw[show i*El.int.sz=i from Nat.mul_one i];exact hc i hi
theorem Gw.rowU{α:Type}{E:El α}{t:TypeId}{n:Nat}{w:World}{a:OA}{c:Nat}{l:List α}(h:Gw E t n (fun _=>False) w (.slice a l.length c) l)(hl:l.length<=140737488351232):E.row.rep (fun k=>n<=k) w [.slice a l.length c] l:=by
 obtain⟨a',c',e,hg,hb⟩:=h.slice;injection e with e1 e2 e3;subst e1 e3;exact⟨a,c,rfl,fun b o e _=>(hb b o e).1,hg.wide (fun k hk=>hk.elim),hl⟩
theorem zq5{b:LN}{l:LI}{q:Nat}(h:rpO b=some (l,q)):rpL b=l/\rpN b=(q:Int)/\rpE b=0/\q<=b.length/\l.length<=2000:=by
 refine⟨by unfold rpL;rw[h],by unfold rpN;rw[h],by unfold rpE;rw[h],?_,?_⟩
 all_goals
  unfold rpO at h;split at h
  . rename_i h0
    cases hr:rdF RPt b (ptN b) (ptA b) (ptN b) with
    | none=>rw[hr]at h;cases h
    | some r =>
     rw[hr]at h;dsimp only at h;split at h
     . rename_i hp
       injection h with h;injection h with h1 h2;first
       | (rw[<-h2];exact(zho _ _ _ _ _ _ _ (show rdF RPt b (ptN b) (ptA b) (ptN b)=some (r.1,r.2)from hr)).2.2 (of_decide_eq_true h0))
       | (rw[<-h1];exact(zb1 hp).2)
     . cases h
  . cases h
theorem zgj{b:LN}{n:Int}{l:LI}{q:Nat}(h:rcO b n=some (l,q)):rcL b n=l/\(rcN b n).toNat=q/\q<=b.length/\l.length<=2000:=by
 refine⟨by unfold rcL;rw[h],by unfold rcN;rw[h];rfl,?_,?_⟩
 all_goals
  unfold rcO at h;split at h
  . rename_i h0
    have:=zho _ _ _ _ _ _ _ h;first | exact this.2.2 (qD _) | (rw[this.1];omega)
  . cases h
theorem znk{b:LN}{ax cnt p:Nat}(h:¬p+6*ax<=b.length):rdTu b ax cnt p=none:=if_neg h
theorem zjc{b:LN}{ax cnt p q:Nat}(hq:p+6*ax=q)(h:q<=b.length)(h2:rpO (b.drop q)=none):rdTu b ax cnt p=none:=by
 subst hq;unfold rdTu;rw[if_pos h,h2];rfl
theorem znj{b:LN}{ax cnt p q q1:Nat}{ps:LI}(hq:p+6*ax=q)(h:q<=b.length)(h2:rpO (b.drop q)=some (ps,q1))(h3:rcO (b.drop (q+q1)) (cnN cnt ps:Int)=none):rdTu b ax cnt p=none:=by
 subst hq;unfold rdTu;rw[if_pos h,h2,Option.bind_some];dsimp only;rw[h3];rfl
theorem zni{b:LN}{ax cnt p q q1 q2:Nat}{ps dx:LI}(hq:p+6*ax=q)(h:q<=b.length)(h2:rpO (b.drop q)=some (ps,q1))(h3:rcO (b.drop (q+q1)) (cnN cnt ps:Int)=some (dx,q2))(h4:rcO (b.drop (q+q1+q2)) (cnN cnt ps:Int)=none):rdTu b ax cnt p=none:=by
 subst hq;unfold rdTu;rw[if_pos h,h2,Option.bind_some];dsimp only;rw[h3,Option.bind_some];dsimp only;rw[h4];rfl
theorem znh{b:LN}{ax cnt p q q1 q2 q3:Nat}{ps dx dy:LI}(hq:p+6*ax=q)(h:q<=b.length)(h2:rpO (b.drop q)=some (ps,q1))(h3:rcO (b.drop (q+q1)) (cnN cnt ps:Int)=some (dx,q2))(h4:rcO (b.drop (q+q1+q2)) (cnN cnt ps:Int)=some (dy,q3)):rdTu b ax cnt p=some (⟨tesAt b p ax,decide (ps.length=0),ps,dx,dy⟩,q+q1+q2+q3):=by
 subst hq;unfold rdTu;rw[if_pos h,h2,Option.bind_some];dsimp only;rw[h3,Option.bind_some];dsimp only;rw[h4];rfl
def TuA(w:World)(g:Nat)(pa:OA)(pc:Nat)(xs:LN)(r:Option (Tu×Nat))(e:Ending)(w':World):Prop :=
 match r with
 | some (t,q)=>∃ra rc pa' pc' xa xc ya yc,e=.returned (.tuple #[.agg #[.slice ra t.rg.length rc,.bool t.al,.slice pa' t.pts.length pc',.slice xa t.dx.length xc,.slice ya t.dy.length yc],.bool true])/\TuC (fun k=>w.heap.size+2<=k) w' ra rc pa' pc' xa xc ya yc t/\Sc 203 w' g pa pc xs q/\q<=xs.length
 | none=>∃ra rn rc bb pa' pn pc' xa xn xc ya yn yc,e=.returned (.tuple #[.agg #[.slice ra rn rc,.bool bb,.slice pa' pn pc',.slice xa xn xc,.slice ya yn yc],.bool false])
theorem zwt{b:LN}(hb:Byt b)(p:Nat):Tw (teAt b p):=by
 have h0:=zef hb p 0;have h1:=zef hb p 1;have h2:=zef hb p 2;rw[zws];unfold Tw;unfold I64;refine⟨⟨?_,?_⟩,⟨?_,?_⟩,⟨?_,?_⟩⟩ <;> dsimp only <;> omega
theorem zot(g:Nat)(pa:OA)(pc:Nat)(xs:LN)(p ax cnt:Nat)(w:World)(h:Sc 203 w g pa pc xs p)(hp:p<=xs.length)(hxl:xs.length<=100000)(hax:ax<=4)(hcnt:cnt<=2000) :
 Calls Tryz.prog 149 #[pg g,.int .i64 (ax:Int),.int .i64 (cnt:Int)] w fun e w'=>TuA w g pa pc xs (rdTu xs ax cnt p) e w'/\Kp g w w':=by
 have hglt:=h.bk.lt;obtain⟨W,hW,hX6,hX8,hbW⟩:∃W,W=(w.alloc (.cells #[.slice none 0 0,.bool false,.slice none 0 0,.slice none 0 0,.slice none 0 0] 144)).alloc (.cells #[.slice none 0 0,.bool false,.slice none 0 0,.slice none 0 0,.slice none 0 0] 144)/\Bk 144 W w.heap.size [.slice none 0 0,.bool false,.slice none 0 0,.slice none 0 0,.slice none 0 0]/\Bk 144 W (w.heap.size+1) [.slice none 0 0,.bool false,.slice none 0 0,.slice none 0 0,.slice none 0 0]/\Below w.heap.size w W :=
  ⟨_,rfl,(Bk.new _ _ [.slice none 0 0,.bool false,.slice none 0 0,.slice none 0 0,.slice none 0 0]).below (bl1 _),Bk.new1 _ _ _ [.slice none 0 0,.bool false,.slice none 0 0,.slice none 0 0,.slice none 0 0],(bl1 _).alloc (by simp) _⟩
 have HS0:Hid (Sc 203 w g pa pc xs p):=h;have hS:Sc 203 W g pa pc xs p:=h.below hbW;have hKp:Kp g w W:=Kp.of hbW;have hpc:=h.rb.le;have hpm:=h.rb.cap;unfold maxLen at hpm;clear h hbW;obtain⟨gr,hgr⟩:∃n,w.heap.size=n:=⟨_,rfl⟩;obtain⟨gt,hgt⟩:∃n,gr+1=n:=⟨_,rfl⟩;have HGR:Hid (w.heap.size=gr):=hgr;have HGT:Hid (gr+1=gt):=hgt;rw[hgr]at hX6 hX8 hglt;rw[hgt]at hX8;have hrt:gr<gt:=by omega
 go_enter func149,ntmps149;go_upto_region 2 with fail
 rw[<-hW];clear hW hgr hgt;obtain⟨x0,x1,_⟩:=hS.bk.two;refine wp_region_held_drew (S:=(fun u=>u.cell? ⟨g,0,none⟩=some (.slice pa xs.length pc)/\u.cell? ⟨g,1,none⟩=some (.int .i64 (p:Int)))) (by kernel_rfl) ?_ (fun hH=>?_)
 . (try dsimp only)
   go_keep
 have hdr:Below W.heap.size W W.drew:=Below.drew1;replace hKp:Kp g w W.drew:=hKp.drew;generalize W.drew=wz at hdr hKp hH ⊢;replace hS:=hS.below hdr;replace hX6:=hX6.below hdr;replace hX8:=hX8.below hdr;clear hdr x0 x1;refine hT 0 hH ?_;refine hT 1 hH ?_;refine hT 2 hH ?_;refine hT 3 hH ?_;refine hT 4 hH ?_;refine hT 5 hH ?_;refine hT 6 hH ?_;refine hT 7 hH ?_;refine hT 8 hH ?_;refine hT 9 hH ?_;refine hT 10 hH ?_;refine hT 11 hH ?_;refine hT 12 hH ?_;refine wpAnyH_done (by kernel_rfl) ?_ _;clear hH;have hwr:IntKind.i64.wrap ((p:Int)+IntKind.i64.wrap ((ax:Int)*6))=(p:Int)+(ax:Int)*6:=by rw[zbn (z:=(ax:Int)*6) (by omega) (by omega),zbn (by omega) (by omega)]
 rw[hwr];clear hwr;by_cases hle:p+6*ax<=xs.length;rotate_left
 . have HNO:Hid (rdTu xs ax cnt p=none):=znk hle
   have gd:(xs.length:Int)<(p:Int)+(ax:Int)*6:=(by omega);clear hS;obtain⟨d0,d1,d2,d3,d4,-⟩:=hX8.five;obtain⟨y0,y1,y2,y3,y4,f0,f1,f2,f3,f4⟩:=hX6.five;have HA5:Hid (_):=(hX6.set5U (.slice none 0 0) (.bool false) (.slice none 0 0) (.slice none 0 0) (.slice none 0 0)).five;have HKF:Hid (Kp g w (S5 wz gr (.slice none 0 0) (.bool false) (.slice none 0 0) (.slice none 0 0) (.slice none 0 0))):=hKp.new5 (by have:=HGR.out;omega) _ _ _ _ _;clear hX6 hX8 hKp;go_wp2;refine bodyPost_ret (v:=.tuple #[.agg #[.slice none 0 0,.bool false,.slice none 0 0,.slice none 0 0,.slice none 0 0],.bool false]) (by obtain⟨r0,r1,r2,r3,r4,-⟩:=HA5.out;simp[results,results149,go_sem,r0,r1,r2,r3,r4]) rfl ⟨by rw[HNO.out];exact⟨_,_,_,_,_,_,_,_,_,_,_,_,_,rfl⟩,HKF.out⟩
 have gd:¬(xs.length:Int)<(p:Int)+(ax:Int)*6:=by omega
 have hS':Sc 203 wz g pa pc xs (p+6*0):=hS;have hG:Gw TeE 146 (gt+1) (fun _=>False) wz (.slice none 0 0) (tesAt xs p 0):=Gw.nil _ _ _ _ _;clear hS;go_wp2;clear gd
 go_loopw [28] (fun i wr=>∃(k:Nat) (a8:OA) (c8:Nat),k<=ax/\i=.int .i64 k/\Bk 144 wr gt [.slice a8 k c8,.bool false,.slice none 0 0,.slice none 0 0,.slice none 0 0]/\Gw TeE 146 (gt+1) (fun _=>False) wr (.slice a8 k c8) (tesAt xs p k)/\Sc 203 wr g pa pc xs (p+6*k)/\Bk 144 wr gr [.slice none 0 0,.bool false,.slice none 0 0,.slice none 0 0,.slice none 0 0]/\Kp g w wr) (fun i _=>ax-(intOf i).toNat)
 case atStart=>exact⟨0,none,0,qD _,rfl,hX8,hG,hS',hX6,hKp⟩
 case round =>
  clear hX8 hX6 hKp hG hS';obtain⟨k,a8,c8,hk,rfl,hX8,hG,hS,hX6,hKp⟩:=hrel;by_cases hkn:k<ax
  . obtain⟨q,hq⟩:∃q,p+6*k=q:=⟨_,rfl⟩
    have HMP:Hid (tesAt xs p (k+1)=tesAt xs p k++[teAt xs (p+6*k)]):=zio xs p k;have HQ6:Hid (p+6*(k+1)=q+6):=(by show _=_;omega);have hl7:(tesAt xs p k).length+1<=1000000:=(by rw[zag];omega);have hC:=fun U hs=>zqk g pa pc xs q U hs (by omega);have HTW:Hid (Tw (teAt xs q)):=zwt hS.rb.lim q;rw[hq]at hS HMP;obtain⟨tt,htt⟩:∃x,teAt xs q=x:=⟨_,rfl⟩;rw[htt]at HTW HMP;simp only[htt]at hC;obtain⟨z0,z1,z2⟩:=tt;dsimp only at hC;clear htt hq;go_upto_region 6 with fail
    refine wp_region_held_drew (S:=(fun _=>True)) (by kernel_rfl) ?_ (fun hH=>?_)
    . (try dsimp only)
      all_goals go_keep
    have hdr:Below wr.heap.size wr wr.drew:=Below.drew1;replace hKp:Kp g w wr.drew:=hKp.drew;generalize wr.drew=ud at hdr hKp hH ⊢;replace hS:=hS.below hdr;replace hX6:=hX6.below hdr;replace hX8:=hX8.below hdr;replace hG:=hG.below hdr;clear hdr;refine hT 0 hH ?_;refine hT 2 hH ?_;refine wpAnyH_ready (rs:=[1,3]) (by kernel_rfl) (by simp) (hCons (i:=1) rfl (by rfl) (fun K hK=>?_) (hCons (i:=3) rfl (by rfl) (fun K hK=>?_) AllReadyH.nil))
    . obtain⟨y0,y1,y2,y3,y4,-⟩:=hX8.five
      go_simp;refine hK.out _ _ ?_ (fun hH=>?_)
      . (try dsimp only)
        all_goals trivial
      clear hK K;try simp only[Act.put,pZ]
      clear y0 y1 y2 y3 y4;refine hCall (i:=3) rfl (by kernel_rfl) (by rfl) (fun K hK=>?_);go_simp;refine(hC _ hS).mono ?_;rintro e u3 ⟨rfl,hS3,hk3⟩;replace hX8:=hX8.kp hk3 (by omega);replace hX6:=hX6.kp hk3 (by omega);replace hG:=hG.kp hS.bk (by decide) hk3;replace hKp:=hKp.trans hk3;replace hS:=hS3;clear hS3 hk3;go_wp2_with fail
      refine hK.out _ _ ?_ (fun hH=>?_)
      . (try dsimp only)
        all_goals trivial
      clear hK K;try simp only[Act.put,pZ]
      refine hCall (i:=4) rfl (by kernel_rfl) (by rfl) (fun K hK=>?_);go_simp;obtain⟨V1,hV1,A1,hb1⟩:∃U,U=u3.alloc (.cells #[.int .i64 z0,.int .i64 z1,.int .i64 z2] 146)/\Bk 146 U u3.heap.size [.int .i64 z0,.int .i64 z1,.int .i64 z2]/\Below u3.heap.size u3 U:=⟨_,rfl,Bk.new _ _ _,bl1 _⟩;rw[<-hV1];clear hV1;replace hX8:=hX8.below hb1;replace hX6:=hX6.below hb1;replace hG:=hG.below hb1;replace hS:=hS.below hb1;replace hKp:=hKp.trans (Kp.of hb1);clear hb1;generalize u3.heap.size=gq at *;refine hK.out _ _ ?_ (fun hH=>?_)
      . (try dsimp only)
        all_goals trivial
      clear hK K;try simp only[Act.put,pZ]
      have zar:Gr TeE (fun k=>False/\(Value.slice a8 k c8).ownBlock≠some k) V1 (some ⟨gq,0,none⟩) 1 [⟨z0,z1,z2⟩]:=Gr.one (E:=TeE) (vs:=teV ⟨z0,z1,z2⟩) (zfo.2 ⟨rfl,HTW.out⟩) A1.lt (fun j hj=>A1.cell j hj);have hbs:gt+1<=V1.heap.size:=hX8.lt;refine hCall (i:=5) rfl (by kernel_rfl) (by rfl) (fun K hK=>?_);refine zai 116 146 underlying116 zjt rfl (by decide) (by decide) _ _ rfl (gt+1) (fun _=>False) (.slice a8 k c8) (tesAt xs p k) rfl hG ⟨gq,0,none⟩ 1 1 [⟨z0,z1,z2⟩] rfl rfl zar hl7 hbs ?_;intro v9 w9 hT9 hgrow _;have hne:∀q,q<=gt->(Value.slice a8 k c8).ownBlock≠some q:=fun q hq e=>by have:=(hG.lo e).1;omega
      have hX9:=hX8.grown hgrow (hne _ (by omega));have zsn:=hX6.grown hgrow (hne _ (by omega));have hK9:Kp g w w9:=hKp.grown hgrow (fun k hk=>by have:=(hG.lo hk).1;have:=HGR.out;omega);have hS9:=HS0.out.of hK9 (hS.bk.grown hgrow (hne _ (by omega)));rw[<-HMP.out]at hT9;obtain⟨a9,c9,e9,-,-⟩:=hT9.slice;rw[zag]at e9;subst e9;clear hG hX8 hX6 hKp hS zar hbs hgrow hne A1;refine hK.out _ _ ?_ (fun hH=>?_)
      . (try dsimp only)
        all_goals trivial
      clear hK K;try simp only[Act.put,pZ]
      refine hT 6 hH ?_;refine hCall (i:=7) rfl (by kernel_rfl) (by rfl) (fun K hK=>?_);obtain⟨y0,-,-,-,-,f0,-⟩:=hX9.five;go_simp;have zw3:=hX9.set 0 (.slice a9 (k+1) c9);have zk8:=zsn.other 0 (.slice a9 (k+1) c9) (b:=gt) (by omega);have zw5:Kp g w (w9.setCell ⟨gt,0,none⟩ (.slice a9 (k+1) c9)):=hK9.new (by have:=HGR.out;omega) 0 _;have zvl:=HS0.out.of zw5 (hS9.bk.other 0 (.slice a9 (k+1) c9) (b:=gt) (by omega));have z2x:=hT9.setB hX9 (by decide) 0 (.slice a9 (k+1) c9);clear y0 f0 hX9 zsn hK9 hS9 hT9;generalize w9.setCell ⟨gt,0,none⟩ (.slice a9 (k+1) c9)=w10 at *;refine hK.out _ _ ?_ (fun hH=>?_)
      . (try dsimp only)
        all_goals trivial
      clear hK K;try simp only[Act.put,pZ]
      refine wpAnyH_done (by kernel_rfl) ?_ _;have z3y:Hid (Bk 144 w10 gt [.slice a9 (k+1) c9,.bool false,.slice none 0 0,.slice none 0 0,.slice none 0 0]):=zw3;have HY6:Hid (_):=zk8;clear hH zw3 zk8 HMP hl7 hC HTW;go_wp2;go_roundw
      case rel=>exact⟨k+1,a9,c9,by omega,by go_num,z3y.out,z2x,by rw[HQ6.out];exact zvl,HY6.out,zw5⟩
      case measure=>simp[intOf];omega
    . go_simp
      refine(hC _ hS).mono ?_;rintro e u3 ⟨rfl,hS3,hk3⟩;replace hX8:=hX8.kp hk3 (by omega);replace hX6:=hX6.kp hk3 (by omega);replace hG:=hG.kp hS.bk (by decide) hk3;replace hKp:=hKp.trans hk3;replace hS:=hS3;clear hS3 hk3;go_wp2_with fail
      refine hK.out _ _ ?_ (fun hH=>?_)
      . (try dsimp only)
        all_goals trivial
      clear hK K;try simp only[Act.put,pZ]
      refine wpAnyH_ready (rs:=[1,4]) (by kernel_rfl) (by simp) (hCons (i:=1) rfl (by rfl) (fun K hK=>?_) (hCons (i:=4) rfl (by rfl) (fun K hK=>?_) AllReadyH.nil))
      . obtain⟨y0,y1,y2,y3,y4,-⟩:=hX8.five
        go_simp;refine hK.out _ _ ?_ (fun hH=>?_)
        . (try dsimp only)
          all_goals trivial
        clear hK K;try simp only[Act.put,pZ]
        clear y0 y1 y2 y3 y4;refine hCall (i:=4) rfl (by kernel_rfl) (by rfl) (fun K hK=>?_);go_simp;obtain⟨V1,hV1,A1,hb1⟩:∃U,U=u3.alloc (.cells #[.int .i64 z0,.int .i64 z1,.int .i64 z2] 146)/\Bk 146 U u3.heap.size [.int .i64 z0,.int .i64 z1,.int .i64 z2]/\Below u3.heap.size u3 U:=⟨_,rfl,Bk.new _ _ _,bl1 _⟩;rw[<-hV1];clear hV1;replace hX8:=hX8.below hb1;replace hX6:=hX6.below hb1;replace hG:=hG.below hb1;replace hS:=hS.below hb1;replace hKp:=hKp.trans (Kp.of hb1);clear hb1;generalize u3.heap.size=gq at *;refine hK.out _ _ ?_ (fun hH=>?_)
        . (try dsimp only)
          all_goals trivial
        clear hK K;try simp only[Act.put,pZ]
        have zar:Gr TeE (fun k=>False/\(Value.slice a8 k c8).ownBlock≠some k) V1 (some ⟨gq,0,none⟩) 1 [⟨z0,z1,z2⟩]:=Gr.one (E:=TeE) (vs:=teV ⟨z0,z1,z2⟩) (zfo.2 ⟨rfl,HTW.out⟩) A1.lt (fun j hj=>A1.cell j hj);have hbs:gt+1<=V1.heap.size:=hX8.lt;refine hCall (i:=5) rfl (by kernel_rfl) (by rfl) (fun K hK=>?_);refine zai 116 146 underlying116 zjt rfl (by decide) (by decide) _ _ rfl (gt+1) (fun _=>False) (.slice a8 k c8) (tesAt xs p k) rfl hG ⟨gq,0,none⟩ 1 1 [⟨z0,z1,z2⟩] rfl rfl zar hl7 hbs ?_;intro v9 w9 hT9 hgrow _;have hne:∀q,q<=gt->(Value.slice a8 k c8).ownBlock≠some q:=fun q hq e=>by have:=(hG.lo e).1;omega
        have hX9:=hX8.grown hgrow (hne _ (by omega));have zsn:=hX6.grown hgrow (hne _ (by omega));have hK9:Kp g w w9:=hKp.grown hgrow (fun k hk=>by have:=(hG.lo hk).1;have:=HGR.out;omega);have hS9:=HS0.out.of hK9 (hS.bk.grown hgrow (hne _ (by omega)));rw[<-HMP.out]at hT9;obtain⟨a9,c9,e9,-,-⟩:=hT9.slice;rw[zag]at e9;subst e9;clear hG hX8 hX6 hKp hS zar hbs hgrow hne A1;refine hK.out _ _ ?_ (fun hH=>?_)
        . (try dsimp only)
          all_goals trivial
        clear hK K;try simp only[Act.put,pZ]
        refine hT 6 hH ?_;refine hCall (i:=7) rfl (by kernel_rfl) (by rfl) (fun K hK=>?_);obtain⟨y0,-,-,-,-,f0,-⟩:=hX9.five;go_simp;have zw3:=hX9.set 0 (.slice a9 (k+1) c9);have zk8:=zsn.other 0 (.slice a9 (k+1) c9) (b:=gt) (by omega);have zw5:Kp g w (w9.setCell ⟨gt,0,none⟩ (.slice a9 (k+1) c9)):=hK9.new (by have:=HGR.out;omega) 0 _;have zvl:=HS0.out.of zw5 (hS9.bk.other 0 (.slice a9 (k+1) c9) (b:=gt) (by omega));have z2x:=hT9.setB hX9 (by decide) 0 (.slice a9 (k+1) c9);clear y0 f0 hX9 zsn hK9 hS9 hT9;generalize w9.setCell ⟨gt,0,none⟩ (.slice a9 (k+1) c9)=w10 at *;refine hK.out _ _ ?_ (fun hH=>?_)
        . (try dsimp only)
          all_goals trivial
        clear hK K;try simp only[Act.put,pZ]
        refine wpAnyH_done (by kernel_rfl) ?_ _;have z3y:Hid (Bk 144 w10 gt [.slice a9 (k+1) c9,.bool false,.slice none 0 0,.slice none 0 0,.slice none 0 0]):=zw3;have HY6:Hid (_):=zk8;clear hH zw3 zk8 HMP hl7 hC HTW;go_wp2;go_roundw
        case rel=>exact⟨k+1,a9,c9,by omega,by go_num,z3y.out,z2x,by rw[HQ6.out];exact zvl,HY6.out,zw5⟩
        case measure=>simp[intOf];omega
      . go_simp
        obtain⟨V1,hV1,A1,hb1⟩:∃U,U=u3.alloc (.cells #[.int .i64 z0,.int .i64 z1,.int .i64 z2] 146)/\Bk 146 U u3.heap.size [.int .i64 z0,.int .i64 z1,.int .i64 z2]/\Below u3.heap.size u3 U:=⟨_,rfl,Bk.new _ _ _,bl1 _⟩;rw[<-hV1];clear hV1;replace hX8:=hX8.below hb1;replace hX6:=hX6.below hb1;replace hG:=hG.below hb1;replace hS:=hS.below hb1;replace hKp:=hKp.trans (Kp.of hb1);clear hb1;generalize u3.heap.size=gq at *;refine hK.out _ _ ?_ (fun hH=>?_)
        . (try dsimp only)
          all_goals trivial
        clear hK K;try simp only[Act.put,pZ]
        refine hCall (i:=1) rfl (by kernel_rfl) (by rfl) (fun K hK=>?_);obtain⟨y0,y1,y2,y3,y4,-⟩:=hX8.five;go_simp;refine hK.out _ _ ?_ (fun hH=>?_)
        . (try dsimp only)
          all_goals trivial
        clear hK K;try simp only[Act.put,pZ]
        clear y0 y1 y2 y3 y4;have zar:Gr TeE (fun k=>False/\(Value.slice a8 k c8).ownBlock≠some k) V1 (some ⟨gq,0,none⟩) 1 [⟨z0,z1,z2⟩]:=Gr.one (E:=TeE) (vs:=teV ⟨z0,z1,z2⟩) (zfo.2 ⟨rfl,HTW.out⟩) A1.lt (fun j hj=>A1.cell j hj);have hbs:gt+1<=V1.heap.size:=hX8.lt;refine hCall (i:=5) rfl (by kernel_rfl) (by rfl) (fun K hK=>?_);refine zai 116 146 underlying116 zjt rfl (by decide) (by decide) _ _ rfl (gt+1) (fun _=>False) (.slice a8 k c8) (tesAt xs p k) rfl hG ⟨gq,0,none⟩ 1 1 [⟨z0,z1,z2⟩] rfl rfl zar hl7 hbs ?_;intro v9 w9 hT9 hgrow _;have hne:∀q,q<=gt->(Value.slice a8 k c8).ownBlock≠some q:=fun q hq e=>by have:=(hG.lo e).1;omega
        have hX9:=hX8.grown hgrow (hne _ (by omega));have zsn:=hX6.grown hgrow (hne _ (by omega));have hK9:Kp g w w9:=hKp.grown hgrow (fun k hk=>by have:=(hG.lo hk).1;have:=HGR.out;omega);have hS9:=HS0.out.of hK9 (hS.bk.grown hgrow (hne _ (by omega)));rw[<-HMP.out]at hT9;obtain⟨a9,c9,e9,-,-⟩:=hT9.slice;rw[zag]at e9;subst e9;clear hG hX8 hX6 hKp hS zar hbs hgrow hne A1;refine hK.out _ _ ?_ (fun hH=>?_)
        . (try dsimp only)
          all_goals trivial
        clear hK K;try simp only[Act.put,pZ]
        refine hT 6 hH ?_;refine hCall (i:=7) rfl (by kernel_rfl) (by rfl) (fun K hK=>?_);obtain⟨y0,-,-,-,-,f0,-⟩:=hX9.five;go_simp;have zw3:=hX9.set 0 (.slice a9 (k+1) c9);have zk8:=zsn.other 0 (.slice a9 (k+1) c9) (b:=gt) (by omega);have zw5:Kp g w (w9.setCell ⟨gt,0,none⟩ (.slice a9 (k+1) c9)):=hK9.new (by have:=HGR.out;omega) 0 _;have zvl:=HS0.out.of zw5 (hS9.bk.other 0 (.slice a9 (k+1) c9) (b:=gt) (by omega));have z2x:=hT9.setB hX9 (by decide) 0 (.slice a9 (k+1) c9);clear y0 f0 hX9 zsn hK9 hS9 hT9;generalize w9.setCell ⟨gt,0,none⟩ (.slice a9 (k+1) c9)=w10 at *;refine hK.out _ _ ?_ (fun hH=>?_)
        . (try dsimp only)
          all_goals trivial
        clear hK K;try simp only[Act.put,pZ]
        refine wpAnyH_done (by kernel_rfl) ?_ _;have z3y:Hid (Bk 144 w10 gt [.slice a9 (k+1) c9,.bool false,.slice none 0 0,.slice none 0 0,.slice none 0 0]):=zw3;have HY6:Hid (_):=zk8;clear hH zw3 zk8 HMP hl7 hC HTW;go_wp2;go_roundw
        case rel=>exact⟨k+1,a9,c9,by omega,by go_num,z3y.out,z2x,by rw[HQ6.out];exact zvl,HY6.out,zw5⟩
        case measure=>simp[intOf];omega
  . have ek:k=ax:=by omega
    rw[ek]at hX8 hG hS ⊢;have g4:¬(ax:Int)<(ax:Int):=(by omega);clear ek hk hkn k;obtain⟨q,hq⟩:∃q,p+6*ax=q:=⟨_,rfl⟩;have HQ:Hid (p+6*ax=q):=hq;rw[hq]at hS hle;have hqx:q<=xs.length:=hle;have hRT:TeE.row.rep (fun k=>gt+1<=k) wr [.slice a8 ax c8] (tesAt xs p ax):=by
     have:=Gw.rowU (l:=tesAt xs p ax) (a:=a8) (c:=c8) (by rw[zag];exact hG) (by rw[zag];omega);rw[zag]at this;exact this
    clear hq hG hle;have HDL:Hid ((xs.drop q).length=xs.length-q):=qJ ..;have hF:=fun U (hr:Rb U pa pc xs)=>zdg _ _ (xs.drop q) U (hr.from q hqx) (by rw[HDL.out];omega);rw[HDL.out]at hF;obtain⟨pa2,zzh⟩:∃x,(if pc=q then pa else pa.map (fun x=>x.add q))=x:=⟨_,rfl⟩;rw[zzh]at hF;have HPA:Hid ((if pc=q then pa else pa.map (fun x=>x.add q))=pa2):=zzh;clear zzh;obtain⟨x0,x1,_⟩:=hS.bk.two;go_upto_region 8 with fail
    refine wp_region_held_drew (S:=(fun u=>u.cell? ⟨g,0,none⟩=some (.slice pa xs.length pc)/\u.cell? ⟨g,1,none⟩=some (.int .i64 (q:Int)))) (by kernel_rfl) ?_ (fun hH=>?_)
    . (try dsimp only)
      go_keep
    have hdr:Below wr.heap.size wr wr.drew:=Below.drew1;replace hKp:Kp g w wr.drew:=hKp.drew;generalize wr.drew=ud at hdr hKp hH ⊢;replace hS:=hS.below hdr;replace hX6:=hX6.below hdr;replace hX8:=hX8.below hdr;replace hRT:=zaf hRT (K3.kp (n:=gt+1) (Kp.of (g:=g) hdr) (by omega));have hgtu:=hX8.lt;clear hdr x0 x1;refine hT 0 hH ?_;refine hT 1 hH ?_;refine hT 2 hH ?_;refine hT 3 hH ?_;refine hT 4 hH ?_;refine hT 5 hH ?_;refine hT 6 hH ?_;refine hT 7 hH ?_;refine hTake (i:=8) (v:=.slice pa2 (xs.length-q) (pc-q)) rfl (by kernel_rfl) (by kernel_rfl) (by kernel_rfl) (fun _ _ _ h=>h) (Or.inl ⟨by rfl,?y1⟩) hH ?r1
    case y1 =>
     intro w9 hSw
     (try dsimp only at hSw)
     go_simp;exact HPA.out
    try simp only[Act.put,pZ]
    refine hCall (i:=9) rfl (by kernel_rfl) (by rfl) (fun K hK=>?_);go_simp;refine(hF _ hS.rb).mono ?_;rintro e u1 ⟨a1,c1,rfl,hri,hlo,hno,hb1⟩;replace hS:=hS.below hb1;replace hX6:=hX6.below hb1;replace hX8:=hX8.below hb1;replace hRT:=zaf hRT (K3.kp (n:=gt+1) (Kp.of (g:=g) hb1) (by omega));replace hKp:=hKp.trans (Kp.of hb1);obtain⟨x0,x1,_⟩:=hS.bk.two;go_wp2_with fail
    refine hK.out _ _ ?_ (fun hH=>?_)
    . (try dsimp only)
      exact⟨x0,x1⟩
    clear hK K x0 x1 hb1 hF;try simp only[Act.put,pZ]
    refine hT 10 hH ?_;refine hT 11 hH ?_;refine hT 12 hH ?_;refine hT 13 hH ?_;refine hT 14 hH ?_;refine hT 15 hH ?_;refine hT 16 hH ?_;refine wpAnyH_done (by kernel_rfl) ?_ _;clear hH;cases ho:rpO (xs.drop q) with
    | none =>
     have HNO:Hid (rdTu xs ax cnt p=none):=zjc HQ.out hqx ho;obtain⟨k1,k2,k3⟩:=zi9 ho;rw[k1,k2,k3];clear k1 k2 k3 ho hri hlo hno hRT hS;generalize u1=wz at hX8 hX6 hKp ⊢;obtain⟨d0,d1,d2,d3,d4,-⟩:=hX8.five;obtain⟨y0,y1,y2,y3,y4,f0,f1,f2,f3,f4⟩:=hX6.five;have HA5:Hid (_):=(hX6.set5U (.slice a8 ax c8) (.bool false) (.slice none 0 0) (.slice none 0 0) (.slice none 0 0)).five;have HKF:Hid (Kp g w (S5 wz gr (.slice a8 ax c8) (.bool false) (.slice none 0 0) (.slice none 0 0) (.slice none 0 0))):=hKp.new5 (by have:=HGR.out;omega) _ _ _ _ _;clear hX6 hX8 hKp;go_wp2;refine bodyPost_ret (v:=.tuple #[.agg #[.slice a8 ax c8,.bool false,.slice none 0 0,.slice none 0 0,.slice none 0 0],.bool false]) (by obtain⟨r0,r1,r2,r3,r4,-⟩:=HA5.out;simp[results,results149,go_sem,r0,r1,r2,r3,r4]) rfl ⟨by rw[HNO.out];exact⟨_,_,_,_,_,_,_,_,_,_,_,_,_,rfl⟩,HKF.out⟩
    | some r =>
     obtain⟨ps,q1⟩:=r;obtain⟨k1,k2,k3,k4,k5⟩:=zq5 ho;rw[k1]at hri;rw[k1,k2,k3];have HRP:Hid (rpO (xs.drop q)=some (ps,q1)):=ho;obtain⟨n1,hn1⟩:∃n,ps.length=n:=⟨_,rfl⟩;have HN1:Hid (ps.length=n1):=hn1;have hRP:=hri.row (S:=fun k=>gt+1<=k) (fun b o e=>by have:=hlo b o e;omega) hno (by omega);rw[hn1]at hRP ⊢;rw[hn1]at k5;rw[HDL.out]at k4;obtain⟨q5,hq5⟩:∃n,q+q1=n:=⟨_,rfl⟩;have HQ5:Hid (q+q1=q5):=hq5;have hq5x:q5<=xs.length:=(by omega);clear k1 k2 k3 ho hri hlo hno hn1 hq5;obtain⟨bz,gb⟩:∃b,((n1:Int)==0)=b:=⟨_,rfl⟩;obtain⟨nn,hne⟩:∃n:Nat,(if bz then cnt else n1)=n:=⟨_,rfl⟩;have hnn:nn<=cnt\/nn<=n1:=by rw[<-hne];cases bz <;> simp
     have HNN:Hid ((if bz then cnt else n1)=nn):=hne;have HAL:Hid (decide (ps.length=0)=bz):=(by show _=_;rw[HN1.out,<-gb];by_cases h:n1=0 <;> simp[h]);have HCN:Hid ((cnN cnt ps:Int)=(nn:Int)):=(by show _=_;unfold cnN;rw[HN1.out,<-HNN.out,<-gb];by_cases h:n1=0 <;> simp[h]);clear hne;obtain⟨s0,s1,g0,g1⟩:=hS.bk.two;obtain⟨y0,y1,y2,y3,y4,f0,f1,f2,f3,f4⟩:=hX8.five;have hpn:(q:Int)+(q1:Int)=(q5:Int):=(by have:=HQ5.out;omega);have hK1:Kp g w (u1.setCell ⟨g,1,none⟩ (.int .i64 (q5:Int))):=hKp.setCell 1 _;have hS1:Sc 203 (u1.setCell ⟨g,1,none⟩ (.int .i64 (q5:Int))) g pa pc xs q5:=hS.step q5;have zzr:=(((hX8.other 1 (.int .i64 (q5:Int)) (b:=g) (by omega)).set 2 (.slice a1 n1 c1)).set 1 (.bool bz));have zzs:=(((hX6.other 1 (.int .i64 (q5:Int)) (b:=g) (by omega)).other 2 (.slice a1 n1 c1) (b:=gt) (by omega)).other 1 (.bool bz) (b:=gt) (by omega));have hKp1:Kp g w (((u1.setCell ⟨g,1,none⟩ (.int .i64 (q5:Int))).setCell ⟨gt,2,none⟩ (.slice a1 n1 c1)).setCell ⟨gt,1,none⟩ (.bool bz)):=((hK1.new (b:=gt) (by have:=HGR.out;omega) 2 _).new (b:=gt) (by have:=HGR.out;omega) 1 _);have hSD:Sc 203 (((u1.setCell ⟨g,1,none⟩ (.int .i64 (q5:Int))).setCell ⟨gt,2,none⟩ (.slice a1 n1 c1)).setCell ⟨gt,1,none⟩ (.bool bz)) g pa pc xs q5:=HS0.out.of hKp1 ((hS1.bk.other 2 (.slice a1 n1 c1) (b:=gt) (by omega)).other 1 (.bool bz) (b:=gt) (by omega));have zzu:=zaf hRT (((K3.set (n:=gt+1) u1 (b:=g) (by omega) 1 (.int .i64 (q5:Int))).trans (K3.set _ (b:=gt) (by omega) 2 (.slice a1 n1 c1))).trans (K3.set _ (b:=gt) (by omega) 1 (.bool bz)));have zzv:=zaf hRP (((K3.set (n:=gt+1) u1 (b:=g) (by omega) 1 (.int .i64 (q5:Int))).trans (K3.set _ (b:=gt) (by omega) 2 (.slice a1 n1 c1))).trans (K3.set _ (b:=gt) (by omega) 1 (.bool bz)));clear hX8 hX6 hKp hS hRT hRP hK1 hS1;go_upto_region 13 with fail
     generalize (((u1.setCell ⟨g,1,none⟩ (.int .i64 (q5:Int))).setCell ⟨gt,2,none⟩ (.slice a1 n1 c1)).setCell ⟨gt,1,none⟩ (.bool bz))=u4 at zzr zzs hKp1 hSD zzu zzv ⊢;clear s0 s1 g0 g1 y0 y1 y2 y3 y4 f0 f1 f2 f3 f4 hpn;have hX8:Bk 144 u4 gt [.slice a8 ax c8,.bool bz,.slice a1 n1 c1,.slice none 0 0,.slice none 0 0]:=zzr;have hX6:=zzs;have hKp:=hKp1;have hS:=hSD;have hRT:=zzu;have hRP:=zzv;clear zzr zzs hKp1 hSD zzu zzv gb;obtain⟨y0,y1,y2,y3,y4,f0,f1,f2,f3,f4⟩:=hX8.five
     go_upto_if 71 with fail
     clear y0 y1 y2 y3 y4 f0 f1 f2 f3 f4
     go_cut [2]from 69 (fun v wx=>v=.int .i64 (nn:Int)/\u4=wx)
     case first =>
      cases bz
      . have e:n1=nn:=HNN.out
        subst e;go_wp2;go_meet;exact⟨rfl,rfl⟩
      . have e:cnt=nn:=HNN.out
        subst e;go_wp2;go_meet;exact⟨rfl,rfl⟩
     case rest =>
     obtain⟨rfl,rfl⟩:=hcut;have hgtu2:=hX8.lt;obtain⟨y0,y1,y2,y3,y4,f0,f1,f2,f3,f4⟩:=hX8.five;have hcx:=zm0 g pa pc xs q5 (nn:Int) u4 hS (by omega) hxl ⟨by omega,by omega⟩;go_wp2_with fail
     refine hcx.mono ?_;rintro e u5 ⟨a2,c2,rfl,zsi,zqb,zzj,hS5,hk5⟩;replace hX8:=hX8.kp hk5 (by omega);replace hX6:=hX6.kp hk5 (by omega);replace hKp:=hKp.trans hk5;replace hRT:=zaf hRT (K3.kp (n:=gt+1) hk5 (by omega));replace hRP:=zaf hRP (K3.kp (n:=gt+1) hk5 (by omega));replace hS:=hS5;clear hcx hS5 hk5 y0 y1 y2 y3 y4 f0 f1 f2 f3 f4;obtain⟨n2,hn2⟩:∃n,(rcL (xs.drop q5) (nn:Int)).length=n:=⟨_,rfl⟩;have hnl2:n2<=9223372036854775807:=(by have:=zsi.lenB;omega);cases ho2:rcO (xs.drop q5) (nn:Int) with
     | none =>
      have HNO:Hid (rdTu xs ax cnt p=none):=znj HQ.out hqx HRP.out (by rw[HCN.out,HQ5.out];exact ho2);rw[hn2];clear hn2 zsi zqb zzj ho2 hS hRT hRP;obtain⟨y0,y1,y2,y3,y4,f0,f1,f2,f3,f4⟩:=hX8.five;replace hX8:=hX8.set 3 (.slice a2 n2 c2);replace hX6:=hX6.other 3 (.slice a2 n2 c2) (b:=gt) (by omega);replace hKp:=hKp.new (b:=gt) (by have:=HGR.out;omega) 3 (.slice a2 n2 c2);go_upto_region 18 with fail
      generalize (u5.setCell ⟨gt,3,none⟩ (.slice a2 n2 c2))=wz at hX8 hX6 hKp ⊢;obtain⟨d0,d1,d2,d3,d4,-⟩:=hX8.five;obtain⟨y0,y1,y2,y3,y4,f0,f1,f2,f3,f4⟩:=hX6.five;have HA5:Hid (_):=(hX6.set5U (.slice a8 ax c8) (.bool bz) (.slice a1 n1 c1) (.slice a2 n2 c2) (.slice none 0 0)).five;have HKF:Hid (Kp g w (S5 wz gr (.slice a8 ax c8) (.bool bz) (.slice a1 n1 c1) (.slice a2 n2 c2) (.slice none 0 0))):=hKp.new5 (by have:=HGR.out;omega) _ _ _ _ _;clear hX6 hX8 hKp;go_wp2;refine bodyPost_ret (v:=.tuple #[.agg #[.slice a8 ax c8,.bool bz,.slice a1 n1 c1,.slice a2 n2 c2,.slice none 0 0],.bool false]) (by obtain⟨r0,r1,r2,r3,r4,-⟩:=HA5.out;simp[results,results149,go_sem,r0,r1,r2,r3,r4]) rfl ⟨by rw[HNO.out];exact⟨_,_,_,_,_,_,_,_,_,_,_,_,_,rfl⟩,HKF.out⟩
     | some r2 =>
      obtain⟨dx,q2⟩:=r2;obtain⟨k1,k2,k3,k4⟩:=zgj ho2;rw[k1]at zsi hn2;rw[k2]at hS;rw[k1,hn2];have hRX:=zsi.row (S:=fun k=>gt+1<=k) (fun b o e=>by have:=zqb b o e;omega) zzj (by omega);rw[hn2]at hRX;have HO2:Hid (rcO (xs.drop q5) (nn:Int)=some (dx,q2)):=ho2;have HN2:Hid (dx.length=n2):=hn2;rw[qJ]at k3;obtain⟨q6,hq6⟩:∃n,q5+q2=n:=⟨_,rfl⟩;have HQ6:Hid (q5+q2=q6):=hq6;have hq6x:q6<=xs.length:=(by omega);rw[hq6]at hS;clear hn2 zsi zqb zzj ho2 k1 k2 k3 hq6;have hSn:Sc 203 (u5.setCell ⟨gt,3,none⟩ (.slice a2 n2 c2)) g pa pc xs q6:=HS0.out.of (hKp.new (b:=gt) (by have:=HGR.out;omega) 3 _) (hS.bk.other 3 (.slice a2 n2 c2) (b:=gt) (by omega));obtain⟨y0,y1,y2,y3,y4,f0,f1,f2,f3,f4⟩:=hX8.five;replace hX8:=hX8.set 3 (.slice a2 n2 c2);replace hX6:=hX6.other 3 (.slice a2 n2 c2) (b:=gt) (by omega);replace hKp:=hKp.new (b:=gt) (by have:=HGR.out;omega) 3 (.slice a2 n2 c2);replace hRT:=zaf hRT (K3.set (n:=gt+1) u5 (b:=gt) (by omega) 3 (.slice a2 n2 c2));replace hRP:=zaf hRP (K3.set (n:=gt+1) u5 (b:=gt) (by omega) 3 (.slice a2 n2 c2));replace hRX:=zaf hRX (K3.set (n:=gt+1) u5 (b:=gt) (by omega) 3 (.slice a2 n2 c2));clear hS;go_upto_region 19 with fail
      generalize (u5.setCell ⟨gt,3,none⟩ (.slice a2 n2 c2))=u6 at hX8 hX6 hKp hSn hRT hRP hRX ⊢;have hS:=hSn;have hX8':Bk 144 u6 gt [.slice a8 ax c8,.bool bz,.slice a1 n1 c1,.slice a2 n2 c2,.slice none 0 0]:=hX8;clear hSn hX8 y0 y1 y2 y3 y4 f0 f1 f2 f3 f4;have hX8:=hX8';clear hX8';have hgtu3:=hX8.lt;obtain⟨y0,y1,y2,y3,y4,f0,f1,f2,f3,f4⟩:=hX8.five;have hcx:=zm0 g pa pc xs q6 (nn:Int) u6 hS (by omega) hxl ⟨by omega,by omega⟩;go_wp2_with fail
      refine hcx.mono ?_;rintro e u7 ⟨a3,c3,rfl,zsh,zzk,zzi,hS5,hk5⟩;replace hX8:=hX8.kp hk5 (by omega);replace hX6:=hX6.kp hk5 (by omega);replace hKp:=hKp.trans hk5;replace hRT:=zaf hRT (K3.kp (n:=gt+1) hk5 (by omega));replace hRP:=zaf hRP (K3.kp (n:=gt+1) hk5 (by omega));replace hRX:=zaf hRX (K3.kp (n:=gt+1) hk5 (by omega));replace hS:=hS5;clear hcx hS5 hk5 y0 y1 y2 y3 y4 f0 f1 f2 f3 f4;obtain⟨n3,hn3⟩:∃n,(rcL (xs.drop q6) (nn:Int)).length=n:=⟨_,rfl⟩;have hnl3:n3<=9223372036854775807:=(by have:=zsh.lenB;omega);cases ho3:rcO (xs.drop q6) (nn:Int) with
      | none =>
       have HNO:Hid (rdTu xs ax cnt p=none):=zni HQ.out hqx HRP.out (by rw[HCN.out,HQ5.out];exact HO2.out) (by rw[HCN.out,HQ5.out,HQ6.out];exact ho3);rw[hn3];clear hn3 zsh zzk zzi ho3 hS hRT hRP hRX;obtain⟨y0,y1,y2,y3,y4,f0,f1,f2,f3,f4⟩:=hX8.five;replace hX8:=hX8.set 4 (.slice a3 n3 c3);replace hX6:=hX6.other 4 (.slice a3 n3 c3) (b:=gt) (by omega);replace hKp:=hKp.new (b:=gt) (by have:=HGR.out;omega) 4 (.slice a3 n3 c3);go_upto_region 20 with fail
       generalize (u7.setCell ⟨gt,4,none⟩ (.slice a3 n3 c3))=wz at hX8 hX6 hKp ⊢;obtain⟨d0,d1,d2,d3,d4,-⟩:=hX8.five;obtain⟨y0,y1,y2,y3,y4,f0,f1,f2,f3,f4⟩:=hX6.five;have HA5:Hid (_):=(hX6.set5U (.slice a8 ax c8) (.bool bz) (.slice a1 n1 c1) (.slice a2 n2 c2) (.slice a3 n3 c3)).five;have HKF:Hid (Kp g w (S5 wz gr (.slice a8 ax c8) (.bool bz) (.slice a1 n1 c1) (.slice a2 n2 c2) (.slice a3 n3 c3))):=hKp.new5 (by have:=HGR.out;omega) _ _ _ _ _;clear hX6 hX8 hKp;go_wp2;refine bodyPost_ret (v:=.tuple #[.agg #[.slice a8 ax c8,.bool bz,.slice a1 n1 c1,.slice a2 n2 c2,.slice a3 n3 c3],.bool false]) (by obtain⟨r0,r1,r2,r3,r4,-⟩:=HA5.out;simp[results,results149,go_sem,r0,r1,r2,r3,r4]) rfl ⟨by rw[HNO.out];exact⟨_,_,_,_,_,_,_,_,_,_,_,_,_,rfl⟩,HKF.out⟩
      | some r3 =>
       obtain⟨dy,q3⟩:=r3;obtain⟨k1,k2,k3,k5⟩:=zgj ho3;rw[k1]at zsh hn3;rw[k2]at hS;rw[k1,hn3];have hRY:=zsh.row (S:=fun k=>gt+1<=k) (fun b o e=>by have:=zzk b o e;omega) zzi (by omega);rw[hn3]at hRY;have zp8:Hid (_):=znh (cnt:=cnt) HQ.out hqx HRP.out (by rw[HCN.out,HQ5.out];exact HO2.out) (by rw[HCN.out,HQ5.out,HQ6.out];exact ho3);rw[HAL.out,HQ5.out,HQ6.out]at zp8;have HN3:Hid (dy.length=n3):=hn3;rw[qJ]at k3;clear hn3 zsh zzk zzi ho3 k1 k2;have hSn:Sc 203 (u7.setCell ⟨gt,4,none⟩ (.slice a3 n3 c3)) g pa pc xs (q6+q3):=HS0.out.of (hKp.new (b:=gt) (by have:=HGR.out;omega) 4 _) (hS.bk.other 4 (.slice a3 n3 c3) (b:=gt) (by omega));obtain⟨y0,y1,y2,y3,y4,f0,f1,f2,f3,f4⟩:=hX8.five;replace hX8:=hX8.set 4 (.slice a3 n3 c3);replace hX6:=hX6.other 4 (.slice a3 n3 c3) (b:=gt) (by omega);replace hKp:=hKp.new (b:=gt) (by have:=HGR.out;omega) 4 (.slice a3 n3 c3);replace hRT:=zaf hRT (K3.set (n:=gt+1) u7 (b:=gt) (by omega) 4 (.slice a3 n3 c3));replace hRP:=zaf hRP (K3.set (n:=gt+1) u7 (b:=gt) (by omega) 4 (.slice a3 n3 c3));replace hRX:=zaf hRX (K3.set (n:=gt+1) u7 (b:=gt) (by omega) 4 (.slice a3 n3 c3));replace hRY:=zaf hRY (K3.set (n:=gt+1) u7 (b:=gt) (by omega) 4 (.slice a3 n3 c3));clear hS;go_upto_region 20 with fail
       generalize (u7.setCell ⟨gt,4,none⟩ (.slice a3 n3 c3))=wz at hX8 hX6 hKp hSn hRT hRP hRX hRY ⊢;obtain⟨d0,d1,d2,d3,d4,-⟩:=hX8.five;obtain⟨y0,y1,y2,y3,y4,f0,f1,f2,f3,f4⟩:=hX6.five;have HA5:Hid (_):=(hX6.set5U (.slice a8 ax c8) (.bool bz) (.slice a1 n1 c1) (.slice a2 n2 c2) (.slice a3 n3 c3)).five;have HKF:Hid (Kp g w (S5 wz gr (.slice a8 ax c8) (.bool bz) (.slice a1 n1 c1) (.slice a2 n2 c2) (.slice a3 n3 c3))):=hKp.new5 (by have:=HGR.out;omega) _ _ _ _ _;have HSF:Hid (Sc 203 (S5 wz gr (.slice a8 ax c8) (.bool bz) (.slice a1 n1 c1) (.slice a2 n2 c2) (.slice a3 n3 c3)) g pa pc xs (q6+q3)):=HS0.out.of HKF.out (hSn.bk.other5 (by omega) _ _ _ _ _);have HLE:Hid (q6+q3<=xs.length):=(by show _<=_;omega);have HTF:Hid (TeE.row.rep (fun k=>w.heap.size+2<=k) (S5 wz gr (.slice a8 ax c8) (.bool bz) (.slice a1 n1 c1) (.slice a2 n2 c2) (.slice a3 n3 c3)) [.slice a8 (tesAt xs p ax).length c8] (tesAt xs p ax)/\El.int.row.rep (fun k=>w.heap.size+2<=k) (S5 wz gr (.slice a8 ax c8) (.bool bz) (.slice a1 n1 c1) (.slice a2 n2 c2) (.slice a3 n3 c3)) [.slice a1 ps.length c1] ps/\El.int.row.rep (fun k=>w.heap.size+2<=k) (S5 wz gr (.slice a8 ax c8) (.bool bz) (.slice a1 n1 c1) (.slice a2 n2 c2) (.slice a3 n3 c3)) [.slice a2 dx.length c2] dx/\El.int.row.rep (fun k=>w.heap.size+2<=k) (S5 wz gr (.slice a8 ax c8) (.bool bz) (.slice a1 n1 c1) (.slice a2 n2 c2) (.slice a3 n3 c3)) [.slice a3 dy.length c3] dy):=by
        show _/\_;rw[HN1.out,HN2.out,HN3.out,zag,show w.heap.size+2=gt+1 by have:=HGR.out;have:=HGT.out;omega];have hks:=K3.set5 (n:=gt+1) wz (b:=gr) (by omega) (.slice a8 ax c8) (.bool bz) (.slice a1 n1 c1) (.slice a2 n2 c2) (.slice a3 n3 c3);exact⟨zaf hRT hks,zaf hRP hks,zaf hRX hks,zaf hRY hks⟩
       clear hSn hRT hRP hRX hRY;clear hX6 hX8 hKp;go_wp2;refine bodyPost_ret (v:=.tuple #[.agg #[.slice a8 ax c8,.bool bz,.slice a1 n1 c1,.slice a2 n2 c2,.slice a3 n3 c3],.bool true]) (by obtain⟨r0,r1,r2,r3,r4,-⟩:=HA5.out;simp[results,results149,go_sem,r0,r1,r2,r3,r4]) rfl ⟨by rw[zp8.out];exact⟨a8,c8,a1,c1,a2,c2,a3,c3,by show _=_;rw[HN1.out,HN2.out,HN3.out,zag],⟨HTF.out.1,HTF.out.2.1,HTF.out.2.2.1,HTF.out.2.2.2⟩,HSF.out,HLE.out⟩,HKF.out⟩
def W1E:El Nat where
 sz:=3
 dfl:=0
 rep:=fun S w vs z=>∃a c xs a' c' ys,vs=[.bool false,.slice a xs.length c,.slice a' ys.length c']/\Rd w a c xs/\Rd w a' c' ys/\Tr xs/\Tr ys/\V xs=z/\V ys=1/\(∀b o,a=some ⟨b,o,none⟩->xs≠[]->S b)/\(∀b o,a'=some ⟨b,o,none⟩->ys≠[]->S b)
 len:=fun⟨a,c,xs,a',c',ys,e,_⟩=>by rw[e];rfl
 one:=fun⟨a,c,xs,a',c',ys,e,_⟩ u hu=>by
  rw[e]at hu;simp at hu;rcases hu with rfl|rfl|rfl <;> rfl
 stay:=fun⟨a,c,xs,a',c',ys,e,h1,h2,t1,t2,v1,v2,s1,s2⟩ hs hk=>by
  have mv:∀ {a c xs},Rd _ a c xs->(∀b o,a=some ⟨b,o,none⟩->xs≠[]->_)->(Rd _ a c xs/\∀b o,a=some ⟨b,o,none⟩->xs≠[]->_):=fun {a c xs} h s=>by
   by_cases hx:xs=[]
   . exact⟨⟨h.1,h.2.1,h.2.2.1,h.2.2.2.1,.inl hx⟩,fun b o e hne=>absurd hx hne⟩
   . refine⟨h.keep hs (fun b hb ⟨o,eo⟩=>(hk b (s b o eo hx) hb).2),fun b o eo hne=>?_⟩
     rcases h.2.2.2.2 with h0|⟨b',o',e',hb',_⟩
     . exact absurd h0 hx
     . rw[eo]at e'
       cases e';exact(hk b (s b o eo hx) hb').1
  obtain⟨k1,k2⟩:=mv h1 s1;obtain⟨k3,k4⟩:=mv h2 s2;exact⟨a,c,xs,a',c',ys,e,k1,k3,t1,t2,v1,v2,k2,k4⟩
theorem W1E.w1{S:Nat->Prop}{w:World}{x y z:Value}{n:Nat}(h:W1E.rep S w [x,y,z] n):W1 w (.agg #[x,y,z]) n:=by
 obtain⟨a,c,xs,a',c',ys,e,h1,h2,t1,t2,v1,v2,_⟩:=h;injection e with e1 e;injection e with e2 e;injection e with e3 _;subst e1 e2 e3;exact⟨⟨a,c,xs,a',c',ys,rfl,h1,h2,t1,t2,v1,v2⟩⟩
theorem W1E.three{S:Nat->Prop}{w:World}{vs:LV}{n:Nat}(h:W1E.rep S w vs n):∃a m c a' m' c',vs=[.bool false,.slice a m c,.slice a' m' c']:=by
 obtain⟨a,c,xs,a',c',ys,e,_⟩:=h;exact⟨a,xs.length,c,a',ys.length,c',e⟩
theorem Gr.w10{S:Nat->Prop}{w:World}{a:OA}{cap:Nat}{z:Nat}(h:Gr W1E S w a cap [z]):∃b off x1 x2 x3 y1 y2 y3,a=some ⟨b,off,none⟩/\b<w.heap.size/\w.cell? ⟨b,off,none⟩=some (.bool false)/\w.cell? ⟨b,off+1,none⟩=some (.slice x1 x2 x3)/\w.cell? ⟨b,off+2,none⟩=some (.slice y1 y2 y3)/\W1E.rep S w [.bool false,.slice x1 x2 x3,.slice y1 y2 y3] z:=by
 obtain⟨b,off,vs,e,hb,hr,hc⟩:=h.2.2.2 0 (by simp);obtain⟨x1,x2,x3,y1,y2,y3,rfl⟩:=W1E.three hr;have c0:=hc 0 (by decide);have c1:=hc 1 (by decide);have c2:=hc 2 (by decide);simp at c0 c1 c2;exact⟨b,off,x1,x2,x3,y1,y2,y3,e,hb,c0,c1,c2,hr⟩
theorem Gr.row0{α:Type}{E:El α}{S:Nat->Prop}{w:World}{a:OA}{cap:Nat}{z:List α}(h:Gr E.row S w a cap [z]):∃b off a2 c2,a=some ⟨b,off,none⟩/\b<w.heap.size/\w.cell? ⟨b,off,none⟩=some (.slice a2 z.length c2)/\E.row.rep S w [.slice a2 z.length c2] z:=by
 obtain⟨b,off,vs,e,hb,hr,hc⟩:=h.2.2.2 0 (by simp);have hr2:=hr;obtain⟨a2,c2,e2,_⟩:=hr2;rw[e2]at hr hc;have c0:=hc 0 (by show 0<1;omega);simp at c0;exact⟨b,off,a2,c2,e,hb,c0,hr⟩
theorem Gw.rep{α:Type}{E:El α}{t:TypeId}{n:Nat}{w:World}{v:Value}{l:List α}(h:Gw E t n (fun k=>n<=k) w v l)(hl:l.length<=140737488351232):E.row.rep (fun k=>n<=k) w [v] l:=by
 obtain⟨a,c,rfl,hg,hb⟩:=h.slice;exact⟨a,c,rfl,fun b o e _=>(hb b o e).1,hg,hl⟩
theorem zbz{α:Type}{E:El α}{S:Nat->Prop}{w:World}{v:Value}{l:List α}(h:E.row.rep S w [v] l):∃a c,v=.slice a l.length c/\Gr E S w a c l:=by
 obtain⟨a,c,e,_,hg,_⟩:=h;injection e with e _;exact⟨a,c,e,hg⟩
theorem zal{α:Type}{E:El α}{S:Nat->Prop}{w w':World}{vs:LV}{l:α}(h:E.rep S w vs l)(hb:Below w.heap.size w w'):E.rep S w' vs l:=E.stay h hb.size (fun k hk hl=>⟨hk,hb.block k hl⟩)
theorem make1(t e:TypeId){z:Value}{sz by':Nat}(ht:Tryz.prog.underlying t=some (.slice e))(zsl:(Tryz.prog.info? e).map (fun i=>(i.zero,i.size,i.bytes))=some (some z,sz,by'))(hby:by'<=1000)(w:World):∃w1,(Instr.makeSlice t (.int .i64 0) (.int .i64 1)).run Tryz.prog w=.ok (.slice (some ⟨w.heap.size,0,none⟩) 0 1) w1/\w1.ownsRow w.heap.size e sz (.slice (some ⟨w.heap.size,0,none⟩) 0 1) 0 []/\Below w.heap.size w w1/\w.heap.size<w1.heap.size:=by
 obtain⟨i0,hi0,hz0,hz1,hz2⟩:=info_parts zsl;have hmk:=run_make (P:=Tryz.prog) w t e i0 z ht hi0 hz0 .i64 .i64 0 1 (by decide) (by decide) (by rw[hz2];omega) (by decide);rw[hz1]at hmk;refine⟨_,hmk,?_,bl1 _,by simp⟩;have:=World.ownsRow_made (base:=w.heap.size) (e:=e) (size:=sz) w (madeCells z.cells (1*sz)) 1 (qE _) (by unfold maxLen;omega) (size_madeCells _ _);simpa using this
theorem znz:(Tryz.prog.info? 125).map (fun i=>(i.zero,i.size,i.bytes))=some (some (.agg #[.bool false,.slice none 0 0,.slice none 0 0]),3,56):=by kernel_rfl
theorem zb2:(Tryz.prog.info? 173).map (fun i=>(i.zero,i.size,i.bytes))=some (some (.slice none 0 0),1,24):=by kernel_rfl
theorem zsf:(Tryz.prog.info? 3).map (fun i=>(i.zero,i.size,i.bytes))=some (some (.int .i64 0),1,8):=by kernel_rfl
theorem zff{α:Type}{E:El α}{S:Nat->Prop}{w:World}{vs:LV}{l:α}(h:E.rep S w vs l):E.rep (fun _=>True) w vs l:=E.stay h (qE _) (fun k _ _=>⟨trivial,rfl⟩)
theorem zyq{α:Type}{E:El α}{S:Nat->Prop}{w:World}{vs:LV}{l:α}(h:E.rep S w vs l):E.rep (fun k=>k<w.heap.size) w vs l:=E.stay h (qE _) (fun k _ hl=>⟨hl,rfl⟩)
theorem Gw.repT{α:Type}{E:El α}{t:TypeId}{n:Nat}{S:Nat->Prop}{w:World}{v:Value}{l:List α}(h:Gw E t n S w v l)(hl:l.length<=140737488351232):E.row.rep (fun _=>True) w [v] l:=by
 obtain⟨a,c,rfl,hg,hb⟩:=h.slice;exact⟨a,c,rfl,fun b o e _=>trivial,hg.wide (fun _ _ _=>trivial),hl⟩
theorem sumW(S:Nat->Prop)(v:Value)(z:Nat)(w:World)(h:W1E.row.rep S w [v] [z])(hS:∀k,S k->k<w.heap.size) :
 Calls Tryz.prog 232 #[v] w fun e w'=>∃x1 x2 x3 y1 y2 y3,e=.returned (.agg #[.bool false,.slice x1 x2 x3,.slice y1 y2 y3])/\W1E.rep S w' [.bool false,.slice x1 x2 x3,.slice y1 y2 y3] z/\Below w.heap.size w w':=by
 obtain⟨a,c,rfl,hg⟩:=zbz h;obtain⟨W,hW,X1,hbW⟩:∃W,W=w.alloc (.cells #[.bool false,.slice none 0 0,.slice none 0 0] 125)/\Bk 125 W w.heap.size [.bool false,.slice none 0 0,.slice none 0 0]/\Below w.heap.size w W:=⟨_,rfl,Bk.new _ _ _,bl1 _⟩;obtain⟨b,off,x1,x2,x3,y1,y2,y3,rfl,hb,c0,c1,c2,hr⟩:=hg.w10;replace c0:=(hbW.cell (p:=⟨b,off,none⟩) hb).trans c0;replace c1:=(hbW.cell (p:=⟨b,off+1,none⟩) hb).trans c1;replace c2:=(hbW.cell (p:=⟨b,off+2,none⟩) hb).trans c2;obtain⟨q0,q1,q2,f0,f1,f2⟩:=X1.three;have HX:Hid (Bk 125 W w.heap.size [.bool false,.slice none 0 0,.slice none 0 0]):=X1;have HR:Hid (W1E.rep S w [.bool false,.slice x1 x2 x3,.slice y1 y2 y3] z):=hr;have HB:Hid (Below w.heap.size w W):=hbW;have HS:Hid (∀k,S k->k<w.heap.size):=hS;clear hg h hr X1 hbW hS;go_enter func232,ntmps232;go_upto_region 1 with fail
 rw[<-hW];clear hW;go_wp2;have HZ:Hid (Bk 125 (((W.setCell ⟨w.heap.size,0,none⟩ (.bool false)).setCell ⟨w.heap.size,1,none⟩ (.slice x1 x2 x3)).setCell ⟨w.heap.size,2,none⟩ (.slice y1 y2 y3)) w.heap.size [.bool false,.slice x1 x2 x3,.slice y1 y2 y3]):=((HX.out.set 0 _).set 1 _).set 2 _;have HF:Hid (Below w.heap.size w (((W.setCell ⟨w.heap.size,0,none⟩ (.bool false)).setCell ⟨w.heap.size,1,none⟩ (.slice x1 x2 x3)).setCell ⟨w.heap.size,2,none⟩ (.slice y1 y2 y3))):=((HB.out.setCell (p:=⟨w.heap.size,0,none⟩) (qE _) _).setCell (p:=⟨w.heap.size,1,none⟩) (qE _) _).setCell (p:=⟨w.heap.size,2,none⟩) (qE _) _;refine bodyPost_ret (v:=.agg #[.bool false,.slice x1 x2 x3,.slice y1 y2 y3]) (by obtain⟨r0,r1,r2,-⟩:=HZ.out.three;simp[results,results232,go_sem,r0,r1,r2]) rfl ⟨x1,x2,x3,y1,y2,y3,rfl,zal HR.out HF.out,HF.out⟩
theorem sumsW(v:Value)(z:Nat)(w:World)(h:W1E.row.row.rep (fun _=>True) w [v] [[z]]) :
 Calls Tryz.prog 182 #[v] w fun e w'=>∃v',e=.returned v'/\W1E.row.rep (fun _=>True) w' [v'] [z]/\Below w.heap.size w w':=by
 obtain⟨a,c,rfl,hg⟩:=zbz (zyq h);obtain⟨b,off,a2,c2,rfl,hb,d0,hr⟩:=hg.row0;obtain⟨w1,hmk,hown,hb1,-⟩:=make1 173 125 underlying173 znz (by decide) w;replace d0:=(hb1.cell (p:=⟨b,off,none⟩) hb).trans d0;have hs1:=hb1.size;have hgs:Gw W1E 125 w.heap.size (fun k=>k<w.heap.size) w1 (.slice (some ⟨w.heap.size,0,none⟩) 0 1) []:=Gw.made hown;have hsu:=sumW (fun k=>k<w.heap.size) _ z w1 (zal hr hb1) (fun k hk=>qN hk hs1);clear hg hr h hown;go_enter func182,ntmps182;go_wp2;clear hmk;refine wp_loop_rounds 2 ?_;rw[rounds_succ];go_wp2_with fail
 refine hsu.mono ?_;rintro e u ⟨x1,x2,x3,y1,y2,y3,rfl,hr,hb2⟩;replace hgs:=hgs.below hb2;replace hb1:=hb1.trans (hb2.mono hs1);have hs2:=hb1.size;clear hsu d0;obtain⟨V9,hV9,Y9,hb9⟩:∃V,V=u.alloc (.cells #[.bool false,.slice x1 x2 x3,.slice y1 y2 y3] 125)/\Bk 125 V u.heap.size [.bool false,.slice x1 x2 x3,.slice y1 y2 y3]/\Below u.heap.size u V:=⟨_,rfl,Bk.new _ _ _,bl1 _⟩;have zar:=Gr.one (E:=W1E) (S:=fun k=>k<w.heap.size/\(Value.slice (some ⟨w.heap.size,0,none⟩) 0 1).ownBlock≠some k) (W1E.stay (zal hr hb9) (qE _) (fun k hk _=>⟨⟨hk,fun e=>by have e:some w.heap.size=some k:=e;injection e with e;omega⟩,rfl⟩)) Y9.lt (fun j hj=>Y9.cell j hj);have hGb:=hgs.below hb9;have hB9:=hb1.trans (hb9.mono hb1.size);have hbs:=hB9.size;clear hgs hr hb9 hb2;go_wp2_with (at_builtin;rw[<-hV9];refine zab 173 125 underlying173 znz rfl (by decide) (by decide) rfl _ _ rfl w.heap.size (fun k=>k<w.heap.size) _ [] rfl hGb (some ⟨u.heap.size,0,none⟩) 1 1 [z] rfl rfl zar (by simp) hbs ?_)
 intro v9 w9 hT9 hgrow _;rw[<-hV9]at hgrow;have zh0:Below w.heap.size w w9:=hB9.grown hgrow hbs (fun q hq=>by have e:some w.heap.size=some q:=hq;injection e with e;omega);have HF:Hid (W1E.row.rep (fun _=>True) w9 [v9] [z]):=hT9.repT (by simp);clear hGb zar hgrow hT9 hV9 Y9 hB9;go_wp2;rw[rounds_succ];go_wp2;go_ret;exact⟨v9,rfl,HF.out,zh0⟩
theorem zgd(v:Value)(z:Nat)(w:World)(h:W1E.row.rep (fun _=>True) w [v] [z])(hz:z<=32767) :
 Calls Tryz.prog 119 #[v] w fun e w'=>∃v',e=.returned (.tuple #[v',.int .i64 0])/\El.int.row.rep (fun _=>True) w' [v'] [(z:Int)]/\Below w.heap.size w w':=by
 obtain⟨a,c,rfl,hg⟩:=zbz h;obtain⟨b,off,x1,x2,x3,y1,y2,y3,rfl,hb,c0,c1,c2,hr⟩:=hg.w10;obtain⟨w1,hmk,hown,hb1,-⟩:=make1 29 3 underlying29 zsf (by decide) w;replace c0:=(hb1.cell (p:=⟨b,off,none⟩) hb).trans c0;replace c1:=(hb1.cell (p:=⟨b,off+1,none⟩) hb).trans c1;replace c2:=(hb1.cell (p:=⟨b,off+2,none⟩) hb).trans c2;have hs1:=hb1.size;have hgs:Gw El.int 3 w.heap.size (fun k=>k<w.heap.size) w1 (.slice (some ⟨w.heap.size,0,none⟩) 0 1) []:=Gw.made hown;have hw1:=W1E.w1 (zal hr hb1);obtain⟨V,hV,X1,hbV⟩:∃W,W=w1.alloc (.cells #[.bool false,.slice x1 x2 x3,.slice y1 y2 y3] 125)/\Bk 125 W w1.heap.size [.bool false,.slice x1 x2 x3,.slice y1 y2 y3]/\Below w1.heap.size w1 W:=⟨_,rfl,Bk.new _ _ _,bl1 _⟩;have hfi:=z29 z _ V (hw1.below hbV) hz;obtain⟨q0,q1,q2,-⟩:=X1.three;clear hg hr h hown hw1;go_enter func119,ntmps119;go_wp2;clear hmk;refine wp_loop_rounds 2 ?_;rw[rounds_succ];go_upto_region 5 with fail
 rw[<-hV];clear hV c0 c1 c2;go_wp2_with fail
 refine hfi.mono ?_;rintro e u ⟨rfl,hb2⟩;replace hgs:=(hgs.below hbV).below hb2;replace hb1:=(hb1.trans (hbV.mono hs1)).trans (hb2.mono (qF hs1 hbV.size));have hs2:=hb1.size;clear hfi q0 q1 q2 X1;obtain⟨V9,hV9,Y9,hb9⟩:∃V,V=u.alloc (.cells #[.int .i64 (z:Int)] 3)/\Bk 3 V u.heap.size [.int .i64 (z:Int)]/\Below u.heap.size u V:=⟨_,rfl,Bk.new _ _ _,bl1 _⟩;have zar:=Gr.one (E:=El.int) (S:=fun k=>k<w.heap.size/\(Value.slice (some ⟨w.heap.size,0,none⟩) 0 1).ownBlock≠some k) (x:=(z:Int)) (vs:=[.int .i64 (z:Int)]) (El.int_rep.2 ⟨rfl,⟨by omega,by omega⟩⟩) Y9.lt (fun j hj=>Y9.cell j hj);have hGb:=hgs.below hb9;have hB9:=hb1.trans (hb9.mono hb1.size);have hbs:=hB9.size;clear hgs hb9 hb2;go_wp2_with (at_builtin;rw[<-hV9];refine zab 29 3 underlying29 zsf rfl (by decide) (by decide) rfl _ _ rfl w.heap.size (fun k=>k<w.heap.size) _ [] rfl hGb (some ⟨u.heap.size,0,none⟩) 1 1 [(z:Int)] rfl rfl zar (by simp) hbs ?_)
 intro v9 w9 hT9 hgrow _;rw[<-hV9]at hgrow;have zh0:Below w.heap.size w w9:=hB9.grown hgrow hbs (fun q hq=>by have e:some w.heap.size=some q:=hq;injection e with e;omega);have HF:Hid (El.int.row.rep (fun _=>True) w9 [v9] [(z:Int)]):=hT9.repT (by simp);clear hGb zar hgrow hT9 hV9 Y9 hB9;go_wp2;rw[rounds_succ];go_wp2;go_ret2;exact⟨v9,rfl,HF.out,zh0⟩
