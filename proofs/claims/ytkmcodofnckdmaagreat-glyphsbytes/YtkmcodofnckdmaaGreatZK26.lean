import Derived.Test.YtkmcodofnckdmaaGreatZK25
set_option maxHeartbeats 4000000
set_option maxRecDepth 100000
set_option linter.unusedSimpArgs false
set_option linter.unusedVariables false
namespace Go.Proofs.YtkmcodofnckdmaaGreat
open Tryz Go.RowKit Go.Maps
theorem Gr.rwAt{α:Type}{E:El α}{S:Nat->Prop}{w:World}{a:OA}{cap:Nat}{m:List (List α)}(h:Gr E.row S w a cap m)(k:Nat)(hk:k<m.length) :
 ∃b off a' cap',a=some ⟨b,off,none⟩/\b<w.heap.size/\(∀wr,Below w.heap.size w wr->wr.cell? ⟨b,off+k,none⟩=some (.slice a' (m.getD k []).length cap'))/\Gr E S w a' cap' (m.getD k []):=by
 obtain⟨b,off,a',cap',e,hb,hc,hr,_⟩:=h.rw (Below.refl _ _) k hk;exact⟨b,off,a',cap',e,hb,fun wr hB=>(hB.cell (p:=⟨b,off+k,none⟩) hb).trans hc,hr⟩
theorem zo0(S S2:Nat->Prop)(a:OA)(ca:Nat)(b:OA)(cb:Nat)(a':OA)(ca':Nat)(b':OA)(cb':Nat)(o:Ol)(w:World)(hg:Gr PnE.row S w a ca o.cs)(hm:Gr PaE S w b cb o.ps)(hg':Gr PnE.row S2 w a' ca' o.cs)(hm':Gr PaE S2 w b' cb' o.ps) :
 Calls Tryz.prog 40 #[.agg #[.slice a o.cs.length ca,.slice b o.ps.length cb],.agg #[.slice a' o.cs.length ca',.slice b' o.ps.length cb']] w fun e w'=>e=.returned (.bool true)/\Below w.heap.size w w':=by
 have k1:=hg.lenB;have k2:=hm.lenB;have g1:((o.cs.length:Int) != (o.cs.length:Int))=false:=by simp
 have g2:((o.ps.length:Int) != (o.ps.length:Int))=false:=by simp
 obtain⟨W,hW,X1,X2,hbW⟩:∃W,W=(w.alloc (.cells #[.slice a o.cs.length ca,.slice b o.ps.length cb] 57)).alloc (.cells #[.slice a' o.cs.length ca',.slice b' o.ps.length cb'] 57) /\
     Bk 57 W w.heap.size [.slice a o.cs.length ca,.slice b o.ps.length cb]/\Bk 57 W (w.heap.size+1) [.slice a' o.cs.length ca',.slice b' o.ps.length cb']/\Below w.heap.size w W:=⟨_,rfl,(Bk.new _ _ _).below (bl1 _),Bk.new1 _ _ _ _,bl2 _ _⟩
 have HA:Hid (Gr PnE.row S W a ca o.cs):=hg.below hbW;have HB:Hid (Gr PnE.row S2 W a' ca' o.cs):=hg'.below hbW;have HC:Hid (Gr PaE S W b cb o.ps):=hm.below hbW;have HD:Hid (Gr PaE S2 W b' cb' o.ps):=hm'.below hbW;have HX1:Hid (Bk 57 W w.heap.size [.slice a o.cs.length ca,.slice b o.ps.length cb]):=X1;have HX2:Hid (Bk 57 W (w.heap.size+1) [.slice a' o.cs.length ca',.slice b' o.ps.length cb']):=X2;have HBW:Hid (Below w.heap.size w W):=hbW;clear hg hm hg' hm' X1 X2 hbW;go_enter func40,ntmps40;go_wp2;rw[<-hW];clear hW g1 g2
 go_loopw [5] (fun i wr=>∃k:Nat,k<=o.cs.length/\i=.int .i64 k/\Below W.heap.size W wr) (fun i _=>o.cs.length-(intOf i).toNat)
 case atStart=>exact⟨0,qD _,rfl,Below.refl _ _⟩
 case round =>
  obtain⟨k,hk,rfl,hnx⟩:=hrel;obtain⟨x0,x1,_⟩:=(HX1.out.below hnx).two;obtain⟨y0,y1,_⟩:=(HX2.out.below hnx).two;by_cases hkn:k<o.cs.length
  . obtain⟨b1,o1,a1,c1,ea,l1,d1,p1⟩:=HA.out.rwAt k hkn
    obtain⟨b2,o2,a2,c2,eb,l2,d2,p2⟩:=HB.out.rwAt k hkn;obtain⟨l,hl⟩:∃l,o.cs.getD k []=l:=⟨_,rfl⟩;rw[hl]at d1 p1 d2 p2;have e2:=p1.lenB;have HD1:Hid (∀V,Below W.heap.size W V->V.cell? ⟨b1,o1+k,none⟩=some (.slice a1 l.length c1)/\V.cell? ⟨b2,o2+k,none⟩=some (.slice a2 l.length c2)):=fun V hV=>⟨d1 V hV,d2 V hV⟩;have HP1:Hid (Gr PnE S W a1 c1 l):=p1;have HP2:Hid (Gr PnE S2 W a2 c2 l):=p2;have hll:((l.length:Int) != (l.length:Int))=false:=(by simp);obtain⟨q1,q2⟩:=HD1.out wr hnx;have i1:(0:Int)<=(k:Int):=(by omega);have i2:(k:Int)<(o.cs.length:Int):=(by omega);subst ea eb;clear hl d1 d2 p1 p2;go_wp2_with fail
    go_quiet (fail)
    have HNX:Hid (Below W.heap.size W wr):=hnx;clear q1 q2 hnx x0 x1 y0 y1;go_wp2
    go_loopw [6] (fun i wr2=>∃j:Nat,j<=l.length/\i=.int .i64 j/\Below W.heap.size W wr2) (fun i _=>l.length-(intOf i).toNat)
    case atStart=>exact⟨0,qD _,rfl,below_drewN HNX.out _⟩
    case round =>
     obtain⟨j,hj,rfl,hny⟩:=hrel;obtain⟨q1,q2⟩:=HD1.out wr hny;obtain⟨x0,x1,_⟩:=(HX1.out.below hny).two;obtain⟨y0,y1,_⟩:=(HX2.out.below hny).two;by_cases hjn:j<l.length
     . obtain⟨b3,o3,ec,_,_,c0,c1',c2'⟩:=HP1.out.pn hny j hjn
       obtain⟨b4,o4,ed,_,_,d0,d1,d2⟩:=HP2.out.pn hny j hjn;generalize l.getD j Pn.none=t at *;obtain⟨x,y,z⟩:=t;dsimp only at c0 c1' c2' d0 d1 d2;subst ec ed;have i3:(0:Int)<=(j:Int):=(by omega);have i4:(j:Int)<(l.length:Int):=(by omega);go_wp2_with fail
       go_quiet (fail)
       go_wp2;go_roundw
       case rel=>exact⟨j+1,by omega,by go_num,below_drewN hny _⟩
       case measure=>simp[intOf];omega
     . have g1:¬(j:Int)<(l.length:Int):=by omega
       go_wp2;go_roundw
       case rel=>exact⟨k+1,by omega,by go_num,hny⟩
       case measure=>simp[intOf];omega
  . have g1:¬(k:Int)<(o.cs.length:Int):=by omega
    go_wp2;clear x0 x1 y0 y1 hkn hk g1
    go_loopw [7] (fun i wr=>∃k:Nat,k<=o.ps.length/\i=.int .i64 k/\Below W.heap.size W wr) (fun i _=>o.ps.length-(intOf i).toNat)
    case atStart=>exact⟨0,qD _,rfl,hnx⟩
    case round =>
     clear hnx;obtain⟨k,hk,rfl,hnx⟩:=hrel;obtain⟨x0,x1,_⟩:=(HX1.out.below hnx).two;obtain⟨y0,y1,_⟩:=(HX2.out.below hnx).two;by_cases hkn:k<o.ps.length
     . obtain⟨b3,o3,ec,_,_,c0,c1',c2'⟩:=HC.out.pa hnx k hkn
       obtain⟨b4,o4,ed,_,_,d0,d1,d2⟩:=HD.out.pa hnx k hkn;generalize o.ps.getD k Pa.none=t at *;obtain⟨x,y,z⟩:=t;dsimp only at c0 c1' c2' d0 d1 d2;subst ec ed;have i3:(0:Int)<=(k:Int):=(by omega);have i4:(k:Int)<(o.ps.length:Int):=(by omega);go_wp2_with fail
       go_quiet (fail)
       go_wp2;go_roundw
       case rel=>exact⟨k+1,by omega,by go_num,below_drewN hnx _⟩
       case measure=>simp[intOf];omega
     . have g1:¬(k:Int)<(o.ps.length:Int):=by omega
       have hbW:=HBW.out.trans (hnx.mono HBW.out.size);go_wp2;go_ret;exact⟨rfl,hbW⟩
