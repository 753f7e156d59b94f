import Derived.Test.YtgbhidcokobmmaaGreatDoorZL33
import Derived.Test.YtgbhidcokobmmaaGreatDoorZL32
set_option maxHeartbeats 16000000
set_option maxRecDepth 100000
set_option linter.unusedSimpArgs false
set_option linter.unusedVariables false
namespace Go.Proofs.YtgbhidcokobmmaaGreatDoor
open Go.RowKit Go.Maps
structure OnS(O:Option (List Pd×Int))(w':World)(e:Ending):Prop where
 ok:∀Q nx,O=some (Q,nx)->∃va vc,e=.returned (.tuple #[.slice va Q.length vc,.int .i64 nx,.int .i64 0])/\Gr PdE (fun _=>False) w' va vc Q
 no:O=none->e=.returned (.tuple #[.slice none 0 0,.int .i64 0,.int .i64 4])
theorem OnS.yes{O:Option (List Pd×Int)}{w':World}{Q:List Pd}{nx:Int}{va:Option Addr}{vc:Nat}(h:O=some (Q,nx))(hl:Gr PdE (fun _=>False) w' va vc Q):OnS O w' (.returned (.tuple #[.slice va Q.length vc,.int .i64 nx,.int .i64 0])) :=
 ⟨(fun Q2 n2 h2=>by rw[h]at h2;injection h2 with h2;injection h2 with h2 h3;subst h2 h3;exact⟨va,vc,rfl,hl⟩),(fun h2=>by rw[h]at h2;cases h2)⟩
theorem OnS.own{O:Option (List Pd×Int)}{base:Nat}{w':World}{v:Value}{Q:List Pd}{nx:Int}(h:O=some (Q,nx))(hl:Ln base w' v Q):OnS O w' (.returned (.tuple #[v,.int .i64 nx,.int .i64 0])):=by
 obtain⟨a,c,rfl,hg,-⟩:=hl.slice
 exact OnS.yes h hg
theorem OnS.bad{O:Option (List Pd×Int)}{w':World}(h:O=none):OnS O w' (.returned (.tuple #[.slice none 0 0,.int .i64 0,.int .i64 4])) :=
 ⟨(fun Q2 n2 h2=>by rw[h]at h2;cases h2),(fun _=>rfl)⟩
theorem Ln.put4{base:Nat}{w:World}{g n c:Nat}{P:List Pd}(h:Ln base w (.slice (some ⟨g,0,none⟩) n c) P){k:Nat}(hk:k<P.length){p:Pd}(hp:PdW p) :
 Ln base ((((w.setCell ⟨g,k*4,none⟩ (.int .i64 p.g)).setCell ⟨g,k*4+1,none⟩ (.int .i64 p.x)).setCell ⟨g,k*4+2,none⟩ (.int .i64 p.y)).setCell ⟨g,k*4+3,none⟩ (.int .i64 p.a)) (.slice (some ⟨g,0,none⟩) n c) (P.set k p):=by
 obtain⟨hg,hx,hy,ha⟩:=hp
 have hs:∀q:Pd,k<(P.set k q).length:=fun q=>by rw[List.length_set];exact hk
 have hq:∀q:Pd,(P.set k q).getD k Pd.none=q:=fun q=>zdz hk q
 have h1:=(h.at hk).1 p.g hg
 have h2:=(h1.at (hs _)).2.1 p.x hx
 rw[hq,List.set_set]at h2
 have h3:=(h2.at (hs _)).2.2.1 p.y hy
 rw[hq,List.set_set]at h3
 have h4:=(h3.at (hs _)).2.2.2.1 p.a ha
 rw[hq,List.set_set]at h4
 exact h4
theorem Bk.pd1{t:TypeId}{w:World}{g:Nat}{a b c d:Value}(h:Bk t w g [a,b,c,d])(x:Value):Bk t (w.setCell ⟨g,1,none⟩ x) g [a,x,c,d]:=h.set 1 x
theorem Bk.pd2{t:TypeId}{w:World}{g:Nat}{a b c d:Value}(h:Bk t w g [a,b,c,d])(x:Value):Bk t (w.setCell ⟨g,2,none⟩ x) g [a,b,x,d]:=h.set 2 x
theorem Bk.pd3{t:TypeId}{w:World}{g:Nat}{a b c d:Value}(h:Bk t w g [a,b,c,d])(x:Value):Bk t (w.setCell ⟨g,3,none⟩ x) g [a,b,c,x]:=h.set 3 x
theorem ztq{ms:List Bool}{sk:Bool}{L:List Int}{i:Nat}{A:List Int}{nx b:Int}(hi:i<L.length)(h:apN ms 7 sk L i A=some (nx,b)):∃c:Nat,b=(c:Int)/\c<i:=by
 rw[zu2]at h
 split at h
 . next h1 =>
   injection h with h;injection h with h2 h3
   rcases bk_lt (ms:=ms) hi with e|e
   . exact absurd e h1.2.2.1
   . rw[h3]at e;exact e
 . cases h
theorem zyb{P:List Pd}{i b:Nat}{dx dy w:Int}:mvPJ 7 P i b dx dy w=⟨(P.getD i Pd.none).g,w6 (w6 ((P.getD b Pd.none).x-adS P b (i-b))+dx),w6 ((P.getD b Pd.none).y+dy),w6 ((P.getD i Pd.none).a+w)⟩:=by
 unfold mvPJ
 rw[if_pos rfl,if_pos rfl,ztz]
theorem zms(Sm Sk Sp:Nat->Prop)(ga:Option Addr)(gc:Nat)(ma:Option Addr)(mc:Nat)(s:Sr)(ka:Option Addr)(kc:Nat)(ms:List Bool)(pa:Option Addr)(pc:Nat)(cs:List Int)(qa:Option Addr)(qc:Nat)(P:List Pd)(kd:Int)(sk:Bool)(ra:Option Addr)(rc:Nat)(rs:List Ru)(i:Nat)(w:World)
    (hg:Tzz w ga gc s.rg) (hrw:Rii w ma mc s.rw) (hm:Gr El.bool Sm w ka kc ms) (hp:Ri w pa pc cs) (h40:s.rg.length<=40) (h8:∀l∈s.rg,l.length<=8)
    (hP:Gr PdE Sp w qa qc P) (hr:Gr RuE Sk w ra rc rs) (hk:kd=5\/kd=6\/kd=7) (hF:∀r∈rs,PrF (fiS s) kd sk r) (hi:i<P.length) (hl:P.length<=1000) :
    Calls Tryz.prog 68 #[.agg #[.int .i64 kd,.bool sk,.slice ra rs.length rc],.agg #[.slice ga s.rg.length gc,.slice ma s.rw.length mc,.slice ka ms.length kc,.slice pa cs.length pc],.slice qa P.length qc,.int .i64 (i:Int)] w fun e w'=>OnS (onP (rO s cs) (rE s cs) ms ⟨kd,sk,rs⟩ P i) w' e/\Below w.heap.size w w':=by
 have hnl:(naL P).length=P.length:=zce P
 have HD:Hid (onP (rO s cs) (rE s cs) ms ⟨kd,sk,rs⟩ P i=if sk&&mkB ms ((naL P).getD i 0)then some (P,(i:Int)+1)else onR (rO s cs) (rE s cs) kd P i (fsR ms kd sk (naL P) i rs)):=zt9
 generalize onP (rO s cs) (rE s cs) ms ⟨kd,sk,rs⟩ P i=O at HD ⊢
 have kP:=hP.lenB
 have hkr:=hr.lenB
 obtain⟨W,hW⟩:∃W,W=(w.alloc (.cells #[.int .i64 kd,.bool sk,.slice ra rs.length rc] 123)).alloc (.cells #[.slice ga s.rg.length gc,.slice ma s.rw.length mc,.slice ka ms.length kc,.slice pa cs.length pc] 86):=⟨_,rfl⟩
 obtain⟨X1,X2,hbW⟩:Bk 123 W w.heap.size [.int .i64 kd,.bool sk,.slice ra rs.length rc]/\Bk 86 W (w.heap.size+1) [.slice ga s.rg.length gc,.slice ma s.rw.length mc,.slice ka ms.length kc,.slice pa cs.length pc]/\Below w.heap.size w W:=by
  rw[hW]
  exact new2B w 123 86 [.int .i64 kd,.bool sk,.slice ra rs.length rc] [.slice ga s.rg.length gc,.slice ma s.rw.length mc,.slice ka ms.length kc,.slice pa cs.length pc]
 have hna:=zh9 Sp qa qc P W (hP.below hbW) hl
 have i1:(0:Int)<=(i:Int):=by omega
 have i2:(i:Int)<(P.length:Int):=by omega
 go_enter Tryz.func68,Tryz.ntmps68
 go_upto_region 1 with fail
 rw[<-hW];clear hW
 go_wp2_with fail
 refine hna.mono ?_
 rintro e u ⟨⟨v,rfl,hv⟩,hb⟩;obtain⟨na,nc,rfl,hnr,-⟩:=hv.slice;rw[hnl]
 have hbu:=hbW.trans (hb.mono hbW.size)
 have HX:Hid (Bk 123 u w.heap.size [.int .i64 kd,.bool sk,.slice ra rs.length rc]/\Bk 86 u (w.heap.size+1) [.slice ga s.rg.length gc,.slice ma s.rw.length mc,.slice ka ms.length kc,.slice pa cs.length pc]):=⟨X1.below hb,X2.below hb⟩
 have HBW:Hid (Below w.heap.size w u):=hbu
 have HG:Hid (Tzz u ga gc s.rg):=hg.below hbu
 have HRW:Hid (Rii u ma mc s.rw):=hrw.below hbu
 have HM:Hid (Gr El.bool Sm u ka kc ms):=hm.below hbu
 have HP:Hid (Ri u pa pc cs):=hp.below hbu
 have HQ:Hid (Gr PdE (fun _=>False) u qa qc P):=(hP.below hbu).anyPJ
 have HN:Hid (Ri u na nc (naL P)):=hnr
 have HR:Hid (Gr RuE Sk u ra rc rs):=hr.below hbu
 have HF:Hid (∀r∈rs,PrF (fiS s) kd sk r):=hF
 have HRD:Hid (∀U,Below u.heap.size u U->∀a b:Int,(I64 a/\I64 b)->Calls Tryz.prog 66 #[.agg #[.slice ga s.rg.length gc,.slice ma s.rw.length mc],.agg #[.int .i64 a,.int .i64 b],.slice pa cs.length pc] U fun e w'=>e=.returned (.tuple #[.int .i64 (rO s cs (a,b)),.int .i64 (rE s cs (a,b))])/\Below U.heap.size U w'):=fun U hU a b hab =>
  zdk ga gc ma mc s a b pa pc cs U (HG.out.below hU) (HRW.out.below hU) (HP.out.below hU) hab.1 hab.2 h40 h8
 have HNL:Hid ((naL P).length=P.length):=hnl
 obtain⟨nb,no,ena,hnb,c0⟩:=hnr.at (Below.refl _ _) i (by rw[hnl];exact hi)
 subst ena
 have hNi:I64 ((naL P).getD i 0):=hnr.i64 (by rw[hnl];exact hi)
 have HMK:Hid (∀Z,Below u.heap.size u Z->Calls Tryz.prog 101 #[.slice ka ms.length kc,.int .i64 ((naL P).getD i 0)] Z fun e w'=>e=.returned (.bool (mkB ms ((naL P).getD i 0)))/\Below Z.heap.size Z w'):=fun Z hZ=>zcs Sm ka kc ms _ Z (HM.out.below hZ) hNi
 generalize (naL P).getD i 0=z at *
 clear hna hg hrw hm hp hP hr hF hbW hNi hnl X1 X2 hv hnr hb hbu h8 h40
 go_upto_region 2 with fail
 go_cut [38]from 28 to 38 (fun v wx=>v=.bool (sk&&mkB ms z)/\Below u.heap.size u wx)
 case first =>
  obtain⟨x0,x1,x2,-⟩:=HX.out.1.three;obtain⟨m0,m1,m2,m3,-⟩:=HX.out.2.four
  have lt0:w.heap.size<u.heap.size:=HX.out.1.lt
  have lt1:w.heap.size+1<u.heap.size:=HX.out.2.lt
  have hmk:=HMK.out
  refine wp_region_held_drew (S:=fun v=>v.cell? ⟨w.heap.size,1,none⟩=some (.bool sk)/\v.cell? ⟨w.heap.size+1,2,none⟩=some (.slice ka ms.length kc)/\v.cell? ⟨nb,no+i,none⟩=some (.int .i64 z)) (by kernel_rfl) ⟨x1,m2,c0⟩ (fun hH=>?_)
  have hdr:Below u.heap.size u u.drew:=(Below.refl _ _).drew
  generalize u.drew=Z at hdr hH ⊢
  clear HD HX HBW HG HRW HM HP HQ HN HR HF HMK HNL HRD;refine hT 0 hH ?_;refine hT 1 hH ?_;refine hT 2 hH ?_
  cases sk with
  | false =>
   refine hN 3 hH ?_;refine hN 4 hH ?_;refine hN 5 hH ?_;refine hN 6 hH ?_;refine hN 7 hH ?_;refine hN 8 hH ?_;refine hN 9 hH ?_;refine hT 10 hH ?_
   refine wpAnyH_done (by kernel_rfl) ?_ _
   clear hmk m0 m1 m2 m3 x0 x1 x2 c0 hH;go_wp2
   go_meet
   exact⟨rfl,hdr⟩
  | true =>
   have hmz:=hmk Z hdr
   clear hmk
   obtain⟨q,hq⟩:∃q,mkB ms z=q:=⟨_,rfl⟩
   rw[hq]at hmz
   have HQQ:Hid (mkB ms z=q):=hq
   clear hq;refine hT 3 hH ?_;refine hT 4 hH ?_;refine hT 5 hH ?_;refine hT 6 hH ?_;refine hT 7 hH ?_;refine hT 8 hH ?_
   refine hCall (i:=9) rfl (by kernel_rfl) (by rfl) (fun K hK=>?_)
   go_simp
   refine hmz.mono ?_
   rintro e u9 ⟨rfl,hbu⟩
   have hUu:=hdr.trans (hbu.mono hdr.size)
   clear hmz
   go_wp2_with fail
   refine hK.out _ _ ⟨(hUu.cell (p:=⟨w.heap.size,1,none⟩) lt0).trans x1,(hUu.cell (p:=⟨w.heap.size+1,2,none⟩) lt1).trans m2,(hUu.cell (p:=⟨nb,no+i,none⟩) hnb).trans c0⟩ (fun hH=>?_)
   clear hK K
   try simp only[Act.put,pZ]
   refine hT 10 hH ?_
   refine wpAnyH_done (by kernel_rfl) ?_ _
   clear m0 m1 m2 m3 x0 x1 x2 c0 hH;go_wp2
   go_meet
   exact⟨by rw[HQQ.out,Bool.true_and],hUu⟩
 case rest =>
  obtain⟨rfl,hBc⟩:=hcut
  obtain⟨bq,hq⟩:∃bq,(sk&&mkB ms z)=bq:=⟨_,rfl⟩
  rw[hq]at HD ⊢;clear hq c0 HMK
  cases bq with
  | true =>
   have HV:Hid (OnS O wc (.returned (.tuple #[.slice qa P.length qc,.int .i64 ((i:Int)+1),.int .i64 0]))):=OnS.yes (by rw[HD.out,if_pos rfl]) (HQ.out.below hBc)
   have zaf:=HBW.out.trans (hBc.mono HBW.out.size)
   clear HD;go_wp2
   go_ret3
   exact⟨HV.out,zaf⟩
  | false =>
  have HD2:Hid (O=onR (rO s cs) (rE s cs) kd P i (fsR ms kd sk (naL P) i (rs.drop 0))):=by show _=_;rw[HD.out,if_neg (by decide)];rfl
  clear HD
  obtain⟨x0,x1,x2,-⟩:=(HX.out.1.below hBc).three
  go_wp2;clear x0 x1 x2
  go_loopw [12] (fun v wr=>∃r:Nat,r<=rs.length/\v=.int .i64 r/\Hid (O=onR (rO s cs) (rE s cs) kd P i (fsR ms kd sk (naL P) i (rs.drop r)))/\Below u.heap.size u wr) (fun v _=>rs.length-(intOf v).toNat)
  case atStart=>exact⟨0,Nat.zero_le _,rfl,HD2,hBc⟩
  case round =>
   clear HD2 hBc;obtain⟨r,hr,rfl,HDR,hB⟩:=hrel
   obtain⟨x0,xx1,xx2,-⟩:=(HX.out.1.below hB).three
   by_cases hrn:r<rs.length
   rotate_left
   . have HV:Hid (OnS O wr (.returned (.tuple #[.slice qa P.length qc,.int .i64 ((i:Int)+1),.int .i64 0]))):=OnS.yes (by rw[HDR.out,show r=rs.length by omega,zqq];rfl) (HQ.out.below hB)
     have zaf:=HBW.out.trans (hB.mono HBW.out.size)
     have g4:¬(r:Int)<(rs.length:Int):=by omega
     clear HDR;go_wp2
     go_ret3
     exact⟨HV.out,zaf⟩
   . obtain⟨rb,ro,a1,c1,a2,c2,er,hrb,hI,hin,hou,k0,k1,k2,k3,k4,k5,k6,k7,k8,k9⟩:=HR.out.ru10 hB r hrn
     have HFX:Hid (PrF (fiS s) kd sk (rs.getD r Ru.none)):=HF.out _ (by rw[List.getD_eq_getElem?_getD,List.getElem?_eq_getElem hrn];exact List.getElem_mem hrn)
     have HSK:Hid (apN ms kd sk (naL P) i (rs.getD r Ru.none).inn=none->O=onR (rO s cs) (rE s cs) kd P i (fsR ms kd sk (naL P) i (rs.drop (r+1)))):=fun h=>by rw[HDR.out,zl3 hrn h]
     have HMT:Hid (∀p,apN ms kd sk (naL P) i (rs.getD r Ru.none).inn=some p->O=onR (rO s cs) (rE s cs) kd P i (some (rs.getD r Ru.none,p))):=fun p h=>by rw[HDR.out,zqp hrn h]
     obtain⟨x,hx⟩:∃x,rs.getD r Ru.none=x:=⟨_,rfl⟩
     rw[hx]at hI hin hou k0 k1 k2 k3 k4 k5 k6 k7 k8 k9 HFX HSK HMT;clear hx HDR;obtain⟨inn,out,ap,lk,⟨x1,x2⟩,⟨y1,y2⟩,⟨w1,w2⟩⟩:=x;dsimp only at k0 k1 k2 k3 k4 k5 k6 k7 k8 k9 hin hou HSK HMT;obtain⟨f1,f2,f34,f56,f78⟩:=hI;dsimp only at f1 f2 f34 f56 f78;subst er
     have i5:(0:Int)<=(r:Int):=by omega
     have i6:(r:Int)<(rs.length:Int):=by omega
     obtain⟨V,hV,XV,hbV⟩:∃V,V=wr.alloc (.cells #[.slice a1 inn.length c1,.slice a2 out.length c2,.int .i64 ap,.int .i64 lk,.int .i64 x1,.int .i64 x2,.int .i64 y1,.int .i64 y2,.int .i64 w1,.int .i64 w2] 131)/\Bk 131 V wr.heap.size (ruV a1 c1 a2 c2 ⟨inn,out,ap,lk,(x1,x2),(y1,y2),(w1,w2)⟩)/\Below wr.heap.size wr V:=⟨_,rfl,Bk.new _ _ (ruV a1 c1 a2 c2 ⟨inn,out,ap,lk,(x1,x2),(y1,y2),(w1,w2)⟩),bl1 _⟩
     have hUV:=hB.trans (hbV.mono hB.size)
     have hap:=zie Sm ga gc ma mc s ka kc ms pa pc cs (some ⟨nb,no,none⟩) nc (naL P) kd sk (some ⟨rb,ro,none⟩) rs.length rc a1 c1 a2 c2 inn out ap lk x1 x2 y1 y2 w1 w2 i V (HM.out.below hUV) (HN.out.below hUV) (hin.below hbV).ri (by rw[HNL.out];exact hi) HFX.out.inn hk
     rw[HNL.out]at hap
     have HA7:Hid (kd=7->∀nx b,apN ms kd sk (naL P) i inn=some (nx,b)->∃c:Nat,b=(c:Int)/\c<i):=fun h nx b h2=>by
      rw[h]at h2
      exact ztq (by rw[HNL.out];exact hi) h2
     generalize apN ms kd sk (naL P) i inn=A at hap HSK HMT HA7
     have hr1:∀U,Below u.heap.size u U->Calls Tryz.prog 66 #[.agg #[.slice ga s.rg.length gc,.slice ma s.rw.length mc],.agg #[.int .i64 x1,.int .i64 x2],.slice pa cs.length pc] U fun e w'=>e=.returned (.tuple #[.int .i64 (rO s cs (x1,x2)),.int .i64 (rE s cs (x1,x2))])/\Below U.heap.size U w':=fun U hU=>HRD.out U hU x1 x2 f34
     have hr2:∀U,Below u.heap.size u U->Calls Tryz.prog 66 #[.agg #[.slice ga s.rg.length gc,.slice ma s.rw.length mc],.agg #[.int .i64 y1,.int .i64 y2],.slice pa cs.length pc] U fun e w'=>e=.returned (.tuple #[.int .i64 (rO s cs (y1,y2)),.int .i64 (rE s cs (y1,y2))])/\Below U.heap.size U w':=fun U hU=>HRD.out U hU y1 y2 f56
     have hr3:∀U,Below u.heap.size u U->Calls Tryz.prog 66 #[.agg #[.slice ga s.rg.length gc,.slice ma s.rw.length mc],.agg #[.int .i64 w1,.int .i64 w2],.slice pa cs.length pc] U fun e w'=>e=.returned (.tuple #[.int .i64 (rO s cs (w1,w2)),.int .i64 (rE s cs (w1,w2))])/\Below U.heap.size U w':=fun U hU=>HRD.out U hU w1 w2 f78
     have HBD:Hid (∀nx b,A=some (nx,b)->¬(rE s cs (x1,x2)=0/\rE s cs (y1,y2)=0/\rE s cs (w1,w2)=0)->O=none):=fun nx b h h2=>by rw[HMT.out _ h];exact if_neg h2
     have HGD:Hid (∀nx b,A=some (nx,b)->(rE s cs (x1,x2)=0/\rE s cs (y1,y2)=0/\rE s cs (w1,w2)=0)->O=some (P.set i (mvPJ kd P i b.toNat (rO s cs (x1,x2)) (rO s cs (y1,y2)) (rO s cs (w1,w2))),nx)):=fun nx b h h2=>by rw[HMT.out _ h];exact if_pos h2
     generalize rO s cs (x1,x2)=D0 at hr1 HGD
     generalize rO s cs (y1,y2)=D1 at hr2 HGD
     generalize rO s cs (w1,w2)=D2 at hr3 HGD
     generalize rE s cs (x1,x2)=E0 at hr1 HGD HBD
     generalize rE s cs (y1,y2)=E1 at hr2 HGD HBD
     generalize rE s cs (w1,w2)=E2 at hr3 HGD HBD
     clear hin hou f34 f56 f78 f1 f2 HMT HFX
     go_upto_region 8 with fail
     rw[<-hV];clear hV k0 k1 k2 k3 k4 k5 k6 k7 k8 k9 hbV hB x0 xx1 xx2
     obtain⟨x0,xx1,xx2,-⟩:=(HX.out.1.below hUV).three
     obtain⟨m0,m1,m2,m3,-⟩:=(HX.out.2.below hUV).four
     obtain⟨q0,q1,q2,q3,q4,q5,q6,q7,q8,q9⟩:=XV.ru;dsimp only at q0 q1 q2 q3 q4 q5 q6 q7 q8 q9
     go_wp2_with fail
     refine hap.mono ?_
     rintro e u1 ⟨hA,hb⟩;obtain⟨ok,z1,z2,he,hno,hso⟩:=hA.out
     have hU1:=hUV.trans (hb.mono hUV.size)
     replace XV:=XV.below hb;clear hap hA hb hUV x0 xx1 xx2 m0 m1 m2 m3 q0 q1 q2 q3 q4 q5 q6 q7 q8 q9
     cases A with
     | none =>
      rw[hno rfl]at he;subst he
      have HDN:Hid (O=onR (rO s cs) (rE s cs) kd P i (fsR ms kd sk (naL P) i (rs.drop (r+1)))):=HSK.out rfl
      clear HSK HA7 HBD HGD hr1 hr2 hr3 hno hso XV;go_wp2
      go_roundw
      case rel=>exact⟨r+1,by omega,by go_num,HDN,hU1⟩
      case measure=>simp[intOf];omega
     | some pr =>
     obtain⟨nx,b⟩:=pr
     obtain⟨g1,g2,g3⟩:=hso (nx,b) rfl
     rw[g1,g2,g3]at he;dsimp only at he;subst he
     have HB2:Hid (¬(E0=0/\E1=0/\E2=0)->O=none):=HBD.out nx b rfl
     have HG2:Hid ((E0=0/\E1=0/\E2=0)->O=some (P.set i (mvPJ kd P i b.toNat D0 D1 D2),nx)):=HGD.out nx b rfl
     have HA2:Hid (kd=7->∃c:Nat,b=(c:Int)/\c<i):=fun h=>HA7.out h nx b rfl
     clear HSK HA7 HBD HGD hno hso g1 g2 g3
     have hc:=hr1 u1 hU1
     obtain⟨m0,m1,m2,m3,-⟩:=(HX.out.2.below hU1).four
     obtain⟨q0,q1,q2,q3,q4,q5,q6,q7,q8,q9⟩:=XV.ru;dsimp only at q0 q1 q2 q3 q4 q5 q6 q7 q8 q9
     go_wp2_with fail
     refine hc.mono ?_
     rintro e u2 ⟨rfl,hb⟩
     have hU2:=hU1.trans (hb.mono hU1.size)
     replace XV:=XV.below hb;clear hc hr1 hb hU1 m0 m1 m2 m3 q0 q1 q2 q3 q4 q5 q6 q7 q8 q9
     have hc:=hr2 u2 hU2
     obtain⟨m0,m1,m2,m3,-⟩:=(HX.out.2.below hU2).four
     obtain⟨q0,q1,q2,q3,q4,q5,q6,q7,q8,q9⟩:=XV.ru;dsimp only at q0 q1 q2 q3 q4 q5 q6 q7 q8 q9
     go_wp2_with fail
     refine hc.mono ?_
     rintro e u3 ⟨rfl,hb⟩
     have hU3:=hU2.trans (hb.mono hU2.size)
     replace XV:=XV.below hb;clear hc hr2 hb hU2 m0 m1 m2 m3 q0 q1 q2 q3 q4 q5 q6 q7 q8 q9
     have hc:=hr3 u3 hU3
     obtain⟨m0,m1,m2,m3,-⟩:=(HX.out.2.below hU3).four
     obtain⟨q0,q1,q2,q3,q4,q5,q6,q7,q8,q9⟩:=XV.ru;dsimp only at q0 q1 q2 q3 q4 q5 q6 q7 q8 q9
     go_wp2_with fail
     refine hc.mono ?_
     rintro e u4 ⟨rfl,hb⟩
     have hU4:=hU3.trans (hb.mono hU3.size)
     replace XV:=XV.below hb;clear hc hr3 hb hU3 m0 m1 m2 m3 q0 q1 q2 q3 q4 q5 q6 q7 q8 q9;clear XV
     have zaf:=HBW.out.trans (hU4.mono HBW.out.size)
     by_cases z0:E0=0
     rotate_left
     . have g0:(E0 != 0)=true:=bne_iff_ne.2 z0
       have HON:Hid (O=none):=HB2.out (fun h=>z0 h.1)
       clear HB2 HG2 HA2 z0;go_wp2
       go_ret3
       exact⟨OnS.bad HON.out,zaf⟩
     have g0:(E0 != 0)=false:=bne_eq_false_iff_eq.2 z0
     by_cases z1:E1=0
     rotate_left
     . have g1:(E1 != 0)=true:=bne_iff_ne.2 z1
       have HON:Hid (O=none):=HB2.out (fun h=>z1 h.2.1)
       clear HB2 HG2 HA2 z1;go_wp2
       go_ret3
       exact⟨OnS.bad HON.out,zaf⟩
     have g1:(E1 != 0)=false:=bne_eq_false_iff_eq.2 z1
     by_cases z2:E2=0
     rotate_left
     . have g2:(E2 != 0)=true:=bne_iff_ne.2 z2
       have HON:Hid (O=none):=HB2.out (fun h=>z2 h.2.2)
       clear HB2 HG2 HA2 z2;go_wp2
       go_ret3
       exact⟨OnS.bad HON.out,zaf⟩
     have g2:(E2 != 0)=false:=bne_eq_false_iff_eq.2 z2
     have HON:Hid (O=some (P.set i (mvPJ kd P i b.toNat D0 D1 D2),nx)):=HG2.out ⟨z0,z1,z2⟩
     clear HB2 HG2 z0 z1 z2
     have zyo:Gr PdE (fun k=>False/\(Value.slice none 0 0).ownBlock≠some k) u4 qa qc P:=(HQ.out.below hU4).anyPJ
     have hll:([]:List Pd).length+P.length<=1000000:=by simp;omega
     go_wp2_with (at_builtin;refine zab (E:=PdE) 46 66 Tryz.underlying46 zeg rfl (by decide) (by decide) rfl _ _ rfl u4.heap.size (fun _=>False) _ [] rfl (Gw.nil _ _ _ _ _) qa qc P.length P rfl rfl zyo hll (Nat.le_refl _) ?_)
     intro v9 w9 hT9 hgrow _
     have hb9:Below u4.heap.size u4 w9:=(Below.refl _ _).grown hgrow (Nat.le_refl _) (fun k hk=>by cases hk)
     have hLn:Ln u4.heap.size w9 v9 P:=hT9
     obtain⟨lb,lc,ev,zuq,zwl,-⟩:=Gw.own hLn (fun e=>by rw[e]at hi;simp at hi)
     subst ev
     have hU9:=hU4.trans (hb9.mono hU4.size)
     replace zaf:=HBW.out.trans (hU9.mono HBW.out.size)
     have hlw:w.heap.size<=lb:=Nat.le_trans (Nat.le_trans HBW.out.size hU4.size) zuq
     clear hT9 hgrow zyo hll hb9 hU4 g0 g1 g2
     obtain⟨-,-,-,-,hfz,hw4,c0,c1,c2,c3⟩:=hLn.at hi
     obtain⟨p,hp⟩:∃p,P.getD i Pd.none=p:=⟨_,rfl⟩
     have HPP:Hid (P.getD i Pd.none=p):=hp
     rw[hp]at hw4 c0 c1 c2 c3;clear hp;obtain⟨pg,px,py,pd⟩:=p;dsimp only at c0 c1 c2 c3
     have HI:Hid (I64 pg):=hw4.1
     obtain⟨U,hU,XP,hbU⟩:∃U,U=w9.alloc (.cells #[.int .i64 pg,.int .i64 px,.int .i64 py,.int .i64 pd] 66)/\Bk 66 U w9.heap.size [.int .i64 pg,.int .i64 px,.int .i64 py,.int .i64 pd]/\Below w9.heap.size w9 U:=⟨_,rfl,Bk.new _ _ _,bl1 _⟩
     have HLN:Hid (Ln u4.heap.size w9 (.slice (some ⟨lb,0,none⟩) P.length lc) P):=hLn
     go_upto_region 18 with fail
     rw[<-hU];clear hU c0 c1 c2 c3 hfz hw4 hLn
     have hUU:=hU9.trans (hbU.mono hU9.size)
     obtain⟨x0,xx1,xx2,-⟩:=(HX.out.1.below hUU).three
     clear hUU
     have HFN:Hid (∀Z,Below w9.heap.size w9 Z->Below w.heap.size w Z):=fun Z hZ=>zaf.trans (hZ.mono zaf.size)
     have hl9:lb<w9.heap.size:=zwl
     have HSZ:Hid (w.heap.size<=w9.heap.size):=zaf.size
     obtain⟨pb,hpb⟩:∃pb,w9.heap.size=pb:=⟨_,rfl⟩
     rw[hpb]at XP hbU HFN hl9 HSZ ⊢;clear hU9 zaf zuq zwl
     by_cases h7:kd=7
     rotate_left
     . have g7:(kd==7)=false:=beq_eq_false_iff_ne.2 h7
       go_upto_region 25 with fail
       clear g7 x0 xx1 xx2;obtain⟨y0,y1,y2,y3,-⟩:=XP.four
       have fz1:=XP.fz 1
       go_upto_region 26 with fail
       rw[w6_64]
       obtain⟨V1,hV1⟩:∃V,V=U.setCell ⟨pb,1,none⟩ (.int .i64 (w6 (px+D0))):=⟨_,rfl⟩
       replace XP:=XP.pd1 (.int .i64 (w6 (px+D0)))
       replace hbU:=hbU.setCell (p:=⟨pb,1,none⟩) (Nat.le_refl pb) (.int .i64 (w6 (px+D0)))
       rw[<-hV1]at XP hbU ⊢;clear hV1 y0 y1 y2 y3 fz1
       obtain⟨T1,hT1⟩:∃T,w6 (px+D0)=T:=⟨_,rfl⟩
       have HT1:Hid (w6 (px+D0)=T1/\I64 T1):=⟨hT1,by rw[<-hT1];exact w6_in _⟩
       rw[hT1]at XP ⊢;clear hT1 U
       rename World=>U
       obtain⟨y0,y1,y2,y3,-⟩:=XP.four
       have fz2:=XP.fz 2
       go_upto_region 27 with fail
       rw[w6_64]
       obtain⟨V2,hV2⟩:∃V,V=U.setCell ⟨pb,2,none⟩ (.int .i64 (w6 (py+D1))):=⟨_,rfl⟩
       replace XP:=XP.pd2 (.int .i64 (w6 (py+D1)))
       replace hbU:=hbU.setCell (p:=⟨pb,2,none⟩) (Nat.le_refl pb) (.int .i64 (w6 (py+D1)))
       rw[<-hV2]at XP hbU ⊢;clear hV2 y0 y1 y2 y3 fz2
       obtain⟨T2,hT2⟩:∃T,w6 (py+D1)=T:=⟨_,rfl⟩
       have HT2:Hid (w6 (py+D1)=T2/\I64 T2):=⟨hT2,by rw[<-hT2];exact w6_in _⟩
       rw[hT2]at XP ⊢;clear hT2 U
       rename World=>U
       obtain⟨y0,y1,y2,y3,-⟩:=XP.four
       have fz3:=XP.fz 3
       go_upto_region 28 with fail
       rw[w6_64]
       obtain⟨V3,hV3⟩:∃V,V=U.setCell ⟨pb,3,none⟩ (.int .i64 (w6 (pd+D2))):=⟨_,rfl⟩
       replace XP:=XP.pd3 (.int .i64 (w6 (pd+D2)))
       replace hbU:=hbU.setCell (p:=⟨pb,3,none⟩) (Nat.le_refl pb) (.int .i64 (w6 (pd+D2)))
       rw[<-hV3]at XP hbU ⊢;clear hV3 y0 y1 y2 y3 fz3
       obtain⟨T3,hT3⟩:∃T,w6 (pd+D2)=T:=⟨_,rfl⟩
       have HT3:Hid (w6 (pd+D2)=T3/\I64 T3):=⟨hT3,by rw[<-hT3];exact w6_in _⟩
       rw[hT3]at XP ⊢;clear hT3 U
       rename World=>U
       obtain⟨y0,y1,y2,y3,-⟩:=XP.four
       have HL9:Hid (Ln u4.heap.size U (.slice (some ⟨lb,0,none⟩) P.length lc) P):=HLN.out.below (by rw[hpb];exact hbU)
       obtain⟨-,-,-,-,hfz,-,c0,c1,c2,c3⟩:=HL9.out.at hi
       rw[HPP.out]at c0 c1 c2 c3;dsimp only at c0 c1 c2 c3
       have f0:=hfz (i*4)
       have f1:=hfz (i*4+1)
       have f2:=hfz (i*4+2)
       have f3:=hfz (i*4+3)
       have HB9:Hid (Below w.heap.size w ((((U.setCell ⟨lb,i*4,none⟩ (.int .i64 pg)).setCell ⟨lb,i*4+1,none⟩ (.int .i64 T1)).setCell ⟨lb,i*4+2,none⟩ (.int .i64 T2)).setCell ⟨lb,i*4+3,none⟩ (.int .i64 T3))) :=
        ((((HFN.out U hbU).setCell (p:=⟨lb,i*4,none⟩) hlw _).setCell (p:=⟨lb,i*4+1,none⟩) hlw _).setCell (p:=⟨lb,i*4+2,none⟩) hlw _).setCell (p:=⟨lb,i*4+3,none⟩) hlw _
       have HLF:Hid (Ln u4.heap.size ((((U.setCell ⟨lb,i*4,none⟩ (.int .i64 pg)).setCell ⟨lb,i*4+1,none⟩ (.int .i64 T1)).setCell ⟨lb,i*4+2,none⟩ (.int .i64 T2)).setCell ⟨lb,i*4+3,none⟩ (.int .i64 T3)) (.slice (some ⟨lb,0,none⟩) P.length lc) (P.set i ⟨pg,T1,T2,T3⟩)):=HL9.out.put4 hi (p:=⟨pg,T1,T2,T3⟩) ⟨HI.out,HT1.out.2,HT2.out.2,HT3.out.2⟩
       have HOE:Hid (O=some (P.set i ⟨pg,T1,T2,T3⟩,nx)):=by show _=_;rw[HON.out,zpp h7,HPP.out,HT1.out.1,HT2.out.1,HT3.out.1]
       clear hfz HON HT1 HT2 HT3 XP hbU HL9 HFN HLN;go_wp2
       go_ret3
       exact⟨OnS.own HOE.out HLF.out,HB9.out⟩
     subst h7
     obtain⟨c,rfl,hci⟩:=HA2.out rfl
     rw[Int.toNat_natCast]at HON;clear HA2
     have i3:(0:Int)<=(c:Int):=by omega
     have i4:(c:Int)<(P.length:Int):=by omega
     have HCB:Hid (∀U,Below pb w9 U->∀j,j<P.length->U.cell? ⟨lb,j*4+1,none⟩=some (.int .i64 (P.getD j Pd.none).x)/\U.cell? ⟨lb,j*4+2,none⟩=some (.int .i64 (P.getD j Pd.none).y)/\U.cell? ⟨lb,j*4+3,none⟩=some (.int .i64 (P.getD j Pd.none).a)/\I64 (P.getD j Pd.none).x/\I64 (P.getD j Pd.none).y):=fun U hU j hj=>by
      obtain⟨-,-,-,-,-,hw,-,h1,h2,h3⟩:=(HLN.out.below (by rw[hpb];exact hU)).at hj
      exact⟨h1,h2,h3,hw.2.1,hw.2.2.1⟩
     obtain⟨d1,d2,-,hbx,hby⟩:=HCB.out U hbU c (by omega)
     obtain⟨bx,hbx2⟩:∃bx,(P.getD c Pd.none).x=bx:=⟨_,rfl⟩
     obtain⟨yb,hby2⟩:∃yb,(P.getD c Pd.none).y=yb:=⟨_,rfl⟩
     have HBX:Hid ((P.getD c Pd.none).x=bx/\(P.getD c Pd.none).y=yb):=⟨hbx2,hby2⟩
     rw[hbx2]at d1 hbx;rw[hby2]at d2 hby;clear hbx2 hby2;obtain⟨y0,y1,y2,y3,-⟩:=XP.four
     have fz1:=XP.fz 1
     go_upto_region 20 with fail
     obtain⟨V1,hV1⟩:∃V,V=U.setCell ⟨pb,1,none⟩ (.int .i64 bx):=⟨_,rfl⟩
     replace XP:=XP.pd1 (.int .i64 bx)
     replace hbU:=hbU.setCell (p:=⟨pb,1,none⟩) (Nat.le_refl pb) (.int .i64 bx)
     rw[<-hV1]at XP hbU ⊢;clear hV1 fz1 y0 y1 y2 y3 d1 d2 x0 xx1 xx2 U
     rename World=>U
     obtain⟨d1,d2,-,-,-⟩:=HCB.out U hbU c (by omega)
     rw[HBX.out.2]at d2;obtain⟨y0,y1,y2,y3,-⟩:=XP.four
     have fz2:=XP.fz 2
     go_upto_region 21 with fail
     obtain⟨V2,hV2⟩:∃V,V=U.setCell ⟨pb,2,none⟩ (.int .i64 yb):=⟨_,rfl⟩
     replace XP:=XP.pd2 (.int .i64 yb)
     replace hbU:=hbU.setCell (p:=⟨pb,2,none⟩) (Nat.le_refl pb) (.int .i64 yb)
     rw[<-hV2]at XP hbU ⊢;clear hV2 fz2 y0 y1 y2 y3 d1 d2 U
     rename World=>U
     go_wp2
     go_loopw [25] (fun vi wx=>∃m:Nat,c<=m/\m<=i/\vi=.int .i64 (m:Int)/\Bk 66 wx pb [.int .i64 pg,.int .i64 (w6 (bx-adS P c (m-c))),.int .i64 yb,.int .i64 pd]/\Below pb w9 wx) (fun vi _=>i-(intOf vi).toNat)
     case atStart=>exact⟨c,Nat.le_refl _,by omega,rfl,by rw[Nat.sub_self,adS,Int.sub_zero,w6_id hbx.1 hbx.2];exact XP,hbU⟩
     case round =>
      clear XP hbU
      rename World=>wx
      obtain⟨m,hcm,hmi,rfl,XP,hbU⟩:=hrel
      by_cases hmn:m<i
      . obtain⟨-,-,d3,-,-⟩:=HCB.out wx hbU m (by omega)
        have HAD:Hid (adS P c (m+1-c)=adS P c (m-c)+(P.getD m Pd.none).a):=by
         show _=_
         rw[show m+1-c=(m-c)+1 by omega,adS,show c+(m-c)=m by omega]
        generalize (P.getD m Pd.none).a=ra9 at d3 HAD
        obtain⟨S0,hS0⟩:∃S,w6 (bx-adS P c (m-c))=S:=⟨_,rfl⟩
        have HSS:Hid (w6 (S0-ra9)=w6 (bx-adS P c (m+1-c))):=by
         show _=_
         rw[<-hS0,zty,HAD.out]
         congr 1
         omega
        rw[hS0]at XP;clear hS0 HAD
        have i8:(0:Int)<=(m:Int):=by omega
        have i9:(m:Int)<(i:Int):=by omega
        have i10:(m:Int)<(P.length:Int):=by omega
        have hne:lb≠pb:=by omega
        go_upto_region 24 with fail
        have hdr:Below wx.heap.size wx wx.drew:=(Below.refl _ _).drew
        have hbZ:=hbU.drew
        replace XP:=XP.below hdr
        replace d3:wx.drew.cell? ⟨lb,m*4+3,none⟩=some (.int .i64 ra9):=(hdr.cell (p:=⟨lb,m*4+3,none⟩) (by have h1:=hbU.size;have h2:=hpb;show lb<_;omega)).trans d3
        refine wp_region_held_drew (S:=fun v=>v.cell? ⟨lb,m*4+3,none⟩=some (.int .i64 ra9)) (by kernel_rfl) (by first | exact d3 | skip) (fun hH=>?_)
        clear hdr hbU
        generalize wx.drew=Z at hH XP hbZ d3 ⊢
        obtain⟨y0,y1,y2,y3,-⟩:=XP.four
        have fz1:=XP.fz 1
        refine hT 0 hH ?_;refine hT 2 hH ?_;refine hT 3 hH ?_;refine hT 4 hH ?_;refine hT 5 hH ?_;refine hT 6 hH ?_
        refine hCall (i:=1) rfl (by kernel_rfl) (by rfl) (fun K hK=>?_)
        go_simp
        refine hK.out _ _ hH (fun hH=>?_)
        clear hK K
        try simp only[Act.put,pZ]
        refine hT 7 hH ?_;refine hT 8 hH ?_
        have HXN:Hid (Bk 66 (Z.setCell ⟨pb,1,none⟩ (.int .i64 (w6 (S0-ra9)))) pb [.int .i64 pg,.int .i64 (w6 (S0-ra9)),.int .i64 yb,.int .i64 pd]):=XP.pd1 _
        have HBN:Hid (Below pb w9 (Z.setCell ⟨pb,1,none⟩ (.int .i64 (w6 (S0-ra9))))):=hbZ.setCell (p:=⟨pb,1,none⟩) (Nat.le_refl pb) _
        refine hCall (i:=9) rfl (by kernel_rfl) (by rfl) (fun K hK=>?_)
        go_simp;rw[w6_eq]
        refine hK.out _ _ ((World.cell?_setCell_other Z ⟨pb,1,none⟩ ⟨lb,m*4+3,none⟩ (.int .i64 (w6 (S0-ra9))) (fun e=>hne (congrArg Addr.block e).symm)).trans hH) (fun hH=>?_)
        clear hK K
        try simp only[Act.put,pZ]
        refine wpAnyH_done (by kernel_rfl) ?_ _
        clear hH XP y0 y1 y2 y3 fz1 d3 hbZ
        try rw[w6_eq]
        rw[HSS.out]at HXN HBN ⊢
        obtain⟨Y,hY⟩:∃Y,Y=Z.setCell ⟨pb,1,none⟩ (.int .i64 (w6 (bx-adS P c (m+1-c)))):=⟨_,rfl⟩
        rw[<-hY]at HXN HBN ⊢;clear hY HSS;go_wp2
        go_roundw
        case rel=>exact⟨m+1,by omega,by omega,by go_num,HXN.out,HBN.out⟩
        case measure=>simp[intOf];omega
      . have em:m=i:=by omega
        rw[em]at XP ⊢;clear em hcm hmi hmn
        have g4:¬(i:Int)<(i:Int):=by omega
        generalize hjj:w6 (bx-adS P c (i-c))=X at *
        have HXX:Hid (w6 (bx-adS P c (i-c))=X):=hjj
        clear hjj
        obtain⟨U,hUw⟩:∃U,U=wx:=⟨_,rfl⟩
        rw[<-hUw]at XP hbU ⊢;clear hUw
        have HMV:Hid (mvPJ 7 P i c D0 D1 D2=⟨(P.getD i Pd.none).g,w6 (X+D0),w6 (yb+D1),w6 ((P.getD i Pd.none).a+D2)⟩):=by show _=_;rw[zyb,HBX.out.1,HBX.out.2,HXX.out]
        clear HXX
        go_upto_region 25 with fail
        obtain⟨y0,y1,y2,y3,-⟩:=XP.four
        have fz1:=XP.fz 1
        go_upto_region 26 with fail
        rw[w6_64]
        obtain⟨V1,hV1⟩:∃V,V=U.setCell ⟨pb,1,none⟩ (.int .i64 (w6 (X+D0))):=⟨_,rfl⟩
        replace XP:=XP.pd1 (.int .i64 (w6 (X+D0)))
        replace hbU:=hbU.setCell (p:=⟨pb,1,none⟩) (Nat.le_refl pb) (.int .i64 (w6 (X+D0)))
        rw[<-hV1]at XP hbU ⊢;clear hV1 y0 y1 y2 y3 fz1
        obtain⟨T1,hT1⟩:∃T,w6 (X+D0)=T:=⟨_,rfl⟩
        have HT1:Hid (w6 (X+D0)=T1/\I64 T1):=⟨hT1,by rw[<-hT1];exact w6_in _⟩
        rw[hT1]at XP ⊢;clear hT1 U
        rename World=>U
        obtain⟨y0,y1,y2,y3,-⟩:=XP.four
        have fz2:=XP.fz 2
        go_upto_region 27 with fail
        rw[w6_64]
        obtain⟨V2,hV2⟩:∃V,V=U.setCell ⟨pb,2,none⟩ (.int .i64 (w6 (yb+D1))):=⟨_,rfl⟩
        replace XP:=XP.pd2 (.int .i64 (w6 (yb+D1)))
        replace hbU:=hbU.setCell (p:=⟨pb,2,none⟩) (Nat.le_refl pb) (.int .i64 (w6 (yb+D1)))
        rw[<-hV2]at XP hbU ⊢;clear hV2 y0 y1 y2 y3 fz2
        obtain⟨T2,hT2⟩:∃T,w6 (yb+D1)=T:=⟨_,rfl⟩
        have HT2:Hid (w6 (yb+D1)=T2/\I64 T2):=⟨hT2,by rw[<-hT2];exact w6_in _⟩
        rw[hT2]at XP ⊢;clear hT2 U
        rename World=>U
        obtain⟨y0,y1,y2,y3,-⟩:=XP.four
        have fz3:=XP.fz 3
        go_upto_region 28 with fail
        rw[w6_64]
        obtain⟨V3,hV3⟩:∃V,V=U.setCell ⟨pb,3,none⟩ (.int .i64 (w6 (pd+D2))):=⟨_,rfl⟩
        replace XP:=XP.pd3 (.int .i64 (w6 (pd+D2)))
        replace hbU:=hbU.setCell (p:=⟨pb,3,none⟩) (Nat.le_refl pb) (.int .i64 (w6 (pd+D2)))
        rw[<-hV3]at XP hbU ⊢;clear hV3 y0 y1 y2 y3 fz3
        obtain⟨T3,hT3⟩:∃T,w6 (pd+D2)=T:=⟨_,rfl⟩
        have HT3:Hid (w6 (pd+D2)=T3/\I64 T3):=⟨hT3,by rw[<-hT3];exact w6_in _⟩
        rw[hT3]at XP ⊢;clear hT3 U
        rename World=>U
        obtain⟨y0,y1,y2,y3,-⟩:=XP.four
        have HL9:Hid (Ln u4.heap.size U (.slice (some ⟨lb,0,none⟩) P.length lc) P):=HLN.out.below (by rw[hpb];exact hbU)
        obtain⟨-,-,-,-,hfz,-,c0,c1,c2,c3⟩:=HL9.out.at hi
        rw[HPP.out]at c0 c1 c2 c3;dsimp only at c0 c1 c2 c3
        have f0:=hfz (i*4)
        have f1:=hfz (i*4+1)
        have f2:=hfz (i*4+2)
        have f3:=hfz (i*4+3)
        have HB9:Hid (Below w.heap.size w ((((U.setCell ⟨lb,i*4,none⟩ (.int .i64 pg)).setCell ⟨lb,i*4+1,none⟩ (.int .i64 T1)).setCell ⟨lb,i*4+2,none⟩ (.int .i64 T2)).setCell ⟨lb,i*4+3,none⟩ (.int .i64 T3))) :=
         ((((HFN.out U hbU).setCell (p:=⟨lb,i*4,none⟩) hlw _).setCell (p:=⟨lb,i*4+1,none⟩) hlw _).setCell (p:=⟨lb,i*4+2,none⟩) hlw _).setCell (p:=⟨lb,i*4+3,none⟩) hlw _
        have HLF:Hid (Ln u4.heap.size ((((U.setCell ⟨lb,i*4,none⟩ (.int .i64 pg)).setCell ⟨lb,i*4+1,none⟩ (.int .i64 T1)).setCell ⟨lb,i*4+2,none⟩ (.int .i64 T2)).setCell ⟨lb,i*4+3,none⟩ (.int .i64 T3)) (.slice (some ⟨lb,0,none⟩) P.length lc) (P.set i ⟨pg,T1,T2,T3⟩)):=HL9.out.put4 hi (p:=⟨pg,T1,T2,T3⟩) ⟨HI.out,HT1.out.2,HT2.out.2,HT3.out.2⟩
        have HOE:Hid (O=some (P.set i ⟨pg,T1,T2,T3⟩,nx)):=by show _=_;rw[HON.out,HMV.out,HPP.out,HT1.out.1,HT2.out.1,HT3.out.1]
        clear hfz HON HT1 HT2 HT3 XP hbU HL9 HFN HLN;go_wp2
        go_ret3
        exact⟨OnS.own HOE.out HLF.out,HB9.out⟩
structure PaS(r:Int×List Pd)(w':World)(e:Ending):Prop where
 out:∃va vc,e=.returned (.tuple #[.slice va r.2.length vc,.int .i64 r.1])/\Gr PdE (fun _=>False) w' va vc r.2
theorem PaS.nil{r:Int×List Pd}{w':World}{z:Int}(h:r=(z,[])):PaS r w' (.returned (.tuple #[.slice none 0 0,.int .i64 z])):=⟨none,0,by rw[h];rfl,by rw[h];exact Gr.nil _ _ _ _ _ (Nat.zero_le _) (fun _=>rfl)⟩
theorem PaS.yes{r:Int×List Pd}{w':World}{Q:List Pd}{va:Option Addr}{vc:Nat}(h:r=(0,Q))(hl:Gr PdE (fun _=>False) w' va vc Q):PaS r w' (.returned (.tuple #[.slice va Q.length vc,.int .i64 0])):=⟨va,vc,by rw[h],by rw[h];exact hl⟩
theorem zjn(Sl Sm Sp:Nat->Prop)(la:Option Addr)(lc:Nat)(l:List Lk)(xa:Option Addr)(xc:Nat)(ks:List Int)(ga:Option Addr)(gc:Nat)(ma:Option Addr)(mc:Nat)(s:Sr)(ka:Option Addr)(kc:Nat)(ms:List Bool)(pa:Option Addr)(pc:Nat)(cs:List Int)(qa:Option Addr)(qc:Nat)(P:List Pd)(w:World)
    (hl:Gr LkE Sl w la lc l) (hx:Ri w xa xc ks) (hg:Tzz w ga gc s.rg) (hrw:Rii w ma mc s.rw) (hm:Gr El.bool Sm w ka kc ms) (hp:Ri w pa pc cs) (h40:s.rg.length<=40) (h8:∀l∈s.rg,l.length<=8) (hP:Gr PdE Sp w qa qc P) :
    Calls Tryz.prog 37 #[.slice la l.length lc,.slice xa ks.length xc,.agg #[.slice ga s.rg.length gc,.slice ma s.rw.length mc,.slice ka ms.length kc,.slice pa cs.length pc],.slice qa P.length qc] w fun e w'=>PaS (paEJ (fiS s) (rO s cs) (rE s cs) ms l ks P) w' e/\Below w.heap.size w w':=by
 have kP:=hP.lenB
 have kl:=hl.lenB
 have kx:=hx.lenB
 have k2:=hrw.lenB
 obtain⟨W,hW,X1,hbW⟩:∃W,W=w.alloc (.cells #[.slice ga s.rg.length gc,.slice ma s.rw.length mc,.slice ka ms.length kc,.slice pa cs.length pc] 86)/\Bk 86 W w.heap.size [.slice ga s.rg.length gc,.slice ma s.rw.length mc,.slice ka ms.length kc,.slice pa cs.length pc]/\Below w.heap.size w W:=⟨_,rfl,Bk.new _ _ _,bl1 _⟩
 obtain⟨x0,x1,x2,x3,-⟩:=X1.four
 have hfo:=zeo Sl la lc l ga gc ma mc s 65536 W (hl.below hbW) k2 ⟨by decide,by decide⟩
 have HNF:Hid (foM20 (fiS s) l 65536=false->paEJ (fiS s) (rO s cs) (rE s cs) ms l ks P=(1,[])):=fun h=>by unfold paEJ;rw[if_neg (by rw[h];decide)]
 have HLG:Hid (foM20 (fiS s) l 65536=true->100<P.length->paEJ (fiS s) (rO s cs) (rE s cs) ms l ks P=(3,[])):=fun h h1=>by unfold paEJ;rw[if_pos h,if_pos h1]
 have HGO:Hid (foM20 (fiS s) l 65536=true->¬100<P.length->paEJ (fiS s) (rO s cs) (rE s cs) ms l ks P=alM (rO s cs) (rE s cs) ms l ks P):=fun h h1=>by unfold paEJ;rw[if_pos h,if_neg h1]
 generalize paEJ (fiS s) (rO s cs) (rE s cs) ms l ks P=PR at HNF HLG HGO ⊢
 have HL:Hid (Gr LkE Sl W la lc l):=hl.below hbW
 have HXK:Hid (Ri W xa xc ks):=hx.below hbW
 have HG:Hid (Tzz W ga gc s.rg):=hg.below hbW
 have HRW:Hid (Rii W ma mc s.rw):=hrw.below hbW
 have HM:Hid (Gr El.bool Sm W ka kc ms):=hm.below hbW
 have HP:Hid (Ri W pa pc cs):=hp.below hbW
 have HPP:Hid (Gr PdE Sp W qa qc P):=hP.below hbW
 have HBW:Hid (Below w.heap.size w W):=hbW
 have HX1:Hid (Bk 86 W w.heap.size [.slice ga s.rg.length gc,.slice ma s.rw.length mc,.slice ka ms.length kc,.slice pa cs.length pc]):=X1
 clear hl hx hg hrw hm hp hP
 go_enter Tryz.func37,Tryz.ntmps37
 go_upto_region 1 with fail
 rw[<-hW];clear hW X1
 cases hfm:foM20 (fiS s) l 65536 with
 | false =>
  have HV:Hid (∀U,PaS PR U (.returned (.tuple #[.slice none 0 0,.int .i64 1]))):=fun U=>PaS.nil (HNF.out hfm)
  rw[hfm]at hfo;clear HNF HLG HGO hfm HL HXK HG HRW HM HP HPP
  go_wp2_with fail
  refine hfo.mono ?_
  rintro e u ⟨rfl,hb⟩
  have zaf:=hbW.trans (hb.mono hbW.size)
  clear hfo hb;go_wp2
  go_ret2
  exact⟨HV.out _,zaf⟩
 | true =>
 have HFM:Hid (foM20 (fiS s) l 65536=true):=hfm
 rw[hfm]at hfo
 by_cases zhm:100<P.length
 . have HV:Hid (∀U,PaS PR U (.returned (.tuple #[.slice none 0 0,.int .i64 3]))):=fun U=>PaS.nil (HLG.out hfm zhm)
   have g1:(100:Int)<(P.length:Int):=by omega
   clear HNF HLG HGO hfm HL HXK HG HRW HM HP HPP zhm
   go_wp2_with fail
   refine hfo.mono ?_
   rintro e u ⟨rfl,hb⟩
   have zaf:=hbW.trans (hb.mono hbW.size)
   clear hfo hb;go_wp2
   go_ret2
   exact⟨HV.out _,zaf⟩
 have HPR:Hid (PR=alM (rO s cs) (rE s cs) ms l ks P):=HGO.out hfm zhm
 have g1:¬(100:Int)<(P.length:Int):=by omega
 have HP100:Hid (P.length<=100):=by show _<=_;omega
 clear HNF HLG HGO hfm
 go_wp2_with fail
 refine hfo.mono ?_
 rintro e u ⟨rfl,hb⟩
 have zyo:Gr PdE (fun k=>False/\(Value.slice none 0 0).ownBlock≠some k) u qa qc P:=(HPP.out.below hb).anyPJ
 have hll:([]:List Pd).length+P.length<=1000000:=by simp;omega
 clear hfo x0 x1 x2 x3 hbW zhm
 go_wp2_with (at_builtin;refine zab (E:=PdE) 46 66 Tryz.underlying46 zeg rfl (by decide) (by decide) rfl _ _ rfl u.heap.size (fun _=>False) _ [] rfl (Gw.nil _ _ _ _ _) qa qc P.length P rfl rfl zyo hll (Nat.le_refl _) ?_)
 intro v9 w9 hT9 hgrow _
 have hb9:Below u.heap.size u w9:=(Below.refl _ _).grown hgrow (Nat.le_refl _) (fun k hk=>by cases hk)
 have hbw9:=hb.trans (hb9.mono hb.size)
 obtain⟨va,vc,e9,hout,-⟩:=hT9.slice;subst e9
 have zf3:Hid (Gr PdE (fun _=>False) w9 va vc P):=hout
 clear hT9 hgrow zyo hll g1 hb9 hb hout;go_wp2
 go_loopw [10,11] (fun vo vi wr=>∃(r:Nat) (Q:List Pd) (va1:Option Addr) (vc1:Nat),r<=ks.length/\vo=.slice va1 P.length vc1/\vi=.int .i64 r/\Hid (PR=alM (rO s cs) (rE s cs) ms l (ks.drop r) Q)/\Hid (Q.length=P.length/\naL Q=naL P)/\Hid (Gr PdE (fun _=>False) wr va1 vc1 Q)/\Below W.heap.size W wr) (fun _ vi _=>ks.length-(intOf vi).toNat)
 case atStart=>exact⟨0,P,va,vc,Nat.zero_le _,rfl,rfl,HPR.out,⟨rfl,rfl⟩,zf3.out,hbw9⟩
 case round =>
  clear zf3 hbw9 HPR
  rename World=>wr
  obtain⟨r,Q,va1,vc1,hr,rfl,rfl,HPQ,HQQ,HLQ,hB⟩:=hrel
  by_cases hrn:r<ks.length
  rotate_left
  . have hql:=HQQ.out.1
    have HV:Hid (PaS PR wr (.returned (.tuple #[.slice va1 P.length vc1,.int .i64 0]))):=by rw[<-hql];exact PaS.yes (by rw[HPQ.out,show r=ks.length by omega];exact zk1) HLQ.out
    have g4:¬(r:Int)<(ks.length:Int):=by omega
    have hBw:=HBW.out.trans (hB.mono HBW.out.size)
    clear HPQ hql;go_wp2
    go_ret2
    exact⟨HV.out,hBw⟩
  . obtain⟨jb,jo,rfl,hjb,c0⟩:=HXK.out.at hB r hrn
    have hz:=HXK.out.i64 hrn
    have i1:(0:Int)<=(r:Int):=by omega
    have i2:(r:Int)<(ks.length:Int):=by omega
    by_cases h01:0<=ks.getD r 0/\ks.getD r 0<(l.length:Int)
    rotate_left
    . have HV:Hid (∀U,PaS PR U (.returned (.tuple #[.slice none 0 0,.int .i64 5]))):=fun U=>PaS.nil (by rw[HPQ.out];exact zhw hrn h01)
      have hBw:=HBW.out.trans (hB.mono HBW.out.size)
      obtain⟨z,hzz⟩:∃z,ks.getD r 0=z:=⟨_,rfl⟩
      rw[hzz]at c0 hz h01;clear HPQ hzz
      by_cases h0:z<0
      . have d0:decide (z<0)=true:=decide_eq_true h0
        clear h0 h01;go_wp2
        go_ret2
        exact⟨HV.out _,hBw⟩
      . have d0:decide (z<0)=false:=decide_eq_false h0
        have d1:decide ((l.length:Int)<=z)=true:=decide_eq_true (by omega)
        clear h0 h01;go_wp2
        go_ret2
        exact⟨HV.out _,hBw⟩
    . obtain⟨k,hk⟩:∃k:Nat,ks.getD r 0=(k:Int):=⟨(ks.getD r 0).toNat,by omega⟩
      have hkl:k<l.length:=by omega
      rw[hk]at c0
      obtain⟨kb,ko,ra,rc,ela,hkd,hall⟩:=HL.out.lkAll k hkl
      have HBD:Hid (thQ (rO s cs) (rE s cs) ms (l.getD k Lk.none) Q=none->PR=(4,[])):=fun h=>by rw[HPQ.out];exact zk0 hrn hk hkl h
      have HON:Hid (∀R,thQ (rO s cs) (rE s cs) ms (l.getD k Lk.none) Q=some R->PR=alM (rO s cs) (rE s cs) ms l (ks.drop (r+1)) R):=fun R h=>by rw[HPQ.out];exact zkz hrn hk hkl h
      have HPM:Hid (mvB (l.getD k Lk.none).kd=true->∀q∈(l.getD k Lk.none).rs,PrF (fiS s) (l.getD k Lk.none).kd (l.getD k Lk.none).sk q):=fun h q hq=>zlk HFM.out hkl h hq
      obtain⟨x,hx⟩:∃x,l.getD k Lk.none=x:=⟨_,rfl⟩
      rw[hx]at hkd hall HBD HON HPM;clear hx HPQ hz;obtain⟨kd,sk,rs⟩:=x;dsimp only at hkd hall HPM;subst ela
      have i3:(0:Int)<=(k:Int):=by omega
      have i4:(k:Int)<(l.length:Int):=by omega
      have d0:decide ((k:Int)<0)=false:=decide_eq_false (by omega)
      have d1:decide ((l.length:Int)<=(k:Int))=false:=decide_eq_false (by omega)
      have d1n:decide (l.length<=k)=false:=decide_eq_false (by omega)
      have zcp:Hid (∀u,Below W.heap.size W u->Gr RuE Sl u ra rc rs/\u.cell? ⟨kb,ko+k*3,none⟩=some (.int .i64 kd)/\u.cell? ⟨kb,ko+k*3+1,none⟩=some (.bool sk)/\u.cell? ⟨kb,ko+k*3+2,none⟩=some (.slice ra rs.length rc)):=hall
      have HIN:Hid (mvB kd=true->∀q∈rs,kd=6->q.inn.length=2):=fun h q hq h6=>by
       have:=(HPM.out h q hq).inn
       rw[h6]at this
       exact this
      have HOQ0:Hid (thQ (rO s cs) (rE s cs) ms ⟨kd,sk,rs⟩ Q=if mvB kd then ruQ (rO s cs) (rE s cs) ms ⟨kd,sk,rs⟩ Q ((0:Nat):Int)else some Q):=rfl
      generalize thQ (rO s cs) (rE s cs) ms ⟨kd,sk,rs⟩ Q=O at HBD HON HOQ0
      clear h01 hk hall;go_wp2;clear c0 d0 d1 d1n
      go_loopw [10,13] (fun vo vt wr=>∃(Q1:List Pd) (va2:Option Addr) (vc2 i:Nat),vo=.slice va2 P.length vc2/\vt=.int .i64 (i:Int)/\i<=3*P.length+3/\Hid (O=if mvB kd then ruQ (rO s cs) (rE s cs) ms ⟨kd,sk,rs⟩ Q1 (i:Int)else some Q1)/\Hid (Q1.length=P.length/\naL Q1=naL P)/\Hid (Gr PdE (fun _=>False) wr va2 vc2 Q1)/\Below W.heap.size W wr) (fun _ vt _=>P.length-(intOf vt).toNat)
      case atStart=>exact⟨Q,va1,vc1,0,rfl,rfl,by omega,HOQ0.out,HQQ.out,HLQ.out,hB⟩
      case round =>
       clear HOQ0 HQQ HLQ hB
       rename World=>wr
       obtain⟨Q1,va2,vc2,i,rfl,rfl,hi3,HOQ,HQ1,HL1,hB⟩:=hrel
       obtain⟨hrs,e0,e1,e2⟩:=zcp.out wr hB
       have hkb:kb<wr.heap.size:=zcb e0
       clear hrs hkb
       by_cases hin:i<P.length
       rotate_left
       . have g4:decide ((i:Int)<(P.length:Int))=false:=decide_eq_false (by omega)
         have g4n:decide (i<P.length)=false:=decide_eq_false hin
         have HOS:Hid (O=some Q1):=by
          show _=_
          rw[HOQ.out]
          split
          . exact zjo (by omega) (by rw[HQ1.out.1];omega)
          . rfl
         have HNX:Hid (PR=alM (rO s cs) (rE s cs) ms l (ks.drop (r+1)) Q1):=HON.out Q1 HOS.out
         clear HOQ HOS HON HBD HPM HIN hin;go_wp2
         go_roundw
         case rel=>exact⟨r+1,Q1,va2,vc2,by omega,rfl,by go_num,HNX,HQ1,HL1,hB⟩
         case measure=>simp[intOf];omega
       have g4:decide ((i:Int)<(P.length:Int))=true:=decide_eq_true (by omega)
       have g4n:decide (i<P.length)=true:=decide_eq_true hin
       have i5:(0:Int)<=(i:Int):=by omega
       have i6:(i:Int)<(P.length:Int):=by omega
       have hmo:=zen kd wr hkd
       go_wp2_with fail
       refine hmo.mono ?_
       rintro e u9 ⟨rfl,rfl⟩;clear hmo
       cases hmv:mvB kd with
       | false =>
        have HOS:Hid (O=some Q1):=by
         show _=_
         rw[HOQ.out,hmv]
         rfl
        have HNX:Hid (PR=alM (rO s cs) (rE s cs) ms l (ks.drop (r+1)) Q1):=HON.out Q1 HOS.out
        clear HOQ HOS HON HBD HPM HIN hin hmv e0 e1 e2;go_wp2
        go_roundw
        case rel=>exact⟨r+1,Q1,va2,vc2,by omega,rfl,by go_num,HNX,HQ1,HL1,hB⟩
        case measure=>simp[intOf];omega
       | true =>
       clear e0 e1 e2
       obtain⟨Z,hZw⟩:∃Z,Z=wr:=⟨_,rfl⟩
       have hBZ:Below W.heap.size W Z:=by rw[hZw];exact hB
       have HLZ:Hid (Gr PdE (fun _=>False) Z va2 vc2 Q1):=by rw[hZw];exact HL1
       rw[<-hZw];clear hZw hB HL1
       have HOR:Hid (O=ruQ (rO s cs) (rE s cs) ms ⟨kd,sk,rs⟩ Q1 (i:Int)):=by show _=_;rw[HOQ.out,hmv];rfl
       have zxq:Hid (∀q∈rs,kd=6->q.inn.length=2):=HIN.out hmv
       have HPM2:Hid (∀q∈rs,PrF (fiS s) kd sk q):=HPM.out hmv
       have HK5:Hid (kd=5\/kd=6\/kd=7):=zhg.1 hmv
       clear HOQ HIN HPM hmv
       go_upto_region 15 with fail
       clear g4
       obtain⟨hrs,e0,e1,e2⟩:=zcp.out Z hBZ
       have hkb:kb<Z.heap.size:=zcb e0
       have X1:=HX1.out.below hBZ
       obtain⟨x0,x1,x2,x3,-⟩:=X1.four
       have hsl:w.heap.size<Z.heap.size:=X1.lt
       have hZd:Below Z.heap.size Z Z.drew:=(Below.refl _ _).drew
       have hBD:=hBZ.trans (hZd.mono hBZ.size)
       have hon:=zms Sm Sl (fun _=>False) ga gc ma mc s ka kc ms pa pc cs va2 vc2 Q1 kd sk ra rc rs i Z.drew (HG.out.below hBD) (HRW.out.below hBD) (HM.out.below hBD) (HP.out.below hBD) h40 h8 (HLZ.out.below hZd) (hrs.below hZd) HK5.out HPM2.out (by rw[HQ1.out.1];exact hin) (by have h1:=HQ1.out.1;have h2:=HP100.out;omega)
       rw[HQ1.out.1]at hon
       have HBD2:Hid (onP (rO s cs) (rE s cs) ms ⟨kd,sk,rs⟩ Q1 i=none->PR=(4,[])):=fun h=>HBD.out (by rw[HOR.out];exact zot (by rw[HQ1.out.1];exact hin) h)
       have zgv:Hid (∀R nx,onP (rO s cs) (rE s cs) ms ⟨kd,sk,rs⟩ Q1 i=some (R,nx)->O=ruQ (rO s cs) (rE s cs) ms ⟨kd,sk,rs⟩ R nx/\R.length=P.length/\naL R=naL P/\(i:Int)<nx/\nx<=(P.length:Int)+(i:Int)+1):=fun R nx h=>by
        obtain⟨h1,h2,h3,h4⟩:=zfm h zxq.out
        refine⟨by rw[HOR.out];exact zt3 zxq.out (by rw[HQ1.out.1];exact hin) h,by rw[h1];exact HQ1.out.1,by rw[h2];exact HQ1.out.2,h3,?_⟩
        rw[HQ1.out.1]at h4
        exact h4
       have HMT:Hid (mvB kd=true):=zhg.2 HK5.out
       generalize onP (rO s cs) (rE s cs) ms ⟨kd,sk,rs⟩ Q1 i=D at hon HBD2 zgv
       clear HOR HBD zxq HPM2 HLZ HQ1 hBZ X1 hrs
       refine wp_region_held_drew (S:=fun v=>(v.cell? ⟨kb,ko+k*3,none⟩=some (.int .i64 kd)/\v.cell? ⟨kb,ko+k*3+1,none⟩=some (.bool sk)/\v.cell? ⟨kb,ko+k*3+2,none⟩=some (.slice ra rs.length rc))/\v.cell? ⟨w.heap.size,0,none⟩=some (.slice ga s.rg.length gc)/\v.cell? ⟨w.heap.size,1,none⟩=some (.slice ma s.rw.length mc)/\v.cell? ⟨w.heap.size,2,none⟩=some (.slice ka ms.length kc)/\v.cell? ⟨w.heap.size,3,none⟩=some (.slice pa cs.length pc)) (by kernel_rfl) ⟨⟨e0,e1,e2⟩,x0,x1,x2,x3⟩ (fun hH=>?_)
       refine hT 0 hH ?_;refine hT 1 hH ?_;refine hT 2 hH ?_;refine hT 3 hH ?_;refine hT 4 hH ?_;refine hT 5 hH ?_;refine hT 6 hH ?_
       refine hCall (i:=7) rfl (by kernel_rfl) (by rfl) (fun K hK=>?_)
       go_simp
       refine hon.mono ?_
       rintro e u2 ⟨hO,hb⟩
       have hUu:=hZd.trans (hb.mono hZd.size)
       have zaf:=hBD.trans (hb.mono hBD.size)
       have hS:Hid ((u2.cell? ⟨kb,ko+k*3,none⟩=some (.int .i64 kd)/\u2.cell? ⟨kb,ko+k*3+1,none⟩=some (.bool sk)/\u2.cell? ⟨kb,ko+k*3+2,none⟩=some (.slice ra rs.length rc))/\u2.cell? ⟨w.heap.size,0,none⟩=some (.slice ga s.rg.length gc)/\u2.cell? ⟨w.heap.size,1,none⟩=some (.slice ma s.rw.length mc)/\u2.cell? ⟨w.heap.size,2,none⟩=some (.slice ka ms.length kc)/\u2.cell? ⟨w.heap.size,3,none⟩=some (.slice pa cs.length pc)) :=
        ⟨⟨(hUu.cell (p:=⟨kb,ko+k*3,none⟩) hkb).trans e0,(hUu.cell (p:=⟨kb,ko+k*3+1,none⟩) hkb).trans e1,(hUu.cell (p:=⟨kb,ko+k*3+2,none⟩) hkb).trans e2⟩,(hUu.cell (p:=⟨w.heap.size,0,none⟩) hsl).trans x0,(hUu.cell (p:=⟨w.heap.size,1,none⟩) hsl).trans x1,(hUu.cell (p:=⟨w.heap.size,2,none⟩) hsl).trans x2,(hUu.cell (p:=⟨w.heap.size,3,none⟩) hsl).trans x3⟩
       clear hon hb hUu hH x0 x1 x2 x3 e0 e1 e2 hkb hsl hZd hBD
       cases D with
       | none =>
        have he:=hO.no rfl
        subst he
        have HV:Hid (∀U,PaS PR U (.returned (.tuple #[.slice none 0 0,.int .i64 4]))):=fun U=>PaS.nil (HBD2.out rfl)
        have hBw:=HBW.out.trans (zaf.mono HBW.out.size)
        clear HBD2 zgv HON hO
        go_wp2_with fail
        refine hK.out _ _ hS.out (fun hH=>?_)
        clear hK K
        try simp only[Act.put,pZ]
        refine hT 8 hH ?_;refine hT 9 hH ?_;refine hT 10 hH ?_;refine hT 11 hH ?_;refine hT 12 hH ?_;refine hT 13 hH ?_;refine hT 14 hH ?_
        refine wpAnyH_done (by kernel_rfl) ?_ _
        clear hH hS;go_wp2
        go_ret2
        exact⟨HV.out _,hBw⟩
       | some q =>
        obtain⟨R,nx⟩:=q
        obtain⟨h1,h2,h3,h4,h5⟩:=zgv.out R nx rfl
        obtain⟨va3,vc3,he,hgr⟩:=hO.ok R nx rfl
        rw[h2]at he
        obtain⟨j,rfl⟩:∃j:Nat,nx=(j:Int):=⟨nx.toNat,by omega⟩
        subst he
        have HOR:Hid (O=if mvB kd then ruQ (rO s cs) (rE s cs) ms ⟨kd,sk,rs⟩ R (j:Int)else some R):=by show _=_;rw[if_pos HMT.out];exact h1
        have HRR:Hid (R.length=P.length/\naL R=naL P):=⟨h2,h3⟩
        have HLR:Hid (Gr PdE (fun _=>False) u2 va3 vc3 R):=hgr
        have i8:j<=3*P.length+3:=by omega
        have i9:i<j:=by omega
        clear HBD2 zgv hO h1 h2 h3 h4 h5 hgr
        go_wp2_with fail
        refine hK.out _ _ hS.out (fun hH=>?_)
        clear hK K
        try simp only[Act.put,pZ]
        refine hT 8 hH ?_;refine hT 9 hH ?_;refine hT 10 hH ?_;refine hT 11 hH ?_;refine hT 12 hH ?_;refine hT 13 hH ?_;refine hT 14 hH ?_
        refine wpAnyH_done (by kernel_rfl) ?_ _
        clear hH hS;go_wp2
        go_roundw
        case rel=>exact⟨R,va3,vc3,j,rfl,rfl,i8,HOR,HRR,HLR,zaf⟩
        case measure=>simp[intOf];omega
