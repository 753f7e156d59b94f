import Derived.Test.YtgbhidcokobmmaaGreatDoorZL18
import Derived.Laws.Cover1
set_option maxHeartbeats 8000000
set_option maxRecDepth 100000
set_option linter.unusedSimpArgs false
set_option linter.unusedVariables false
namespace Go.Proofs.YtgbhidcokobmmaaGreatDoor
open Go.RowKit Go.Maps
def nmE(re:Int×Int->Int)(r:Ru):Int:=if re r.x=0 then (if re r.y=0 then re r.w else re r.y)else re r.x
def nmL(ro re:Int×Int->Int)(r:Ru):List Int:=if nmE re r=0 then [ro r.x,ro r.y,ro r.w]else [0,0,0]
def rO(s:Sr)(cs:List Int)(p:Int×Int):Int:=roN s p.1 p.2 cs
def rE(s:Sr)(cs:List Int)(p:Int×Int):Int:=roE s p.1 p.2 cs
theorem roN_i(s:Sr)(x r:Int)(cs:List Int):-32768<=roN s x r cs/\roN s x r cs<=32767:=by
 unfold roN fldN
 repeat' split
 all_goals omega
theorem zox{s:Sr}{x r:Int}{cs:List Int}(h:fiS s x r=true):roE s x r cs=0\/roE s x r cs=4:=by
 unfold roE
 rw[h,if_pos rfl]
 unfold fldE
 split
 . exact .inl rfl
 . exact .inr rfl
theorem zvk{s:Sr}{x:Int}{cs:List Int}(h:fiS s x (-1)=true):roN s x (-1) cs=x/\roE s x (-1) cs=0:=by
 have hb:=(zwv.1 h).1
 have hr:rwB s (-1)=false:=by unfold rwB;simp
 have e:vaQ s x (-1) cs=((x:Int):Rat):=by rw[vaQ,zgp hr,Rat.add_zero]
 unfold roN roE
 rw[h,if_pos rfl,if_pos rfl,e]
 exact zwt hb.1 hb.2
def v3(l:List Int):List Value:=[.int .i64 (l.getD 0 0),.int .i64 (l.getD 1 0),.int .i64 (l.getD 2 0)]
theorem Bk.three3{t:TypeId}{w:World}{g:Nat}{x y z:Value}(h:Bk t w g [x,y,z]):(w.cell? ⟨g,0,none⟩=some x/\w.cell? ⟨g,1,none⟩=some y/\w.cell? ⟨g,2,none⟩=some z)/\(w.frozen? ⟨g,0,none⟩=false/\w.frozen? ⟨g,1,none⟩=false/\w.frozen? ⟨g,2,none⟩=false) :=
 ⟨⟨h.cell 0 (by simp),h.cell 1 (by simp),h.cell 2 (by simp)⟩,h.fz 0,h.fz 1,h.fz 2⟩
theorem Bk.set3{t:TypeId}{w:World}{g:Nat}{x y z:Value}(h:Bk t w g [x,y,z])(x' y' z':Value):Bk t (((w.setCell ⟨g,0,none⟩ x').setCell ⟨g,1,none⟩ y').setCell ⟨g,2,none⟩ z') g [x',y',z']:=((h.set 0 x').set 1 y').set 2 z'
theorem zd3{B g:Nat}{a w:World}(h:Below B a w)(hb:B<=g)(x' y' z':Value):Below B a (((w.setCell ⟨g,0,none⟩ x').setCell ⟨g,1,none⟩ y').setCell ⟨g,2,none⟩ z') :=
 ((h.setCell (p:=⟨g,0,none⟩) hb x').setCell (p:=⟨g,1,none⟩) hb y').setCell (p:=⟨g,2,none⟩) hb z'
theorem Bk.six21{t:TypeId}{w:World}{g:Nat}{x y z u v r:Value}(h:Bk t w g [x,y,z,u,v,r]):w.cell? ⟨g,0,none⟩=some x/\w.cell? ⟨g,1,none⟩=some y/\w.cell? ⟨g,2,none⟩=some z/\w.cell? ⟨g,3,none⟩=some u/\w.cell? ⟨g,4,none⟩=some v/\w.cell? ⟨g,5,none⟩=some r :=
 ⟨h.cell 0 (by simp),h.cell 1 (by simp),h.cell 2 (by simp),h.cell 3 (by simp),h.cell 4 (by simp),h.cell 5 (by simp)⟩
def dn3(ro:Int×Int->Int)(r:Ru)(k:Nat):List Value:=[.int .i64 (if 0<k then ro r.x else 0),.int .i64 (if 1<k then ro r.y else 0),.int .i64 (if 2<k then ro r.w else 0)]
theorem zj2(ga:Option Addr)(gc:Nat)(ma:Option Addr)(mc:Nat)(s:Sr)(ka:Option Addr)(kc:Nat)(ms:List Bool)(pa:Option Addr)(pc:Nat)(cs:List Int)(la:Option Addr)(pn lc:Nat)(na:Option Addr)(nn nc:Nat)
    (a1:Option Addr) (c1:Nat) (a2:Option Addr) (c2:Nat) (inn out:List Int) (ap lk x1 x2 y1 y2 w1 w2:Int) (w:World) (hg:Tzz w ga gc s.rg) (hm:Rii w ma mc s.rw) (hp:Ri w pa pc cs) (h40:s.rg.length<=40) (h8:∀l∈s.rg,l.length<=8)
    (hx:I64 x1/\I64 x2) (hy:I64 y1/\I64 y2) (hw:I64 w1/\I64 w2) :
    Calls Tryz.prog 130 #[.agg #[.slice ga s.rg.length gc,.slice ma s.rw.length mc,.slice ka ms.length kc,.slice pa cs.length pc,.slice la pn lc,.slice na nn nc],.agg #[.slice a1 inn.length c1,.slice a2 out.length c2,.int .i64 ap,.int .i64 lk,.int .i64 x1,.int .i64 x2,.int .i64 y1,.int .i64 y2,.int .i64 w1,.int .i64 w2]] w fun e w'=>e=.returned (.tuple #[.agg (v3 (nmL (rO s cs) (rE s cs) ⟨inn,out,ap,lk,(x1,x2),(y1,y2),(w1,w2)⟩)).toArray,.int .i64 (nmE (rE s cs) ⟨inn,out,ap,lk,(x1,x2),(y1,y2),(w1,w2)⟩)])/\Below w.heap.size w w':=by
 obtain⟨W,hW⟩:∃W,W=(((w.alloc (.cells #[.slice ga s.rg.length gc,.slice ma s.rw.length mc,.slice ka ms.length kc,.slice pa cs.length pc,.slice la pn lc,.slice na nn nc] 119)).alloc (.cells #[.slice a1 inn.length c1,.slice a2 out.length c2,.int .i64 ap,.int .i64 lk,.int .i64 x1,.int .i64 x2,.int .i64 y1,.int .i64 y2,.int .i64 w1,.int .i64 w2] 131)).alloc (.cells #[.int .i64 0,.int .i64 0,.int .i64 0] 199)).alloc (.cells #[.int .i64 0,.int .i64 0,.int .i64 0] 199):=⟨_,rfl⟩
 obtain⟨X1,X2,X3,X4,hbW⟩:=new4B w 119 131 199 199 [.slice ga s.rg.length gc,.slice ma s.rw.length mc,.slice ka ms.length kc,.slice pa cs.length pc,.slice la pn lc,.slice na nn nc] (ruV a1 c1 a2 c2 ⟨inn,out,ap,lk,(x1,x2),(y1,y2),(w1,w2)⟩) [.int .i64 0,.int .i64 0,.int .i64 0] [.int .i64 0,.int .i64 0,.int .i64 0] W hW
 have hrd:∀U,Below w.heap.size w U->∀a b:Int,(I64 a/\I64 b)->Calls Tryz.prog 21 #[.agg #[.slice ga s.rg.length gc,.slice ma s.rw.length mc],.agg #[.int .i64 a,.int .i64 b],.slice pa cs.length pc] U fun e w'=>e=.returned (.tuple #[.int .i64 (rO s cs (a,b)),.int .i64 (rE s cs (a,b))])/\Below U.heap.size U w':=fun U hU a b hab =>
  zet ga gc ma mc s a b pa pc cs U (hg.below hU) (hm.below hU) (hp.below hU) hab.1 hab.2 h40 h8
 have HRD:Hid (∀U,Below w.heap.size w U->∀a b:Int,(I64 a/\I64 b)->Calls Tryz.prog 21 #[.agg #[.slice ga s.rg.length gc,.slice ma s.rw.length mc],.agg #[.int .i64 a,.int .i64 b],.slice pa cs.length pc] U fun e w'=>e=.returned (.tuple #[.int .i64 (rO s cs (a,b)),.int .i64 (rE s cs (a,b))])/\Below U.heap.size U w'):=hrd
 have HI:Hid ((I64 x1/\I64 x2)/\(I64 y1/\I64 y2)/\(I64 w1/\I64 w2)):=⟨hx,hy,hw⟩
 have HDE:Hid (nmE (rE s cs) ⟨inn,out,ap,lk,(x1,x2),(y1,y2),(w1,w2)⟩=if rE s cs (x1,x2)=0 then (if rE s cs (y1,y2)=0 then rE s cs (w1,w2)else rE s cs (y1,y2))else rE s cs (x1,x2)):=rfl
 have HDL:Hid (nmL (rO s cs) (rE s cs) ⟨inn,out,ap,lk,(x1,x2),(y1,y2),(w1,w2)⟩=if nmE (rE s cs) ⟨inn,out,ap,lk,(x1,x2),(y1,y2),(w1,w2)⟩=0 then [rO s cs (x1,x2),rO s cs (y1,y2),rO s cs (w1,w2)]else [0,0,0]):=rfl
 generalize nmL (rO s cs) (rE s cs) ⟨inn,out,ap,lk,(x1,x2),(y1,y2),(w1,w2)⟩=NL at HDL ⊢
 generalize nmE (rE s cs) ⟨inn,out,ap,lk,(x1,x2),(y1,y2),(w1,w2)⟩=NE at HDE HDL ⊢
 obtain⟨q0,q1,q2,q3,q4,q5,q6,q7,q8,q9⟩:=X2.ru;dsimp only at q0 q1 q2 q3 q4 q5 q6 q7 q8 q9;clear hg hm hp hrd hx hy hw X2
 go_enter Tryz.func130,Tryz.ntmps130
 go_upto_region 2 with fail
 rw[<-hW];clear hW
 have X3:Bk 199 W (w.heap.size+1+1) [.int .i64 0,.int .i64 0,.int .i64 0]:=X3
 have X4:Bk 199 W (w.heap.size+1+1+1) [.int .i64 0,.int .i64 0,.int .i64 0]:=X4
 obtain⟨g,hgg⟩:∃g,w.heap.size+1+1+1=g:=⟨_,rfl⟩
 rw[hgg]at X4 ⊢
 obtain⟨g2,hg2⟩:∃g2,w.heap.size+1+1=g2:=⟨_,rfl⟩
 have HGG:Hid (w.heap.size+3=g/\w.heap.size+1+1=g2):=⟨hgg,hg2⟩
 rw[hg2]at X3 ⊢;clear hgg hg2;go_wp2;clear q0 q1 q2 q3 q4 q5 q6 q7 q8 q9
 go_loopw [18] (fun i wr=>∃k:Nat,k<=3/\i=.int .i64 k/\Hid (0<k->rE s cs (x1,x2)=0)/\Hid (1<k->rE s cs (y1,y2)=0)/\Hid (2<k->rE s cs (w1,w2)=0)/\Bk 199 wr g (dn3 (rO s cs) ⟨inn,out,ap,lk,(x1,x2),(y1,y2),(w1,w2)⟩ k)/\Bk 199 wr g2 [.int .i64 0,.int .i64 0,.int .i64 0]/\Bk 119 wr w.heap.size [.slice ga s.rg.length gc,.slice ma s.rw.length mc,.slice ka ms.length kc,.slice pa cs.length pc,.slice la pn lc,.slice na nn nc]/\Below w.heap.size w wr) (fun i _=>3-(intOf i).toNat)
 case atStart=>exact⟨0,Nat.zero_le _,rfl,(fun h=>absurd h (by decide)),(fun h=>absurd h (by decide)),(fun h=>absurd h (by decide)),X4,X3,X1,hbW⟩
 case round =>
  clear X1 X3 X4 hbW;obtain⟨k,hk,rfl,HE0,HE1,HE2,hY,hX3,hX1,hB⟩:=hrel
  by_cases hk3:k<3
  . obtain rfl | rfl | rfl:k=0\/k=1\/k=2:=by omega
    . have hro:=HRD.out
      have ix:∀w:World,(Instr.index 237 (.agg #[.int .i64 x1,.int .i64 x2,.int .i64 y1,.int .i64 y2,.int .i64 w1,.int .i64 w2]) (.int .i64 0)).run Tryz.prog w=.ok (.agg #[.int .i64 x1,.int .i64 x2]) w:=fun _=>by kernel_rfl
      have HNE:Hid (rE s cs (x1,x2)≠0->NE=rE s cs (x1,x2)):=fun h=>by rw[HDE.out,if_neg h]
      have hYc:Bk 199 wr g [.int .i64 0,.int .i64 0,.int .i64 0]:=hY
      have HYN:Hid (∀u,Bk 199 u g [.int .i64 0,.int .i64 0,.int .i64 0]->Bk 199 (u.setCell ⟨g,0,none⟩ (.int .i64 (rO s cs (x1,x2)))) g (dn3 (rO s cs) ⟨inn,out,ap,lk,(x1,x2),(y1,y2),(w1,w2)⟩ 1)):=fun u h=>h.set 0 _
      have HE3:Hid (rE s cs (x1,x2)=0->(0<1->rE s cs (x1,x2)=0)/\(1<1->rE s cs (y1,y2)=0)/\(2<1->rE s cs (w1,w2)=0)):=fun h=>⟨fun _=>h,fun h2=>absurd h2 (by decide),fun h2=>absurd h2 (by decide)⟩
      obtain⟨U,hU,XG,hbU⟩:∃U,U=wr.alloc (.cells #[.int .i64 x1,.int .i64 x2] 62)/\Bk 62 U wr.heap.size [.int .i64 x1,.int .i64 x2]/\Below wr.heap.size wr U:=⟨_,rfl,Bk.new _ _ _,bl1 _⟩
      have hBU:=hB.trans (hbU.mono hB.size)
      have hro:=HRD.out U hBU x1 x2 HI.out.1
      generalize rO s cs (x1,x2)=zn at hro HYN HDL
      generalize rE s cs (x1,x2)=ze at hro HNE HE3 HDE
      replace hYc:=hYc.below hbU;replace hX3:=hX3.below hbU;replace hX1:=hX1.below hbU;obtain⟨y0,y1',-⟩:=XG.two;obtain⟨m0,m1,m2,m3,m4,m5⟩:=hX1.six21
      go_upto_region 5 with fail
      rw[<-hU];clear hU hbU hB hY
      go_wp2_with fail
      refine hro.mono ?_
      rintro e u ⟨rfl,hb⟩;replace hYc:=hYc.below hb;replace hX3:=hX3.below hb;replace hX1:=hX1.below hb
      have hB:=hBU.trans (hb.mono hBU.size)
      clear hro hb y0 y1' m0 m1 m2 m3 m4 m5 XG hBU
      by_cases hze:ze=0
      rotate_left
      . have HF:Hid (NE=ze/\NL=[0,0,0]):=⟨HNE.out hze,by rw[HDL.out,if_neg (by rw[HNE.out hze];exact hze)]⟩
        have g1:(ze != 0)=true:=bne_iff_ne.2 hze
        obtain⟨⟨z0,z1,z2⟩,f0,f1,f2⟩:=hX3.three3
        obtain⟨V,hV⟩:∃V,V=(((u.setCell ⟨g2,0,none⟩ (.int .i64 0)).setCell ⟨g2,1,none⟩ (.int .i64 0)).setCell ⟨g2,2,none⟩ (.int .i64 0)):=⟨_,rfl⟩
        have A:=hX3.set3 (.int .i64 0) (.int .i64 0) (.int .i64 0)
        have hbV:=zd3 hB (g:=g2) (by have:=HGG.out;omega) (.int .i64 0) (.int .i64 0) (.int .i64 0)
        rw[<-hV]at A hbV;clear HNE HE3 HYN hze hYc hX1;go_wp2;rw[<-hV];clear hV
        (try simp only[Exit.inBlock,Exit.then])
        refine bodyPost_ret (v:=.tuple #[.agg #[.int .i64 0,.int .i64 0,.int .i64 0],.int .i64 ze]) (by obtain⟨⟨r0,r1,r2⟩,_⟩:=A.three3;simp[results,Tryz.results130,go_sem,r0,r1,r2]) rfl ⟨by rw[HF.out.1,HF.out.2];rfl,hbV⟩
      subst hze
      obtain⟨hE0,hE1,hE2⟩:=HE3.out rfl
      have HA0:Hid (_->_):=hE0
      have HA1:Hid (_->_):=hE1
      have HA2:Hid (_->_):=hE2
      obtain⟨-,f0,f1,f2⟩:=hYc.three3;obtain⟨⟨c0,c1',c2'⟩,-⟩:=hYc.three3
      have HY2:Hid (Bk 199 (u.setCell ⟨g,0,none⟩ (.int .i64 zn)) g _):=HYN.out u hYc
      have zzs:Hid (Bk 199 (u.setCell ⟨g,0,none⟩ (.int .i64 zn)) g2 [.int .i64 0,.int .i64 0,.int .i64 0]):=hX3.other 0 _ (by have:=HGG.out;omega)
      have zzt:Hid (Bk 119 (u.setCell ⟨g,0,none⟩ (.int .i64 zn)) w.heap.size [.slice ga s.rg.length gc,.slice ma s.rw.length mc,.slice ka ms.length kc,.slice pa cs.length pc,.slice la pn lc,.slice na nn nc]):=hX1.other 0 _ (by have:=HGG.out;omega)
      have HB2:Hid (Below w.heap.size w (u.setCell ⟨g,0,none⟩ (.int .i64 zn))):=hB.setCell (p:=⟨g,0,none⟩) (by show w.heap.size<=g;have:=HGG.out;omega) _
      clear HNE HE3 HYN hYc hX3 hX1 hB hE0 hE1 hE2;go_wp2
      go_roundw
      case rel=>exact⟨1,by omega,rfl,HA0,HA1,HA2,HY2.out,zzs.out,zzt.out,HB2.out⟩
      case measure=>simp[intOf]
    . have hro:=HRD.out
      have ix:∀w:World,(Instr.index 237 (.agg #[.int .i64 x1,.int .i64 x2,.int .i64 y1,.int .i64 y2,.int .i64 w1,.int .i64 w2]) (.int .i64 1)).run Tryz.prog w=.ok (.agg #[.int .i64 y1,.int .i64 y2]) w:=fun _=>by kernel_rfl
      have HNE:Hid (rE s cs (y1,y2)≠0->NE=rE s cs (y1,y2)):=fun h=>by rw[HDE.out,if_pos (HE0.out (by decide)),if_neg h]
      have hYc:Bk 199 wr g [.int .i64 (rO s cs (x1,x2)),.int .i64 0,.int .i64 0]:=hY
      have HYN:Hid (∀u,Bk 199 u g [.int .i64 (rO s cs (x1,x2)),.int .i64 0,.int .i64 0]->Bk 199 (u.setCell ⟨g,1,none⟩ (.int .i64 (rO s cs (y1,y2)))) g (dn3 (rO s cs) ⟨inn,out,ap,lk,(x1,x2),(y1,y2),(w1,w2)⟩ 2)):=fun u h=>h.set 1 _
      have HE3:Hid (rE s cs (y1,y2)=0->(0<2->rE s cs (x1,x2)=0)/\(1<2->rE s cs (y1,y2)=0)/\(2<2->rE s cs (w1,w2)=0)):=fun h=>⟨fun _=>HE0.out (by decide),fun _=>h,fun h2=>absurd h2 (by decide)⟩
      obtain⟨U,hU,XG,hbU⟩:∃U,U=wr.alloc (.cells #[.int .i64 y1,.int .i64 y2] 62)/\Bk 62 U wr.heap.size [.int .i64 y1,.int .i64 y2]/\Below wr.heap.size wr U:=⟨_,rfl,Bk.new _ _ _,bl1 _⟩
      have hBU:=hB.trans (hbU.mono hB.size)
      have hro:=HRD.out U hBU y1 y2 HI.out.2.1
      generalize rO s cs (y1,y2)=zn at hro HYN HDL
      generalize rE s cs (y1,y2)=ze at hro HNE HE3 HDE
      replace hYc:=hYc.below hbU;replace hX3:=hX3.below hbU;replace hX1:=hX1.below hbU;obtain⟨y0,y1',-⟩:=XG.two;obtain⟨m0,m1,m2,m3,m4,m5⟩:=hX1.six21
      go_upto_region 5 with fail
      rw[<-hU];clear hU hbU hB hY
      go_wp2_with fail
      refine hro.mono ?_
      rintro e u ⟨rfl,hb⟩;replace hYc:=hYc.below hb;replace hX3:=hX3.below hb;replace hX1:=hX1.below hb
      have hB:=hBU.trans (hb.mono hBU.size)
      clear hro hb y0 y1' m0 m1 m2 m3 m4 m5 XG hBU
      by_cases hze:ze=0
      rotate_left
      . have HF:Hid (NE=ze/\NL=[0,0,0]):=⟨HNE.out hze,by rw[HDL.out,if_neg (by rw[HNE.out hze];exact hze)]⟩
        have g1:(ze != 0)=true:=bne_iff_ne.2 hze
        obtain⟨⟨z0,z1,z2⟩,f0,f1,f2⟩:=hX3.three3
        obtain⟨V,hV⟩:∃V,V=(((u.setCell ⟨g2,0,none⟩ (.int .i64 0)).setCell ⟨g2,1,none⟩ (.int .i64 0)).setCell ⟨g2,2,none⟩ (.int .i64 0)):=⟨_,rfl⟩
        have A:=hX3.set3 (.int .i64 0) (.int .i64 0) (.int .i64 0)
        have hbV:=zd3 hB (g:=g2) (by have:=HGG.out;omega) (.int .i64 0) (.int .i64 0) (.int .i64 0)
        rw[<-hV]at A hbV;clear HNE HE3 HYN hze hYc hX1;go_wp2;rw[<-hV];clear hV
        (try simp only[Exit.inBlock,Exit.then])
        refine bodyPost_ret (v:=.tuple #[.agg #[.int .i64 0,.int .i64 0,.int .i64 0],.int .i64 ze]) (by obtain⟨⟨r0,r1,r2⟩,_⟩:=A.three3;simp[results,Tryz.results130,go_sem,r0,r1,r2]) rfl ⟨by rw[HF.out.1,HF.out.2];rfl,hbV⟩
      subst hze
      obtain⟨hE0,hE1,hE2⟩:=HE3.out rfl
      have HA0:Hid (_->_):=hE0
      have HA1:Hid (_->_):=hE1
      have HA2:Hid (_->_):=hE2
      obtain⟨-,f0,f1,f2⟩:=hYc.three3;obtain⟨⟨c0,c1',c2'⟩,-⟩:=hYc.three3
      have HY2:Hid (Bk 199 (u.setCell ⟨g,1,none⟩ (.int .i64 zn)) g _):=HYN.out u hYc
      have zzs:Hid (Bk 199 (u.setCell ⟨g,1,none⟩ (.int .i64 zn)) g2 [.int .i64 0,.int .i64 0,.int .i64 0]):=hX3.other 1 _ (by have:=HGG.out;omega)
      have zzt:Hid (Bk 119 (u.setCell ⟨g,1,none⟩ (.int .i64 zn)) w.heap.size [.slice ga s.rg.length gc,.slice ma s.rw.length mc,.slice ka ms.length kc,.slice pa cs.length pc,.slice la pn lc,.slice na nn nc]):=hX1.other 1 _ (by have:=HGG.out;omega)
      have HB2:Hid (Below w.heap.size w (u.setCell ⟨g,1,none⟩ (.int .i64 zn))):=hB.setCell (p:=⟨g,1,none⟩) (by show w.heap.size<=g;have:=HGG.out;omega) _
      clear HNE HE3 HYN hYc hX3 hX1 hB hE0 hE1 hE2;go_wp2
      go_roundw
      case rel=>exact⟨2,by omega,rfl,HA0,HA1,HA2,HY2.out,zzs.out,zzt.out,HB2.out⟩
      case measure=>simp[intOf]
    . have hro:=HRD.out
      have ix:∀w:World,(Instr.index 237 (.agg #[.int .i64 x1,.int .i64 x2,.int .i64 y1,.int .i64 y2,.int .i64 w1,.int .i64 w2]) (.int .i64 2)).run Tryz.prog w=.ok (.agg #[.int .i64 w1,.int .i64 w2]) w:=fun _=>by kernel_rfl
      have HNE:Hid (rE s cs (w1,w2)≠0->NE=rE s cs (w1,w2)):=fun h=>by rw[HDE.out,if_pos (HE0.out (by decide)),if_pos (HE1.out (by decide))]
      have hYc:Bk 199 wr g [.int .i64 (rO s cs (x1,x2)),.int .i64 (rO s cs (y1,y2)),.int .i64 0]:=hY
      have HYN:Hid (∀u,Bk 199 u g [.int .i64 (rO s cs (x1,x2)),.int .i64 (rO s cs (y1,y2)),.int .i64 0]->Bk 199 (u.setCell ⟨g,2,none⟩ (.int .i64 (rO s cs (w1,w2)))) g (dn3 (rO s cs) ⟨inn,out,ap,lk,(x1,x2),(y1,y2),(w1,w2)⟩ 3)):=fun u h=>h.set 2 _
      have HE3:Hid (rE s cs (w1,w2)=0->(0<3->rE s cs (x1,x2)=0)/\(1<3->rE s cs (y1,y2)=0)/\(2<3->rE s cs (w1,w2)=0)):=fun h=>⟨fun _=>HE0.out (by decide),fun _=>HE1.out (by decide),fun _=>h⟩
      obtain⟨U,hU,XG,hbU⟩:∃U,U=wr.alloc (.cells #[.int .i64 w1,.int .i64 w2] 62)/\Bk 62 U wr.heap.size [.int .i64 w1,.int .i64 w2]/\Below wr.heap.size wr U:=⟨_,rfl,Bk.new _ _ _,bl1 _⟩
      have hBU:=hB.trans (hbU.mono hB.size)
      have hro:=HRD.out U hBU w1 w2 HI.out.2.2
      generalize rO s cs (w1,w2)=zn at hro HYN HDL
      generalize rE s cs (w1,w2)=ze at hro HNE HE3 HDE
      replace hYc:=hYc.below hbU;replace hX3:=hX3.below hbU;replace hX1:=hX1.below hbU;obtain⟨y0,y1',-⟩:=XG.two;obtain⟨m0,m1,m2,m3,m4,m5⟩:=hX1.six21
      go_upto_region 5 with fail
      rw[<-hU];clear hU hbU hB hY
      go_wp2_with fail
      refine hro.mono ?_
      rintro e u ⟨rfl,hb⟩;replace hYc:=hYc.below hb;replace hX3:=hX3.below hb;replace hX1:=hX1.below hb
      have hB:=hBU.trans (hb.mono hBU.size)
      clear hro hb y0 y1' m0 m1 m2 m3 m4 m5 XG hBU
      by_cases hze:ze=0
      rotate_left
      . have HF:Hid (NE=ze/\NL=[0,0,0]):=⟨HNE.out hze,by rw[HDL.out,if_neg (by rw[HNE.out hze];exact hze)]⟩
        have g1:(ze != 0)=true:=bne_iff_ne.2 hze
        obtain⟨⟨z0,z1,z2⟩,f0,f1,f2⟩:=hX3.three3
        obtain⟨V,hV⟩:∃V,V=(((u.setCell ⟨g2,0,none⟩ (.int .i64 0)).setCell ⟨g2,1,none⟩ (.int .i64 0)).setCell ⟨g2,2,none⟩ (.int .i64 0)):=⟨_,rfl⟩
        have A:=hX3.set3 (.int .i64 0) (.int .i64 0) (.int .i64 0)
        have hbV:=zd3 hB (g:=g2) (by have:=HGG.out;omega) (.int .i64 0) (.int .i64 0) (.int .i64 0)
        rw[<-hV]at A hbV;clear HNE HE3 HYN hze hYc hX1;go_wp2;rw[<-hV];clear hV
        (try simp only[Exit.inBlock,Exit.then])
        refine bodyPost_ret (v:=.tuple #[.agg #[.int .i64 0,.int .i64 0,.int .i64 0],.int .i64 ze]) (by obtain⟨⟨r0,r1,r2⟩,_⟩:=A.three3;simp[results,Tryz.results130,go_sem,r0,r1,r2]) rfl ⟨by rw[HF.out.1,HF.out.2];rfl,hbV⟩
      subst hze
      obtain⟨hE0,hE1,hE2⟩:=HE3.out rfl
      have HA0:Hid (_->_):=hE0
      have HA1:Hid (_->_):=hE1
      have HA2:Hid (_->_):=hE2
      obtain⟨-,f0,f1,f2⟩:=hYc.three3;obtain⟨⟨c0,c1',c2'⟩,-⟩:=hYc.three3
      have HY2:Hid (Bk 199 (u.setCell ⟨g,2,none⟩ (.int .i64 zn)) g _):=HYN.out u hYc
      have zzs:Hid (Bk 199 (u.setCell ⟨g,2,none⟩ (.int .i64 zn)) g2 [.int .i64 0,.int .i64 0,.int .i64 0]):=hX3.other 2 _ (by have:=HGG.out;omega)
      have zzt:Hid (Bk 119 (u.setCell ⟨g,2,none⟩ (.int .i64 zn)) w.heap.size [.slice ga s.rg.length gc,.slice ma s.rw.length mc,.slice ka ms.length kc,.slice pa cs.length pc,.slice la pn lc,.slice na nn nc]):=hX1.other 2 _ (by have:=HGG.out;omega)
      have HB2:Hid (Below w.heap.size w (u.setCell ⟨g,2,none⟩ (.int .i64 zn))):=hB.setCell (p:=⟨g,2,none⟩) (by show w.heap.size<=g;have:=HGG.out;omega) _
      clear HNE HE3 HYN hYc hX3 hX1 hB hE0 hE1 hE2;go_wp2
      go_roundw
      case rel=>exact⟨3,by omega,rfl,HA0,HA1,HA2,HY2.out,zzs.out,zzt.out,HB2.out⟩
      case measure=>simp[intOf]
  . obtain rfl:k=3:=by omega
    have h0:=HE0.out (by decide)
    have h1:=HE1.out (by decide)
    have h2:=HE2.out (by decide)
    have HF:Hid (NE=0/\NL=[rO s cs (x1,x2),rO s cs (y1,y2),rO s cs (w1,w2)]):=by
     have e:NE=0:=by rw[HDE.out,if_pos h0,if_pos h1];exact h2
     exact⟨e,by rw[HDL.out,if_pos e]⟩
    have hYc:Bk 199 wr g [.int .i64 (rO s cs (x1,x2)),.int .i64 (rO s cs (y1,y2)),.int .i64 (rO s cs (w1,w2))]:=hY
    generalize rO s cs (x1,x2)=m0 at hYc HF
    generalize rO s cs (y1,y2)=m1 at hYc HF
    generalize rO s cs (w1,w2)=m2 at hYc HF
    obtain⟨⟨s0,s1,s2⟩,-⟩:=hYc.three3;obtain⟨⟨z0,z1,z2⟩,f0,f1,f2⟩:=hX3.three3
    obtain⟨V,hV⟩:∃V,V=(((wr.setCell ⟨g2,0,none⟩ (.int .i64 m0)).setCell ⟨g2,1,none⟩ (.int .i64 m1)).setCell ⟨g2,2,none⟩ (.int .i64 m2)):=⟨_,rfl⟩
    have A:=hX3.set3 (.int .i64 m0) (.int .i64 m1) (.int .i64 m2)
    have hbV:=zd3 hB (g:=g2) (by have:=HGG.out;omega) (.int .i64 m0) (.int .i64 m1) (.int .i64 m2)
    rw[<-hV]at A hbV;clear hY hYc hX1 hX3 hB h0 h1 h2 HE0 HE1 HE2 HDE HDL;go_wp2;rw[<-hV];clear hV
    (try simp only[Exit.inBlock,Exit.then])
    refine bodyPost_ret (v:=.tuple #[.agg #[.int .i64 m0,.int .i64 m1,.int .i64 m2],.int .i64 0]) (by obtain⟨⟨r0,r1,r2⟩,_⟩:=A.three3;simp[results,Tryz.results130,go_sem,r0,r1,r2]) rfl ⟨by rw[HF.out.1,HF.out.2];rfl,hbV⟩
structure Fo where
 gl:List Gl
 s:Sr
 rn:List Rn
 lk:List Lk
 ft:List Ft
 sw:List Sw
def shB(x:Fo):Bool:=decide (x.gl.length<=65536)&&(foU x.lk (x.gl.length:Int)&&foM20 (fiS x.s) x.lk (x.gl.length:Int))
theorem zvg{x:Fo}:shB x=true↔x.gl.length<=65536/\foU x.lk (x.gl.length:Int)=true/\foM20 (fiS x.s) x.lk (x.gl.length:Int)=true:=by
 unfold shB
 rw[Bool.and_eq_true,Bool.and_eq_true,decide_eq_true_iff]
def mkG(l:List Gl):List Bool:=l.map Gl.mr
theorem zaw(l:List Gl):(mkG l).length=l.length:=by simp[mkG]
theorem zyf{l:List Gl}{k:Nat}(hk:k<l.length):(mkG l).getD k false=(l.getD k Gl.none).mr:=by simp[mkG,List.getD,hk]
theorem zsv{l:List Gl}{k:Nat}(hk:k<l.length):mkG (l.take (k+1))=mkG (l.take k)++[(l.getD k Gl.none).mr]:=by
 unfold mkG
 rw[List.getD_eq_getElem?_getD,List.getElem?_eq_getElem hk,Option.getD_some,List.take_succ_eq_append_getElem hk,List.map_append]
 rfl
def lnP(x:Fo)(cs:List Int)(t:List Nat)(on:List ByteArray):Int×List Int :=
 if shB x then (if 100<(mpC x.rn t).length then (3,[])else alP x.lk (mkG x.gl) (chFt x.ft x.sw cs on) (mpC x.rn t))else (1,[])
theorem zug{x:Fo}{cs:List Int}{t:List Nat}{on:List ByteArray}(h:shB x=false):lnP x cs t on=(1,[]):=by unfold lnP;rw[h];rfl
theorem zlt{x:Fo}{cs:List Int}{t:List Nat}{on:List ByteArray}(h:shB x=true)(h2:100<(mpC x.rn t).length):lnP x cs t on=(3,[]):=by unfold lnP;rw[if_pos h,if_pos h2]
theorem zj6{x:Fo}{cs:List Int}{t:List Nat}{on:List ByteArray}(h:shB x=true)(h2:¬100<(mpC x.rn t).length):lnP x cs t on=alP x.lk (mkG x.gl) (chFt x.ft x.sw cs on) (mpC x.rn t):=by unfold lnP;rw[if_pos h,if_neg h2]
theorem zzp{l:List Lk}{ms:List Bool}:∀(ks X:List Int),X.length<=100->(alP l ms ks X).2.length<=100:=by
 intro ks
 induction ks with
 | nil=>intro X h;exact h
 | cons k t ih =>
  intro X h
  rw[alP]
  by_cases h0:liE l ms k X=0
  . rw[if_pos h0]
    exact ih _ (li_le h0)
  . rw[if_neg h0]
    exact Nat.zero_le _
theorem zuh{x:Fo}{cs:List Int}{t:List Nat}{on:List ByteArray}:(lnP x cs t on).2.length<=100:=by
 unfold lnP
 by_cases h1:shB x=true
 . rw[if_pos h1]
   by_cases h2:100<(mpC x.rn t).length
   . rw[if_pos h2];exact Nat.zero_le _
   . rw[if_neg h2]
     exact zzp _ _ (by omega)
 . rw[if_neg h1];exact Nat.zero_le _
def avL(l:List Gl)(s:Sr)(cs L:List Int):List Int:=L.map (fun g=>avN l s g cs)
theorem zeh(l:List Gl)(s:Sr)(cs L:List Int):(avL l s cs L).length=L.length:=by simp[avL]
theorem zmf{l:List Gl}{s:Sr}{cs L:List Int}{k:Nat}(hk:k<L.length):avL l s cs (L.take (k+1))=avL l s cs (L.take k)++[avN l s (L.getD k 0) cs]:=by
 unfold avL
 rw[List.getD_eq_getElem?_getD,List.getElem?_eq_getElem hk,Option.getD_some,List.take_succ_eq_append_getElem hk,List.map_append]
 rfl
def avF(l:List Gl)(s:Sr)(cs:List Int):List Int->Int
 | []=>0
 | g::t=>if avE l s g cs=0 then avF l s cs t else avE l s g cs
theorem zu1{l:List Gl}{s:Sr}{cs L:List Int}{k:Nat}(hk:k<L.length)(h:avE l s (L.getD k 0) cs=0):avF l s cs (L.drop k)=avF l s cs (L.drop (k+1)):=by
 rw[List.getD_eq_getElem?_getD,List.getElem?_eq_getElem hk,Option.getD_some]at h
 rw[List.drop_eq_getElem_cons hk,avF,if_pos h]
theorem zrh{l:List Gl}{s:Sr}{cs L:List Int}{k:Nat}(hk:k<L.length)(h:avE l s (L.getD k 0) cs≠0):avF l s cs (L.drop k)=avE l s (L.getD k 0) cs:=by
 rw[List.getD_eq_getElem?_getD,List.getElem?_eq_getElem hk,Option.getD_some]at h ⊢
 rw[List.drop_eq_getElem_cons hk,avF,if_neg h]
theorem zri{l:List Gl}{s:Sr}{cs L:List Int}:avF l s cs (L.drop L.length)=0:=by rw[List.drop_length];rfl
def plP(x:Fo)(cs:List Int)(t:List Nat)(on:List ByteArray):Int×List Pd :=
 if (lnP x cs t on).1=0 then
  (if avF x.gl x.s cs (lnP x cs t on).2=0 then paEJ (fiS x.s) (rO x.s cs) (rE x.s cs) (mkG x.gl) x.lk (chFt x.ft x.sw cs on) (laL (lnP x cs t on).2 (avL x.gl x.s cs (lnP x cs t on).2))
  else (avF x.gl x.s cs (lnP x cs t on).2,[]))
 else ((lnP x cs t on).1,[])
theorem zlm{x:Fo}{cs:List Int}{t:List Nat}{on:List ByteArray}(h:(lnP x cs t on).1≠0):plP x cs t on=((lnP x cs t on).1,[]):=by unfold plP;rw[if_neg h]
theorem zo6{x:Fo}{cs:List Int}{t:List Nat}{on:List ByteArray}(h:(lnP x cs t on).1=0)(h2:avF x.gl x.s cs (lnP x cs t on).2≠0):plP x cs t on=(avF x.gl x.s cs (lnP x cs t on).2,[]):=by unfold plP;rw[if_pos h,if_neg h2]
theorem zo5{x:Fo}{cs:List Int}{t:List Nat}{on:List ByteArray}(h:(lnP x cs t on).1=0)(h2:avF x.gl x.s cs (lnP x cs t on).2=0):plP x cs t on=paEJ (fiS x.s) (rO x.s cs) (rE x.s cs) (mkG x.gl) x.lk (chFt x.ft x.sw cs on) (laL (lnP x cs t on).2 (avL x.gl x.s cs (lnP x cs t on).2)):=by unfold plP;rw[if_pos h,if_pos h2]
theorem zma(l:List Ft)(sw:List Sw)(cs:List Int):chFt l sw cs []=[]:=by
 unfold chFt
 generalize l.length=n
 induction n with
 | zero=>rfl
 | succ k ih=>rw[chT,ih];rfl
theorem zy7{g h z:Int}(hz:gyB g z=true)(hg:g<=h):gyB h z=true:=by rw[zdg]at hz ⊢;omega
theorem zx7{fi:Int->Int->Bool}{kd:Int}{sk:Bool}{r:Ru}{g h:Int}(hr:prB fi kd sk r g=true)(hg:g<=h):prB fi kd sk r h=true:=by
 unfold prB at hr ⊢
 rw[Bool.and_eq_true,Bool.and_eq_true]at hr ⊢
 refine⟨⟨hr.1.1,?_⟩,hr.2⟩
 rw[List.all_eq_true]
 exact fun z hz=>zy7 (List.all_eq_true.1 hr.1.2 z hz) hg
theorem ztf{fi:Int->Int->Bool}{l:List Lk}{g h:Int}(hf:foM20 fi l g=true)(hg:g<=h):foM20 fi l h=true:=by
 unfold foM20 at hf ⊢
 rw[Bool.and_eq_true,List.all_eq_true]at hf ⊢
 refine⟨hf.1,fun y hy=>?_⟩
 have h1:=hf.2 y hy
 unfold plF at h1 ⊢
 cases hm:mvB y.kd with
 | false=>rfl
 | true =>
  rw[hm]at h1
  simp only[Bool.not_true,Bool.false_or]at h1 ⊢
  rw[Bool.and_eq_true,List.all_eq_true]at h1 ⊢
  exact⟨h1.1,fun r hr=>zx7 (h1.2 r hr) hg⟩
theorem zv8{x:Fo}{cs:List Int}{t:List Nat}(h:shB x=true)(h2:¬100<(mpC x.rn t).length):lnP x cs t []=(0,mpC x.rn t):=by
 rw[zj6 h h2,zma]
 rfl
theorem zvs{x:Fo}{cs:List Int}{t:List Nat}(h:shB x=true)(h2:¬100<(mpC x.rn t).length):plP x cs t []=if avF x.gl x.s cs (mpC x.rn t)=0 then (0,laL (mpC x.rn t) (avL x.gl x.s cs (mpC x.rn t)))else (avF x.gl x.s cs (mpC x.rn t),[]):=by
 obtain⟨h3,_,h4⟩:=zvg.1 h
 unfold plP
 rw[zv8 h h2,if_pos rfl]
 show(if avF x.gl x.s cs (mpC x.rn t)=0 then _ else _)=_
 split
 . rw[zma]
   unfold paEJ
   rw[if_pos (ztf h4 (by omega)),if_neg (by rw[zdd];exact h2)]
   rfl
 . rfl
def suA(P:List Pd):Int:=(P.map Pd.a).sum
def wiP(P:List Pd):Int:=w6 (suA P)
theorem zr1{P:List Pd}{k:Nat}(hk:k<P.length):suA (P.take (k+1))=suA (P.take k)+(P.getD k Pd.none).a:=by
 unfold suA
 rw[List.getD_eq_getElem?_getD,List.getElem?_eq_getElem hk,Option.getD_some,List.take_succ_eq_append_getElem hk,List.map_append,List.sum_append]
 simp
theorem zk6{P:List Pd}{k:Nat}(hk:k<P.length):w6 (wiP (P.take k)+(P.getD k Pd.none).a)=wiP (P.take (k+1)):=by
 unfold wiP
 rw[ztz,zr1 hk]
theorem zt0{a b:ByteArray}(h:a≠b):(a.toList==b.toList)=false:=beq_eq_false_iff_ne.2 (fun e=>h (toList_inj e))
