import Derived.Test.YtkmcodofnckdmaaGreatZK36
set_option maxHeartbeats 8000000
set_option maxRecDepth 100000
set_option linter.unusedSimpArgs false
set_option linter.unusedVariables false
namespace Go.Proofs.YtkmcodofnckdmaaGreat
open Go.RowKit Go.Maps
theorem zzc{l:List Gl}{s:Sr}{ax:Int}(h:wrGE l s ax=0):∀x∈l,x.o.ps.length<=12:=fun x hx=>by
 have h1:=zf0.1 (za3.1 h).2.1 x hx
 rcases zey x.o with h2|h2|h2
 . have:=(za1.1 h2.2).2.2.1
   omega
 . rw[h2.1]at h1;exact absurd h1 (by decide)
 . rw[h2.1]at h1;exact absurd h1 (by decide)
theorem zka(xs:List Nat)(s:Sr)(ax:Int):(rdGE xs s ax=0/\wrGE (rdGL xs s ax) s ax=0/\wrGB (rdGL xs s ax) s ax=xs/\gsB (rdGL xs s ax)=xs)\/(rdGE xs s ax=2/\rdGL xs s ax=[]):=by
 cases ho:rdGOk xs s ax with
 | false=>exact .inr ⟨(zln ho).2,(zln ho).1⟩
 | true =>
  obtain⟨h1,h2⟩:=zrx ho
  refine .inl ⟨by unfold rdGE;rw[if_pos ho],h1,?_,h2⟩
  unfold wrGB
  rw[if_pos h1]
  exact h2
theorem zhj(S:Nat->Prop)(a:Option Addr)(ca:Nat)(l:List Gl)(ga:Option Addr)(gc:Nat)(ma:Option Addr)(mc:Nat)(s:Sr)(ax:Int)(pa:Option Addr)(pc:Nat)(xs:List Nat)(w:World)(hl:Gr GlE S w a ca l)(hg:Tzz w ga gc s.rg)(hm:Rii w ma mc s.rw)(hi:I64 ax)(hxs:Rb w pa pc xs) :
 Calls Tryz.prog 5 #[.agg #[.slice a l.length ca,.slice ga s.rg.length gc,.slice ma s.rw.length mc,.int .i64 ax],.slice pa xs.length pc] w fun e w'=>e=.returned (.bool true)/\Below w.heap.size w w':=by
 have kl:=hl.lenB
 have kg:=hg.lenB
 have km:=hm.lenB
 have kx:=hxs.le
 have kx2:=hxs.cap
 unfold maxLen at kx2
 obtain⟨W,hW,X1,hbW⟩:∃W,W=w.alloc (.cells #[.slice a l.length ca,.slice ga s.rg.length gc,.slice ma s.rw.length mc,.int .i64 ax] 28)/\Bk 28 W w.heap.size [.slice a l.length ca,.slice ga s.rg.length gc,.slice ma s.rw.length mc,.int .i64 ax]/\Below w.heap.size w W:=⟨_,rfl,Bk.new _ _ _,bl1 _⟩
 replace hl:=hl.below hbW;replace hg:=hg.below hbW;replace hm:=hm.below hbW;replace hxs:=hxs.below hbW
 go_enter Tryz.func5,Tryz.ntmps5
 go_upto_region 1 with fail
 rw[<-hW];clear hW;obtain⟨p0,p1,p2,p3,-⟩:=X1.four
 go_wp2_with fail
 refine(zd9 _).mono ?_
 rintro e y1 ⟨rfl,hb1⟩;replace hl:=hl.below hb1;replace hg:=hg.below hb1;replace hm:=hm.below hb1;replace hxs:=hxs.below hb1;replace X1:=X1.below hb1
 replace hbW:=hbW.trans (hb1.mono hbW.size)
 clear p0 p1 p2 p3 hb1;obtain⟨p0,p1,p2,p3,-⟩:=X1.four
 go_wp2_with fail
 refine(ztv S a ca l ga gc ma mc s ax none 0 0 _ hl hg hm (by decide)).mono ?_
 rintro e y2 ⟨⟨q,rfl,HQ⟩,hb1⟩
 replace HQ:Hid (q=true->FewG l/\s.rg.length<=20/\(∀l∈s.rg,l.length<=8)/\0<=20):=HQ
 replace hl:=hl.below hb1;replace hg:=hg.below hb1;replace hm:=hm.below hb1;replace hxs:=hxs.below hb1;replace X1:=X1.below hb1
 replace hbW:=hbW.trans (hb1.mono hbW.size)
 clear p0 p1 p2 p3 hb1;obtain⟨p0,p1,p2,p3,-⟩:=X1.four
 cases q with
 | false =>
  go_wp2_with fail
  refine(zd9 _).mono ?_
  rintro e uz ⟨rfl,hbz⟩
  have zau:=hbW.trans (hbz.mono hbW.size)
  clear hbz;go_wp2
  go_ret
  exact⟨rfl,zau⟩
 | true =>
 have HQ2:Hid (FewG l):=(HQ.out rfl).1
 clear HQ
 by_cases hx6:6000<xs.length
 . have g1:decide ((6000:Int)<(xs.length:Int))=true:=decide_eq_true (by omega)
   go_wp2_with fail
   refine(zd9 _).mono ?_
   rintro e uz ⟨rfl,hbz⟩
   have zau:=hbW.trans (hbz.mono hbW.size)
   clear hbz;go_wp2
   go_ret
   exact⟨rfl,zau⟩
 have g1:decide ((6000:Int)<(xs.length:Int))=false:=decide_eq_false (by omega)
 have hwr:=ze5 S a ca l ga gc ma mc s ax _ hl HQ2.out.ps hg hm hi (fun hf=>zzb hf HQ2.out.ts HQ2.out.1)
 go_wp2_with fail
 refine hwr.mono ?_
 rintro e y3 ⟨a1,c1,rfl,hr1,hb1⟩
 have hrd1:=hr1.rd
 clear hwr hr1 g1;replace hl:=hl.below hb1;replace hg:=hg.below hb1;replace hm:=hm.below hb1;replace hxs:=hxs.below hb1;replace X1:=X1.below hb1
 replace hbW:=hbW.trans (hb1.mono hbW.size)
 clear p0 p1 p2 p3 hb1;obtain⟨p0,p1,p2,p3,-⟩:=X1.four
 by_cases he:wrGE l s ax=0
 rotate_left
 . have g1:(wrGE l s ax==0)=false:=by simp;exact he
   have g2:decide (wrGE l s ax=0)=false:=decide_eq_false he
   generalize (wrGB l s ax).length=n1 at *
   generalize wrGE l s ax=e1 at *
   clear hrd1 he
   have hrx:=zg1 pa pc xs ga gc ma mc s ax _ hxs hg hm hi (by omega) (fun k tl q _ _=>zze (ax:=ax) 100000 (by omega))
   go_wp2_with fail
   refine hrx.mono ?_
   rintro e z1 ⟨a5,c5,rfl,hg5,-,hb1⟩;clear hrx;replace hl:=hl.below hb1;replace hg:=hg.below hb1;replace hm:=hm.below hb1;replace hxs:=hxs.below hb1;replace X1:=X1.below hb1
   replace hbW:=hbW.trans (hb1.mono hbW.size)
   clear p0 p1 p2 p3 hb1;obtain⟨p0,p1,p2,p3,-⟩:=X1.four
   rcases zka xs s ax with ⟨j1,j2,j3,j4⟩|⟨j1,j2⟩
   rotate_left
   . rw[j1,j2]
     clear j1 j2 hg5;go_wp2
     go_ret
     exact⟨rfl,hbW⟩
   have hw2:=ze5 _ a5 c5 (rdGL xs s ax) ga gc ma mc s ax _ hg5 (zzc j2) hg hm hi (fun _=>by rw[j4];omega)
   rw[j2,j3]at hw2;rw[j1]
   have k5:=hg5.lenB
   clear j1 j2 j3 j4 hg5
   generalize (rdGL xs s ax).length=n5 at *
   go_wp2_with fail
   refine hw2.mono ?_
   rintro e z2 ⟨a6,c6,rfl,hr6,hb1⟩
   have hrd6:=hr6.rd
   clear hw2 hr6;replace hl:=hl.below hb1;replace hg:=hg.below hb1;replace hm:=hm.below hb1;replace hxs:=hxs.below hb1;replace X1:=X1.below hb1
   replace hbW:=hbW.trans (hb1.mono hbW.size)
   clear p0 p1 p2 p3 hb1;obtain⟨p0,p1,p2,p3,-⟩:=X1.four
   have hsm:=zhp pa a6 pc c6 xs xs _ hxs hrd6
   rw[show decide (xs=xs)=true from decide_eq_true rfl]at hsm
   go_wp2_with fail
   refine hsm.mono ?_
   rintro e z3 ⟨rfl,hb9⟩
   have zau:=hbW.trans (hb9.mono hbW.size)
   clear hsm hb9 p0 p1 p2 p3;go_wp2
   go_ret
   exact⟨rfl,zau⟩
 have eB:wrGB l s ax=gsB l:=by unfold wrGB;rw[if_pos he]
 obtain⟨b1,b2⟩:=zr1 he
 have hsz:(gsB l).length<=1048000:=zzb (za3.1 he).1 HQ2.out.ts HQ2.out.1
 rw[eB]at hrd1;rw[eB,he]
 have hrp:=zg1 a1 c1 (gsB l) ga gc ma mc s ax _ hrd1 hg hm hi (by omega) (fun k tl q h1 h2=>gT_wr he h2 h1)
 rw[b1,b2]at hrp;clear he eB b1 b2 hrd1
 generalize (gsB l).length=n1 at *
 go_wp2_with fail
 refine hrp.mono ?_
 rintro e y4 ⟨a2,c2,rfl,hg2,-,hb1⟩;clear hrp;replace hl:=hl.below hb1;replace hg:=hg.below hb1;replace hm:=hm.below hb1;replace hxs:=hxs.below hb1;replace X1:=X1.below hb1
 replace hbW:=hbW.trans (hb1.mono hbW.size)
 clear p0 p1 p2 p3 hb1;obtain⟨p0,p1,p2,p3,-⟩:=X1.four
 have hsG:=zpf _ S a2 c2 a ca l _ hg2 hl
 go_wp2_with fail
 refine hsG.mono ?_
 rintro e y5 ⟨rfl,hb1⟩;clear hsG hg2;replace hl:=hl.below hb1;replace hg:=hg.below hb1;replace hm:=hm.below hb1;replace hxs:=hxs.below hb1;replace X1:=X1.below hb1
 replace hbW:=hbW.trans (hb1.mono hbW.size)
 clear p0 p1 p2 p3 hb1;obtain⟨p0,p1,p2,p3,-⟩:=X1.four
 have hrx:=zg1 pa pc xs ga gc ma mc s ax _ hxs hg hm hi (by omega) (fun k tl q _ _=>zze (ax:=ax) 100000 (by omega))
 go_wp2_with fail
 refine hrx.mono ?_
 rintro e z1 ⟨a5,c5,rfl,hg5,-,hb1⟩;clear hrx;replace hl:=hl.below hb1;replace hg:=hg.below hb1;replace hm:=hm.below hb1;replace hxs:=hxs.below hb1;replace X1:=X1.below hb1
 replace hbW:=hbW.trans (hb1.mono hbW.size)
 clear p0 p1 p2 p3 hb1;obtain⟨p0,p1,p2,p3,-⟩:=X1.four
 rcases zka xs s ax with ⟨j1,j2,j3,j4⟩|⟨j1,j2⟩
 rotate_left
 . rw[j1,j2]
   clear j1 j2 hg5;go_wp2
   go_ret
   exact⟨rfl,hbW⟩
 have hw2:=ze5 _ a5 c5 (rdGL xs s ax) ga gc ma mc s ax _ hg5 (zzc j2) hg hm hi (fun _=>by rw[j4];omega)
 rw[j2,j3]at hw2;rw[j1]
 have k5:=hg5.lenB
 clear j1 j2 j3 j4 hg5
 generalize (rdGL xs s ax).length=n5 at *
 go_wp2_with fail
 refine hw2.mono ?_
 rintro e z2 ⟨a6,c6,rfl,hr6,hb1⟩
 have hrd6:=hr6.rd
 clear hw2 hr6;replace hl:=hl.below hb1;replace hg:=hg.below hb1;replace hm:=hm.below hb1;replace hxs:=hxs.below hb1;replace X1:=X1.below hb1
 replace hbW:=hbW.trans (hb1.mono hbW.size)
 clear p0 p1 p2 p3 hb1;obtain⟨p0,p1,p2,p3,-⟩:=X1.four
 have hsm:=zhp pa a6 pc c6 xs xs _ hxs hrd6
 rw[show decide (xs=xs)=true from decide_eq_true rfl]at hsm
 go_wp2_with fail
 refine hsm.mono ?_
 rintro e z3 ⟨rfl,hb9⟩
 have zau:=hbW.trans (hb9.mono hbW.size)
 clear hsm hb9 p0 p1 p2 p3;go_wp2
 go_ret
 exact⟨rfl,zau⟩
