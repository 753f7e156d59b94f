import Derived.Test.YtkmcodofnckdmaaGreatZS45
set_option maxHeartbeats 8000000
set_option maxRecDepth 100000
set_option linter.unusedSimpArgs false
set_option linter.unusedVariables false
namespace Go.Proofs.YtkmcodofnckdmaaGreat
open Go.RowKit Go.Maps
theorem zg9(S:Nat->Prop)(a:Option Addr)(ca:Nat)(l:List Gl)(ga:Option Addr)(gc:Nat)(ma:Option Addr)(mc:Nat)(s:Sr)(ax:Int)(g:Int)(pa:Option Addr)(pc:Nat)(cs:List Int)(w:World)(hl:Gr GlE S w a ca l)(hg:Tzz w ga gc s.rg)(hm:Rii w ma mc s.rw)(hi:I64 ax)(hcs:Ri w pa pc cs)(hgb:-9223372036854775808<=g/\g<=9223372036854775807) :
 Calls Tryz.prog 3 #[.agg #[.slice a l.length ca,.slice ga s.rg.length gc,.slice ma s.rw.length mc,.int .i64 ax],.int .i64 g,.slice pa cs.length pc] w fun e w'=>e=.returned (.bool true)/\Below w.heap.size w w':=by
 have kl:=hl.lenB
 have kg:=hg.lenB
 have km:=hm.lenB
 have kc:=hcs.lenB
 obtain⟨W,hW,X1,hbW⟩:∃W,W=w.alloc (.cells #[.slice a l.length ca,.slice ga s.rg.length gc,.slice ma s.rw.length mc,.int .i64 ax] 28)/\Bk 28 W w.heap.size [.slice a l.length ca,.slice ga s.rg.length gc,.slice ma s.rw.length mc,.int .i64 ax]/\Below w.heap.size w W:=⟨_,rfl,Bk.new _ _ _,bl1 _⟩
 replace hl:=hl.below hbW;replace hg:=hg.below hbW;replace hm:=hm.below hbW;replace hcs:=hcs.below hbW
 go_enter Tryz.func3,Tryz.ntmps3
 go_upto_region 1 with fail
 rw[<-hW];clear hW
 go_wp2_with fail
 refine(zg2 _).mono ?_
 rintro e y1 ⟨rfl,hb1⟩;replace hl:=hl.below hb1;replace hg:=hg.below hb1;replace hm:=hm.below hb1;replace X1:=X1.below hb1
 replace hbW:=hbW.trans (hb1.mono hbW.size)
 replace hcs:=hcs.below hb1;obtain⟨p0,p1,p2,p3,-⟩:=X1.four;clear hb1
 go_wp2_with fail
 refine(zre S a ca l ga gc ma mc s ax pa cs.length pc _ hl hg hm kc).mono ?_
 rintro e y2 ⟨⟨q,rfl,HQ⟩,hb1⟩
 replace HQ:Hid (q=true->FewG l/\s.rg.length<=20/\(∀l∈s.rg,l.length<=8)/\cs.length<=20):=HQ
 clear p0 p1 p2 p3;replace hl:=hl.below hb1;replace hg:=hg.below hb1;replace hm:=hm.below hb1;replace X1:=X1.below hb1
 replace hbW:=hbW.trans (hb1.mono hbW.size)
 replace hcs:=hcs.below hb1;obtain⟨p0,p1,p2,p3,-⟩:=X1.four;clear hb1
 cases q with
 | false =>
  go_wp2_with fail
  refine(zg2 _).mono ?_
  rintro e uz ⟨rfl,hbz⟩
  have zay:=hbW.trans (hbz.mono hbW.size)
  clear hbz;go_wp2
  go_ret
  exact⟨rfl,zay⟩
 | true =>
 have HQ2:Hid (FewG l/\s.rg.length<=20/\(∀l∈s.rg,l.length<=8)/\cs.length<=20):=HQ.out rfl
 clear HQ
 have hgi:I64 g:=hgb
 have HHL:Hid (Gr GlE S y2 a ca l):=hl
 have hX2:=X1.lt
 have hp:=fun U (hU:Below y2.heap.size y2 U)=>(hU.cell (p:=⟨w.heap.size,0,none⟩) hX2).trans p0
 have hc1:=fun U (hU:Below y2.heap.size y2 U)=>zfb S a ca l g U (HHL.out.below hU) HQ2.out.1.ps hgi
 have hc2:=fun U (hU:Below y2.heap.size y2 U)=>zdq S a ca l g U (HHL.out.below hU) HQ2.out.1.n hgi
 have hc3:=fun U (hU:Below y2.heap.size y2 U)=>zqz S a ca l g U (HHL.out.below hU) HQ2.out.1.ps hgi
 have hc4:=fun U (hU:Below y2.heap.size y2 U)=>zdn S a ca l g U (HHL.out.below hU) HQ2.out.1.n HQ2.out.1.pt hgi
 have HSZV:Hid (szG l g=szG l g):=rfl
 have HDPV:Hid (dpG l g=dpG l g):=rfl
 generalize hdv:dpG l g=dv at hc1 hc2
 generalize hsv:szG l g=sv at hc3 hc4
 have hbd:(dv != dv)=false:=by simp
 have hbs:((sv:Int) != (sv:Int))=false:=by simp
 have HX1:Hid (Bk 28 y2 w.heap.size [.slice a l.length ca,.slice ga s.rg.length gc,.slice ma s.rw.length mc,.int .i64 ax]):=X1
 have HHG:Hid (Tzz y2 ga gc s.rg):=hg
 have HHM:Hid (Rii y2 ma mc s.rw):=hm
 have HHC:Hid (Ri y2 pa pc cs):=hcs
 have HBW:Hid (Below w.heap.size w y2):=hbW
 have HSV:Hid (szG l g=sv):=hsv
 clear hl hg hm hcs X1 hbW hdv hsv HSZV HDPV p1 p2 p3
 go_upto_region 3 with fail
 refine wp_region_held_drew (S:=fun w9=>w9.cell? ⟨w.heap.size,0,none⟩=some (.slice a l.length ca)) (by kernel_rfl) ?_ (fun hH=>?_)
 . (try dsimp only)
   go_keep
 have hdr:Below y2.heap.size y2 y2.drew:=Below.drew1
 generalize y2.drew=Z at hdr hH ⊢
 clear p0;refine hT 0 hH ?_;refine hT 1 hH ?_;refine hT 2 hH ?_;refine hT 4 hH ?_;refine hT 5 hH ?_;refine hT 6 hH ?_
 refine hCall (i:=3) rfl (by kernel_rfl) (by rfl) (fun K hK=>?_)
 go_simp
 refine(hc1 _ hdr).mono ?_
 rintro e z1 ⟨rfl,hb1⟩
 replace hdr:=hdr.trans (hb1.mono hdr.size)
 clear hb1 hc1
 go_wp2_with fail
 refine hK.out _ _ ?_ (fun hH=>?_)
 . (try dsimp only)
   exact hp _ hdr
 clear hK K
 try simp only[Act.put,pZ]
 refine hCall (i:=7) rfl (by kernel_rfl) (by rfl) (fun K hK=>?_)
 go_simp
 refine(hc2 _ hdr).mono ?_
 rintro e z2 ⟨rfl,hb1⟩
 replace hdr:=hdr.trans (hb1.mono hdr.size)
 clear hb1 hc2
 go_wp2_with fail
 refine hK.out _ _ ?_ (fun hH=>?_)
 . (try dsimp only)
   exact hp _ hdr
 clear hK K
 try simp only[Act.put,pZ]
 refine hT 8 hH ?_
 try rw[hbd]
 refine hT 9 hH ?_;refine hT 10 hH ?_;refine hT 11 hH ?_;refine hT 12 hH ?_;refine hT 14 hH ?_;refine hT 15 hH ?_;refine hT 16 hH ?_
 refine hCall (i:=13) rfl (by kernel_rfl) (by rfl) (fun K hK=>?_)
 go_simp
 refine(hc3 _ hdr).mono ?_
 rintro e z3 ⟨rfl,hb1⟩
 replace hdr:=hdr.trans (hb1.mono hdr.size)
 clear hb1 hc3
 go_wp2_with fail
 refine hK.out _ _ ?_ (fun hH=>?_)
 . (try dsimp only)
   exact hp _ hdr
 clear hK K
 try simp only[Act.put,pZ]
 refine hCall (i:=17) rfl (by kernel_rfl) (by rfl) (fun K hK=>?_)
 go_simp
 refine(hc4 _ hdr).mono ?_
 rintro e z4 ⟨rfl,hb1⟩
 replace hdr:=hdr.trans (hb1.mono hdr.size)
 clear hb1 hc4
 go_wp2_with fail
 refine hK.out _ _ ?_ (fun hH=>?_)
 . (try dsimp only)
   exact hp _ hdr
 clear hK K
 try simp only[Act.put,pZ]
 refine hT 18 hH ?_
 try rw[hbs]
 refine hT 19 hH ?_
 refine wpAnyH_done (by kernel_rfl) ?_ _
 have hl:=HHL.out.below hdr
 have hg:=HHG.out.below hdr
 have hm:=HHM.out.below hdr
 have hcs:=HHC.out.below hdr
 have X1:=HX1.out.below hdr
 have hbW:=HBW.out.trans (hdr.mono HBW.out.size)
 obtain⟨p0,p1,p2,p3,-⟩:=X1.four;clear hH hp hdr hbd hbs HHL HHG HHM HHC HX1 HBW
 have hc1:=zj9 S a ca l ga gc ma mc s g pa pc cs _ hl hg hm hcs hgi (by have:=HQ2.out.2.1;omega) HQ2.out.2.2.1
 go_wp2_with fail
 refine hc1.mono ?_
 rintro e y3 ⟨rfl,hb1⟩;clear hc1 p0 p1 p2 p3;replace hl:=hl.below hb1;replace hg:=hg.below hb1;replace hm:=hm.below hb1;replace X1:=X1.below hb1
 replace hbW:=hbW.trans (hb1.mono hbW.size)
 replace hcs:=hcs.below hb1;obtain⟨p0,p1,p2,p3,-⟩:=X1.four;clear hb1
 have hc1:=zjn S a ca l ga gc ma mc s g pa pc cs _ hl hg hm hcs hgi (by have:=HQ2.out.2.1;omega) HQ2.out.2.2.1
 go_wp2_with fail
 refine hc1.mono ?_
 rintro e y4 ⟨rfl,hb1⟩;clear hc1 p0 p1 p2 p3;replace hl:=hl.below hb1;replace hg:=hg.below hb1;replace hm:=hm.below hb1;replace X1:=X1.below hb1
 replace hbW:=hbW.trans (hb1.mono hbW.size)
 replace hcs:=hcs.below hb1;obtain⟨p0,p1,p2,p3,-⟩:=X1.four;clear hb1
 have hsm:=zku S a ca l (.slice ga s.rg.length gc) (.slice ma s.rw.length mc) ax g _ hl HQ2.out.1 hgi rfl rfl
 generalize avN l s g cs=an at *
 generalize avE l s g cs=ae at *
 have ha1:(an != an)=false:=by simp
 have ha2:(ae != ae)=false:=by simp
 have ha3:(an==an)=true:=by simp
 have ha4:(ae==ae)=true:=by simp
 by_cases hsz:szG l g<=600
 rotate_left
 . rw[decide_eq_false hsz]at hsm
   clear hsz
   go_wp2_with fail
   refine hsm.mono ?_
   rintro e y5 ⟨rfl,hb1⟩
   replace hbW:=hbW.trans (hb1.mono hbW.size)
   clear hsm hb1 p0 p1 p2 p3;go_wp2
   go_ret
   exact⟨rfl,hbW⟩
 rw[decide_eq_true hsz]at hsm
 go_wp2_with fail
 refine hsm.mono ?_
 rintro e y5 ⟨rfl,hb1⟩;clear hsm p0 p1 p2 p3 hsz;replace hl:=hl.below hb1;replace hg:=hg.below hb1;replace hm:=hm.below hb1;replace X1:=X1.below hb1
 replace hbW:=hbW.trans (hb1.mono hbW.size)
 replace hcs:=hcs.below hb1;obtain⟨p0,p1,p2,p3,-⟩:=X1.four;clear hb1;clear ha1 ha2 ha3 ha4
 have hc1:=zq1 S a ca l g pa pc cs _ hl HQ2.out.1.ps hcs hgi
 go_wp2_with fail
 refine hc1.mono ?_
 rintro e y6 ⟨a6,c6,rfl,L,hGL,hLs,-,hb1⟩
 have hgr:=hGL.rows
 rw[hLs]at hgr
 replace hgr:=hgr.gr
 clear hc1 p0 p1 p2 p3 hGL hLs;replace hl:=hl.below hb1;replace hg:=hg.below hb1;replace hm:=hm.below hb1;replace X1:=X1.below hb1
 replace hbW:=hbW.trans (hb1.mono hbW.size)
 replace hcs:=hcs.below hb1;obtain⟨p0,p1,p2,p3,-⟩:=X1.four;clear hb1
 have hc1:=zsr S a ca l g pa pc cs _ hl hcs hgi HQ2.out.1.n HQ2.out.1.pt HQ2.out.1.ps
 go_wp2_with fail
 refine hc1.mono ?_
 rintro e y7 ⟨a7,c7,rfl,zdy,hb1⟩;replace hgr:=hgr.below hb1
 replace hbW:=hbW.trans (hb1.mono hbW.size)
 clear hc1 p0 p1 p2 p3 hb1 X1 hl hg hm hcs
 have hsc:=zn1 _ _ a6 c6 a7 c7 (glC l g cs) _ hgr zdy
 generalize glE l g cs=ge at *
 generalize glC l g cs=gcs at *
 have ha4:(ge==ge)=true:=by simp
 clear hgr zdy
 go_wp2_with fail
 refine hsc.mono ?_
 rintro e y8 ⟨rfl,hb1⟩
 replace hbW:=hbW.trans (hb1.mono hbW.size)
 clear hsc hb1;go_wp2
 go_ret
 exact⟨rfl,hbW⟩
