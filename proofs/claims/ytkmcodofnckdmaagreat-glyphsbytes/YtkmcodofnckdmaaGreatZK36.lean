import Derived.Test.YtkmcodofnckdmaaGreatZK35
set_option maxHeartbeats 1000000
set_option maxRecDepth 100000
set_option linter.unusedSimpArgs false
set_option linter.unusedVariables false
namespace Go.Proofs.YtkmcodofnckdmaaGreat
open Tryz Go.RowKit Go.Maps
theorem zqf{z:Int}(h1:-9223372036854775808<=z)(h2:z<=9223372036854775807):IntKind.i64.wrap z=z:=by
 unfold IntKind.wrap;simp[IntKind.bits,IntKind.signed];omega
theorem zq4{x y:Int}(h:x=y):Ending.returned (.int .i64 x)=Ending.returned (.int .i64 y):=by rw[h]
theorem zfu(S:Nat->Prop)(a:OA)(ca:Nat)(b:OA)(cb:Nat)(o:Ol)(w:World)(hc:Gr PnE.row S w a ca o.cs)(hl:o.cs.flatten.length<=100000)(hl2:o.ps.length<=100000) :
 Calls Tryz.prog 97 #[.agg #[.slice a o.cs.length ca,.slice b o.ps.length cb]] w fun e w'=>e=.returned (.int .i64 (cntO o:Int))/\Below w.heap.size w w':=by
 obtain⟨W,hW,X1,hbW⟩:∃W,W=w.alloc (.cells #[.slice a o.cs.length ca,.slice b o.ps.length cb] 57)/\Bk 57 W w.heap.size [.slice a o.cs.length ca,.slice b o.ps.length cb]/\Below w.heap.size w W:=⟨_,rfl,Bk.new _ _ _,bl1 _⟩;obtain⟨p0,p1,_⟩:=X1.two;have hlt:=X1.lt;have hB:Below W.heap.size W W:=Below.refl _ _;have hpt:=fun U (hb:Below W.heap.size W U)=>zby S a ca (.slice b o.ps.length cb) o.cs U ((hc.below hbW).below hb) hl rfl;have HE:Hid ((o.ps.length:Int)+(o.cs.flatten.length:Int)=(cntO o:Int)):=by show _=_;unfold cntO;omega
 have hw1:IntKind.i64.wrap ((o.ps.length:Int)+(o.cs.flatten.length:Int))=(o.ps.length:Int)+(o.cs.flatten.length:Int):=zqf (by omega) (by omega);clear hc X1;generalize o.cs.flatten.length=N at *;generalize cntO o=M at *;go_enter func97,ntmps97;go_upto_region 1 with fail
 rw[<-hW];clear hW;refine wp_region_held_drew (S:=fun w9=>w9.cell? ⟨w.heap.size,0,none⟩=some (.slice a o.cs.length ca)/\w9.cell? ⟨w.heap.size,1,none⟩=some (.slice b o.ps.length cb)) (by kernel_rfl) ?_ (fun hH=>?_)
 . (try dsimp only)
   go_keep
 have hdr:Below W.heap.size W W.drew:=Below.drew1;generalize W.drew=Z1 at hdr hH ⊢;replace hB:=hB.trans (hdr.mono hB.size);clear hdr;refine hT 0 hH ?_;refine hT 1 hH ?_;refine hT 2 hH ?_;refine hT 3 hH ?_;refine hCall (i:=4) rfl (by kernel_rfl) (by rfl) (fun K hK=>?_);go_simp;refine(hpt _ hB).mono ?_;rintro e u1 ⟨a1,c1,rfl,-,-,hbc⟩;have hHz:u1.cell? ⟨w.heap.size,0,none⟩=some (.slice a o.cs.length ca)/\u1.cell? ⟨w.heap.size,1,none⟩=some (.slice b o.ps.length cb):=⟨(hbc.cell (p:=⟨w.heap.size,0,none⟩) (qN hlt hB.size)).trans hH.1,(hbc.cell (p:=⟨w.heap.size,1,none⟩) (qN hlt hB.size)).trans hH.2⟩;replace hB:=hB.trans (hbc.mono hB.size);clear hbc;go_wp2_with fail
 refine hK.out _ _ ?_ (fun hH=>?_)
 . (try dsimp only)
   exact hHz
 clear hK K hHz;try simp only[Act.put,pZ]
 refine hT 5 hH ?_;refine hT 6 hH ?_;refine hT 7 hH ?_;refine wpAnyH_done (by kernel_rfl) ?_ _;clear hH;go_wp2;go_ret;exact⟨zq4 HE.out,hbW.trans (hB.mono hbW.size)⟩
