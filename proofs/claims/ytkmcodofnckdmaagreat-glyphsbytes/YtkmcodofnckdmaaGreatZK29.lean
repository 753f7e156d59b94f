import Derived.Test.YtkmcodofnckdmaaGreatZK28
set_option maxHeartbeats 4000000
set_option maxRecDepth 100000
set_option linter.unusedSimpArgs false
set_option linter.unusedVariables false
namespace Go.Proofs.YtkmcodofnckdmaaGreat
open Tryz Go.RowKit Go.Maps
theorem zr3{l:List Gl}{g:Int}(h:∀k,dq l 6 g=some k->6<k+0):dq l 6 g=none:=by
 cases hd:dq l 6 g with
 | none=>rfl
 | some k =>
  have h1:=h k hd;have h2:=dq_le hd;omega
theorem zv0{l:List Gl}{g:Int}{k:Nat}(h:dq l 6 g=some k):dpG l g=(k:Int):=by unfold dpG;rw[h];rfl
theorem zv1{l:List Gl}{g:Int}(h:dq l 6 g=none):dpG l g=-1:=by unfold dpG;rw[h];rfl
theorem zn7(S:Nat->Prop)(a:OA)(ca:Nat)(l:List Gl)(g:Int)(w U:World)(hl:Gr GlE S w a ca l)(hps:∀x∈l,x.o.ps.length<=12)(hg:I64 g)(hS:Bk 119 U (w.heap.size+1) [.slice a l.length ca,.map (some w.heap.size)])(hM:Mp U w.heap.size 0 (fun _=>none))(hB:Below w.heap.size w U) :
 Calls Tryz.prog 32 #[.pointer (some ⟨w.heap.size+1,0,none⟩),.int .i64 g,.int .i64 0] U fun e w'=>((∃k:Nat,dq l 6 g=some k/\e=.returned (.tuple #[.agg #[.int .i64 (k:Int),.int .i64 ((szG l g:Nat):Int)],.bool true]))\/(dq l 6 g=none/\e=.returned (.tuple #[.agg #[.int .i64 0,.int .i64 0],.bool false])))/\Below w.heap.size w w':=by
 refine(zsu w S a ca l hl hps (w.heap.size+1) w.heap.size (qE _) (by omega) 7 0 rfl g 0 _ U hg (by have:=tk_le (qE 7);omega) hB hS hM (KnG.nil l)).mono ?_;rintro e w' ⟨h1,h2,h3⟩;refine⟨?_,hB.trans (h3.below hB.size (qE _))⟩;rcases h1 with h1|⟨h1,h4⟩
 . exact .inl h1
 . exact .inr ⟨zr3 h1,h4⟩
theorem ziy(S:Nat->Prop)(a:OA)(ca:Nat)(l:List Gl)(g:Int)(w:World)(hl:Gr GlE S w a ca l)(hps:∀x∈l,x.o.ps.length<=12)(hg:I64 g) :
 Calls Tryz.prog 11 #[.slice a l.length ca,.int .i64 g] w fun e w'=>e=.returned (.int .i64 (dpG l g))/\Below w.heap.size w w':=by
 have kl:=hl.lenB;go_enter func11,ntmps11;go_wp2_with fail
 refine(zel a l.length ca w).mono ?_;rintro e U ⟨rfl,hS,hM,hB⟩;have z2p:=zn7 S a ca l g w U hl hps hg hS hM hB;clear hS hM hl;go_wp2_with fail
 refine z2p.mono ?_;rintro e u ⟨zzq,hb⟩;clear z2p;rcases zzq with ⟨k,hk,rfl⟩|⟨hk,rfl⟩
 . have HD:Hid (_):=zv0 hk
   obtain⟨V,hV,X,hbV⟩:∃V,V=u.alloc (.cells #[.int .i64 (k:Int),.int .i64 ((szG l g:Nat):Int)] 71)/\Bk 71 V u.heap.size [.int .i64 (k:Int),.int .i64 ((szG l g:Nat):Int)]/\Below u.heap.size u V:=⟨_,rfl,Bk.new _ _ _,bl1 _⟩;replace hb:=hb.trans (hbV.mono hb.size);obtain⟨x0,x1,_⟩:=X.two;clear hk hbV X;go_upto_region 2 with fail
   rw[<-hV];clear hV;go_wp2;go_ret;exact⟨by rw[HD.out];rfl,hb⟩
 . have HD:Hid (_):=zv1 hk
   have hb2:Below w.heap.size w (u.alloc (.cells #[.int .i64 0,.int .i64 0] 71)):=hb.trans ((bl1 _).mono hb.size);clear hk hb;go_wp2;go_ret;exact⟨by rw[HD.out];rfl,hb2⟩
def awG:List Gl:=[⟨⟨[[⟨1,0,false⟩]],[]⟩,[],0,0,false⟩,⟨⟨[],[⟨0,5,0⟩]⟩,[],0,0,false⟩]
theorem awD:dq awG 6 1=some 1/\szG awG 1<=2000/\dpG awG 1=1/\dpG awG 2=-1:=by decide +kernel
theorem fo1:foT ⟨[[⟨((1:Nat):Int),((0:Nat):Int),false⟩]],[]⟩ [] 0=true:=by decide +kernel
theorem fo2:foT ⟨[],[⟨0,((5:Nat):Int),((0:Nat):Int)⟩]⟩ [] 0=true:=by decide +kernel
theorem zq9{α:Type}{E:El α}(S:Nat->Prop)(w:World):E.row.rep S w [.slice none 0 0] []:=⟨none,0,rfl,(fun _ _ e=>by cases e),Gr.nil _ _ _ _ _ (qD _) (fun _=>rfl),qD _⟩
theorem awAt(w:World)(g p q:Nat)(hl:Gr GlE (fun _=>True) w (some ⟨g,0,none⟩) 2 awG)(hA:Bk 62 w g [.slice (some ⟨p,0,none⟩) 1 1,.slice none 0 0,.slice none 0 0,.int .i64 0,.int .i64 0,.bool false,.slice none 0 0,.slice (some ⟨q,0,none⟩) 1 1,.slice none 0 0,.int .i64 0,.int .i64 0,.bool false])(hp:Gr PnE.row (fun _=>True) w (some ⟨p,0,none⟩) 1 [[⟨1,0,false⟩]])(hq:Gr PaE (fun _=>True) w (some ⟨q,0,none⟩) 1 [⟨0,5,0⟩]) :
 Calls Tryz.prog 18 #[.slice (some ⟨g,0,none⟩) 2 2,.int .i64 1,.slice none 0 0] w fun e w'=>∃a1 c1,e=.returned (.tuple #[.slice a1 1 c1,.int .i64 0])/\PnE.row.row.rep (fun _=>True) w' [.slice a1 1 c1] [[⟨6,0,false⟩]]/\Below w.heap.size w w':=by
 have hig:Calls Tryz.prog 35 #[.slice (some ⟨g,0,none⟩) 2 2,.int .i64 1] w fun e w'=>e=.returned (.bool true)/\w=w':=zl9 (some ⟨g,0,none⟩) 2 2 1 w (by decide) ⟨by decide,by decide⟩;have hgl:=hA.lt;go_enter func18,ntmps18;go_wp2_with fail
 refine hig.mono ?_;rintro e u ⟨rfl,rfl⟩;clear hig;go_wp2_with fail
 refine(zel (some ⟨g,0,none⟩) 2 2 w).mono ?_;rintro e U ⟨rfl,hS,hM,hB⟩;have z2p:=zn7 (fun _=>True) (some ⟨g,0,none⟩) 2 awG 1 w U hl (by decide) ⟨by decide,by decide⟩ hS hM hB;clear hS hM;go_wp2_with fail
 refine z2p.mono ?_;rintro e u ⟨zzq,hb⟩;have hsz:=awD.2.1;clear z2p;rcases zzq with ⟨k,hk,rfl⟩|⟨hk,rfl⟩;rotate_left
 . rw[awD.1]at hk
   cases hk
 generalize szG awG 1=sz at *;obtain⟨V,hV,X,hbV⟩:∃V,V=u.alloc (.cells #[.int .i64 (k:Int),.int .i64 ((sz:Nat):Int)] 71)/\Bk 71 V u.heap.size [.int .i64 (k:Int),.int .i64 ((sz:Nat):Int)]/\Below u.heap.size u V:=⟨_,rfl,Bk.new _ _ _,bl1 _⟩;replace hb:=hb.trans (hbV.mono hb.size);obtain⟨x0,x1,_⟩:=X.two;clear hk hbV X;go_upto_region 4 with fail
 rw[<-hV];clear hV;have g1:¬(2000:Int)<(sz:Int):=by omega
 have hmm:=@run_makeMap Tryz.prog;have M:=Mp.made V;obtain⟨W1,hW1⟩:∃W,W=V.alloc (.map #[] 0):=⟨_,rfl⟩;have hb1:Below V.heap.size V W1:=by rw[hW1];exact bl1 _
 have hs1:W1.heap.size=V.heap.size+1:=by rw[hW1];simp
 rw[<-hW1]at M;obtain⟨W2,hW2,X2,hb2⟩:∃W,W=W1.alloc (.cells #[.slice (some ⟨g,0,none⟩) 2 2,.slice none 0 0,.map (some V.heap.size)] 82)/\Bk 82 W (V.heap.size+1) [.slice (some ⟨g,0,none⟩) 2 2,.slice none 0 0,.map (some V.heap.size)]/\Below W1.heap.size W1 W:=⟨_,rfl,by rw[<-hs1];exact Bk.new _ _ _,bl1 _⟩;have M2:=M.below hb2;have hVW:Below w.heap.size w W2:=(hb.trans (hb1.mono hb.size)).trans (hb2.mono (qF hb.size hb1.size));have hvs:=hb.size;have hlt:=X2.lt;have hs2:W2.heap.size=V.heap.size+2:=by rw[hW2];simp[hs1]
 have h0:∀U,Below W2.heap.size W2 U->Calls Tryz.prog 38 #[.pointer (some ⟨V.heap.size+1,0,none⟩),.int .i64 0] U fun e w'=>CnW V.heap.size (V.heap.size+2) 1 U [[⟨1,0,false⟩]] e w':=fun U hU=>by
  have hwU:Below w.heap.size w U:=hVW.trans (hU.mono hVW.size);have hA9:=hA.below hwU;have hus:=hU.size;exact contK g 0 2 (V.heap.size+1) V.heap.size (V.heap.size+2) 0 0 0 (some ⟨p,0,none⟩) 1 none 0 [[⟨1,0,false⟩]] [] [[⟨1,0,false⟩]] (fun _=>none) U (by omega) (by omega) (by omega) (by omega) (by omega) (by decide) (hA9.cell 0 (by simp)) (hA9.cell 1 (by simp)) (hA9.cell 2 (by simp)) (X2.below hU) (M2.below hU) (qE _) (by decide) rfl
   (fun Y hY=>(atA (fun _=>True) (some ⟨p,0,none⟩) 1 none 0 false 1 0 Y ((hp.below hwU).below hY) (Gr.nil _ _ _ _ _ (qD _) (fun _=>rfl)) fo1 (by decide) (by decide)).mono (fun e w' ⟨a1,c1,h1,h2,h3⟩=>⟨a1,c1,none,0,h1,h2,zq9 _ _,(fun e=>by cases e),h3⟩))
   (.inl ⟨rfl,rfl,rfl⟩)
 have hA9:=hA.below hVW;have h1:Calls Tryz.prog 38 #[.pointer (some ⟨V.heap.size+1,0,none⟩),.int .i64 1] W2 fun e w'=>CnW V.heap.size (V.heap.size+2) 2 W2 [[⟨6,0,false⟩]] e w' :=
  contK g 0 2 (V.heap.size+1) V.heap.size (V.heap.size+2) 1 0 1 none 0 (some ⟨q,0,none⟩) 1 [] [⟨0,5,0⟩] [[⟨6,0,false⟩]] (fun _=>none) W2 (by omega) (by omega) (by omega) (by omega) (by omega) (by decide) (hA9.cell 6 (by simp)) (hA9.cell 7 (by simp)) (hA9.cell 8 (by simp)) X2 M2 (by decide) (by decide) rfl
   (fun Y hY=>(atB (fun _=>True) none 0 (some ⟨q,0,none⟩) 1 0 5 0 Y (Gr.nil _ _ _ _ _ (qD _) (fun _=>rfl)) ((hq.below hVW).below hY) fo2 (by decide) (by decide)).mono (fun e w' ⟨a1,c1,h1,h2,h3⟩=>⟨none,0,a1,c1,h1,zq9 _ _,h2,(fun _=>⟨rfl,rfl⟩),h3⟩))
   (.inr ⟨rfl,rfl,rfl,h0⟩)
 clear h0 hA9 X2 M2 M hl hA hp hq hb2 hb1 hs1 hB hlt;go_wp2_with fail
 rw[<-hW1,<-hW2];refine h1.mono ?_;rintro e u2 ⟨⟨a1,c1,rfl,hr⟩,-,hKp⟩;have hBf:Below w.heap.size w u2:=hVW.trans (hKp.below hVW.size hvs);have HR:Hid (_):=zff hr;clear h1 hr hW1 hW2 hKp hVW;go_wp2;go_ret2;exact⟨a1,c1,rfl,HR.out,hBf⟩
theorem zep(w:World) :
 Calls Tryz.prog 9 #[] w fun e w'=>e=.returned (.bool true)/\Below w.heap.size w w':=by
 obtain⟨V1,hV1,A1,b1⟩:∃V,V=w.alloc (.cells #[.int .i64 1,.int .i64 0,.bool false] 65)/\Bk 65 V w.heap.size [.int .i64 1,.int .i64 0,.bool false]/\Below w.heap.size w V:=⟨_,rfl,Bk.new _ _ _,bl1 _⟩;obtain⟨V2,hV2,A2,b2⟩:∃V,V=V1.alloc (.cells #[.slice (some ⟨w.heap.size,0,none⟩) 1 1] 63)/\Bk 63 V V1.heap.size [.slice (some ⟨w.heap.size,0,none⟩) 1 1]/\Below V1.heap.size V1 V:=⟨_,rfl,Bk.new _ _ _,bl1 _⟩;obtain⟨V3,hV3,A3,b3⟩:∃V,V=V2.alloc (.cells #[.int .i64 0,.int .i64 5,.int .i64 0] 54)/\Bk 54 V V2.heap.size [.int .i64 0,.int .i64 5,.int .i64 0]/\Below V2.heap.size V2 V:=⟨_,rfl,Bk.new _ _ _,bl1 _⟩;obtain⟨V4,hV4,A4,b4⟩:∃V,V=V3.alloc (.cells #[.slice (some ⟨V1.heap.size,0,none⟩) 1 1,.slice none 0 0,.slice none 0 0,.int .i64 0,.int .i64 0,.bool false,.slice none 0 0,.slice (some ⟨V2.heap.size,0,none⟩) 1 1,.slice none 0 0,.int .i64 0,.int .i64 0,.bool false] 62)/\Bk 62 V V3.heap.size [.slice (some ⟨V1.heap.size,0,none⟩) 1 1,.slice none 0 0,.slice none 0 0,.int .i64 0,.int .i64 0,.bool false,.slice none 0 0,.slice (some ⟨V2.heap.size,0,none⟩) 1 1,.slice none 0 0,.int .i64 0,.int .i64 0,.bool false]/\Below V3.heap.size V3 V:=⟨_,rfl,Bk.new _ _ _,bl1 _⟩;have hbW:Below w.heap.size w V4:=((b1.trans (b2.mono b1.size)).trans (b3.mono (qF b1.size b2.size))).trans (b4.mono (qF (qF b1.size b2.size) b3.size));replace A1:=((A1.below b2).below b3).below b4;replace A2:=(A2.below b3).below b4;replace A3:=A3.below b4;have g1:Gr PnE (fun _=>True) V4 (some ⟨w.heap.size,0,none⟩) 1 [⟨1,0,false⟩]:=Gr.one (vs:=pnC ⟨1,0,false⟩) (za0.2 ⟨rfl,⟨by decide,by decide⟩,⟨by decide,by decide⟩⟩) A1.lt (fun j hj=>A1.cell j hj);have g2:Gr PnE.row (fun _=>True) V4 (some ⟨V1.heap.size,0,none⟩) 1 [[⟨1,0,false⟩]]:=Gr.one (vs:=[.slice (some ⟨w.heap.size,0,none⟩) 1 1]) ⟨_,_,rfl,fun _ _ _ _=>trivial,g1,by decide⟩ A2.lt (fun j hj=>A2.cell j hj)
 have g3:Gr PaE (fun _=>True) V4 (some ⟨V2.heap.size,0,none⟩) 1 [⟨0,5,0⟩]:=Gr.one (vs:=paC ⟨0,5,0⟩) (zce.2 ⟨rfl,⟨by decide,by decide⟩,⟨by decide,by decide⟩,⟨by decide,by decide⟩⟩) A3.lt (fun j hj=>A3.cell j hj);have hgl:Gr GlE (fun _=>True) V4 (some ⟨V3.heap.size,0,none⟩) 2 awG:=by
  refine⟨qE _,by unfold maxLen;omega,(fun e=>by cases e),fun i hi=>?_⟩;have hi2:i<2:=hi;rcases (show i=0\/i=1 by omega)with rfl|rfl
  . refine⟨V3.heap.size,0,[.slice (some ⟨V1.heap.size,0,none⟩) 1 1,.slice none 0 0,.slice none 0 0,.int .i64 0,.int .i64 0,.bool false],rfl,A4.lt,zie.2 ⟨some ⟨V1.heap.size,0,none⟩,1,none,0,none,0,rfl,⟨_,_,rfl,fun _ _ _ _=>trivial,g2,by decide⟩,⟨_,_,rfl,fun _ _ _ _=>trivial,Gr.nil _ _ _ _ _ (qD _) (fun _=>rfl),by decide⟩,⟨_,_,rfl,fun _ _ _ _=>trivial,Gr.nil _ _ _ _ _ (qD _) (fun _=>rfl),by decide⟩,⟨by decide,by decide⟩,⟨by decide,by decide⟩⟩,fun j hj=>?_⟩
    have hj6:j<6:=hj;rw[show 0+0*GlE.sz+j=j by omega];rw[A4.cell j (by show j<12;omega)];rcases (show j=0\/j=1\/j=2\/j=3\/j=4\/j=5 by omega)with rfl|rfl|rfl|rfl|rfl|rfl <;> rfl
  . refine⟨V3.heap.size,0,[.slice none 0 0,.slice (some ⟨V2.heap.size,0,none⟩) 1 1,.slice none 0 0,.int .i64 0,.int .i64 0,.bool false],rfl,A4.lt,zie.2 ⟨none,0,some ⟨V2.heap.size,0,none⟩,1,none,0,rfl,⟨_,_,rfl,fun _ _ _ _=>trivial,Gr.nil _ _ _ _ _ (qD _) (fun _=>rfl),by decide⟩,⟨_,_,rfl,fun _ _ _ _=>trivial,g3,by decide⟩,⟨_,_,rfl,fun _ _ _ _=>trivial,Gr.nil _ _ _ _ _ (qD _) (fun _=>rfl),by decide⟩,⟨by decide,by decide⟩,⟨by decide,by decide⟩⟩,fun j hj=>?_⟩
    have hj6:j<6:=hj;rw[show 0+1*GlE.sz+j=6+j by show 0+1*6+j=_;omega];rw[A4.cell (6+j) (by show 6+j<12;omega)];rcases (show j=0\/j=1\/j=2\/j=3\/j=4\/j=5 by omega)with rfl|rfl|rfl|rfl|rfl|rfl <;> rfl
 have hps:∀x∈awG,x.o.ps.length<=12:=by decide
 have hat:=awAt V4 V3.heap.size V1.heap.size V2.heap.size hgl A4 g2 g3;have hd1:=fun U (hU:Below V4.heap.size V4 U)=>ziy (fun _=>True) (some ⟨V3.heap.size,0,none⟩) 2 awG 1 U (hgl.below hU) hps ⟨by decide,by decide⟩;have hd2:=fun U (hU:Below V4.heap.size V4 U)=>ziy (fun _=>True) (some ⟨V3.heap.size,0,none⟩) 2 awG 2 U (hgl.below hU) hps ⟨by decide,by decide⟩;rw[awD.2.2.1]at hd1;rw[awD.2.2.2]at hd2;replace hd1:∀U (hU:Below V4.heap.size V4 U),Calls Tryz.prog 11 #[.slice (some ⟨V3.heap.size,0,none⟩) 2 2,.int .i64 1] U fun e w'=>e=.returned (.int .i64 1)/\Below U.heap.size U w':=hd1;replace hd2:∀U (hU:Below V4.heap.size V4 U),Calls Tryz.prog 11 #[.slice (some ⟨V3.heap.size,0,none⟩) 2 2,.int .i64 2] U fun e w'=>e=.returned (.int .i64 (-1))/\Below U.heap.size U w':=hd2;have s1:w.heap.size+1=V1.heap.size:=by rw[hV1];simp
 have s2:V1.heap.size+1=V2.heap.size:=by rw[hV2];simp
 have s3:V2.heap.size+1=V3.heap.size:=by rw[hV3];simp
 have HS:Hid (w.heap.size+1=V1.heap.size/\V1.heap.size+1=V2.heap.size/\V2.heap.size+1=V3.heap.size):=⟨s1,s2,s3⟩;have HV1:Hid (_=_):=hV1;have HV2:Hid (_=_):=hV2;have HV3:Hid (_=_):=hV3;have HV4:Hid (_=_):=hV4;clear A1 A2 A3 A4 g1 g2 g3 hgl b1 b2 b3 b4 s1 s2 s3 hV1 hV2 hV3 hV4 hps;go_enter func9,ntmps9;go_wp2_with fail
 rw[<-HV1.out];try rw[HS.out.1]
 rw[<-HV2.out];try rw[HS.out.2.1]
 rw[<-HV3.out];try rw[HS.out.2.2]
 rw[<-HV4.out];clear HV1 HV2 HV3 HV4 HS;refine hat.mono ?_;rintro e m1 ⟨a1,c1,rfl,hrp,hb1⟩;have hg1:=(zax (E:=PnE.row) (l:=[[⟨6,0,false⟩]]) hrp).1;clear hat hrp;obtain⟨q0,o0,q1,c3,e1,hq0,k0,hr0,-,-⟩:=hg1.rw (Below.refl _ _) 0 (by decide);subst e1;replace hr0:Gr PnE (fun _=>True) m1 q1 c3 [⟨6,0,false⟩]:=hr0;replace k0:m1.cell? ⟨q0,o0,none⟩=some (.slice q1 1 c3):=k0;obtain⟨r0,s0,e2,hq1,-,k1,k2,k3⟩:=hr0.pn (Below.refl _ _) 0 (by decide);subst e2;replace k1:m1.cell? ⟨r0,s0,none⟩=some (.int .i64 6):=by simpa using k1
 clear hg1 hr0 k2 k3 hq0 hq1;go_wp2_with fail
 refine(hd1 _ hb1).mono ?_;rintro e m2 ⟨rfl,hb2⟩;replace hb2:=hb1.trans (hb2.mono hb1.size);clear hb1 hd1 k0 k1;go_wp2_with fail
 refine(hd2 _ hb2).mono ?_;rintro e m3 ⟨rfl,hb3⟩;have za1:=hbW.trans ((hb2.trans (hb3.mono hb2.size)).mono hbW.size);clear hb2 hb3 hd2;go_wp2;go_ret;exact⟨rfl,za1⟩
