import Derived.Test.YtkmcodofnckdmaaGreatZS20
set_option maxHeartbeats 8000000
set_option maxRecDepth 100000
set_option linter.unusedSimpArgs false
set_option linter.unusedVariables false
namespace Go.Proofs.YtkmcodofnckdmaaGreat
def g1(b:List Nat)(p:Nat):Nat:=nmV b (p:Int) 4
def g2(b:List Nat)(p:Nat):Nat:=p+4+g1 b p
def g3(b:List Nat)(p:Nat):Nat:=nmV b (g2 b p:Int) 4
def g4(b:List Nat)(p:Nat):Nat:=g2 b p+4+g3 b p
open Go.RowKit Go.Maps
def Tzz(w:World)(a:Option Addr)(cap:Nat)(g:List (List Te)):Prop :=
 g.length<=cap/\cap<=maxLen /\
 ∀i,i<g.length->∃b off a' cap',a=some ⟨b,off,none⟩/\b<w.heap.size/\w.cell? ⟨b,off+i,none⟩=some (.slice a' (g.getD i []).length cap')/\Tz w a' cap' (g.getD i [])
theorem Tzz.at{w wr:World}{a:Option Addr}{cap:Nat}{m:List (List Te)}(h:Tzz w a cap m)(hb:Below w.heap.size w wr)(k:Nat)(hk:k<m.length) :
 ∃b off a' cap',a=some ⟨b,off,none⟩/\b<w.heap.size/\wr.cell? ⟨b,off+k,none⟩=some (.slice a' (m.getD k []).length cap')/\Tz wr a' cap' (m.getD k []):=by
 obtain⟨b,off,a',cap',h1,h2,h3,h4⟩:=h.2.2 k hk
 exact⟨b,off,a',cap',h1,h2,(hb.cell (p:=⟨b,off+k,none⟩) h2).trans h3,h4.below hb⟩
theorem Tzz.below{w w':World}{a:Option Addr}{cap:Nat}{m:List (List Te)}(h:Tzz w a cap m)(hb:Below w.heap.size w w'):Tzz w' a cap m:=by
 refine⟨h.1,h.2.1,fun i hi=>?_⟩
 obtain⟨b,off,a',cap',h1,h2,h3⟩:=h.at hb i hi
 exact⟨b,off,a',cap',h1,Nat.lt_of_lt_of_le h2 hb.size,h3⟩
theorem Tzz.lenB{w:World}{a:Option Addr}{cap:Nat}{m:List (List Te)}(h:Tzz w a cap m):m.length<=9223372036854775807:=by
 have h1:=h.1
 have h2:=h.2.1
 unfold maxLen at h2
 omega
def Rii(w:World)(a:Option Addr)(cap:Nat)(m:List (List Int)):Prop :=
 m.length<=cap/\cap<=maxLen /\
 ∀i,i<m.length->∃b off a' cap',a=some ⟨b,off,none⟩/\b<w.heap.size/\w.cell? ⟨b,off+i,none⟩=some (.slice a' (m.getD i []).length cap')/\Ri w a' cap' (m.getD i [])
theorem Rii.at{w wr:World}{a:Option Addr}{cap:Nat}{m:List (List Int)}(h:Rii w a cap m)(hb:Below w.heap.size w wr)(k:Nat)(hk:k<m.length) :
 ∃b off a' cap',a=some ⟨b,off,none⟩/\b<w.heap.size/\wr.cell? ⟨b,off+k,none⟩=some (.slice a' (m.getD k []).length cap')/\Ri wr a' cap' (m.getD k []):=by
 obtain⟨b,off,a',cap',h1,h2,h3,h4⟩:=h.2.2 k hk
 exact⟨b,off,a',cap',h1,h2,(hb.cell (p:=⟨b,off+k,none⟩) h2).trans h3,h4.below hb⟩
theorem Rii.below{w w':World}{a:Option Addr}{cap:Nat}{m:List (List Int)}(h:Rii w a cap m)(hb:Below w.heap.size w w'):Rii w' a cap m:=by
 refine⟨h.1,h.2.1,fun i hi=>?_⟩
 obtain⟨b,off,a',cap',h1,h2,h3⟩:=h.at hb i hi
 exact⟨b,off,a',cap',h1,Nat.lt_of_lt_of_le h2 hb.size,h3⟩
theorem Rii.lenB{w:World}{a:Option Addr}{cap:Nat}{m:List (List Int)}(h:Rii w a cap m):m.length<=9223372036854775807:=by
 have h1:=h.1
 have h2:=h.2.1
 unfold maxLen at h2
 omega
def BxS(w:World)(g:Nat)(x y:Value):Prop:=w.heap[g]?=some (.cells #[x,y] 26 (0,0))
theorem BxS.cells{w:World}{g:Nat}{x y:Value}(h:BxS w g x y) :
 w.cell? ⟨g,0,none⟩=some x/\w.cell? ⟨g,1,none⟩=some y/\w.frozen? ⟨g,0,none⟩=false/\w.frozen? ⟨g,1,none⟩=false :=
 ⟨cell_of_row w g 0 _ _ (0,0) h,cell_of_row w g 1 _ _ (0,0) h,frozen_of_row w g 0 _ _ h,frozen_of_row w g 1 _ _ h⟩
theorem BxS.lt{w:World}{g:Nat}{x y:Value}(h:BxS w g x y):g<w.heap.size:=(Array.getElem?_eq_some_iff.1 h).1
theorem BxS.below{w w':World}{g:Nat}{x y:Value}(h:BxS w g x y)(hb:Below w.heap.size w w'):BxS w' g x y:=(hb.block g h.lt).trans h
theorem BxS.new(w:World)(x y:Value):BxS (w.alloc (.cells #[x,y] 26)) w.heap.size x y:=heap_alloc_new w _
def BxL(w:World)(g:Nat)(x y:Value):Prop:=w.heap[g]?=some (.cells #[x,y] 60 (0,0))
theorem BxL.cells{w:World}{g:Nat}{x y:Value}(h:BxL w g x y) :
 w.cell? ⟨g,0,none⟩=some x/\w.cell? ⟨g,1,none⟩=some y/\w.frozen? ⟨g,0,none⟩=false/\w.frozen? ⟨g,1,none⟩=false :=
 ⟨cell_of_row w g 0 _ _ (0,0) h,cell_of_row w g 1 _ _ (0,0) h,frozen_of_row w g 0 _ _ h,frozen_of_row w g 1 _ _ h⟩
theorem BxL.lt{w:World}{g:Nat}{x y:Value}(h:BxL w g x y):g<w.heap.size:=(Array.getElem?_eq_some_iff.1 h).1
theorem BxL.below{w w':World}{g:Nat}{x y:Value}(h:BxL w g x y)(hb:Below w.heap.size w w'):BxL w' g x y:=(hb.block g h.lt).trans h
theorem BxL.new(w:World)(x y:Value):BxL (w.alloc (.cells #[x,y] 60)) w.heap.size x y:=heap_alloc_new w _
theorem BxL.new1(w:World)(o:Obj)(x y:Value):BxL ((w.alloc o).alloc (.cells #[x,y] 60)) (w.heap.size+1) x y:=by
 have h:=BxL.new (w.alloc o) x y
 simpa using h
theorem zo6(z:Int):(IntKind.i16.wrap z==z)=fdB z:=by
 rw[zhy,fdB,Bool.eq_iff_iff,beq_iff_eq,decide_eq_true_iff]
 split <;> omega
theorem zkh(z:Int)(w:World)(hz:I64 z) :
 Calls Tryz.prog 105 #[.int .i64 z] w fun e w'=>e=.returned (.bool (fdB z))/\w=w':=by
 have HE:Hid ((IntKind.i16.wrap z==z)=fdB z):=zo6 z
 have h1:IntKind.i64.wrap (IntKind.i16.wrap z)=IntKind.i16.wrap z:=by rw[zhy];simp only[IntKind.wrap,IntKind.bits,IntKind.signed];split <;> (simp;omega)
 go_enter Tryz.func105,Tryz.ntmps105
 go_wp2
 go_ret
 exact⟨zaa HE.out,rfl⟩
def hrB(s:Sr)(i:Int):Bool:=decide (0<=i)&&decide (i<(s.rw.length:Int))
theorem zgz(x:Value)(b:Option Addr)(cb:Nat)(s:Sr)(i:Int)(w:World)(hl:s.rw.length<=9223372036854775807)(hx:x.oneCell'=true) :
 Calls Tryz.prog 106 #[.agg #[x,.slice b s.rw.length cb],.int .i64 i] w fun e w'=>e=.returned (.bool (hrB s i))/\Below w.heap.size w w':=by
 by_cases h1:0<=i
 . have g1:decide (0<=i)=true:=decide_eq_true h1
   have HE:Hid (hrB s i=decide (i<(s.rw.length:Int))):=by show _=_;rw[hrB,g1,Bool.true_and]
   go_enter Tryz.func106,Tryz.ntmps106
   go_wp2
   go_ret
   exact⟨zaa HE.out.symm,bl1 _⟩
 . have g1:decide (0<=i)=false:=decide_eq_false h1
   have HE:Hid (hrB s i=false):=by show _=_;rw[hrB,g1,Bool.false_and]
   go_enter Tryz.func106,Tryz.ntmps106
   go_wp2
   go_ret
   exact⟨zaa HE.out.symm,bl1 _⟩
theorem zrq(a:Option Addr)(ca:Nat)(b:Option Addr)(cb:Nat)(s:Sr)(x r:Int)(w:World)(hl:s.rw.length<=9223372036854775807)(hx:I64 x)(hr:I64 r) :
 Calls Tryz.prog 59 #[.agg #[.slice a s.rg.length ca,.slice b s.rw.length cb],.agg #[.int .i64 x,.int .i64 r]] w fun e w'=>e=.returned (.bool (fiS s x r))/\Below w.heap.size w w':=by
 obtain⟨W,hW,X1,X2,hbW⟩:∃W,W=(w.alloc (.cells #[.slice a s.rg.length ca,.slice b s.rw.length cb] 26)).alloc (.cells #[.int .i64 x,.int .i64 r] 60) /\
     BxS W w.heap.size (.slice a s.rg.length ca) (.slice b s.rw.length cb)/\BxL W (w.heap.size+1) (.int .i64 x) (.int .i64 r)/\Below w.heap.size w W:=⟨_,rfl,(BxS.new _ _ _).below (bl1 _),BxL.new1 _ _ _ _,bl2 _ _⟩
 have hif:=fun U=>zkh x U hx
 have hhr:=fun U=>zgz (.slice a s.rg.length ca) b cb s r U hl rfl
 cases hf:fdB x with
 | false =>
  have HE:Hid (fiS s x r=false):=by show _=_;rw[fiS,hf,Bool.false_and]
  simp only[hf]at hif
  clear hf
  go_enter Tryz.func59,Tryz.ntmps59
  go_wp2_with fail
  rw[<-hW];clear hW
  refine(hif _).mono ?_
  rintro e u1 ⟨rfl,rfl⟩;obtain⟨c0,c1,_⟩:=X1.cells;obtain⟨d0,d1,_⟩:=X2.cells;go_wp2
  go_ret
  exact⟨zaa HE.out.symm,hbW⟩
 | true =>
  simp only[hf]at hif
  by_cases h1:r=-1
  . have HE:Hid (fiS s x r=true):=by show _=_;rw[fiS,hf,Bool.true_and,decide_eq_true h1,Bool.true_or]
    have g1:(r == -1)=true:=by simp[h1]
    clear hf h1
    go_enter Tryz.func59,Tryz.ntmps59
    go_wp2_with fail
    rw[<-hW];clear hW
    refine(hif _).mono ?_
    rintro e u1 ⟨rfl,rfl⟩;obtain⟨c0,c1,_⟩:=X1.cells;obtain⟨d0,d1,_⟩:=X2.cells;go_wp2
    go_ret
    exact⟨zaa HE.out.symm,hbW⟩
  . have g1:(r == -1)=false:=by simp[h1]
    have HE:Hid (fiS s x r=(hrB s r&&decide (r<400))):=by show _=_;rw[fiS,hf,Bool.true_and,decide_eq_false h1,Bool.false_or,hrB,Bool.and_assoc]
    clear hf h1
    cases hh:hrB s r with
    | false =>
     have HE2:Hid (fiS s x r=false):=by show _=_;rw[HE.out,hh,Bool.false_and]
     simp only[hh]at hhr
     clear hh
     go_enter Tryz.func59,Tryz.ntmps59
     go_wp2_with fail
     rw[<-hW];clear hW
     refine(hif _).mono ?_
     rintro e u1 ⟨rfl,rfl⟩;obtain⟨c0,c1,_⟩:=X1.cells;obtain⟨d0,d1,_⟩:=X2.cells
     go_wp2_with fail
     refine(hhr _).mono ?_
     rintro e u2 ⟨rfl,hb2⟩;replace X2:=X2.below hb2
     replace hbW:=hbW.trans (hb2.mono hbW.size)
     clear c0 c1 d0 d1 hb2;obtain⟨d0,d1,_⟩:=X2.cells;go_wp2
     go_ret
     exact⟨zaa HE2.out.symm,hbW⟩
    | true =>
     have HE2:Hid (fiS s x r=decide (r<400)):=by show _=_;rw[HE.out,hh,Bool.true_and]
     simp only[hh]at hhr
     clear hh
     go_enter Tryz.func59,Tryz.ntmps59
     go_wp2_with fail
     rw[<-hW];clear hW
     refine(hif _).mono ?_
     rintro e u1 ⟨rfl,rfl⟩;obtain⟨c0,c1,_⟩:=X1.cells;obtain⟨d0,d1,_⟩:=X2.cells
     go_wp2_with fail
     refine(hhr _).mono ?_
     rintro e u2 ⟨rfl,hb2⟩;replace X2:=X2.below hb2
     replace hbW:=hbW.trans (hb2.mono hbW.size)
     clear c0 c1 d0 d1 hb2;obtain⟨d0,d1,_⟩:=X2.cells;go_wp2
     go_ret
     exact⟨zaa HE2.out.symm,hbW⟩
def lmbS(n:Nat):Nat:=if n=0 then 2 else 21*n-1
theorem zmt(n:Nat):2<=lmbS n:=by unfold lmbS;split <;> omega
theorem zqk{n:Nat}(h:n<=1000):lmbS n<=21000:=by unfold lmbS;split <;> omega
theorem ztd{n h:Nat}(h1:1<=h)(h2:h<n):lmbS h+lmbS (n-h)+1<=lmbS n:=by unfold lmbS;rw[if_neg (by omega),if_neg (by omega),if_neg (by omega)];omega
theorem ztt:∀(n:Nat) (a:Option Addr) (cap:Nat) (qs:List Rat) (w:World),qs.length=n->n<=1000->Rz w a cap 20 qs ->
    Calls Tryz.prog 168 #[.slice a n cap] w fun e w'=>∃v',e=.returned v'/\Fr w' v' (lmbS n) (suQ qs)/\Below w.heap.size w w':=by
 intro n
 induction n using Nat.strongRecOn with
 | ind n ih =>
  intro a cap qs w hn hn1 h
  have zyh:=h.1
  have hcm:=h.2.1
  unfold maxLen at hcm
  have HL:Hid (qs.length=n):=hn
  have HH:Hid (Rz w a cap 20 qs):=h
  rw[hn]at zyh;clear h hn
  obtain⟨W,hW,B0,hbW⟩:∃W,W=w.alloc (.cells #[.bool false,.slice none 0 0,.slice none 0 0] 125)/\Box 125 W w.heap.size (.bool false) (.slice none 0 0) (.slice none 0 0)/\Below w.heap.size w W:=⟨_,rfl,Box.new _ _ _ _ _,al1 _⟩
  by_cases h0:n=0
  . subst h0
    have HQ:Hid (((0:Int):Rat)=suQ qs):=by
     show _=_
     rw[List.length_eq_zero_iff.1 HL.out,suQ]
     rfl
    clear ih
    go_enter Tryz.func168,Tryz.ntmps168
    go_wp2_with fail
    rw[<-hW];clear hW
    refine(zaf 0 _ (by decide) (by decide)).mono ?_
    rintro e u1 ⟨v1,rfl,hF9,hb1⟩;replace B0:=B0.below hb1
    replace hbW:=hbW.trans (hb1.mono hbW.size)
    clear hb1;rw[HQ.out]at hF9;obtain⟨n9,x9,y9,⟨a9,c9,b9,d9,rfl,hx9,hy9⟩,hF9⟩:=hF9;obtain⟨q1,q2,q3,q4,q5,q6⟩:=B0.cells
    have hs:=B0.lt
    go_wp2
    refine ret3 (v:=.agg #[.bool n9,.slice a9 x9.length c9,.slice b9 y9.length d9]) B0 rfl (fun U hU=>by obtain⟨r1,r2,r3,_⟩:=hU.cells;simp[results,Tryz.results168,go_sem,r1,r2,r3]) (fun U hU hK=>⟨_,rfl,⟨_,_,_,⟨_,_,_,_,rfl,hK _ _ _ hx9,hK _ _ _ hy9⟩,hF9⟩,hU _ _ hbW (by omega)⟩)
  by_cases h1:n=1
  . subst h1
    have HQ:Hid (qs.getD 0 0=suQ qs):=by
     show _=_
     obtain⟨q,hq⟩:=List.length_eq_one_iff.1 HL.out
     rw[hq,ze1]
     rfl
    clear ih h0
    obtain⟨b,off,x,y,z,ea,hb,c0,c1,c2,hF9⟩:=HH.out.2.2 0 (by rw[HL.out];omega)
    subst ea
    replace c0:=(hbW.cell (p:=⟨b,off+0*3,none⟩) hb).trans c0
    replace c1:=(hbW.cell (p:=⟨b,off+0*3+1,none⟩) hb).trans c1
    replace c2:=(hbW.cell (p:=⟨b,off+0*3+2,none⟩) hb).trans c2
    rw[HQ.out]at hF9;obtain⟨n9,x9,y9,⟨a9,c9,b9,d9,e9,hx9,hy9⟩,hF9⟩:=hF9
    simp only[Value.agg.injEq,Array.mk.injEq,List.cons.injEq,and_true]at e9
    obtain⟨rfl,rfl,rfl⟩:=e9
    simp only[Nat.zero_mul,Nat.add_zero,Nat.zero_add]at c0 c1 c2
    subst hW;clear B0
    go_enter Tryz.func168,Tryz.ntmps168
    go_wp2
    refine bodyPost_ret (v:=.agg #[.bool n9,.slice a9 x9.length c9,.slice b9 y9.length d9]) (by obtain⟨r1,r2,r3,_⟩:=(Box.new 125 w (.bool n9) (.slice a9 x9.length c9) (.slice b9 y9.length d9)).cells;simp[results,Tryz.results168,go_sem,r1,r2,r3]) rfl ⟨_,rfl,⟨_,_,_,⟨_,_,_,_,rfl,hx9.below (al1 _),hy9.below (al1 _)⟩,hF9.1,by have:=hF9.2.1;simp[lmbS];omega,by have:=hF9.2.2.1;simp[lmbS];omega,hF9.2.2.2⟩,al1 _⟩
  obtain⟨h,hh⟩:∃h,n/2=h:=⟨_,rfl⟩
  have e1:1<=h:=by omega
  have e2:h<n:=by omega
  have hdv:(n:Int).tdiv 2=(h:Int):=by rw[Int.tdiv_eq_ediv_of_nonneg (by omega)];omega
  have g0:((n:Int)==0)=false:=beq_eq_false_iff_ne.2 (by omega)
  have g1:((n:Int)==1)=false:=beq_eq_false_iff_ne.2 (by omega)
  have hz1:=HH.out.take h
  have hz2:=HH.out.from h (by rw[HL.out];exact e2)
  have hc1:=fun U hU=>ih h e2 a cap (qs.take h) U (by rw[List.length_take,HL.out];omega) (by omega) hU
  have hc2:=fun U hU=>ih (n-h) (by omega) (a.map (fun x=>x.add (h*3))) (cap-h) (qs.drop h) U (by rw[List.length_drop,HL.out]) (by omega) hU
  have HQ:Hid (suQ (qs.take h)+suQ (qs.drop h)=suQ qs):=zmc _ _
  have HM:Hid (lmbS h+lmbS (n-h)+1<=lmbS n):=ztd e1 e2
  have HM2:Hid (2<=lmbS h/\2<=lmbS (n-h)/\lmbS h<=21000/\lmbS (n-h)<=21000):=⟨zmt _,zmt _,zqk (by omega),zqk (by omega)⟩
  have hcn:¬cap=h:=by omega
  clear ih h0 h1 hh
  generalize qs.take h=q1 at *
  generalize qs.drop h=q2 at *
  generalize lmbS h=k1 at *
  generalize hk2:lmbS (n-h)=k2 at *
  clear hk2
  have hle:h<=n:=by omega
  have hlc:h<=cap:=by omega
  go_enter Tryz.func168,Tryz.ntmps168
  go_upto_region 7 with fail
  rw[<-hW];clear hW;replace hz1:=hz1.below hbW;replace hz2:=hz2.below hbW
  refine wp_region_held_drew (S:=(fun _=>True)) (by kernel_rfl) ?_ (fun hH=>?_)
  . (try dsimp only)
    all_goals go_keep
  have hdr:Below W.heap.size W W.drew:=Below.drew1
  generalize W.drew=ud1 at hdr hH ⊢
  replace hz1:=hz1.below hdr;replace hz2:=hz2.below hdr;replace B0:=B0.below hdr
  replace hbW:Below w.heap.size w ud1:=hbW.trans (hdr.mono hbW.size)
  clear hdr;refine hT 0 hH ?_;refine hT 1 hH ?_
  refine hTake (i:=2) (v:=.slice a h cap) rfl (by kernel_rfl) (by kernel_rfl) (by kernel_rfl) (fun _ _ _ h=>h) (Or.inl ⟨by rfl,?y2⟩) hH ?r2
  case y2 =>
   intro w9 hSw
   (try dsimp only at hSw)
   go_simp
  try simp only[Act.put,pZ]
  refine hT 4 hH ?_;refine hT 5 hH ?_
  refine hTake (i:=6) (v:=.slice (a.map (fun x=>x.add (h*3))) (n-h) (cap-h)) rfl (by kernel_rfl) (by kernel_rfl) (by kernel_rfl) (fun _ _ _ h=>h) (Or.inl ⟨by rfl,?y3⟩) hH ?r3
  case y3 =>
   intro w9 hSw
   (try dsimp only at hSw)
   go_simp
  try simp only[Act.put,pZ]
  refine hCall (i:=3) rfl (by kernel_rfl) (by rfl) (fun K hK=>?_)
  go_simp
  refine(hc1 _ hz1).mono ?_
  rintro e u1 ⟨v5,rfl,hF5,hb1⟩;replace hz1:=hz1.below hb1;replace hz2:=hz2.below hb1;replace B0:=B0.below hb1
  replace hbW:Below w.heap.size w u1:=hbW.trans (hb1.mono hbW.size)
  clear hb1
  go_wp2_with fail
  refine hK.out _ _ ?_ (fun hH=>?_)
  . (try dsimp only)
    all_goals trivial
  clear hK K
  try simp only[Act.put,pZ]
  refine hCall (i:=7) rfl (by kernel_rfl) (by rfl) (fun K hK=>?_)
  go_simp
  refine(hc2 _ hz2).mono ?_
  rintro e u2 ⟨v6,rfl,hF6,hb2⟩;replace hz1:=hz1.below hb2;replace hz2:=hz2.below hb2;replace B0:=B0.below hb2;replace hF5:=hF5.below hb2
  replace hbW:Below w.heap.size w u2:=hbW.trans (hb2.mono hbW.size)
  clear hb2
  go_wp2_with fail
  refine hK.out _ _ ?_ (fun hH=>?_)
  . (try dsimp only)
    all_goals trivial
  clear hK K
  try simp only[Act.put,pZ]
  refine hCall (i:=8) rfl (by kernel_rfl) (by rfl) (fun K hK=>?_)
  go_simp
  refine(zfy k1 k2 (suQ q1) (suQ q2) _ _ _ hF5.ct hF6.ct (by have:=HM2.out;omega) (by have:=HM2.out;omega) HM2.out.1 HM2.out.2.1).mono ?_
  rintro e u3 ⟨v9,rfl,hF9,hb3⟩;replace hz1:=hz1.below hb3;replace hz2:=hz2.below hb3;replace B0:=B0.below hb3;replace hF5:=hF5.below hb3;replace hF6:=hF6.below hb3
  replace hbW:Below w.heap.size w u3:=hbW.trans (hb3.mono hbW.size)
  clear hb3;rw[HQ.out]at hF9;obtain⟨n9,x9,y9,⟨a9,c9,b9,d9,rfl,hx9,hy9⟩,hF9⟩:=hF9
  go_wp2_with fail
  refine hK.out _ _ ?_ (fun hH=>?_)
  . (try dsimp only)
    all_goals trivial
  clear hK K
  try simp only[Act.put,pZ]
  refine hCall (i:=9) rfl (by kernel_rfl) (by rfl) (fun K hK=>?_)
  go_simp
  have hs:=B0.lt
  obtain⟨f1,f2,f3,f4,f5,f6⟩:=B0.cells
  try go_simp
  obtain⟨u64,hU,C9,hbU,hK9,ho⟩:=zai B0 (.bool n9) (.slice a9 x9.length c9) (.slice b9 y9.length d9)
  rw[<-hU];clear hU f1 f2 f3 f4 f5 f6
  replace hbW:=hbU _ _ hbW (by omega)
  replace hx9:=hK9 _ _ _ hx9
  replace hy9:=hK9 _ _ _ hy9
  clear hbU hK9 ho
  refine hK.out _ _ ?_ (fun hH=>?_)
  . (try dsimp only)
    all_goals trivial
  clear hK K
  try simp only[Act.put,pZ]
  refine wpAnyH_done (by kernel_rfl) ?_ _
  clear hH;go_wp2
  refine bodyPost_ret (by obtain⟨r1,r2,r3,_⟩:=C9.cells;simp[results,Tryz.results168,go_sem,r1,r2,r3]) rfl ⟨_,rfl,Fr.le (k:=k1+k2+1) ⟨_,_,_,⟨_,_,_,_,rfl,hx9,hy9⟩,hF9⟩ HM.out,hbW⟩
def Cl(w:World)(g o:Nat)(v:Value):Prop:=g<w.heap.size/\w.cell? ⟨g,o,none⟩=some v
theorem Cl.below{w w':World}{g o:Nat}{v:Value}(h:Cl w g o v)(hb:Below w.heap.size w w'):Cl w' g o v:=⟨Nat.lt_of_lt_of_le h.1 hb.size,(hb.cell (p:=⟨g,o,none⟩) h.1).trans h.2⟩
