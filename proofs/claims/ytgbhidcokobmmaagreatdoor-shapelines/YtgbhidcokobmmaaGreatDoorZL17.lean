import Derived.Test.YtgbhidcokobmmaaGreatDoorZL16
set_option maxHeartbeats 8000000
set_option maxRecDepth 100000
set_option linter.unusedSimpArgs false
set_option linter.unusedVariables false
namespace Go.Proofs.YtgbhidcokobmmaaGreatDoor
open Go.RowKit Go.Maps
theorem zd2(a:Option Addr)(ca:Nat)(b:Option Addr)(cb:Nat)(s:Sr)(x r:Int)(w:World)(hl:s.rw.length<=9223372036854775807)(hx:I64 x)(hr:I64 r) :
 Calls Tryz.prog 44 #[.agg #[.slice a s.rg.length ca,.slice b s.rw.length cb],.agg #[.int .i64 x,.int .i64 r]] w fun e w'=>e=.returned (.bool (fiS s x r))/\Below w.heap.size w w':=by
 obtain⟨W,hW,X1,X2,hbW⟩:∃W,W=(w.alloc (.cells #[.slice a s.rg.length ca,.slice b s.rw.length cb] 27)).alloc (.cells #[.int .i64 x,.int .i64 r] 62) /\
     BxS W w.heap.size (.slice a s.rg.length ca) (.slice b s.rw.length cb)/\BxL W (w.heap.size+1) (.int .i64 x) (.int .i64 r)/\Below w.heap.size w W:=⟨_,rfl,(BxS.new _ _ _).below (bl1 _),BxL.new1 _ _ _ _,bl2 _ _⟩
 have hif:=fun U=>zi9 x U hx
 have hhr:=fun U=>zf1 (.slice a s.rg.length ca) b cb s r U hl rfl
 cases hf:fdB x with
 | false =>
  have HE:Hid (fiS s x r=false):=by show _=_;rw[fiS,hf,Bool.false_and]
  simp only[hf]at hif
  clear hf
  go_enter Tryz.func44,Tryz.ntmps44
  go_wp2_with fail
  rw[<-hW];clear hW
  refine(hif _).mono ?_
  rintro e u1 ⟨rfl,rfl⟩;obtain⟨c0,c1,_⟩:=X1.cells;obtain⟨d0,d1,_⟩:=X2.cells;go_wp2
  go_ret
  exact⟨zaa HE.out.symm,hbW⟩
 | true =>
  simp only[hf]at hif
  by_cases h1:r=-1
  . have HE:Hid (fiS s x r=true):=by show _=_;rw[fiS,hf,Bool.true_and,decide_eq_true h1,Bool.true_or]
    have g1:(r == -1)=true:=by simp[h1]
    clear hf h1
    go_enter Tryz.func44,Tryz.ntmps44
    go_wp2_with fail
    rw[<-hW];clear hW
    refine(hif _).mono ?_
    rintro e u1 ⟨rfl,rfl⟩;obtain⟨c0,c1,_⟩:=X1.cells;obtain⟨d0,d1,_⟩:=X2.cells;go_wp2
    go_ret
    exact⟨zaa HE.out.symm,hbW⟩
  . have g1:(r == -1)=false:=by simp[h1]
    have HE:Hid (fiS s x r=(hrB s r&&decide (r<400))):=by show _=_;rw[fiS,hf,Bool.true_and,decide_eq_false h1,Bool.false_or,hrB,Bool.and_assoc]
    clear hf h1
    cases hh:hrB s r with
    | false =>
     have HE2:Hid (fiS s x r=false):=by show _=_;rw[HE.out,hh,Bool.false_and]
     simp only[hh]at hhr
     clear hh
     go_enter Tryz.func44,Tryz.ntmps44
     go_wp2_with fail
     rw[<-hW];clear hW
     refine(hif _).mono ?_
     rintro e u1 ⟨rfl,rfl⟩;obtain⟨c0,c1,_⟩:=X1.cells;obtain⟨d0,d1,_⟩:=X2.cells
     go_wp2_with fail
     refine(hhr _).mono ?_
     rintro e u2 ⟨rfl,hb2⟩;replace X2:=X2.below hb2
     replace hbW:=hbW.trans (hb2.mono hbW.size)
     clear c0 c1 d0 d1 hb2;obtain⟨d0,d1,_⟩:=X2.cells;go_wp2
     go_ret
     exact⟨zaa HE2.out.symm,hbW⟩
    | true =>
     have HE2:Hid (fiS s x r=decide (r<400)):=by show _=_;rw[HE.out,hh,Bool.true_and]
     simp only[hh]at hhr
     clear hh
     go_enter Tryz.func44,Tryz.ntmps44
     go_wp2_with fail
     rw[<-hW];clear hW
     refine(hif _).mono ?_
     rintro e u1 ⟨rfl,rfl⟩;obtain⟨c0,c1,_⟩:=X1.cells;obtain⟨d0,d1,_⟩:=X2.cells
     go_wp2_with fail
     refine(hhr _).mono ?_
     rintro e u2 ⟨rfl,hb2⟩;replace X2:=X2.below hb2
     replace hbW:=hbW.trans (hb2.mono hbW.size)
     clear c0 c1 d0 d1 hb2;obtain⟨d0,d1,_⟩:=X2.cells;go_wp2
     go_ret
     exact⟨zaa HE2.out.symm,hbW⟩
theorem Fr.moved{u U:World}{v:Value}{k:Nat}{q:Rat}(h:Fr u v k q)(hK:∀a c xs,Rd u a c xs->Rd U a c xs):Fr U v k q:=by
 obtain⟨n,xs,ys,⟨a,c,a',c',e,h1,h2⟩,h3⟩:=h
 exact⟨n,xs,ys,⟨a,c,a',c',e,hK _ _ _ h1,hK _ _ _ h2⟩,h3⟩
def lmbS(n:Nat):Nat:=if n=0 then 2 else 21*n-1
theorem zlu(n:Nat):2<=lmbS n:=by unfold lmbS;split <;> omega
theorem zpw{n:Nat}(h:n<=1000):lmbS n<=21000:=by unfold lmbS;split <;> omega
theorem zs0{n h:Nat}(h1:1<=h)(h2:h<n):lmbS h+lmbS (n-h)+1<=lmbS n:=by unfold lmbS;rw[if_neg (by omega),if_neg (by omega),if_neg (by omega)];omega
theorem ztk:∀(n:Nat) (a:Option Addr) (cap:Nat) (qs:List Rat) (w:World),qs.length=n->n<=1000->Rz w a cap 20 qs ->
    Calls Tryz.prog 117 #[.slice a n cap] w fun e w'=>∃v',e=.returned v'/\Fr w' v' (lmbS n) (suQ qs)/\Below w.heap.size w w':=by
 intro n
 induction n using Nat.strongRecOn with
 | ind n ih =>
  intro a cap qs w hn hn1 h
  have zus:=h.1
  have hcm:=h.2.1
  unfold maxLen at hcm
  have HL:Hid (qs.length=n):=hn
  have HH:Hid (Rz w a cap 20 qs):=h
  rw[hn]at zus;clear h hn
  obtain⟨W,hW,B0,hbW⟩:∃W,W=w.alloc (.cells #[.bool false,.slice none 0 0,.slice none 0 0] 96)/\Box 96 W w.heap.size (.bool false) (.slice none 0 0) (.slice none 0 0)/\Below w.heap.size w W:=⟨_,rfl,Box.new _ _ _ _ _,al1 _⟩
  by_cases h0:n=0
  . subst h0
    have HQ:Hid (((0:Int):Rat)=suQ qs):=by
     show _=_
     rw[List.length_eq_zero_iff.1 HL.out,suQ]
     rfl
    clear ih
    go_enter Tryz.func117,Tryz.ntmps117
    go_wp2_with fail
    rw[<-hW];clear hW
    refine(zay 0 _ (by decide) (by decide)).mono ?_
    rintro e u1 ⟨v1,rfl,hF9,hb1⟩;replace B0:=B0.below hb1
    replace hbW:=hbW.trans (hb1.mono hbW.size)
    clear hb1;rw[HQ.out]at hF9;obtain⟨n9,x9,y9,⟨a9,c9,b9,d9,rfl,hx9,hy9⟩,hF9⟩:=hF9;obtain⟨q1,q2,q3,q4,q5,q6⟩:=B0.cells
    have hs:=B0.lt
    go_wp2
    refine ret3 (v:=.agg #[.bool n9,.slice a9 x9.length c9,.slice b9 y9.length d9]) B0 rfl (fun U hU=>by obtain⟨r1,r2,r3,_⟩:=hU.cells;simp[results,Tryz.results117,go_sem,r1,r2,r3]) (fun U hU hK=>⟨_,rfl,⟨_,_,_,⟨_,_,_,_,rfl,hK _ _ _ hx9,hK _ _ _ hy9⟩,hF9⟩,hU _ _ hbW (by omega)⟩)
  by_cases h1:n=1
  . subst h1
    have HQ:Hid (qs.getD 0 0=suQ qs):=by
     show _=_
     obtain⟨q,hq⟩:=List.length_eq_one_iff.1 HL.out
     rw[hq,zoa]
     rfl
    clear ih h0
    obtain⟨b,off,x,y,z,ea,hb,c0,c1,c2,hF9⟩:=HH.out.2.2 0 (by rw[HL.out];omega)
    subst ea
    replace c0:=(hbW.cell (p:=⟨b,off+0*3,none⟩) hb).trans c0
    replace c1:=(hbW.cell (p:=⟨b,off+0*3+1,none⟩) hb).trans c1
    replace c2:=(hbW.cell (p:=⟨b,off+0*3+2,none⟩) hb).trans c2
    rw[HQ.out]at hF9;obtain⟨n9,x9,y9,⟨a9,c9,b9,d9,e9,hx9,hy9⟩,hF9⟩:=hF9
    simp only[Value.agg.injEq,Array.mk.injEq,List.cons.injEq,and_true]at e9
    obtain⟨rfl,rfl,rfl⟩:=e9
    simp only[Nat.zero_mul,Nat.add_zero,Nat.zero_add]at c0 c1 c2
    subst hW;clear B0
    go_enter Tryz.func117,Tryz.ntmps117
    go_wp2
    refine bodyPost_ret (v:=.agg #[.bool n9,.slice a9 x9.length c9,.slice b9 y9.length d9]) (by obtain⟨r1,r2,r3,_⟩:=(Box.new 96 w (.bool n9) (.slice a9 x9.length c9) (.slice b9 y9.length d9)).cells;simp[results,Tryz.results117,go_sem,r1,r2,r3]) rfl ⟨_,rfl,⟨_,_,_,⟨_,_,_,_,rfl,hx9.below (al1 _),hy9.below (al1 _)⟩,hF9.1,by have:=hF9.2.1;simp[lmbS];omega,by have:=hF9.2.2.1;simp[lmbS];omega,hF9.2.2.2⟩,al1 _⟩
  obtain⟨h,hh⟩:∃h,n/2=h:=⟨_,rfl⟩
  have e1:1<=h:=by omega
  have e2:h<n:=by omega
  have hdv:(n:Int).tdiv 2=(h:Int):=by rw[Int.tdiv_eq_ediv_of_nonneg (by omega)];omega
  have g0:((n:Int)==0)=false:=beq_eq_false_iff_ne.2 (by omega)
  have g1:((n:Int)==1)=false:=beq_eq_false_iff_ne.2 (by omega)
  have hz1:=HH.out.take h
  have hz2:=HH.out.from h (by rw[HL.out];exact e2)
  have hc1:=fun U hU=>ih h e2 a cap (qs.take h) U (by rw[List.length_take,HL.out];omega) (by omega) hU
  have hc2:=fun U hU=>ih (n-h) (by omega) (a.map (fun x=>x.add (h*3))) (cap-h) (qs.drop h) U (by rw[List.length_drop,HL.out]) (by omega) hU
  have HQ:Hid (suQ (qs.take h)+suQ (qs.drop h)=suQ qs):=zr0 _ _
  have HM:Hid (lmbS h+lmbS (n-h)+1<=lmbS n):=zs0 e1 e2
  have HM2:Hid (2<=lmbS h/\2<=lmbS (n-h)/\lmbS h<=21000/\lmbS (n-h)<=21000):=⟨zlu _,zlu _,zpw (by omega),zpw (by omega)⟩
  have hcn:¬cap=h:=by omega
  clear ih h0 h1 hh
  generalize qs.take h=q1 at *
  generalize qs.drop h=q2 at *
  generalize lmbS h=k1 at *
  generalize hk2:lmbS (n-h)=k2 at *
  clear hk2
  have hle:h<=n:=by omega
  have hlc:h<=cap:=by omega
  go_enter Tryz.func117,Tryz.ntmps117
  go_upto_region 7 with fail
  rw[<-hW];clear hW;replace hz1:=hz1.below hbW;replace hz2:=hz2.below hbW
  refine wp_region_held_drew (S:=(fun _=>True)) (by kernel_rfl) ?_ (fun hH=>?_)
  . (try dsimp only)
    all_goals go_keep
  have hdr:Below W.heap.size W W.drew:=Below.drew1
  generalize W.drew=ud1 at hdr hH ⊢
  replace hz1:=hz1.below hdr;replace hz2:=hz2.below hdr;replace B0:=B0.below hdr
  replace hbW:Below w.heap.size w ud1:=hbW.trans (hdr.mono hbW.size)
  clear hdr;refine hT 0 hH ?_;refine hT 1 hH ?_
  refine hTake (i:=2) (v:=.slice a h cap) rfl (by kernel_rfl) (by kernel_rfl) (by kernel_rfl) (fun _ _ _ h=>h) (Or.inl ⟨by rfl,?y2⟩) hH ?r2
  case y2 =>
   intro w9 hSw
   (try dsimp only at hSw)
   go_simp
  try simp only[Act.put,pZ]
  refine hT 4 hH ?_;refine hT 5 hH ?_
  refine hTake (i:=6) (v:=.slice (a.map (fun x=>x.add (h*3))) (n-h) (cap-h)) rfl (by kernel_rfl) (by kernel_rfl) (by kernel_rfl) (fun _ _ _ h=>h) (Or.inl ⟨by rfl,?y3⟩) hH ?r3
  case y3 =>
   intro w9 hSw
   (try dsimp only at hSw)
   go_simp
  try simp only[Act.put,pZ]
  refine hCall (i:=3) rfl (by kernel_rfl) (by rfl) (fun K hK=>?_)
  go_simp
  refine(hc1 _ hz1).mono ?_
  rintro e u1 ⟨v5,rfl,hF5,hb1⟩;replace hz1:=hz1.below hb1;replace hz2:=hz2.below hb1;replace B0:=B0.below hb1
  replace hbW:Below w.heap.size w u1:=hbW.trans (hb1.mono hbW.size)
  clear hb1
  go_wp2_with fail
  refine hK.out _ _ ?_ (fun hH=>?_)
  . (try dsimp only)
    all_goals trivial
  clear hK K
  try simp only[Act.put,pZ]
  refine hCall (i:=7) rfl (by kernel_rfl) (by rfl) (fun K hK=>?_)
  go_simp
  refine(hc2 _ hz2).mono ?_
  rintro e u2 ⟨v6,rfl,hF6,hb2⟩;replace hz1:=hz1.below hb2;replace hz2:=hz2.below hb2;replace B0:=B0.below hb2;replace hF5:=hF5.below hb2
  replace hbW:Below w.heap.size w u2:=hbW.trans (hb2.mono hbW.size)
  clear hb2
  go_wp2_with fail
  refine hK.out _ _ ?_ (fun hH=>?_)
  . (try dsimp only)
    all_goals trivial
  clear hK K
  try simp only[Act.put,pZ]
  refine hCall (i:=8) rfl (by kernel_rfl) (by rfl) (fun K hK=>?_)
  go_simp
  refine(zli k1 k2 (suQ q1) (suQ q2) _ _ _ hF5.ct hF6.ct (by have:=HM2.out;omega) (by have:=HM2.out;omega) HM2.out.1 HM2.out.2.1).mono ?_
  rintro e u3 ⟨v9,rfl,hF9,hb3⟩;replace hz1:=hz1.below hb3;replace hz2:=hz2.below hb3;replace B0:=B0.below hb3;replace hF5:=hF5.below hb3;replace hF6:=hF6.below hb3
  replace hbW:Below w.heap.size w u3:=hbW.trans (hb3.mono hbW.size)
  clear hb3;rw[HQ.out]at hF9;obtain⟨n9,x9,y9,⟨a9,c9,b9,d9,rfl,hx9,hy9⟩,hF9⟩:=hF9
  go_wp2_with fail
  refine hK.out _ _ ?_ (fun hH=>?_)
  . (try dsimp only)
    all_goals trivial
  clear hK K
  try simp only[Act.put,pZ]
  refine hCall (i:=9) rfl (by kernel_rfl) (by rfl) (fun K hK=>?_)
  go_simp
  have hs:=B0.lt
  obtain⟨f1,f2,f3,f4,f5,f6⟩:=B0.cells
  try go_simp
  obtain⟨u64,hU,C9,hbU,hK9,ho⟩:=zai B0 (.bool n9) (.slice a9 x9.length c9) (.slice b9 y9.length d9)
  rw[<-hU];clear hU f1 f2 f3 f4 f5 f6
  replace hbW:=hbU _ _ hbW (by omega)
  replace hx9:=hK9 _ _ _ hx9
  replace hy9:=hK9 _ _ _ hy9
  clear hbU hK9 ho
  refine hK.out _ _ ?_ (fun hH=>?_)
  . (try dsimp only)
    all_goals trivial
  clear hK K
  try simp only[Act.put,pZ]
  refine wpAnyH_done (by kernel_rfl) ?_ _
  clear hH;go_wp2
  refine bodyPost_ret (by obtain⟨r1,r2,r3,_⟩:=C9.cells;simp[results,Tryz.results117,go_sem,r1,r2,r3]) rfl ⟨_,rfl,Fr.le (k:=k1+k2+1) ⟨_,_,_,⟨_,_,_,_,rfl,hx9,hy9⟩,hF9⟩ HM.out,hbW⟩
theorem zhd{t:Te}{c:Int}(h1:tfB t=true)(h2:crd c=true)(h:t.pk=0\/c=t.pk):((1:Int):Rat)=paQ t c:=by
 rw[zhc h1 h2,if_pos h]
 rfl
theorem zhe{t:Te}{c:Int}(h1:tfB t=true)(h2:crd c=true)(h:¬(t.pk=0\/c=t.pk))(h3:c<=t.st\/t.en<=c):((0:Int):Rat)=paQ t c:=by
 rw[zhc h1 h2,if_neg h,if_pos h3]
 rfl
theorem zt8{t:Te}{c:Int}(h1:tfB t=true)(h2:crd c=true)(h:¬(t.pk=0\/c=t.pk))(h3:¬(c<=t.st\/t.en<=c))(h4:c<t.pk):((c-t.st:Int):Rat)/((t.pk-t.st:Int):Rat)=paQ t c:=by
 rw[zhc h1 h2,if_neg h,if_neg h3,if_pos h4]
theorem zlo{t:Te}{c:Int}(h1:tfB t=true)(h2:crd c=true)(h:¬(t.pk=0\/c=t.pk))(h3:¬(c<=t.st\/t.en<=c))(h4:¬c<t.pk):((t.en-c:Int):Rat)/((t.en-t.pk:Int):Rat)=paQ t c:=by
 rw[zhc h1 h2,if_neg h,if_neg h3,if_neg h4]
theorem zq7(t:Te)(c:Int)(w:World)(hc:I64 c) :
 Calls Tryz.prog 149 #[.agg #[.int .i64 t.st,.int .i64 t.pk,.int .i64 t.en],.int .i64 c] w fun e w'=>∃v',e=.returned v'/\Fr w' v' 2 (paQ t c)/\Below w.heap.size w w':=by
 have hfo:=fun U=>znw t U
 obtain⟨W,hW,X1,B1,hbW⟩:=zuy 220 96 w (.int .i64 t.st) (.int .i64 t.pk) (.int .i64 t.en) (.bool false) (.slice none 0 0) (.slice none 0 0)
 cases hf:tfB t with
 | false =>
  have HP:Hid (((0:Int):Rat)=paQ t c):=(zln (fun h=>by rw[hf]at h;cases h.1)).symm
  simp only[hf]at hfo
  clear hf;obtain⟨st,pk,en⟩:=t
  dsimp only at *
  go_enter Tryz.func149,Tryz.ntmps149
  go_wp2_with fail
  rw[<-hW];clear hW
  refine(hfo _).mono ?_
  rintro e u1 ⟨rfl,hb1⟩;replace X1:=X1.below hb1;replace B1:=B1.below hb1
  replace hbW:=hbW.trans (hb1.mono hbW.size)
  clear hb1 hfo;obtain⟨p0,p1,p2,_⟩:=X1.cells
  go_wp2_with fail
  refine(zay 0 _ (by decide) (by decide)).mono ?_
  rintro e u3 ⟨v3,rfl,hF3,hb3⟩;replace B1:=B1.below hb3
  replace hbW:=hbW.trans (hb3.mono hbW.size)
  rw[HP.out]at hF3;clear hb3 X1;obtain⟨n3,xs,ys,⟨a3,c3,b3,d3,rfl,hx3,hy3⟩,f1,f2,f3,f4⟩:=hF3;obtain⟨q1,q2,q3,q4,q5,q6⟩:=B1.cells
  have hs:=B1.lt
  go_wp2
  refine ret3 (v:=.agg #[.bool n3,.slice a3 xs.length c3,.slice b3 ys.length d3]) B1 rfl (fun U hU=>by obtain⟨r1,r2,r3,_⟩:=hU.cells;simp[results,Tryz.results149,go_sem,r1,r2,r3]) (fun U hU hK=>⟨_,rfl,⟨_,_,_,⟨_,_,_,_,rfl,hK _ _ _ hx3,hK _ _ _ hy3⟩,f1,f2,f3,f4⟩,hU _ _ hbW (by omega)⟩)
 | true =>
  have hbd:=zck.1 hf
  unfold TfT at hbd
  simp only[hf]at hfo
  cases hcc:crd c with
  | false =>
   have HP:Hid (((0:Int):Rat)=paQ t c):=(zln (fun h=>by rw[hcc]at h;cases h.2)).symm
   clear hf hbd;obtain⟨st,pk,en⟩:=t
   dsimp only at *
   go_enter Tryz.func149,Tryz.ntmps149
   go_wp2_with fail
   rw[<-hW];clear hW
   refine(hfo _).mono ?_
   rintro e u1 ⟨rfl,hb1⟩;replace X1:=X1.below hb1;replace B1:=B1.below hb1
   replace hbW:=hbW.trans (hb1.mono hbW.size)
   clear hb1 hfo;obtain⟨p0,p1,p2,_⟩:=X1.cells
   go_wp2_with fail
   refine(zam c _).mono ?_
   rintro e u2 ⟨rfl,rfl⟩;rw[hcc];clear hcc
   go_wp2_with fail
   refine(zay 0 _ (by decide) (by decide)).mono ?_
   rintro e u3 ⟨v3,rfl,hF3,hb3⟩;replace B1:=B1.below hb3
   replace hbW:=hbW.trans (hb3.mono hbW.size)
   rw[HP.out]at hF3;clear hb3 X1;obtain⟨n3,xs,ys,⟨a3,c3,b3,d3,rfl,hx3,hy3⟩,f1,f2,f3,f4⟩:=hF3;obtain⟨q1,q2,q3,q4,q5,q6⟩:=B1.cells
   have hs:=B1.lt
   go_wp2
   refine ret3 (v:=.agg #[.bool n3,.slice a3 xs.length c3,.slice b3 ys.length d3]) B1 rfl (fun U hU=>by obtain⟨r1,r2,r3,_⟩:=hU.cells;simp[results,Tryz.results149,go_sem,r1,r2,r3]) (fun U hU hK=>⟨_,rfl,⟨_,_,_,⟨_,_,_,_,rfl,hK _ _ _ hx3,hK _ _ _ hy3⟩,f1,f2,f3,f4⟩,hU _ _ hbW (by omega)⟩)
  | true =>
   have hcd:=crdT.1 hcc
   by_cases h1:t.pk=0
   . have HP:Hid (((1:Int):Rat)=paQ t c):=zhd hf hcc (.inl h1)
     have g1:(t.pk==0)=true:=by simp[h1]
     clear hf hbd hcd h1;obtain⟨st,pk,en⟩:=t
     dsimp only at *
     go_enter Tryz.func149,Tryz.ntmps149
     go_wp2_with fail
     rw[<-hW];clear hW
     refine(hfo _).mono ?_
     rintro e u1 ⟨rfl,hb1⟩;replace X1:=X1.below hb1;replace B1:=B1.below hb1
     replace hbW:=hbW.trans (hb1.mono hbW.size)
     clear hb1 hfo;obtain⟨p0,p1,p2,_⟩:=X1.cells
     go_wp2_with fail
     refine(zam c _).mono ?_
     rintro e u2 ⟨rfl,rfl⟩;rw[hcc];clear hcc
     go_wp2_with fail
     refine(zay 1 _ (by decide) (by decide)).mono ?_
     rintro e u3 ⟨v3,rfl,hF3,hb3⟩;replace B1:=B1.below hb3
     replace hbW:=hbW.trans (hb3.mono hbW.size)
     rw[HP.out]at hF3;clear hb3 X1;obtain⟨n3,xs,ys,⟨a3,c3,b3,d3,rfl,hx3,hy3⟩,f1,f2,f3,f4⟩:=hF3;obtain⟨q1,q2,q3,q4,q5,q6⟩:=B1.cells
     have hs:=B1.lt
     go_wp2
     refine ret3 (v:=.agg #[.bool n3,.slice a3 xs.length c3,.slice b3 ys.length d3]) B1 rfl (fun U hU=>by obtain⟨r1,r2,r3,_⟩:=hU.cells;simp[results,Tryz.results149,go_sem,r1,r2,r3]) (fun U hU hK=>⟨_,rfl,⟨_,_,_,⟨_,_,_,_,rfl,hK _ _ _ hx3,hK _ _ _ hy3⟩,f1,f2,f3,f4⟩,hU _ _ hbW (by omega)⟩)
   . by_cases h2:c=t.pk
     . have HP:Hid (((1:Int):Rat)=paQ t c):=zhd hf hcc (.inr h2)
       have g1:(t.pk==0)=false:=by simp[h1]
       have g2:(c==t.pk)=true:=by simp[h2]
       clear h1 h2 hf hbd hcd;obtain⟨st,pk,en⟩:=t
       dsimp only at *
       go_enter Tryz.func149,Tryz.ntmps149
       go_wp2_with fail
       rw[<-hW];clear hW
       refine(hfo _).mono ?_
       rintro e u1 ⟨rfl,hb1⟩;replace X1:=X1.below hb1;replace B1:=B1.below hb1
       replace hbW:=hbW.trans (hb1.mono hbW.size)
       clear hb1 hfo;obtain⟨p0,p1,p2,_⟩:=X1.cells
       go_wp2_with fail
       refine(zam c _).mono ?_
       rintro e u2 ⟨rfl,rfl⟩;rw[hcc];clear hcc
       go_wp2_with fail
       refine(zay 1 _ (by decide) (by decide)).mono ?_
       rintro e u3 ⟨v3,rfl,hF3,hb3⟩;replace B1:=B1.below hb3
       replace hbW:=hbW.trans (hb3.mono hbW.size)
       rw[HP.out]at hF3;clear hb3 X1;obtain⟨n3,xs,ys,⟨a3,c3,b3,d3,rfl,hx3,hy3⟩,f1,f2,f3,f4⟩:=hF3;obtain⟨q1,q2,q3,q4,q5,q6⟩:=B1.cells
       have hs:=B1.lt
       go_wp2
       refine ret3 (v:=.agg #[.bool n3,.slice a3 xs.length c3,.slice b3 ys.length d3]) B1 rfl (fun U hU=>by obtain⟨r1,r2,r3,_⟩:=hU.cells;simp[results,Tryz.results149,go_sem,r1,r2,r3]) (fun U hU hK=>⟨_,rfl,⟨_,_,_,⟨_,_,_,_,rfl,hK _ _ _ hx3,hK _ _ _ hy3⟩,f1,f2,f3,f4⟩,hU _ _ hbW (by omega)⟩)
     . have h12:¬(t.pk=0\/c=t.pk):=by omega
       by_cases h3:c<=t.st
       . have HP:Hid (((0:Int):Rat)=paQ t c):=zhe hf hcc h12 (.inl h3)
         have g1:(t.pk==0)=false:=by simp[h1]
         have g2:(c==t.pk)=false:=by simp[h2]
         have g3:decide (c<=t.st)=true:=decide_eq_true h3
         clear h1 h2 hf hbd hcd h12;obtain⟨st,pk,en⟩:=t
         dsimp only at *
         go_enter Tryz.func149,Tryz.ntmps149
         go_wp2_with fail
         rw[<-hW];clear hW
         refine(hfo _).mono ?_
         rintro e u1 ⟨rfl,hb1⟩;replace X1:=X1.below hb1;replace B1:=B1.below hb1
         replace hbW:=hbW.trans (hb1.mono hbW.size)
         clear hb1 hfo;obtain⟨p0,p1,p2,_⟩:=X1.cells
         go_wp2_with fail
         refine(zam c _).mono ?_
         rintro e u2 ⟨rfl,rfl⟩;rw[hcc];clear hcc
         go_wp2_with fail
         refine(zay 0 _ (by decide) (by decide)).mono ?_
         rintro e u3 ⟨v3,rfl,hF3,hb3⟩;replace B1:=B1.below hb3
         replace hbW:=hbW.trans (hb3.mono hbW.size)
         rw[HP.out]at hF3;clear hb3 X1;obtain⟨n3,xs,ys,⟨a3,c3,b3,d3,rfl,hx3,hy3⟩,f1,f2,f3,f4⟩:=hF3;obtain⟨q1,q2,q3,q4,q5,q6⟩:=B1.cells
         have hs:=B1.lt
         go_wp2
         refine ret3 (v:=.agg #[.bool n3,.slice a3 xs.length c3,.slice b3 ys.length d3]) B1 rfl (fun U hU=>by obtain⟨r1,r2,r3,_⟩:=hU.cells;simp[results,Tryz.results149,go_sem,r1,r2,r3]) (fun U hU hK=>⟨_,rfl,⟨_,_,_,⟨_,_,_,_,rfl,hK _ _ _ hx3,hK _ _ _ hy3⟩,f1,f2,f3,f4⟩,hU _ _ hbW (by omega)⟩)
       . by_cases h4:t.en<=c
         . have HP:Hid (((0:Int):Rat)=paQ t c):=zhe hf hcc h12 (.inr h4)
           have g1:(t.pk==0)=false:=by simp[h1]
           have g2:(c==t.pk)=false:=by simp[h2]
           have g3:decide (c<=t.st)=false:=decide_eq_false h3
           have g4:decide (t.en<=c)=true:=decide_eq_true h4
           clear h1 h2 hf hbd hcd h12;obtain⟨st,pk,en⟩:=t
           dsimp only at *
           go_enter Tryz.func149,Tryz.ntmps149
           go_wp2_with fail
           rw[<-hW];clear hW
           refine(hfo _).mono ?_
           rintro e u1 ⟨rfl,hb1⟩;replace X1:=X1.below hb1;replace B1:=B1.below hb1
           replace hbW:=hbW.trans (hb1.mono hbW.size)
           clear hb1 hfo;obtain⟨p0,p1,p2,_⟩:=X1.cells
           go_wp2_with fail
           refine(zam c _).mono ?_
           rintro e u2 ⟨rfl,rfl⟩;rw[hcc];clear hcc
           go_wp2_with fail
           refine(zay 0 _ (by decide) (by decide)).mono ?_
           rintro e u3 ⟨v3,rfl,hF3,hb3⟩;replace B1:=B1.below hb3
           replace hbW:=hbW.trans (hb3.mono hbW.size)
           rw[HP.out]at hF3;clear hb3 X1;obtain⟨n3,xs,ys,⟨a3,c3,b3,d3,rfl,hx3,hy3⟩,f1,f2,f3,f4⟩:=hF3;obtain⟨q1,q2,q3,q4,q5,q6⟩:=B1.cells
           have hs:=B1.lt
           go_wp2
           refine ret3 (v:=.agg #[.bool n3,.slice a3 xs.length c3,.slice b3 ys.length d3]) B1 rfl (fun U hU=>by obtain⟨r1,r2,r3,_⟩:=hU.cells;simp[results,Tryz.results149,go_sem,r1,r2,r3]) (fun U hU hK=>⟨_,rfl,⟨_,_,_,⟨_,_,_,_,rfl,hK _ _ _ hx3,hK _ _ _ hy3⟩,f1,f2,f3,f4⟩,hU _ _ hbW (by omega)⟩)
         . have h34:¬(c<=t.st\/t.en<=c):=by omega
           by_cases h5:c<t.pk
           . have HP:Hid (((c-t.st:Int):Rat)/((t.pk-t.st:Int):Rat)=paQ t c):=zt8 hf hcc h12 h34 h5
             have g1:(t.pk==0)=false:=by simp[h1]
             have g2:(c==t.pk)=false:=by simp[h2]
             have g3:decide (c<=t.st)=false:=decide_eq_false h3
             have g4:decide (t.en<=c)=false:=decide_eq_false h4
             clear hf h12 h34
             have k1:IntKind.i64.wrap (c-t.st)=c-t.st:=zbs (by omega) (by omega)
             have k2:IntKind.i64.wrap (t.pk-t.st)=t.pk-t.st:=zbs (by omega) (by omega)
             have hm:=fun U=>zls (c-t.st) (t.pk-t.st) U (by omega) (by omega) (by omega) (by omega)
             clear h1 h2 hbd hcd;obtain⟨st,pk,en⟩:=t
             dsimp only at *
             go_enter Tryz.func149,Tryz.ntmps149
             go_wp2_with fail
             rw[<-hW];clear hW
             refine(hfo _).mono ?_
             rintro e u1 ⟨rfl,hb1⟩;replace X1:=X1.below hb1;replace B1:=B1.below hb1
             replace hbW:=hbW.trans (hb1.mono hbW.size)
             clear hb1 hfo;obtain⟨p0,p1,p2,_⟩:=X1.cells
             go_wp2_with fail
             refine(zam c _).mono ?_
             rintro e u2 ⟨rfl,rfl⟩;rw[hcc];clear hcc
             go_wp2_with fail
             refine(hm _).mono ?_
             rintro e u3 ⟨v3,rfl,hF3,hb3⟩;replace B1:=B1.below hb3
             replace hbW:=hbW.trans (hb3.mono hbW.size)
             rw[HP.out]at hF3;clear hb3 X1;obtain⟨n3,xs,ys,⟨a3,c3,b3,d3,rfl,hx3,hy3⟩,f1,f2,f3,f4⟩:=hF3;obtain⟨q1,q2,q3,q4,q5,q6⟩:=B1.cells
             have hs:=B1.lt
             go_wp2
             refine ret3 (v:=.agg #[.bool n3,.slice a3 xs.length c3,.slice b3 ys.length d3]) B1 rfl (fun U hU=>by obtain⟨r1,r2,r3,_⟩:=hU.cells;simp[results,Tryz.results149,go_sem,r1,r2,r3]) (fun U hU hK=>⟨_,rfl,⟨_,_,_,⟨_,_,_,_,rfl,hK _ _ _ hx3,hK _ _ _ hy3⟩,f1,f2,f3,f4⟩,hU _ _ hbW (by omega)⟩)
           . have HP:Hid (((t.en-c:Int):Rat)/((t.en-t.pk:Int):Rat)=paQ t c):=zlo hf hcc h12 h34 h5
             have g1:(t.pk==0)=false:=by simp[h1]
             have g2:(c==t.pk)=false:=by simp[h2]
             have g3:decide (c<=t.st)=false:=decide_eq_false h3
             have g4:decide (t.en<=c)=false:=decide_eq_false h4
             clear hf h12 h34
             have k1:IntKind.i64.wrap (t.en-c)=t.en-c:=zbs (by omega) (by omega)
             have k2:IntKind.i64.wrap (t.en-t.pk)=t.en-t.pk:=zbs (by omega) (by omega)
             have hm:=fun U=>zls (t.en-c) (t.en-t.pk) U (by omega) (by omega) (by omega) (by omega)
             clear h1 h2 hbd hcd;obtain⟨st,pk,en⟩:=t
             dsimp only at *
             go_enter Tryz.func149,Tryz.ntmps149
             go_wp2_with fail
             rw[<-hW];clear hW
             refine(hfo _).mono ?_
             rintro e u1 ⟨rfl,hb1⟩;replace X1:=X1.below hb1;replace B1:=B1.below hb1
             replace hbW:=hbW.trans (hb1.mono hbW.size)
             clear hb1 hfo;obtain⟨p0,p1,p2,_⟩:=X1.cells
             go_wp2_with fail
             refine(zam c _).mono ?_
             rintro e u2 ⟨rfl,rfl⟩;rw[hcc];clear hcc
             go_wp2_with fail
             refine(hm _).mono ?_
             rintro e u3 ⟨v3,rfl,hF3,hb3⟩;replace B1:=B1.below hb3
             replace hbW:=hbW.trans (hb3.mono hbW.size)
             rw[HP.out]at hF3;clear hb3 X1;obtain⟨n3,xs,ys,⟨a3,c3,b3,d3,rfl,hx3,hy3⟩,f1,f2,f3,f4⟩:=hF3;obtain⟨q1,q2,q3,q4,q5,q6⟩:=B1.cells
             have hs:=B1.lt
             go_wp2
             refine ret3 (v:=.agg #[.bool n3,.slice a3 xs.length c3,.slice b3 ys.length d3]) B1 rfl (fun U hU=>by obtain⟨r1,r2,r3,_⟩:=hU.cells;simp[results,Tryz.results149,go_sem,r1,r2,r3]) (fun U hU hK=>⟨_,rfl,⟨_,_,_,⟨_,_,_,_,rfl,hK _ _ _ hx3,hK _ _ _ hy3⟩,f1,f2,f3,f4⟩,hU _ _ hbW (by omega)⟩)
theorem zre(a:Option Addr)(cap:Nat)(l:List Te)(pa:Option Addr)(pc:Nat)(cs:List Int)(w:World)(h:Tz w a cap l)(hp:Ri w pa pc cs)(hl:l.length<=1000) :
 Calls Tryz.prog 114 #[.slice a l.length cap,.slice pa cs.length pc] w fun e w'=>∃v',e=.returned v'/\Fr w' v' (2+2*l.length) (alQ l cs)/\Below w.heap.size w w':=by
 have k2:=h.lenB
 have k3:=hp.lenB
 have HH:Hid (Tz w a cap l):=h
 have HP:Hid (Ri w pa pc cs):=hp
 obtain⟨W0,hW0,B0,hbW⟩:∃W,W=w.alloc (.cells #[.bool false,.slice none 0 0,.slice none 0 0] 96)/\Box 96 W w.heap.size (.bool false) (.slice none 0 0) (.slice none 0 0)/\Below w.heap.size w W:=⟨_,rfl,Box.new _ _ _ _ _,al1 _⟩
 clear h hp
 go_enter Tryz.func114,Tryz.ntmps114
 go_wp2_with fail
 rw[<-hW0];clear hW0
 refine(zay 1 _ (by decide) (by decide)).mono ?_
 rintro e U1 ⟨v5,rfl,hF5,hb5⟩;replace B0:=B0.below hb5
 replace hbW:=hbW.trans (hb5.mono hbW.size)
 clear hb5;obtain⟨n5,x5,y5,⟨a5,c5,b5,d5,rfl,hx5,hy5⟩,hF5⟩:=hF5
 have hlt:=B0.lt
 have P5:=Box.new 96 U1 (.bool n5) (.slice a5 x5.length c5) (.slice b5 y5.length d5)
 have hF5:Fr (U1.alloc (.cells #[.bool n5,.slice a5 x5.length c5,.slice b5 y5.length d5] 96)) (.agg #[.bool n5,.slice a5 x5.length c5,.slice b5 y5.length d5]) (2+2*0) (alK l cs 0):=Fr.below ⟨_,_,_,⟨_,_,_,_,rfl,hx5,hy5⟩,hF5⟩ (al1 _)
 replace B0:=B0.alloc (.cells #[.bool n5,.slice a5 x5.length c5,.slice b5 y5.length d5] 96)
 replace hbW:=hbW.alloc hbW.size (.cells #[.bool n5,.slice a5 x5.length c5,.slice b5 y5.length d5] 96)
 clear hx5 hy5;go_wp2
 go_loopw [12] (fun i wr=>∃(k:Nat) (n5:Bool) (a5:Option Addr) (x5 c5:Nat) (b5:Option Addr) (y5 d5:Nat),k<=l.length/\i=.int .i64 (k:Int)/\Box 96 wr U1.heap.size (.bool n5) (.slice a5 x5 c5) (.slice b5 y5 d5)/\Fr wr (.agg #[.bool n5,.slice a5 x5 c5,.slice b5 y5 d5]) (2+2*k) (alK l cs k)/\Box 96 wr w.heap.size (.bool false) (.slice none 0 0) (.slice none 0 0)/\Below w.heap.size w wr) (fun i _=>l.length-(intOf i).toNat)
 case atStart=>exact⟨0,_,_,_,_,_,_,_,Nat.zero_le _,rfl,P5,hF5,B0,hbW⟩
 case round =>
  clear P5 hF5 B0 hbW;obtain⟨k,n5,a5,x5,c5,b5,y5,d5,hk,rfl,P5,hF5,B0,hbW⟩:=hrel
  by_cases hkn:k<l.length
  . obtain⟨b0,off,ea,hb0,e0,e1,e2⟩:=HH.out.at hbW k hkn
    subst ea
    obtain⟨z,hz⟩:∃z,cs.getD k 0=z:=⟨_,rfl⟩
    have hzi:I64 z:=by
     by_cases h1:k<cs.length
     . rw[<-hz];exact HP.out.i64 h1
     . rw[<-hz,List.getD_eq_getElem?_getD,List.getElem?_eq_none (by omega)];exact⟨by decide,by decide⟩
    have hco:=fun U hU=>zkl pa pc cs k U hU (by omega)
    simp only[hz]at hco
    obtain⟨t,ht⟩:∃t,l.getD k Te.none=t:=⟨_,rfl⟩
    have HK:Hid (alK l cs (k+1)=alK l cs k*paQ t z):=by show _=_;rw[zhx,ht,hz]
    have HZ:Hid (paQ t z=0->alQ l cs=paQ t z):=fun e=>by rw[e];exact ztr hkn (by rw[ht,hz];exact e)
    rw[ht]at e0 e1 e2;clear ht hz
    have hpa:=fun U=>zq7 t z U hzi
    obtain⟨q,hq⟩:∃q,paQ t z=q:=⟨_,rfl⟩
    simp only[hq]at hpa HK HZ
    clear hq hzi;obtain⟨st,pk,en⟩:=t
    dsimp only at *
    obtain⟨V,hV,X1,hb1⟩:∃V,V=wr.alloc (.cells #[.int .i64 st,.int .i64 pk,.int .i64 en] 220)/\Box 220 V wr.heap.size (.int .i64 st) (.int .i64 pk) (.int .i64 en)/\Below wr.heap.size wr V:=⟨_,rfl,Box.new _ _ _ _ _,al1 _⟩
    have HP5:Hid (Box 96 V U1.heap.size (.bool n5) (.slice a5 x5 c5) (.slice b5 y5 d5)):=P5.below hb1
    have HF5:Hid (Fr V (.agg #[.bool n5,.slice a5 x5 c5,.slice b5 y5 d5]) (2+2*k) (alK l cs k)):=hF5.below hb1
    have HB0:Hid (Box 96 V w.heap.size (.bool false) (.slice none 0 0) (.slice none 0 0)):=B0.below hb1
    replace hbW:=hbW.trans (hb1.mono hbW.size)
    have HBW:Hid (Below w.heap.size w V):=hbW
    have HX1:Hid (Box 220 V wr.heap.size (.int .i64 st) (.int .i64 pk) (.int .i64 en)):=X1
    have hp:=HP.out.below hbW
    clear P5 hF5 B0 hb1
    have hwr:IntKind.i64.wrap (k:Int)=k:=zbs (by omega) (by omega)
    go_upto_region 5 with fail
    rw[<-hV];clear hV e0 e1 e2
    go_cut [8]from 13 to 29 (fun s8 wx=>∃(g8:Nat) (n8:Bool) (a8:Option Addr) (x8 c8:Nat) (b8:Option Addr) (y8 d8:Nat),s8=.pointer (some ⟨g8,0,none⟩)/\Box 96 wx g8 (.bool n8) (.slice a8 x8 c8) (.slice b8 y8 d8)/\Fr wx (.agg #[.bool n8,.slice a8 x8 c8,.slice b8 y8 d8]) 2 q/\V.heap.size<=g8/\Below V.heap.size V wx)
    case first =>
     have hbR:Below V.heap.size V V:=Below.refl _ _
     obtain⟨p00,p01,p02,_⟩:=X1.cells
     refine wp_region_held_drew (S:=(fun u=>u.cell? ⟨wr.heap.size,0,none⟩=some (.int .i64 st)/\u.cell? ⟨wr.heap.size,1,none⟩=some (.int .i64 pk)/\u.cell? ⟨wr.heap.size,2,none⟩=some (.int .i64 en))) (by kernel_rfl) ?_ (fun hH=>?_)
     . (try dsimp only)
       go_keep
     have hdr:Below V.heap.size V V.drew:=Below.drew1
     generalize V.drew=ud1 at hdr hH ⊢
     replace hp:=hp.below hdr;replace X1:=X1.below hdr
     replace hbW:Below w.heap.size w ud1:=hbW.trans (hdr.mono hbW.size)
     replace hbR:Below V.heap.size V ud1:=hbR.trans (hdr.mono hbR.size)
     clear hdr;clear p00 p01 p02;obtain⟨p00,p01,p02,_⟩:=X1.cells;refine hT 0 hH ?_;refine hT 1 hH ?_;refine hT 2 hH ?_
     refine wpAnyH_ready (rs:=[3,5]) (by kernel_rfl) (by simp) (hCons (i:=3) rfl (by rfl) (fun K hK=>?_) (hCons (i:=5) rfl (by rfl) (fun K hK=>?_) AllReadyH.nil))
     . go_simp
       refine(hco _ hp).mono ?_
       rintro e u1 ⟨rfl,hb1⟩;replace hp:=hp.below hb1;replace X1:=X1.below hb1
       replace hbW:Below w.heap.size w u1:=hbW.trans (hb1.mono hbW.size)
       replace hbR:Below V.heap.size V u1:=hbR.trans (hb1.mono hbR.size)
       clear hb1;clear p00 p01 p02;obtain⟨p00,p01,p02,_⟩:=X1.cells
       go_wp2_with fail
       refine hK.out _ _ ?_ (fun hH=>?_)
       . (try dsimp only)
         exact⟨p00,p01,p02⟩
       clear hK K
       try simp only[Act.put,pZ]
       refine wpAnyH_ready (rs:=[4,5]) (by kernel_rfl) (by simp) (hCons (i:=4) rfl (by rfl) (fun K hK=>?_) (hCons (i:=5) rfl (by rfl) (fun K hK=>?_) AllReadyH.nil))
       . go_simp
         refine(hpa _).mono ?_
         rintro e u2 ⟨v8,rfl,hF8,hb2⟩;replace hp:=hp.below hb2;replace X1:=X1.below hb2
         replace hbW:Below w.heap.size w u2:=hbW.trans (hb2.mono hbW.size)
         replace hbR:Below V.heap.size V u2:=hbR.trans (hb2.mono hbR.size)
         clear hb2;obtain⟨n8,x8,y8,⟨a8,c8,b8,d8,rfl,hx8,hy8⟩,hF8⟩:=hF8;clear p00 p01 p02;obtain⟨p00,p01,p02,_⟩:=X1.cells
         go_wp2_with fail
         refine hK.out _ _ ?_ (fun hH=>?_)
         . (try dsimp only)
           exact⟨p00,p01,p02⟩
         clear hK K
         try simp only[Act.put,pZ]
         refine hCall (i:=5) rfl (by kernel_rfl) (by rfl) (fun K hK=>?_)
         go_simp
         obtain⟨u63,hU,B8,hb9⟩:∃U,U=u2.alloc (.cells #[.bool false,.slice none 0 0,.slice none 0 0] 96)/\Box 96 U u2.heap.size (.bool false) (.slice none 0 0) (.slice none 0 0)/\Below u2.heap.size u2 U:=⟨_,rfl,Box.new _ _ _ _ _,al1 _⟩
         rw[<-hU];clear hU
         have n81:=hbR.size
         have n82:=hbW.size
         replace hp:=hp.below hb9;replace hx8:=hx8.below hb9;replace hy8:=hy8.below hb9;replace X1:=X1.below hb9
         replace hbW:Below w.heap.size w u63:=hbW.trans (hb9.mono hbW.size)
         replace hbR:Below V.heap.size V u63:=hbR.trans (hb9.mono hbR.size)
         clear hb9
         generalize u2.heap.size=g8 at B8 n81 n82 ⊢
         clear p00 p01 p02;obtain⟨p00,p01,p02,_⟩:=X1.cells;obtain⟨p10,p11,p12,_⟩:=B8.cells
         refine hK.out _ _ ?_ (fun hH=>?_)
         . (try dsimp only)
           exact⟨p00,p01,p02⟩
         clear hK K
         try simp only[Act.put,pZ]
         refine hCall (i:=6) rfl (by kernel_rfl) (by rfl) (fun K hK=>?_)
         go_simp
         obtain⟨u64,hU,A8,hbU,hK9,ho⟩:=zai B8 (.bool n8) (.slice a8 x8.length c8) (.slice b8 y8.length d8)
         rw[<-hU];clear hU
         replace hbW:=hbU _ _ hbW (by omega)
         replace hbR:=hbU _ _ hbR (by omega)
         replace hx8:=hK9 _ _ _ hx8
         replace hy8:=hK9 _ _ _ hy8
         clear hbU hK9 ho X1
         have X1:=HX1.out.below hbR
         clear p00 p01 p02 p10 p11 p12;obtain⟨p00,p01,p02,_⟩:=X1.cells;obtain⟨p10,p11,p12,_⟩:=A8.cells
         refine hK.out _ _ ?_ (fun hH=>?_)
         . (try dsimp only)
           exact⟨p00,p01,p02⟩
         clear hK K
         try simp only[Act.put,pZ]
         refine wpAnyH_done (by kernel_rfl) ?_ _
         clear hH
         go_wp2_with fail
         go_meet
         exact⟨g8,_,_,_,_,_,_,_,rfl,A8,⟨_,_,_,⟨_,_,_,_,rfl,hx8,hy8⟩,hF8⟩,n81,hbR⟩
       . go_simp
         obtain⟨u62,hU,B8,hb9⟩:∃U,U=u1.alloc (.cells #[.bool false,.slice none 0 0,.slice none 0 0] 96)/\Box 96 U u1.heap.size (.bool false) (.slice none 0 0) (.slice none 0 0)/\Below u1.heap.size u1 U:=⟨_,rfl,Box.new _ _ _ _ _,al1 _⟩
         rw[<-hU];clear hU
         have n81:=hbR.size
         have n82:=hbW.size
         replace hp:=hp.below hb9;replace X1:=X1.below hb9
         replace hbW:Below w.heap.size w u62:=hbW.trans (hb9.mono hbW.size)
         replace hbR:Below V.heap.size V u62:=hbR.trans (hb9.mono hbR.size)
         clear hb9
         generalize u1.heap.size=g8 at B8 n81 n82 ⊢
         clear p00 p01 p02;obtain⟨p00,p01,p02,_⟩:=X1.cells;obtain⟨p10,p11,p12,_⟩:=B8.cells
         refine hK.out _ _ ?_ (fun hH=>?_)
         . (try dsimp only)
           exact⟨p00,p01,p02⟩
         clear hK K
         try simp only[Act.put,pZ]
         refine hCall (i:=4) rfl (by kernel_rfl) (by rfl) (fun K hK=>?_)
         go_simp
         refine(hpa _).mono ?_
         rintro e u3 ⟨v8,rfl,hF8,hb3⟩;replace hp:=hp.below hb3;replace X1:=X1.below hb3;replace B8:=B8.below hb3
         replace hbW:Below w.heap.size w u3:=hbW.trans (hb3.mono hbW.size)
         replace hbR:Below V.heap.size V u3:=hbR.trans (hb3.mono hbR.size)
         clear hb3;obtain⟨n8,x8,y8,⟨a8,c8,b8,d8,rfl,hx8,hy8⟩,hF8⟩:=hF8;clear p00 p01 p02 p10 p11 p12;obtain⟨p00,p01,p02,_⟩:=X1.cells;obtain⟨p10,p11,p12,_⟩:=B8.cells
         go_wp2_with fail
         refine hK.out _ _ ?_ (fun hH=>?_)
         . (try dsimp only)
           exact⟨p00,p01,p02⟩
         clear hK K
         try simp only[Act.put,pZ]
         refine hCall (i:=6) rfl (by kernel_rfl) (by rfl) (fun K hK=>?_)
         go_simp
         obtain⟨u64,hU,A8,hbU,hK9,ho⟩:=zai B8 (.bool n8) (.slice a8 x8.length c8) (.slice b8 y8.length d8)
         rw[<-hU];clear hU
         replace hbW:=hbU _ _ hbW (by omega)
         replace hbR:=hbU _ _ hbR (by omega)
         replace hx8:=hK9 _ _ _ hx8
         replace hy8:=hK9 _ _ _ hy8
         clear hbU hK9 ho X1
         have X1:=HX1.out.below hbR
         clear p00 p01 p02 p10 p11 p12;obtain⟨p00,p01,p02,_⟩:=X1.cells;obtain⟨p10,p11,p12,_⟩:=A8.cells
         refine hK.out _ _ ?_ (fun hH=>?_)
         . (try dsimp only)
           exact⟨p00,p01,p02⟩
         clear hK K
         try simp only[Act.put,pZ]
         refine wpAnyH_done (by kernel_rfl) ?_ _
         clear hH
         go_wp2_with fail
         go_meet
         exact⟨g8,_,_,_,_,_,_,_,rfl,A8,⟨_,_,_,⟨_,_,_,_,rfl,hx8,hy8⟩,hF8⟩,n81,hbR⟩
     . go_simp
       obtain⟨u61,hU,B8,hb9⟩:∃U,U=ud1.alloc (.cells #[.bool false,.slice none 0 0,.slice none 0 0] 96)/\Box 96 U ud1.heap.size (.bool false) (.slice none 0 0) (.slice none 0 0)/\Below ud1.heap.size ud1 U:=⟨_,rfl,Box.new _ _ _ _ _,al1 _⟩
       rw[<-hU];clear hU
       have n81:=hbR.size
       have n82:=hbW.size
       replace hp:=hp.below hb9;replace X1:=X1.below hb9
       replace hbW:Below w.heap.size w u61:=hbW.trans (hb9.mono hbW.size)
       replace hbR:Below V.heap.size V u61:=hbR.trans (hb9.mono hbR.size)
       clear hb9
       generalize ud1.heap.size=g8 at B8 n81 n82 ⊢
       clear p00 p01 p02;obtain⟨p00,p01,p02,_⟩:=X1.cells;obtain⟨p10,p11,p12,_⟩:=B8.cells
       refine hK.out _ _ ?_ (fun hH=>?_)
       . (try dsimp only)
         exact⟨p00,p01,p02⟩
       clear hK K
       try simp only[Act.put,pZ]
       refine hCall (i:=3) rfl (by kernel_rfl) (by rfl) (fun K hK=>?_)
       go_simp
       refine(hco _ hp).mono ?_
       rintro e u2 ⟨rfl,hb2⟩;replace hp:=hp.below hb2;replace X1:=X1.below hb2;replace B8:=B8.below hb2
       replace hbW:Below w.heap.size w u2:=hbW.trans (hb2.mono hbW.size)
       replace hbR:Below V.heap.size V u2:=hbR.trans (hb2.mono hbR.size)
       clear hb2;clear p00 p01 p02 p10 p11 p12;obtain⟨p00,p01,p02,_⟩:=X1.cells;obtain⟨p10,p11,p12,_⟩:=B8.cells
       go_wp2_with fail
       refine hK.out _ _ ?_ (fun hH=>?_)
       . (try dsimp only)
         exact⟨p00,p01,p02⟩
       clear hK K
       try simp only[Act.put,pZ]
       refine hCall (i:=4) rfl (by kernel_rfl) (by rfl) (fun K hK=>?_)
       go_simp
       refine(hpa _).mono ?_
       rintro e u3 ⟨v8,rfl,hF8,hb3⟩;replace hp:=hp.below hb3;replace X1:=X1.below hb3;replace B8:=B8.below hb3
       replace hbW:Below w.heap.size w u3:=hbW.trans (hb3.mono hbW.size)
       replace hbR:Below V.heap.size V u3:=hbR.trans (hb3.mono hbR.size)
       clear hb3;obtain⟨n8,x8,y8,⟨a8,c8,b8,d8,rfl,hx8,hy8⟩,hF8⟩:=hF8;clear p00 p01 p02 p10 p11 p12;obtain⟨p00,p01,p02,_⟩:=X1.cells;obtain⟨p10,p11,p12,_⟩:=B8.cells
       go_wp2_with fail
       refine hK.out _ _ ?_ (fun hH=>?_)
       . (try dsimp only)
         exact⟨p00,p01,p02⟩
       clear hK K
       try simp only[Act.put,pZ]
       refine hCall (i:=6) rfl (by kernel_rfl) (by rfl) (fun K hK=>?_)
       go_simp
       obtain⟨u64,hU,A8,hbU,hK9,ho⟩:=zai B8 (.bool n8) (.slice a8 x8.length c8) (.slice b8 y8.length d8)
       rw[<-hU];clear hU
       replace hbW:=hbU _ _ hbW (by omega)
       replace hbR:=hbU _ _ hbR (by omega)
       replace hx8:=hK9 _ _ _ hx8
       replace hy8:=hK9 _ _ _ hy8
       clear hbU hK9 ho X1
       have X1:=HX1.out.below hbR
       clear p00 p01 p02 p10 p11 p12;obtain⟨p00,p01,p02,_⟩:=X1.cells;obtain⟨p10,p11,p12,_⟩:=A8.cells
       refine hK.out _ _ ?_ (fun hH=>?_)
       . (try dsimp only)
         exact⟨p00,p01,p02⟩
       clear hK K
       try simp only[Act.put,pZ]
       refine wpAnyH_done (by kernel_rfl) ?_ _
       clear hH
       go_wp2_with fail
       go_meet
       exact⟨g8,_,_,_,_,_,_,_,rfl,A8,⟨_,_,_,⟨_,_,_,_,rfl,hx8,hy8⟩,hF8⟩,n81,hbR⟩
    case rest =>
     clear hbW hp X1 hco hpa;obtain⟨g8,n8,a8,x8,c8,b8,y8,d8,rfl,A8,hF8,n81,hbR⟩:=hcut
     have P5:=HP5.out.below hbR
     have hF5:=HF5.out.below hbR
     have B0:=HB0.out.below hbR
     have hbW:=HBW.out.trans (hbR.mono HBW.out.size)
     have s1:=HP5.out.lt
     have s2:=HBW.out.size
     clear hbR;obtain⟨p0,p1,p2,_⟩:=A8.cells
     go_wp2_with fail
     refine(zin 2 q _ _ hF8.ct (by decide) (by decide)).mono ?_
     rintro e u7 ⟨rfl,hb7⟩;replace A8:=A8.below hb7;replace hF8:=hF8.below hb7;replace P5:=P5.below hb7;replace hF5:=hF5.below hb7;replace B0:=B0.below hb7
     replace hbW:=hbW.trans (hb7.mono hbW.size)
     clear hb7 p0 p1 p2;obtain⟨p0,p1,p2,_⟩:=A8.cells
     by_cases hq:q=0
     . have HQ:Hid (alQ l cs=q):=HZ.out hq
       have e1:sgnQ q=0:=zdm.2 hq
       rw[e1];clear e1 hq;obtain⟨q1,q2,q3,q4,q5,q6⟩:=B0.cells
       have hs:=B0.lt
       go_wp2
       refine ret3 (v:=.agg #[.bool n8,.slice a8 x8 c8,.slice b8 y8 d8]) B0 rfl (fun U hU=>by obtain⟨r1,r2,r3,_⟩:=hU.cells;simp[results,Tryz.results114,go_sem,r1,r2,r3]) (fun U hU hK=>⟨_,rfl,by rw[HQ.out];exact(hF8.moved hK).le (by omega),hU _ _ hbW (by omega)⟩)
     . have e1:¬sgnQ q=0:=fun e=>hq (zdm.1 e)
       have g1:(sgnQ q==0)=false:=by simp[e1]
       generalize sgnQ q=s at *
       clear e1 hq;obtain⟨q1,q2,q3,_⟩:=P5.cells
       go_wp2_with fail
       refine(zlh (2+2*k) 2 (alK l cs k) q _ _ _ hF5.ct hF8.ct (by omega) (by decide) (by omega) (by decide)).mono ?_
       rintro e u8 ⟨v9,rfl,hF9,hb8⟩;rw[<-HK.out]at hF9;replace P5:=P5.below hb8;replace B0:=B0.below hb8
       replace hbW:=hbW.trans (hb8.mono hbW.size)
       clear hb8 hF5 hF8 A8 p0 p1 p2 q1 q2 q3;obtain⟨n9,x9,y9,⟨a9,c9,b9,d9,rfl,hx9,hy9⟩,hF9⟩:=hF9;obtain⟨q1,q2,q3,q4,q5,q6⟩:=P5.cells
       have hs:=P5.lt
       go_wp2
       obtain⟨U9,hU9,C5,hbU,hK9,ho⟩:=zai P5 (.bool n9) (.slice a9 x9.length c9) (.slice b9 y9.length d9)
       rw[<-hU9]
       replace B0:=B0.other ho (by omega)
       replace hbW:=hbU _ _ hbW (by omega)
       have hF9:Fr U9 (.agg #[.bool n9,.slice a9 x9.length c9,.slice b9 y9.length d9]) (2+2*(k+1)) (alK l cs (k+1)):=Fr.le (k:=2+2*k+2) ⟨_,_,_,⟨_,_,_,_,rfl,hK9 _ _ _ hx9,hK9 _ _ _ hy9⟩,hF9⟩ (by omega)
       clear hU9 hbU hK9 ho hx9 hy9
       go_roundw
       case rel=>exact⟨k+1,_,_,_,_,_,_,_,by omega,by go_num,C5,hF9,B0,hbW⟩
       case measure=>simp[intOf];omega
  . obtain rfl:k=l.length:=by omega
    obtain⟨p0,p1,p2,_⟩:=P5.cells;obtain⟨q1,q2,q3,q4,q5,q6⟩:=B0.cells
    have hs:=B0.lt
    go_wp2
    refine ret3 (v:=.agg #[.bool n5,.slice a5 x5 c5,.slice b5 y5 d5]) B0 rfl (fun U hU=>by obtain⟨r1,r2,r3,_⟩:=hU.cells;simp[results,Tryz.results114,go_sem,r1,r2,r3]) (fun U hU hK=>⟨_,rfl,hF5.moved hK,hU _ _ hbW (by omega)⟩)
def Cl(w:World)(g o:Nat)(v:Value):Prop:=g<w.heap.size/\w.cell? ⟨g,o,none⟩=some v
theorem Cl.below{w w':World}{g o:Nat}{v:Value}(h:Cl w g o v)(hb:Below w.heap.size w w'):Cl w' g o v:=⟨Nat.lt_of_lt_of_le h.1 hb.size,(hb.cell (p:=⟨g,o,none⟩) h.1).trans h.2⟩
