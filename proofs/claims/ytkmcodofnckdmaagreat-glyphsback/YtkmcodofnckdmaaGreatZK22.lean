import Derived.Test.YtkmcodofnckdmaaGreatZK21
set_option maxHeartbeats 8000000
set_option maxRecDepth 100000
set_option linter.unusedSimpArgs false
set_option linter.unusedVariables false
namespace Go.Proofs.YtkmcodofnckdmaaGreat
open Go.RowKit Go.Maps
theorem zsn{l:List Gl}{g:Int}(h:∀k,dq l 6 g=some k->6<k+0):dq l 6 g=none:=by
 cases hd:dq l 6 g with
 | none=>rfl
 | some k =>
  have h1:=h k hd
  have h2:=dq_le hd
  omega
theorem zxw{l:List Gl}{g:Int}{k:Nat}(h:dq l 6 g=some k):dpG l g=(k:Int):=by unfold dpG;rw[h];rfl
theorem zxx{l:List Gl}{g:Int}(h:dq l 6 g=none):dpG l g=-1:=by unfold dpG;rw[h];rfl
theorem zod(S:Nat->Prop)(a:OA)(ca:Nat)(l:List Gl)(g:Int)(w U:World)(hl:Gr GlE S w a ca l)(hps:∀x∈l,x.o.ps.length<=12)(hg:I64 g)(hS:Bk 119 U (w.heap.size+1) [.slice a l.length ca,.map (some w.heap.size)])(hM:Mp U w.heap.size 0 (fun _=>none))(hB:Below w.heap.size w U) :
 Calls Tryz.prog 32 #[.pointer (some ⟨w.heap.size+1,0,none⟩),.int .i64 g,.int .i64 0] U fun e w'=>((∃k:Nat,dq l 6 g=some k/\e=.returned (.tuple #[.agg #[.int .i64 (k:Int),.int .i64 ((szG l g:Nat):Int)],.bool true]))\/(dq l 6 g=none/\e=.returned (.tuple #[.agg #[.int .i64 0,.int .i64 0],.bool false])))/\Below w.heap.size w w':=by
 refine(ztd w S a ca l hl hps (w.heap.size+1) w.heap.size (Nat.le_refl _) (by omega) 7 0 rfl g 0 _ U hg (by have:=tk_le (Nat.le_refl 7);omega) hB hS hM (KnG.nil l)).mono ?_
 rintro e w' ⟨h1,h2,h3⟩
 refine⟨?_,hB.trans (h3.below hB.size (Nat.le_refl _))⟩
 rcases h1 with h1|⟨h1,h4⟩
 . exact .inl h1
 . exact .inr ⟨zsn h1,h4⟩
theorem zhu(S:Nat->Prop)(a:OA)(ca:Nat)(l:List Gl)(g:Int)(w:World)(hl:Gr GlE S w a ca l)(hps:∀x∈l,x.o.ps.length<=12)(hg:I64 g) :
 Calls Tryz.prog 11 #[.slice a l.length ca,.int .i64 g] w fun e w'=>e=.returned (.int .i64 (dpG l g))/\Below w.heap.size w w':=by
 have kl:=hl.lenB
 go_enter Tryz.func11,Tryz.ntmps11
 go_wp2_with fail
 refine(zd6 a l.length ca w).mono ?_
 rintro e U ⟨rfl,hS,hM,hB⟩
 have z40:=zod S a ca l g w U hl hps hg hS hM hB
 clear hS hM hl
 go_wp2_with fail
 refine z40.mono ?_
 rintro e u ⟨z18,hb⟩;clear z40
 rcases z18 with ⟨k,hk,rfl⟩|⟨hk,rfl⟩
 . have HD:Hid (_):=zxw hk
   obtain⟨V,hV,X,hbV⟩:∃V,V=u.alloc (.cells #[.int .i64 (k:Int),.int .i64 ((szG l g:Nat):Int)] 71)/\Bk 71 V u.heap.size [.int .i64 (k:Int),.int .i64 ((szG l g:Nat):Int)]/\Below u.heap.size u V:=⟨_,rfl,Bk.new _ _ _,bl1 _⟩
   replace hb:=hb.trans (hbV.mono hb.size)
   obtain⟨x0,x1,_⟩:=X.two;clear hk hbV X
   go_upto_region 2 with fail
   rw[<-hV];clear hV;go_wp2
   go_ret
   exact⟨by rw[HD.out];rfl,hb⟩
 . have HD:Hid (_):=zxx hk
   have hb2:Below w.heap.size w (u.alloc (.cells #[.int .i64 0,.int .i64 0] 71)):=hb.trans ((bl1 _).mono hb.size)
   clear hk hb;go_wp2
   go_ret
   exact⟨by rw[HD.out];rfl,hb2⟩
def FlB(B:Int)(cs:List (List Pn)):Prop:=∀c∈cs,∀p∈c,(-B<=p.x/\p.x<=B)/\-B<=p.y/\p.y<=B
theorem FlB.le{B C:Int}{cs:List (List Pn)}(h:FlB B cs)(hb:B<=C):FlB C cs:=fun c hc p hp=>by
 have:=h c hc p hp
 omega
theorem FlB.append{B:Int}{a b:List (List Pn)}(h:FlB B a)(k:FlB B b):FlB B (a++b):=fun c hc p hp=>by
 rcases List.mem_append.1 hc with hc|hc
 . exact h c hc p hp
 . exact k c hc p hp
theorem FlB.mv{B:Int}{cs:List (List Pn)}(h:FlB B cs){dx dy:Int}(h1:-32768<=dx/\dx<=32767)(h2:-32768<=dy/\dy<=32767):FlB (B+32768) (mvC dx dy cs):=by
 intro c hc p hp
 obtain⟨c',hc',rfl⟩:=List.mem_map.1 hc
 obtain⟨p',hp',rfl⟩:=List.mem_map.1 hp
 have:=h c' hc' p' hp'
 show(_<=p'.x+dx/\p'.x+dx<=_)/\_<=p'.y+dy/\p'.y+dy<=_
 omega
theorem zne(qs:List Rat)(i:Nat):-32768<=(qs.map rnN).getD i 0/\(qs.map rnN).getD i 0<=32767:=by
 by_cases hi:i<qs.length
 . rw[List.getD_eq_getElem?_getD,List.getElem?_eq_getElem (by simpa using hi),Option.getD_some,List.getElem_map]
   exact zrn _
 . rw[List.getD_eq_getElem?_getD,List.getElem?_eq_none (by simpa using hi)]
   show -32768<=(0:Int)/\(0:Int)<=32767
   omega
theorem at_bound{o:Ol}{l:List Tu}{cs:LI}(h:atE o l cs=0):FlB 32768 (atO o l cs).cs/\∀p∈(atO o l cs).ps,(-32768<=p.dx/\p.dx<=32767)/\-32768<=p.dy/\p.dy<=32767:=by
 rw[(at_ok h).2]
 constructor
 . intro c hc p hp
   have hc':c∈(List.range o.cs.length).map (reC o.cs ((exL Pn.x Pa.dx Tu.dx o l cs).map rnN) ((exL Pn.y Pa.dy Tu.dy o l cs).map rnN)):=hc
   obtain⟨k,_,rfl⟩:=List.mem_map.1 hc'
   obtain⟨j,_,rfl⟩:=List.mem_map.1 hp
   have h1:=zne (exL Pn.x Pa.dx Tu.dx o l cs) (ofC o.cs k+j)
   have h2:=zne (exL Pn.y Pa.dy Tu.dy o l cs) (ofC o.cs k+j)
   show(_<=((exL Pn.x Pa.dx Tu.dx o l cs).map rnN).getD (ofC o.cs k+j) 0/\((exL Pn.x Pa.dx Tu.dx o l cs).map rnN).getD (ofC o.cs k+j) 0<=_)/\_<=((exL Pn.y Pa.dy Tu.dy o l cs).map rnN).getD (ofC o.cs k+j) 0/\((exL Pn.y Pa.dy Tu.dy o l cs).map rnN).getD (ofC o.cs k+j) 0<=_
   omega
 . intro p hp
   have hp':p∈(List.range o.ps.length).map (reA o.cs.flatten.length o.ps ((exL Pn.x Pa.dx Tu.dx o l cs).map rnN) ((exL Pn.y Pa.dy Tu.dy o l cs).map rnN)):=hp
   obtain⟨k,_,rfl⟩:=List.mem_map.1 hp'
   exact⟨zne (exL Pn.x Pa.dx Tu.dx o l cs) (o.cs.flatten.length+k),zne (exL Pn.y Pa.dy Tu.dy o l cs) (o.cs.flatten.length+k)⟩
theorem ztn{f:Int->Fl}{B:Int}(hB:0<=B):∀ {ps:List Pa},(∀p∈ps,FlB B (f p.g).1/\(-32768<=p.dx/\p.dx<=32767)/\-32768<=p.dy/\p.dy<=32767)->FlB (B+32768) (flP f ps).1:=by
 intro ps
 induction ps with
 | nil=>intro _ c hc;cases hc
 | cons p ps ih =>
  intro h
  rw[flP]
  by_cases h1:(f p.g).2=0
  . rw[if_pos h1]
    by_cases h2:(flP f ps).2=0
    . rw[if_pos h2]
      obtain⟨k1,k2,k3⟩:=h p (by simp)
      exact(k1.mv k2 k3).append (ih (fun q hq=>h q (by simp[hq])))
    . rw[if_neg h2];intro c hc;cases hc
  . rw[if_neg h1];intro c hc;cases hc
theorem zto{l:List Gl}{cs:LI}:∀(n:Nat) (g:Int),FlB (32768*((n:Int)+2)) (flG l cs n g).1:=by
 have key:∀(n:Nat) (g:Int),(∀h,FlB (32768*((n:Int)+1)) (flf l cs n h).1)->FlB (32768*((n:Int)+2)) (flG l cs n g).1:=by
  intro n g hf
  cases hx:gAt l g with
  | none =>
   have e:flG l cs n g=([],5):=by cases n <;> rw[flG,hx]
   rw[e]
   intro c hc
   cases hc
  | some x =>
   rw[zfi hx]
   unfold flX
   by_cases he:atE x.o x.ts cs=0
   . rw[if_pos he]
     obtain⟨h1,h2⟩:=at_bound he
     by_cases h3:(flP (flf l cs n) (atO x.o x.ts cs).ps).2=0
     . rw[if_pos h3]
       have h4:=ztn (f:=flf l cs n) (B:=32768*((n:Int)+1)) (by omega) (fun p hp=>⟨hf p.g,h2 p hp⟩)
       exact(h1.le (by omega)).append (h4.le (by omega))
     . rw[if_neg h3];intro c hc;cases hc
   . rw[if_neg he];intro c hc;cases hc
 intro n
 induction n with
 | zero=>intro g;exact key 0 g (fun h c hc=>by cases hc)
 | succ n ih=>intro g;exact key (n+1) g (fun h=>(ih h).le (by omega))
theorem z1i{dx dy:Int}{cs:List (List Pn)}{k:Nat}(hk:k<cs.length):mvC dx dy (cs.take (k+1))=mvC dx dy (cs.take k)++[(cs.getD k []).map (mvQ dx dy)]:=by
 rw[zaj (d:=[]) hk,zpk]
 rfl
theorem zsx{α β:Type}{f:α->β}{c:List α}{d:α}{k:Nat}(hk:k<c.length):(c.take (k+1)).map f=(c.take k).map f++[f (c.getD k d)]:=by
 rw[zaj (d:=d) hk,List.map_append]
 rfl
theorem zpw(S:Nat->Prop)(a:OA)(ca:Nat)(cs:List (List Pn))(pg dx dy:Int)(w:World)(h:Gr PnE.row S w a ca cs)(hfl:FlB 1000000000 cs)(hx:-1000000000<=dx/\dx<=1000000000)(hy:-1000000000<=dy/\dy<=1000000000)(hn:cs.length<=100000)(hnf:cs.flatten.length<=100000) :
 Calls Tryz.prog 72 #[.slice a cs.length ca,.agg #[.int .i64 pg,.int .i64 dx,.int .i64 dy]] w fun e w'=>∃a1 c1,e=.returned (.slice a1 cs.length c1)/\∃L:List (Nat×List Pn),Gw PkE 63 w.heap.size (fun k=>w.heap.size<=k) w' (.slice a1 cs.length c1) L/\L.map Prod.snd=mvC dx dy cs/\(L.map Prod.fst).Nodup/\Below w.heap.size w w':=by
 have kl:=h.lenB
 obtain⟨W0,hW0,X0,hbW0⟩:∃W,W=w.alloc (.cells #[.int .i64 pg,.int .i64 dx,.int .i64 dy] 54)/\Bk 54 W w.heap.size [.int .i64 pg,.int .i64 dx,.int .i64 dy]/\Below w.heap.size w W:=⟨_,rfl,Bk.new _ _ _,bl1 _⟩
 have hW0s:W0.heap.size=w.heap.size+1:=by rw[hW0];simp
 obtain⟨i0,hi0,hz0,hz1,hz2⟩:=info_parts zdr
 have hmk:=run_make (P:=Tryz.prog) W0 37 63 i0 (.slice none 0 0) Tryz.underlying37 hi0 hz0 .i64 .i64 0 (cs.length:Int) (by omega) (by omega) (by rw[hz2];omega) (by omega)
 rw[hz1]at hmk
 simp only[Int.toNat_zero,Int.toNat_natCast]at hmk
 obtain⟨W,hWm⟩:∃w1,W0.alloc (.cells (madeCells (Value.slice none 0 0).cells (cs.length*1)) 63)=w1:=⟨_,rfl⟩
 have hI0:Gw PkE 63 W0.heap.size (fun k=>W0.heap.size<=k) W (.slice (some ⟨W0.heap.size,0,none⟩) 0 cs.length) []:=by
  refine Gw.made ?_
  rw[<-hWm]
  have:=World.ownsRow_made (base:=W0.heap.size) (e:=63) (size:=1) W0 (madeCells (Value.slice none 0 0).cells (cs.length*1)) cs.length (Nat.le_refl _) (by unfold maxLen;omega) (size_madeCells _ _)
  have h2:(W0.alloc (.cells (madeCells (Value.slice none 0 0).cells (cs.length*1)) 63)).ownsRow W0.heap.size 63 1 (.slice (some ⟨W0.heap.size,0,none⟩) 0 cs.length) 0 []:=by simpa using this
  exact h2
 have hbW:Below W0.heap.size W0 W:=by rw[<-hWm];exact bl1 _
 rw[hWm]at hmk
 have HH:Hid (Gr PnE.row S w a ca cs):=h
 have HX0:Hid (Bk 54 W0 w.heap.size [.int .i64 pg,.int .i64 dx,.int .i64 dy]):=X0
 have HB0:Hid (Below w.heap.size w W0):=hbW0
 have HS0:Hid (W0.heap.size=w.heap.size+1):=hW0s
 have HFL:Hid (FlB 1000000000 cs):=hfl
 obtain⟨B,hBe⟩:∃b,W0.heap.size=b:=⟨_,rfl⟩
 have HBE:Hid (W0.heap.size=B):=hBe
 have hB1:w.heap.size<B:=by omega
 have HB1:Hid (B=w.heap.size+1):=by show _=_;omega
 rw[hBe]at hI0 hmk;clear h X0 hbW0 hWm hi0 hz0 hz1 hz2 hW0s hfl
 go_enter Tryz.func72,Tryz.ntmps72
 go_upto_region 1 with fail
 rw[<-hW0];clear hW0;go_wp2;clear hmk
 go_loopw [5,16] (fun v i wr=>∃(k:Nat) (L:List (Nat×List Pn)),k<=cs.length/\i=.int .i64 k/\Gw PkE 63 B (fun k=>B<=k) wr v L/\Hid (L.map Prod.snd=mvC dx dy (cs.take k)/\(L.map Prod.fst).Nodup)/\Below W0.heap.size W0 wr) (fun _ i _=>cs.length-(intOf i).toNat)
 case atStart=>exact⟨0,[],Nat.zero_le _,rfl,hI0,⟨rfl,List.nodup_nil⟩,hbW⟩
 case round =>
  clear hI0 hbW;obtain⟨k,L,hk,rfl,hG,HLL,hB⟩:=hrel;obtain⟨av,cv,rfl,-,-⟩:=hG.slice
  have hBw:Below w.heap.size w wr:=HB0.out.trans (hB.mono HB0.out.size)
  have hBs:B<=wr.heap.size:=by rw[<-HBE.out];exact hB.size
  by_cases hkn:k<cs.length
  . obtain⟨b1,o1,a1,c1,ea,hb1,d0,hrow,hlb,_⟩:=HH.out.rw hBw k hkn
    subst ea
    have hcl:(cs.getD k []).length<=cs.flatten.length:=by
     have h1:=zan hkn
     have h2:=zay cs (k+1)
     omega
    have HMV:Hid (_):=z1i (dx:=dx) (dy:=dy) hkn
    have HFC:Hid (∀p∈cs.getD k [],(-1000000000<=p.x/\p.x<=1000000000)/\-1000000000<=p.y/\p.y<=1000000000):=fun p hp=>HFL.out _ (zkx hkn) p hp
    obtain⟨c,hc⟩:∃c,cs.getD k []=c:=⟨_,rfl⟩
    rw[hc]at d0 hrow hlb hcl HMV HFC
    have HROW:Hid (Gr PnE S wr a1 c1 c):=hrow
    have hll:L.length+1<=1000000:=by
     have h1:=congrArg List.length HLL.out.1
     rw[List.length_map,zi1,List.length_take]at h1
     omega
    have hc1:c.length<=100000:=by omega
    obtain⟨wo,rfl⟩:∃wo,wo=wr:=⟨_,rfl⟩
    have HG:Hid (Gw PkE 63 B (fun k=>B<=k) wo (.slice av L.length cv) L):=hG
    have HBo:Hid (Below W0.heap.size W0 wo):=hB
    have hX0:=HX0.out.below hB
    obtain⟨i0,hi0,hz0,hz1,hz2⟩:=info_parts zcx
    have hmk:=run_make (P:=Tryz.prog) wo 63 65 i0 (.agg #[.int .i64 0,.int .i64 0,.bool false]) Tryz.underlying63 hi0 hz0 .i64 .i64 0 (c.length:Int) (by omega) (by omega) (by rw[hz2];omega) (by omega)
    rw[hz1]at hmk
    simp only[Int.toNat_zero,Int.toNat_natCast]at hmk
    obtain⟨wm,hwm⟩:∃w1,wo.alloc (.cells (madeCells (Value.agg #[.int .i64 0,.int .i64 0,.bool false]).cells (c.length*3)) 65)=w1:=⟨_,rfl⟩
    have hJ0:Gw PnE 65 wo.heap.size (fun _=>False) wm (.slice (some ⟨wo.heap.size,0,none⟩) 0 c.length) ((c.take 0).map (mvQ dx dy)):=by
     refine Gw.made ?_
     rw[<-hwm]
     have:=World.ownsRow_made (base:=wo.heap.size) (e:=65) (size:=3) wo (madeCells (Value.agg #[.int .i64 0,.int .i64 0,.bool false]).cells (c.length*3)) c.length (Nat.le_refl _) (by unfold maxLen;omega) (size_madeCells _ _)
     have h2:(wo.alloc (.cells (madeCells (Value.agg #[.int .i64 0,.int .i64 0,.bool false]).cells (c.length*3)) 65)).ownsRow wo.heap.size 65 3 (.slice (some ⟨wo.heap.size,0,none⟩) 0 c.length) 0 []:=by simpa using this
     exact h2
    have zn9:Below wo.heap.size wo wm:=by rw[<-hwm];exact bl1 _
    rw[hwm]at hmk
    have i1:(0:Int)<=(k:Int):=by omega
    have i2:(k:Int)<(cs.length:Int):=by omega
    have HX0o:Hid (Bk 54 wo w.heap.size [.int .i64 pg,.int .i64 dx,.int .i64 dy]):=hX0
    clear hwm hi0 hz0 hz1 hz2 hc hG hB hrow hlb hcl hX0;go_wp2;clear d0 hmk
    go_loopw [8,25] (fun v2 i wr=>∃r:Nat,r<=c.length/\i=.int .i64 r/\Hid (∃q,v2.ownBlock=some q)/\Gw PnE 65 wo.heap.size (fun _=>False) wr v2 ((c.take r).map (mvQ dx dy))/\Below wo.heap.size wo wr) (fun _ i _=>c.length-(intOf i).toNat)
    case atStart=>exact⟨0,Nat.zero_le _,rfl,⟨_,rfl⟩,hJ0,zn9⟩
    case round =>
     clear hJ0 zn9;obtain⟨r,hr,rfl,HOB,hV,hBo⟩:=hrel;obtain⟨a7,c7,rfl,zpr,hb7⟩:=hV.slice
     by_cases hrn:r<c.length
     . obtain⟨b2,o2,eb,hb2,⟨w0',w1'⟩,e0,e1,e2⟩:=HROW.out.pn hBo r hrn
       subst eb
       have HMP:Hid (_):=zsx (f:=mvQ dx dy) (d:=Pn.none) hrn
       have hpb:=HFC.out _ (zdi (d:=Pn.none) hrn)
       have hl7:((c.take r).map (mvQ dx dy)).length+1<=1000000:=by rw[List.length_map,List.length_take];omega
       generalize (c.take r).map (mvQ dx dy)=K1 at *
       generalize c.getD r Pn.none=q at *
       obtain⟨x,y,on⟩:=q;dsimp only at w0' w1' e0 e1 e2 hpb
       have HQ:Hid (mvQ dx dy ⟨x,y,on⟩=⟨x+dx,y+dy,on⟩):=rfl
       rw[HQ.out]at HMP
       have i3:(0:Int)<=(r:Int):=by omega
       have i4:(r:Int)<(c.length:Int):=by omega
       obtain⟨V,hV0,XP,hb0⟩:∃V,V=wr.alloc (.cells #[.int .i64 x,.int .i64 y,.bool on] 65)/\Bk 65 V wr.heap.size [.int .i64 x,.int .i64 y,.bool on]/\Below wr.heap.size wr V:=⟨_,rfl,Bk.new _ _ _,bl1 _⟩
       obtain⟨q0,q1,q2,_⟩:=XP.three
       have hX0:=(HX0o.out.below hBo).below hb0
       obtain⟨p0,p1,p2,_⟩:=hX0.three
       have hVV:=hV.below hb0
       have hBZ:Below wo.heap.size wo V:=hBo.trans (hb0.mono hBo.size)
       obtain⟨V1,hV1,Y1,zw8⟩:∃U,U=V.alloc (.cells #[.int .i64 (x+dx),.int .i64 (y+dy),.bool on] 65)/\Bk 65 U V.heap.size [.int .i64 (x+dx),.int .i64 (y+dy),.bool on]/\Below V.heap.size V U:=⟨_,rfl,Bk.new _ _ _,bl1 _⟩
       have hVb:=hVV.below zw8
       have zba:Gr PnE (fun k=>False/\(Value.slice a7 K1.length c7).ownBlock≠some k) V1 (some ⟨V.heap.size,0,none⟩) 1 [⟨x+dx,y+dy,on⟩]:=Gr.one (E:=PnE) (vs:=pnC ⟨x+dx,y+dy,on⟩) (zaz.2 ⟨rfl,⟨by dsimp only;omega,by dsimp only;omega⟩,⟨by dsimp only;omega,by dsimp only;omega⟩⟩) Y1.lt (fun j hj=>Y1.cell j hj)
       have hBb:Below wo.heap.size wo V1:=hBZ.trans (zw8.mono hBZ.size)
       have hbs:=hBb.size
       obtain⟨⟨hp1,hp2⟩,hp3,hp4⟩:=hpb;clear hV zpr hb7 w0' w1' hX0 hVV hBZ
       go_upto_region 9 with fail
       rw[<-hV0];clear hV0 e0 e1 e2
       go_wp2_with (at_builtin;rw[<-hV1];refine zad 63 65 Tryz.underlying63 zcx rfl (by decide) (by decide) rfl _ _ rfl wo.heap.size (fun _=>False) _ K1 rfl hVb (some ⟨V.heap.size,0,none⟩) 1 1 [⟨x+dx,y+dy,on⟩] rfl rfl zba hl7 hbs ?_)
       intro v9 w9 hT9 hgrow how
       try rw[<-hV1]at hgrow
       try rw[<-hV1]at how
       have HOB9:Hid (∃q,v9.ownBlock=some q):=by
        rcases how with how|how
        . obtain⟨q,hq⟩:=HOB.out
          exact⟨q,how.trans hq⟩
        . exact⟨_,how⟩
       have hB9:Below wo.heap.size wo w9:=hBb.grown hgrow hbs (fun k hk=>(hVb.lo hk).1)
       rw[<-HMP.out]at hT9;clear hgrow how hVb zba hbs hl7 hBb hV1 Y1 zw8 HMP q0 q1 q2 p0 p1 p2 XP hb0;go_wp2
       go_roundw
       case rel=>exact⟨r+1,by omega,by go_num,HOB9,hT9,hB9⟩
       case measure=>simp[intOf];omega
     . have er:r=c.length:=by omega
       have g1:¬(r:Int)<(c.length:Int):=by omega
       rw[er,List.take_length]at hV HOB
       have e1:(Value.slice a7 ((c.take r).map (mvQ dx dy)).length c7)=.slice a7 (c.map (mvQ dx dy)).length c7:=by rw[er,List.take_length]
       rw[e1]
       have hcb2:(c.map (mvQ dx dy)).length<=140737488351232:=by rw[List.length_map];omega
       clear e1
       generalize c.map (mvQ dx dy)=K1 at *
       obtain⟨q7,hq7⟩:=HOB.out
       obtain⟨c8,e8⟩:=hV.form hq7
       injection e8 with e8 _ e9;subst e8 e9
       have hq0:=(hV.lo hq7).1
       obtain⟨V,hV0,XN,bp⟩:∃V,V=wr.alloc (.cells #[.slice (some ⟨q7,0,none⟩) K1.length c7] 63)/\Bk 63 V wr.heap.size [.slice (some ⟨q7,0,none⟩) K1.length c7]/\Below wr.heap.size wr V:=⟨_,rfl,Bk.new _ _ _,bl1 _⟩
       have hG1:=(HG.out.below hBo).below bp
       have hVb:=hV.below bp
       have zju:PkE.rep (fun k=>B<=k/\(Value.slice av L.length cv).ownBlock≠some k) V [.slice (some ⟨q7,0,none⟩) K1.length c7] (q7,K1):=by
        refine zzq hVb ?_ hcb2
        exact⟨by omega,fun e2=>hG1.ne hVb (by decide) e2 rfl⟩
       have HSD:Hid (((L++[(q7,K1)]).map Prod.snd=mvC dx dy (cs.take (k+1)))/\((L++[(q7,K1)]).map Prod.fst).Nodup):=by
        refine⟨by rw[List.map_append,HLL.out.1,HMV.out];rfl,zhq HLL.out.2 (fun y hy=>?_)⟩
        have:=(HG.out.ids y hy).2
        show y.1≠q7
        omega
       have zba:=Gr.one (E:=PkE) zju XN.lt (fun jj hjj=>by
        obtain rfl:jj=0:=by have h1:jj<1:=hjj;omega
        exact XN.cell 0 (by simp))
       have hBb:Below W0.heap.size W0 V:=(HBo.out.trans (hBo.mono HBo.out.size)).trans (bp.mono (Nat.le_trans HBo.out.size hBo.size))
       have hbs:B<=V.heap.size:=by rw[<-HBE.out];exact hBb.size
       clear hV hVb zju XN bp zpr hb7 HLL HMV
       go_wp2_with (at_builtin;rw[<-hV0];refine zad 37 63 Tryz.underlying37 zdr rfl Nat.one_pos (by decide) rfl _ _ rfl B _ _ L rfl hG1 (some ⟨wr.heap.size,0,none⟩) 1 1 [(q7,K1)] rfl rfl zba hll hbs ?_)
       intro v9 w9 hT9 hgrow _
       try rw[<-hV0]at hgrow
       have hB9:Below W0.heap.size W0 w9:=hBb.grown hgrow hBb.size (fun k hk=>by rw[HBE.out];exact(hG1.lo hk).1)
       obtain⟨M2,hM2⟩:∃M2,L++[(q7,K1)]=M2:=⟨_,rfl⟩
       rw[hM2]at hT9 HSD;clear hM2 hgrow zba hbs hll hBb hG1 hV0 hBo;go_wp2
       go_roundw
       case rel=>exact⟨k+1,M2,by omega,by go_num,hT9,HSD,hB9⟩
       case measure=>simp[intOf];omega
  . have ek:k=cs.length:=by omega
    have g4:¬(k:Int)<(cs.length:Int):=by omega
    have HL2:Hid (L.map Prod.snd=mvC dx dy cs/\(L.map Prod.fst).Nodup/\L.length=cs.length):=by
     have h1:=HLL.out.1
     rw[ek,List.take_length]at h1
     have h2:=congrArg List.length h1
     rw[List.length_map,zi1]at h2
     exact⟨h1,HLL.out.2,h2⟩
    have HG2:Hid (Gw PkE 63 w.heap.size (fun k=>w.heap.size<=k) wr (.slice av cs.length cv) L):=by
     have h2:=(hG.low (base':=w.heap.size) (by omega)).widenU (S':=fun k=>w.heap.size<=k) (fun k h1 _=>by omega)
     rw[HL2.out.2.2]at h2
     exact h2
    clear HLL hG hB ek;go_wp2
    go_ret
    exact⟨av,cv,by rw[<-HL2.out.2.2];rfl,L,HG2.out,HL2.out.1,HL2.out.2.1,hBw⟩
