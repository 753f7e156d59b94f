import Derived.Test.YtgbhidcokobmmaaGreatDoorZW20
set_option maxHeartbeats 4000000
set_option maxRecDepth 100000
set_option linter.unusedSimpArgs false
set_option linter.unusedVariables false
namespace Go.Proofs.YtgbhidcokobmmaaGreatDoor
open Go.RowKit Go.Maps
def FewG(l:List Gl):Prop:=l.length<=40/\∀x∈l,x.o.cs.flatten.length<=1000/\x.o.ps.length<=12/\x.ts.length<=30
theorem FewG.ps{l:List Gl}(h:FewG l):∀x∈l,x.o.ps.length<=12:=fun x hx=>(h.2 x hx).2.1
theorem FewG.ts{l:List Gl}(h:FewG l):∀x∈l,x.ts.length<=30:=fun x hx=>(h.2 x hx).2.2
theorem FewG.n{l:List Gl}(h:FewG l):l.length<=1000:=Nat.le_trans h.1 (by decide)
def PrH:El (Int×Int):=El.int.cat El.int
structure FoX(S:Nat->Prop)(w:World)(d:FoD)(x:Fo)(bd:List (List (Int×Int))):Prop where
 bl:d.bl=bd.length
 hb:Gr PrH.row S w d.ba d.bc bd
 kx:d.xl<=9223372036854775807
 kt:d.tl<=9223372036854775807
 kf:x.ft.length<=140737488351232
 ks:x.sw.length<=140737488351232
 rg:∀l∈x.s.rg,l.length<=140737488351232
 rr:∀l∈x.s.rw,l.length<=140737488351232
theorem FoX.below{S:Nat->Prop}{w u:World}{d:FoD}{x:Fo}{bd:List (List (Int×Int))}(h:FoX S w d x bd)(hb:Below w.heap.size w u):FoX S u d x bd :=
 ⟨h.bl,h.hb.below hb,h.kx,h.kt,h.kf,h.ks,h.rg,h.rr⟩
theorem zpo{c:Int}:∀ {l:List Rn},NoR l c->I64 (glR c l):=by
 intro l
 induction l with
 | nil=>intro _;exact⟨(by decide:(-9223372036854775808:Int)<=0),(by decide:(0:Int)<=9223372036854775807)⟩
 | cons x l ih =>
  intro h
  rw[glR]
  by_cases hx:inR x c=true
  . rw[if_pos hx];exact(h 0 (by simp) hx).2
  . rw[if_neg hx];exact ih (fun k hk=>h (k+1) (by simpa using hk))
theorem Io.mono{b b2:Nat}{w:World}{v:Value}{zs:List Int}(h:Io b w v zs)(hb:b2<=b):Io b2 w v zs:=⟨h.1,zbp h.2 hb⟩
theorem Io.step{b g:Nat}{w:World}{v:Value}{zs:List Int}(h:Io b w v zs)(hb:g<b)(s:ByteArray)(q:Nat):Io b (zb9 w g s q) v zs:=by
 obtain⟨h1,h3⟩:=h
 refine⟨h1,h3.1,?_⟩
 rcases h3.2 with h0|⟨g',cap,cur,k1,k2,k3,k4⟩
 . exact .inl h0
 . exact .inr ⟨g',cap,cur,k1,k2,(zc2 w g s q g' (by omega)).trans k3,k4⟩
theorem zry{l:List Rn}{s:ByteArray}{zs:List Int}{pos:Nat}(h:mpC l (sb s)=zs++mpC l ((sb s).drop pos))(hp:¬pos<s.size):mpC l (sb s)=zs:=by
 have:(sb s).drop pos=[]:=List.drop_eq_nil_of_le (by rw[zcu];omega)
 rw[this,zot,List.append_nil]at h
 exact h
theorem zrx{l:List Rn}{s:ByteArray}{zs:List Int}{pos:Nat}(h:mpC l (sb s)=zs++mpC l ((sb s).drop pos)):zs.length<=s.size:=by
 have h1:=zou l (sb s)
 rw[h,List.length_append,zcu]at h1
 omega
theorem zos{l:List Rn}{s:ByteArray}{zs:List Int}{pos:Nat}(h:mpC l (sb s)=zs++mpC l ((sb s).drop pos))(hp:pos<s.size):mpC l (sb s)=(zs++[glR ((dcN ((sb s).drop pos)).1:Int) l])++mpC l ((sb s).drop (pos+(dcN ((sb s).drop pos)).2)):=by
 have hne:(sb s).drop pos≠[]:=fun e=>by
  have:=congrArg List.length e
  rw[List.length_drop,zcu]at this
  simp at this
  omega
 rw[h,zl3 hne,List.drop_drop,List.append_assoc]
 rfl
theorem zm1(S:Nat->Prop)(a:Option Addr)(ca:Nat)(l:List Rn)(s:ByteArray)(w:World)(hl:Gr RnE S w a ca l)(hs:s.size<=100000)(hno:∀c:Int,0<=c->c<=1114111->NoR l c) :
 Calls Tryz.prog 26 #[.slice a l.length ca,.string s] w fun e w'=>∃v,e=.returned v/\Io w.heap.size w' v (mpC l (sb s))/\Below w.heap.size w w':=by
 have kl:=hl.lenB
 have HL:Hid (Gr RnE S w a ca l):=hl
 have HNO:Hid (∀c:Int,0<=c->c<=1114111->NoR l c):=hno
 have zsl:It (w.iter s 0) w.heap.size s 0:=It.new w s
 have hB0:Below w.heap.size w (w.iter s 0):=bl1 _
 clear hl hno
 go_enter Tryz.func26,Tryz.ntmps26
 go_wp2
 go_loopw [5] (fun v wr=>∃(pos:Nat) (zs:List Int),It wr w.heap.size s pos/\Hid (mpC l (sb s)=zs++mpC l ((sb s).drop pos))/\Io (w.heap.size+1) wr v zs/\Below w.heap.size w wr) (fun _ wr=>s.size-wr.iterPos w.heap.size)
 case atStart=>exact⟨0,[],zsl,(rfl:mpC l (sb s)=[]++mpC l ((sb s).drop 0)),Io.nil _ _,hB0⟩
 case round =>
  clear zsl hB0;obtain⟨pos,zs,hit,HE,hIo,hB⟩:=hrel;obtain⟨a5,c5,rfl,hri⟩:=hIo.slice
  have hzl:=zrx HE.out
  by_cases hlt:pos<s.size
  . have hnx:∀ty,(Instr.next (.pointer (some ⟨w.heap.size,0,none⟩)) true ty).run Tryz.prog wr=_:=fun ty=>zdl ty hit hlt
    obtain⟨hK,hR⟩:=dcN_b ((sb s).drop pos)
    have HE2:Hid (_):=zos HE.out hlt
    have zmm:=hit.step (pos+(dcN ((sb s).drop pos)).2)
    have hB2:=zc3 s (pos+(dcN ((sb s).drop pos)).2) hB (Nat.le_refl _)
    have hIo2:=hIo.step (Nat.lt_succ_self _) s (pos+(dcN ((sb s).drop pos)).2)
    have hms:wr.iterPos w.heap.size=pos:=iterPos_of hit
    have HMS:Hid (wr.iterPos w.heap.size=pos):=hms
    obtain⟨K,hKK⟩:∃K,(dcN ((sb s).drop pos)).2=K:=⟨_,rfl⟩
    rw[hKK]at hnx hK HE2 zmm hB2 hIo2
    obtain⟨z,hz⟩:∃z:Int,((dcN ((sb s).drop pos)).1:Int)=z:=⟨_,rfl⟩
    rw[hz]at hnx HE2
    have hz0:0<=z:=by omega
    have hz1:z<=1114111:=by omega
    obtain⟨U,hU⟩:∃U,zb9 wr w.heap.size s (pos+K)=U:=⟨_,rfl⟩
    rw[hU]at hnx zmm hB2 hIo2
    have HI:Hid (I64 (glR z l)):=zpo (HNO.out z hz0 hz1)
    have hgl:=zij S a ca l z U (HL.out.below hB2) ⟨by omega,by omega⟩ (HNO.out z hz0 hz1)
    obtain⟨y,hy⟩:∃y,glR z l=y:=⟨_,rfl⟩
    rw[hy]at HI hgl HE2
    have HIT:Hid (It U w.heap.size s (pos+K)):=zmm
    have HLE:Hid (pos<s.size/\1<=K):=⟨hlt,hK⟩
    clear hz hU hKK hR hms hy hit hB hIo hri zmm hK hlt HE
    go_wp2_with fail
    refine hgl.mono ?_
    rintro e u2 ⟨rfl,hb⟩
    have hT2:=hIo2.below hb
    have hB3:=hB2.trans (hb.mono hB2.size)
    have HIT2:Hid (It u2 w.heap.size s (pos+K)):=HIT.out.below hb
    clear hgl hb hIo2 hB2 HIT
    have hT5:=hT2.below (bl1 (.cells #[.int .i64 y] 3))
    have hN:=heap_alloc_new u2 (.cells #[.int .i64 y] 3)
    have n0:=cell_of_row _ u2.heap.size 0 _ _ (0,0) hN
    have HIT3:Hid (It (u2.alloc (.cells #[.int .i64 y] 3)) w.heap.size s (pos+K)):=HIT2.out.below (bl1 _)
    have hlt3:=HIT2.out.lt
    have hbs:w.heap.size+1<=(u2.alloc (.cells #[.int .i64 y] 3)).heap.size:=by simp;omega
    have hll:zs.length+1<=1000000:=by omega
    have hB5:Below w.heap.size w (u2.alloc (.cells #[.int .i64 y] 3)):=hB3.alloc hB3.size _
    clear hN
    go_wp2_with (at_builtin;refine zbi rfl _ _ rfl (w.heap.size+1) _ zs rfl hT5 u2.heap.size y rfl n0 HI.out hll hbs ?_)
    intro v' w9 hT9 hgrow
    have hB9:Below w.heap.size w w9:=hB5.grown hgrow hB5.size (fun k hk=>by have:=hT5.lo hk;omega)
    have hit9:It w9 w.heap.size s (pos+K):=HIT3.out.kept (hgrow.block w.heap.size (by simp;omega) (fun e=>by have:=hT5.lo e.symm;omega))
    clear hgrow hT5 n0 hbs hB5 hB3 hT2 HIT3 HIT2;go_wp2
    go_roundw
    case rel=>exact⟨pos+K,zs++[y],hit9,HE2,hT9,hB9⟩
    case measure =>
     have h1:=HLE.out
     have h2:=HMS.out
     rw[iterPos_of hit9,h2]
     omega
  . have hnx:∀ty,(Instr.next (.pointer (some ⟨w.heap.size,0,none⟩)) true ty).run Tryz.prog wr=_:=fun ty=>zci ty hit hlt
    have HF:Hid (mpC l (sb s)=zs):=zry HE.out hlt
    clear HE hit;go_wp2
    go_ret
    exact⟨_,rfl,by rw[HF.out];exact hIo.mono (by omega),hB⟩
theorem zeu(l:List Rn)(xs:List Nat):(mpC l xs).length=(rns xs).length:=by unfold mpC;rw[List.length_map]
theorem zlr{s:ByteArray}{k pos:Nat}(h:(rns (sb s)).length=k+(rns ((sb s).drop pos)).length)(hp:pos<s.size):(rns (sb s)).length=(k+1)+(rns ((sb s).drop (pos+(dcN ((sb s).drop pos)).2))).length:=by
 have hne:(sb s).drop pos≠[]:=fun e=>by
  have:=congrArg List.length e
  rw[List.length_drop,zcu]at this
  simp at this
  omega
 rw[h,zg1 hne,List.drop_drop,List.length_cons]
 omega
theorem zod{s:ByteArray}{k pos:Nat}(h:(rns (sb s)).length=k+(rns ((sb s).drop pos)).length)(hp:¬pos<s.size):(rns (sb s)).length=k:=by
 have:(sb s).drop pos=[]:=List.drop_eq_nil_of_le (by rw[zcu];omega)
 rw[this,zob]at h
 exact h
theorem zft(s:ByteArray)(w:World)(hs:s.size<=100000) :
 Calls Tryz.prog 25 #[.string s] w fun e w'=>e=.returned (.bool (decide (100<(rns (sb s)).length)))/\Below w.heap.size w w':=by
 have zsl:It (w.iter s 0) w.heap.size s 0:=It.new w s
 have hB0:Below w.heap.size w (w.iter s 0):=bl1 _
 go_enter Tryz.func25,Tryz.ntmps25
 go_wp2
 go_loopw [3] (fun v wr=>∃(pos k:Nat),v=.int .i64 k/\k<=100/\It wr w.heap.size s pos/\Hid ((rns (sb s)).length=k+(rns ((sb s).drop pos)).length)/\Below w.heap.size w wr) (fun _ wr=>s.size-wr.iterPos w.heap.size)
 case atStart=>exact⟨0,0,rfl,by omega,zsl,(by show _=_;simp),hB0⟩
 case round =>
  clear zsl hB0;obtain⟨pos,k,rfl,hk,hit,HE,hB⟩:=hrel
  by_cases hlt:pos<s.size
  . have hnx:∀ty,(Instr.next (.pointer (some ⟨w.heap.size,0,none⟩)) true ty).run Tryz.prog wr=_:=fun ty=>zdl ty hit hlt
    obtain⟨hK,hR⟩:=dcN_b ((sb s).drop pos)
    have HE2:Hid (_):=zlr HE.out hlt
    have zmm:=hit.step (pos+(dcN ((sb s).drop pos)).2)
    have hB2:=zc3 s (pos+(dcN ((sb s).drop pos)).2) hB (Nat.le_refl _)
    have hms:wr.iterPos w.heap.size=pos:=iterPos_of hit
    have HMS:Hid (wr.iterPos w.heap.size=pos):=hms
    obtain⟨K,hKK⟩:∃K,(dcN ((sb s).drop pos)).2=K:=⟨_,rfl⟩
    rw[hKK]at hnx hK HE2 zmm hB2
    obtain⟨z,hz⟩:∃z:Int,((dcN ((sb s).drop pos)).1:Int)=z:=⟨_,rfl⟩
    rw[hz]at hnx
    obtain⟨U,hU⟩:∃U,zb9 wr w.heap.size s (pos+K)=U:=⟨_,rfl⟩
    rw[hU]at hnx zmm hB2
    have HLE:Hid (pos<s.size/\1<=K):=⟨hlt,hK⟩
    clear hz hU hKK hR hms hit hB hK hlt HE
    by_cases znm:k=100
    . have HF:Hid (decide (100<(rns (sb s)).length)=true):=decide_eq_true (by have:=HE2.out;omega)
      subst znm;clear HE2;go_wp2
      go_ret
      exact⟨by rw[HF.out];rfl,hB2⟩
    . have d1:¬(100:Int)<(k:Int)+1:=by omega
      go_wp2
      go_roundw
      case rel=>exact⟨pos+K,k+1,by go_num,by omega,zmm,HE2,hB2⟩
      case measure =>
       have h1:=HLE.out
       have h2:=HMS.out
       rw[iterPos_of zmm,h2]
       omega
  . have hnx:∀ty,(Instr.next (.pointer (some ⟨w.heap.size,0,none⟩)) true ty).run Tryz.prog wr=_:=fun ty=>zci ty hit hlt
    have HF:Hid (decide (100<(rns (sb s)).length)=false):=decide_eq_false (by have:=zod HE.out hlt;omega)
    clear HE hit;go_wp2
    go_ret
    exact⟨by rw[HF.out];rfl,hB⟩
structure RowP(P:List Pd)(base:Nat)(w':World)(e:Ending):Prop where
 out:∃v,e=.returned v/\Ln base w' v P
structure RowG(L:List Int)(base:Nat)(w':World)(e:Ending):Prop where
 out:∃v,e=.returned v/\Gi base w' v L
theorem Gr.anyPJ{S S':Nat->Prop}{w:World}{a:Option Addr}{cap:Nat}{l:List Pd}(h:Gr PdE S w a cap l):Gr PdE S' w a cap l:=by
 refine⟨h.1,h.2.1,h.2.2.1,fun i hi=>?_⟩
 obtain⟨b,off,vs,e,h0,hr,hc⟩:=h.2.2.2 i hi
 exact⟨b,off,vs,e,h0,za0.2 (za0.1 hr),hc⟩
theorem zmj:(Tryz.prog.info? 3).map (fun i=>(i.zero,i.size,i.bytes))=some (some (.int .i64 0),1,8):=by kernel_rfl
theorem zgp(S:Nat->Prop)(a:Option Addr)(ca:Nat)(P:List Pd)(w:World)(h:Gr PdE S w a ca P)(hl:P.length<=1000) :
 Calls Tryz.prog 63 #[.slice a P.length ca] w fun e w'=>RowP P w.heap.size w' e/\Below w.heap.size w w':=by
 cases a with
 | none =>
  have h0:P=[]:=by
   have h1:=h.1
   rw[h.2.2.1 rfl]at h1
   exact List.length_eq_zero_iff.1 (Nat.le_zero.1 h1)
  subst h0;clear h
  have q22:∀(w:World) (a:Option Addr) (n c n' c':Nat),(binOp .eql 46 (.slice a n c) (.slice none n' c')).run Tryz.prog w=.ok (.bool a.isNone) w:=fun w a n c n' c'=>Lib.run_eql_slice_nil w _ _ a n c n' c' Tryz.underlying46
  go_enter Tryz.func63,Tryz.ntmps63
  go_wp2
  go_ret
  exact⟨⟨_,rfl,Gw.nil _ _ _ _ _⟩,Below.refl _ _⟩
 | some ad =>
  have q22:∀(w:World) (a:Option Addr) (n c n' c':Nat),(binOp .eql 46 (.slice a n c) (.slice none n' c')).run Tryz.prog w=.ok (.bool a.isNone) w:=fun w a n c n' c'=>Lib.run_eql_slice_nil w _ _ a n c n' c' Tryz.underlying46
  have hN0:Ln w.heap.size (w.alloc (.cells #[] 66)) (.slice (some ⟨w.heap.size,0,none⟩) 0 0) []:=Gw.made (World.ownsRow_made w #[] 0 (Nat.le_refl _) (Nat.zero_le _) rfl)
  have HL:Hid (Gr PdE (fun k=>False/\(Value.slice (some ⟨w.heap.size,0,none⟩) 0 0).ownBlock≠some k) (w.alloc (.cells #[] 66)) (some ad) ca P):=(h.below (bl1 _)).anyPJ
  have kl:=h.lenB
  have hll:([]:List Pd).length+P.length<=1000000:=by simp;omega
  have hW:=(bl1 (w:=w) (.cells #[] 66)).size
  clear h
  go_enter Tryz.func63,Tryz.ntmps63
  go_wp2_with (at_builtin;refine zak 46 66 Tryz.underlying46 zf9 rfl (by decide) (by decide) rfl _ _ rfl w.heap.size (fun _=>False) _ [] rfl hN0 _ _ _ P rfl rfl HL.out hll hW ?_)
  intro v1 w1 hT1 hgrow _
  have hB1:Below w.heap.size w w1:=(bl1 _).grown hgrow hW (fun k hk=>by simp[Value.ownBlock]at hk;omega)
  have HV:Hid (RowP P w.heap.size w1 (.returned v1)):=⟨_,rfl,hT1⟩
  clear hgrow hT1 hll hW hN0;go_wp2
  go_ret
  exact⟨HV.out,hB1⟩
theorem Gi.at21{base:Nat}{w:World}{g n c:Nat}{L:List Int}(h:Gi base w (.slice (some ⟨g,0,none⟩) n c) L){k:Nat}(hk:k<L.length) :
 (∀x,I64 x->Gi base (w.setCell ⟨g,k,none⟩ (.int .i64 x)) (.slice (some ⟨g,0,none⟩) n c) (L.set k x))/\(∀j,w.frozen? ⟨g,j,none⟩=false)/\w.cell? ⟨g,k,none⟩=some (.int .i64 (L.getD k 0)):=by
 have hne:L≠[]:=fun e=>by rw[e]at hk;simp at hk
 obtain⟨g',cap,ev,_,_,_,hfz,zfo,zd3⟩:=Gw.own h hne
 have eg:g=g':=by injection ev with e1 _ _;cases e1;rfl
 subst eg
 obtain⟨vs,hr,hc⟩:=zfo k hk
 obtain⟨rfl,hw⟩:=El.int_rep.1 hr
 have e1:k*El.int.sz=k:=Nat.mul_one k
 refine⟨fun x hx=>?_,hfz,?_⟩
 . have:=zd3 k 0 (.int .i64 x) x hk (by decide) (fun S' us hu=>by obtain⟨rfl,h1⟩:=El.int_rep.1 hu;exact El.int_rep.2 ⟨rfl,hx⟩)
   rw[e1]at this
   exact this
 . have:=hc 0 (by decide)
   rw[e1]at this
   exact this
theorem zfp(S:Nat->Prop)(a:Option Addr)(ca:Nat)(P:List Pd)(w:World)(h:Gr PdE S w a ca P)(hl:P.length<=1000) :
 Calls Tryz.prog 64 #[.slice a P.length ca] w fun e w'=>RowG (naL P) w.heap.size w' e/\Below w.heap.size w w':=by
 have HH:Hid (Gr PdE S w a ca P):=h
 obtain⟨n,hnn⟩:∃n,P.length=n:=⟨_,rfl⟩
 have HN:Hid (P.length=n):=hnn
 rw[hnn]at hl ⊢;clear h
 obtain⟨i0,hi0,hz0,hz1,hz2⟩:=info_parts zmj
 obtain⟨u2,hmk,hown,hgrow⟩:=run_makeSlice_full w w.heap.size 37 3 i0 _ 1 Tryz.underlying37 hi0 hz0 hz1 .i64 .i64 n (by omega) (by rw[hz2];omega) (by unfold maxLen;omega) (Nat.le_refl _)
 have hG0:Gi w.heap.size u2 (.slice (some ⟨w.heap.size,0,none⟩) n n) (List.replicate n 0):=Gw.zeros (E:=El.int) hown rfl (by decide) (El.int_rep.2 ⟨rfl,by decide,by decide⟩)
 have hB2:Below w.heap.size w u2:=(Below.refl _ _).grown hgrow (Nat.le_refl _) (fun k hk=>by cases hk)
 obtain⟨g,hg⟩:∃g,w.heap.size=g:=⟨_,rfl⟩
 have HG:Hid (w.heap.size=g):=hg
 rw[hg]at hmk hG0
 have HG0:Hid (Gi g u2 (.slice (some ⟨g,0,none⟩) n n) (List.replicate n 0)):=hG0
 clear hi0 hz0 hz1 hz2 hown hgrow hnn hG0 hg
 go_enter Tryz.func64,Tryz.ntmps64
 go_wp2;clear hmk
 go_loopw [11] (fun i wr=>∃(k:Nat) (L:List Int),k<=n/\i=.int .i64 k/\Hid (L.length=n)/\Hid (∀j,j<k->L.getD j 0=(P.getD j Pd.none).g)/\Hid (Gi g wr (.slice (some ⟨g,0,none⟩) n n) L)/\Below w.heap.size w wr) (fun i _=>n-(intOf i).toNat)
 case atStart=>exact⟨0,_,Nat.zero_le _,rfl,List.length_replicate,(fun j hj=>by omega),HG0.out,hB2⟩
 case round =>
  clear HG0 hB2;obtain⟨k,L,hk,rfl,HLN,HLT,HR,hB⟩:=hrel
  by_cases hkn:k<n
  . obtain⟨b,off,ea,hb,hw4,d0,d1,d2,d3⟩:=HH.out.pd hB k (by rw[HN.out];exact hkn)
    obtain⟨p,hp⟩:∃p,P.getD k Pd.none=p:=⟨_,rfl⟩
    have HPP:Hid (P.getD k Pd.none=p):=hp
    rw[hp]at hw4 d0 d1 d2 d3;clear hp;obtain⟨pg,px,py,pa⟩:=p;dsimp only at d0 d1 d2 d3
    have hI:I64 pg:=hw4.1
    subst ea
    have i1:(0:Int)<=(k:Int):=by omega
    have i2:(k:Int)<(n:Int):=by omega
    obtain⟨U,hU,XG,hbU⟩:∃U,U=wr.alloc (.cells #[.int .i64 pg,.int .i64 px,.int .i64 py,.int .i64 pa] 66)/\Bk 66 U wr.heap.size [.int .i64 pg,.int .i64 px,.int .i64 py,.int .i64 pa]/\Below wr.heap.size wr U:=⟨_,rfl,Bk.new _ _ _,bl1 _⟩
    have hBU:=hB.trans (hbU.mono hB.size)
    obtain⟨zd3,hfz,c0⟩:=Gi.at21 (HR.out.below hbU) (k:=k) (by rw[HLN.out];exact hkn)
    have hfzk:=hfz k
    obtain⟨y0,y1,y2,y3,-⟩:=XG.four
    have HR2:Hid (Gi g (U.setCell ⟨g,k,none⟩ (.int .i64 pg)) (.slice (some ⟨g,0,none⟩) n n) (L.set k pg)):=zd3 pg hI
    have HB2:Hid (Below w.heap.size w (U.setCell ⟨g,k,none⟩ (.int .i64 pg))):=hBU.setCell (p:=⟨g,k,none⟩) (by show w.heap.size<=g;have:=HG.out;omega) _
    have HLN2:Hid ((L.set k pg).length=n):=by show _=_;rw[List.length_set];exact HLN.out
    have HLT2:Hid (∀j,j<k+1->(L.set k pg).getD j 0=(P.getD j Pd.none).g):=fun j hj=>by
     have:=HLN.out
     by_cases hjk:j=k
     . subst hjk
       rw[HPP.out]
       simp[List.getD,show j<L.length by omega]
     . rw[<-HLT.out j (by omega)]
       simp[List.getD,List.getElem?_set_ne (fun e=>hjk e.symm)]
    clear zd3 hfz HR HLN HLT HPP hw4 hI
    go_upto_region 5 with fail
    rw[<-hU];clear hU d0 d1 d2 d3 XG hbU;go_wp2
    go_roundw
    case rel=>exact⟨k+1,_,by omega,by go_num,HLN2,HLT2,HR2,HB2.out⟩
    case measure=>simp[intOf];omega
  . have HE:Hid (L=naL P):=by
      show _=_
      have h1:=HLN.out
      have h2:=HN.out
      apply List.ext_getElem (by rw[zcw];omega)
      intro j h3 h4
      have:=HLT.out j (by omega)
      rw[<-zrv]at this
      simpa [List.getD,h3,h4] using this
    have HV:Hid (RowG (naL P) w.heap.size wr (.returned (.slice (some ⟨g,0,none⟩) n n))):=⟨_,rfl,by rw[<-HE.out,HG.out];exact HR.out⟩
    have g4:¬(k:Int)<(n:Int):=by omega
    clear HLT HR HLN HE;go_wp2
    go_ret
    exact⟨HV.out,hB⟩
theorem PdW.zero:PdW Pd.none:=⟨⟨by decide,by decide⟩,⟨by decide,by decide⟩,⟨by decide,by decide⟩,⟨by decide,by decide⟩⟩
theorem zm2(a:Option Addr)(ca:Nat)(line:List Int)(b:Option Addr)(cb:Nat)(adv:List Int)(w:World)(h:Ri w a ca line)(h2:Ri w b cb adv)(hl:line.length<=1000) :
 Calls Tryz.prog 35 #[.slice a line.length ca,.slice b adv.length cb] w fun e w'=>RowP (laL line adv) w.heap.size w' e/\Below w.heap.size w w':=by
 have ka:=h2.lenB
 have HH:Hid (Ri w a ca line):=h
 have HA:Hid (Ri w b cb adv):=h2
 obtain⟨n,hnn⟩:∃n,line.length=n:=⟨_,rfl⟩
 have HN:Hid (line.length=n):=hnn
 rw[hnn]at hl ⊢;clear h h2
 obtain⟨i0,hi0,hz0,hz1,hz2⟩:=info_parts zf9
 obtain⟨u2,hmk,hown,hgrow⟩:=run_makeSlice_full w w.heap.size 46 66 i0 _ 4 Tryz.underlying46 hi0 hz0 hz1 .i64 .i64 n (by omega) (by rw[hz2];omega) (by unfold maxLen;omega) (Nat.le_refl _)
 have hG0:Ln w.heap.size u2 (.slice (some ⟨w.heap.size,0,none⟩) n n) (List.replicate n Pd.none):=Gw.zeros (E:=PdE) hown rfl (by decide) (za0.2 ⟨rfl,PdW.zero⟩)
 have hB2:Below w.heap.size w u2:=(Below.refl _ _).grown hgrow (Nat.le_refl _) (fun k hk=>by cases hk)
 obtain⟨g,hg⟩:∃g,w.heap.size=g:=⟨_,rfl⟩
 have HG:Hid (w.heap.size=g):=hg
 rw[hg]at hmk hG0
 have HG0:Hid (Ln g u2 (.slice (some ⟨g,0,none⟩) n n) (List.replicate n Pd.none)):=hG0
 clear hi0 hz0 hz1 hz2 hown hgrow hnn hG0 hg
 go_enter Tryz.func35,Tryz.ntmps35
 go_wp2;clear hmk
 go_loopw [13] (fun i wr=>∃(k:Nat) (L:List Pd),k<=n/\i=.int .i64 k/\Hid (L.length=n)/\Hid (∀j,j<k->L.getD j Pd.none=⟨line.getD j 0,0,0,adv.getD j 0⟩)/\Hid (∀j,k<=j->j<n->L.getD j Pd.none=Pd.none)/\Hid (Ln g wr (.slice (some ⟨g,0,none⟩) n n) L)/\Below w.heap.size w wr) (fun i _=>n-(intOf i).toNat)
 case atStart=>exact⟨0,_,Nat.zero_le _,rfl,List.length_replicate,(fun j hj=>by omega),(fun j _ hj=>by simp[List.getD,hj]),HG0.out,hB2⟩
 case round =>
  clear HG0 hB2;obtain⟨k,L,hk,rfl,HLN,HLT,HLZ,HR,hB⟩:=hrel
  by_cases hkn:k<n
  . obtain⟨b1,off,ea,hb,d0⟩:=HH.out.at hB k (by rw[HN.out];exact hkn)
    have hI:I64 (line.getD k 0):=HH.out.i64 (by rw[HN.out];exact hkn)
    obtain⟨z,hz⟩:∃z,line.getD k 0=z:=⟨_,rfl⟩
    have HZZ:Hid (line.getD k 0=z):=hz
    rw[hz]at hI d0;clear hz;subst ea
    have i1:(0:Int)<=(k:Int):=by omega
    have i2:(k:Int)<(n:Int):=by omega
    have hkL:k<L.length:=by rw[HLN.out];exact hkn
    obtain⟨zd3,-,-,-,hfz,-,c0,-,-,-⟩:=Ln.at HR.out hkL
    have zsf:=HLZ.out k (Nat.le_refl _) hkn
    rw[zsf]at zd3 c0
    have hfzk:=hfz (k*4)
    obtain⟨V,hV⟩:∃V,V=wr.setCell ⟨g,k*4,none⟩ (.int .i64 z):=⟨_,rfl⟩
    have hR1:Ln g V (.slice (some ⟨g,0,none⟩) n n) (L.set k ⟨z,0,0,0⟩):=by rw[hV];exact zd3 z hI
    have hB1:Below w.heap.size w V:=by rw[hV];exact hB.setCell (p:=⟨g,k*4,none⟩) (by show w.heap.size<=g;have:=HG.out;omega) _
    have hget:(L.set k (⟨z,0,0,0⟩:Pd)).getD k Pd.none=⟨z,0,0,0⟩:=zdd hkL _
    obtain⟨-,-,-,zh5,hfz3,-,-,-,-,c3⟩:=Ln.at hR1 (k:=k) (by rw[List.length_set];exact hkL)
    rw[hget]at zh5 c3
    dsimp only[Pd.none]at c0
    dsimp only at c3 zh5
    simp only[List.set_set]at zh5
    have hfz3k:=hfz3 (k*4+3)
    have HLE:Hid (∀q:Pd,(L.set k q).length=n):=fun q=>by rw[List.length_set];exact HLN.out
    have HTT:Hid (∀y,adv.getD k 0=y->∀j,j<k+1->(L.set k ⟨z,0,0,y⟩).getD j Pd.none=⟨line.getD j 0,0,0,adv.getD j 0⟩):=fun y hy j hj=>by
     by_cases hjk:j=k
     . subst hjk
       rw[HZZ.out,hy]
       exact zdd hkL _
     . rw[<-HLT.out j (by omega)]
       simp[List.getD,List.getElem?_set_ne (fun e=>hjk e.symm)]
    have HTZ:Hid (∀q:Pd,∀j,k+1<=j->j<n->(L.set k q).getD j Pd.none=Pd.none):=fun q j h1 h2=>by
     rw[zmo (show k≠j by omega)]
     exact HLZ.out j (by omega) h2
    have HR1:Hid (Ln g V (.slice (some ⟨g,0,none⟩) n n) (L.set k ⟨z,0,0,0⟩)):=hR1
    clear zd3 hfz HR HLN HLT HLZ HZZ hI zsf hget hfz3 hR1
    by_cases hka:k<adv.length
    . obtain⟨b2,off2,ea2,hb2,e0⟩:=HA.out.at hB1 k hka
      have hIa:I64 (adv.getD k 0):=HA.out.i64 hka
      have zqz:=HTT.out _ rfl
      obtain⟨y,hy⟩:∃y,adv.getD k 0=y:=⟨_,rfl⟩
      rw[hy]at hIa e0 zqz
      have HTT3:Hid (∀j,j<k+1->(L.set k ⟨z,0,0,y⟩).getD j Pd.none=⟨line.getD j 0,0,0,adv.getD j 0⟩):=zqz
      have HR2:Hid (Ln g (V.setCell ⟨g,k*4+3,none⟩ (.int .i64 y)) (.slice (some ⟨g,0,none⟩) n n) (L.set k ⟨z,0,0,y⟩)):=zh5 y hIa
      have HB2:Hid (Below w.heap.size w (V.setCell ⟨g,k*4+3,none⟩ (.int .i64 y))):=hB1.setCell (p:=⟨g,k*4+3,none⟩) (by show w.heap.size<=g;have:=HG.out;omega) _
      have i3:(k:Int)<(adv.length:Int):=by omega
      have ztn:=HLE.out ⟨z,0,0,y⟩
      have HLE3:Hid ((L.set k (⟨z,0,0,y⟩:Pd)).length=n):=ztn
      have ztk:=HTZ.out ⟨z,0,0,y⟩
      have HTZ3:Hid (∀j,k+1<=j->j<n->(L.set k (⟨z,0,0,y⟩:Pd)).getD j Pd.none=Pd.none):=ztk
      subst ea2;clear zh5 hy hIa HTT zqz HLE ztn HTZ ztk HR1 hkL
      go_upto_region 6 with fail
      rw[<-hV];clear hV c0 d0 hfzk;go_wp2
      go_roundw
      case rel=>exact⟨k+1,_,by omega,by go_num,HLE3,HTT3,HTZ3,HR2,HB2.out⟩
      case measure=>simp[intOf];omega
    . have i3:¬(k:Int)<(adv.length:Int):=by omega
      have zqz:=HTT.out 0 (by rw[List.getD_eq_getElem?_getD,List.getElem?_eq_none (by omega)];rfl)
      have HTT3:Hid (∀j,j<k+1->(L.set k ⟨z,0,0,0⟩).getD j Pd.none=⟨line.getD j 0,0,0,adv.getD j 0⟩):=zqz
      have ztn:=HLE.out ⟨z,0,0,0⟩
      have HLE3:Hid ((L.set k (⟨z,0,0,0⟩:Pd)).length=n):=ztn
      have ztk:=HTZ.out ⟨z,0,0,0⟩
      have HTZ3:Hid (∀j,k+1<=j->j<n->(L.set k (⟨z,0,0,0⟩:Pd)).getD j Pd.none=Pd.none):=ztk
      have HB2:Hid (Below w.heap.size w V):=hB1
      clear zh5 HTT zqz HLE ztn HTZ ztk hkL hB1 c3 hfz3k hka
      go_upto_region 6 with fail
      rw[<-hV];clear hV c0 d0 hfzk;go_wp2
      go_roundw
      case rel=>exact⟨k+1,_,by omega,by go_num,HLE3,HTT3,HTZ3,HR1,HB2.out⟩
      case measure=>simp[intOf];omega
  . have HE:Hid (L=laL line adv):=by
      show _=_
      have h1:=HLN.out
      have h2:=HN.out
      apply List.ext_getElem (by rw[zdr];omega)
      intro j h3 h4
      have:=HLT.out j (by omega)
      rw[<-zsb (by omega)]at this
      simpa [List.getD,h3,h4] using this
    have HV:Hid (RowP (laL line adv) w.heap.size wr (.returned (.slice (some ⟨g,0,none⟩) n n))):=⟨_,rfl,by rw[<-HE.out,HG.out];exact HR.out⟩
    have g4:¬(k:Int)<(n:Int):=by omega
    clear HLT HLZ HR HLN HE;go_wp2
    go_ret
    exact⟨HV.out,hB⟩
theorem zph:(Tryz.prog.info? 4).map (fun i=>(i.zero,i.size,i.bytes))=some (some (.bool false),1,1):=by kernel_rfl
theorem Gw.atB{base:Nat}{w:World}{g n c:Nat}{L:List Bool}(h:Gw El.bool 4 base (fun _=>False) w (.slice (some ⟨g,0,none⟩) n c) L){k:Nat}(hk:k<L.length) :
 (∀x,Gw El.bool 4 base (fun _=>False) (w.setCell ⟨g,k,none⟩ (.bool x)) (.slice (some ⟨g,0,none⟩) n c) (L.set k x))/\(∀j,w.frozen? ⟨g,j,none⟩=false)/\w.cell? ⟨g,k,none⟩=some (.bool (L.getD k false)):=by
 have hne:L≠[]:=fun e=>by rw[e]at hk;simp at hk
 obtain⟨g',cap,ev,_,_,_,hfz,zfo,zd3⟩:=Gw.own h hne
 have eg:g=g':=by injection ev with e1 _ _;cases e1;rfl
 subst eg
 obtain⟨vs,hr,hc⟩:=zfo k hk
 have hr2:vs=[.bool (L.getD k false)]:=hr
 subst hr2
 have e1:k*El.bool.sz=k:=Nat.mul_one k
 refine⟨fun x=>?_,hfz,?_⟩
 . have:=zd3 k 0 (.bool x) x hk (by decide) (fun S' us hu=>by
     have hu2:us=[.bool (L.getD k false)]:=hu
     subst hu2
     rfl)
   rw[e1]at this
   exact this
 . have:=hc 0 (by decide)
   rw[e1]at this
   exact this
theorem zeb(S:Nat->Prop)(a:Option Addr)(ca:Nat)(l:List Gl)(w:World)(h:Gr GlE S w a ca l)(hl:l.length<=1000) :
 Calls Tryz.prog 29 #[.slice a l.length ca] w fun e w'=>RowM (mkG l) w.heap.size w' e/\Below w.heap.size w w':=by
 have HH:Hid (Gr GlE S w a ca l):=h
 obtain⟨n,hnn⟩:∃n,l.length=n:=⟨_,rfl⟩
 have HN:Hid (l.length=n):=hnn
 rw[hnn]at hl ⊢;clear h
 obtain⟨i0,hi0,hz0,hz1,hz2⟩:=info_parts zph
 obtain⟨u2,hmk,hown,hgrow⟩:=run_makeSlice_full w w.heap.size 77 4 i0 _ 1 Tryz.underlying77 hi0 hz0 hz1 .i64 .i64 n (by omega) (by rw[hz2];omega) (by unfold maxLen;omega) (Nat.le_refl _)
 have hG0:Gw El.bool 4 w.heap.size (fun _=>False) u2 (.slice (some ⟨w.heap.size,0,none⟩) n n) (List.replicate n false):=Gw.zeros (E:=El.bool) hown rfl (by decide) rfl
 have hB2:Below w.heap.size w u2:=(Below.refl _ _).grown hgrow (Nat.le_refl _) (fun k hk=>by cases hk)
 obtain⟨g,hg⟩:∃g,w.heap.size=g:=⟨_,rfl⟩
 have HG:Hid (w.heap.size=g):=hg
 rw[hg]at hmk hG0
 have HG0:Hid (Gw El.bool 4 g (fun _=>False) u2 (.slice (some ⟨g,0,none⟩) n n) (List.replicate n false)):=hG0
 clear hi0 hz0 hz1 hz2 hown hgrow hnn hG0 hg
 go_enter Tryz.func29,Tryz.ntmps29
 go_wp2;clear hmk
 go_loopw [11] (fun i wr=>∃(k:Nat) (L:List Bool),k<=n/\i=.int .i64 k/\Hid (L.length=n)/\Hid (∀j,j<k->L.getD j false=(l.getD j Gl.none).mr)/\Hid (Gw El.bool 4 g (fun _=>False) wr (.slice (some ⟨g,0,none⟩) n n) L)/\Below w.heap.size w wr) (fun i _=>n-(intOf i).toNat)
 case atStart=>exact⟨0,_,Nat.zero_le _,rfl,List.length_replicate,(fun j hj=>by omega),HG0.out,hB2⟩
 case round =>
  clear HG0 hB2;obtain⟨k,L,hk,rfl,HLN,HLT,HR,hB⟩:=hrel
  by_cases hkn:k<n
  . obtain⟨b,off,ga,gc,ha,hc,ea,eb,e9,hblk,hgw,d0,d1,d2,d3,d4,d5⟩:=HH.out.gl hB k (by rw[HN.out];exact hkn)
    obtain⟨p,hp⟩:∃p,l.getD k Gl.none=p:=⟨_,rfl⟩
    have HPP:Hid (l.getD k Gl.none=p):=hp
    rw[hp]at hgw d0 d1 d2 d3 d4 d5;clear hp;obtain⟨o,ts,ab,ar,mr⟩:=p;dsimp only at d0 d1 d2 d3 d4 d5;subst e9
    have i1:(0:Int)<=(k:Int):=by omega
    have i2:(k:Int)<(n:Int):=by omega
    obtain⟨U,hU,XG,hbU⟩:∃U,U=wr.alloc (.cells #[.slice ga o.cs.length gc,.slice ha o.ps.length hc,.slice ea ts.length eb,.int .i64 ab,.int .i64 ar,.bool mr] 64)/\Bk 64 U wr.heap.size [.slice ga o.cs.length gc,.slice ha o.ps.length hc,.slice ea ts.length eb,.int .i64 ab,.int .i64 ar,.bool mr]/\Below wr.heap.size wr U:=⟨_,rfl,Bk.new _ _ _,bl1 _⟩
    have hBU:=hB.trans (hbU.mono hB.size)
    obtain⟨zd3,hfz,c0⟩:=Gw.atB (HR.out.below hbU) (k:=k) (by rw[HLN.out];exact hkn)
    have hfzk:=hfz k
    obtain⟨y0,y1,y2,y3,y4,y5,-⟩:=XG.six
    have HR2:Hid (Gw El.bool 4 g (fun _=>False) (U.setCell ⟨g,k,none⟩ (.bool mr)) (.slice (some ⟨g,0,none⟩) n n) (L.set k mr)):=zd3 mr
    have HB2:Hid (Below w.heap.size w (U.setCell ⟨g,k,none⟩ (.bool mr))):=hBU.setCell (p:=⟨g,k,none⟩) (by show w.heap.size<=g;have:=HG.out;omega) _
    have HLN2:Hid ((L.set k mr).length=n):=by show _=_;rw[List.length_set];exact HLN.out
    have HLT2:Hid (∀j,j<k+1->(L.set k mr).getD j false=(l.getD j Gl.none).mr):=fun j hj=>by
     have:=HLN.out
     by_cases hjk:j=k
     . subst hjk
       rw[HPP.out]
       simp[List.getD,show j<L.length by omega]
     . rw[<-HLT.out j (by omega)]
       simp[List.getD,List.getElem?_set_ne (fun e=>hjk e.symm)]
    clear zd3 hfz HR HLN HLT HPP hgw
    go_upto_region 5 with fail
    rw[<-hU];clear hU d0 d1 d2 d3 d4 d5 XG hbU;go_wp2
    go_roundw
    case rel=>exact⟨k+1,_,by omega,by go_num,HLN2,HLT2,HR2,HB2.out⟩
    case measure=>simp[intOf];omega
  . have HE:Hid (L=mkG l):=by
      show _=_
      have h1:=HLN.out
      have h2:=HN.out
      apply List.ext_getElem (by rw[zba];omega)
      intro j h3 h4
      have:=HLT.out j (by omega)
      rw[<-zrz (by omega)]at this
      simpa [List.getD,h3,h4] using this
    have HV:Hid (RowM (mkG l) w.heap.size wr (.returned (.slice (some ⟨g,0,none⟩) n n))):=⟨_,rfl,by rw[<-HE.out,HG.out];exact HR.out⟩
    have g4:¬(k:Int)<(n:Int):=by omega
    clear HLT HR HLN HE;go_wp2
    go_ret
    exact⟨HV.out,hB⟩
