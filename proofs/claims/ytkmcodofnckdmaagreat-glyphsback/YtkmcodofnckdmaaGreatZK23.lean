import Derived.Test.YtkmcodofnckdmaaGreatZK22
set_option maxHeartbeats 16000000
set_option maxRecDepth 100000
set_option linter.unusedSimpArgs false
set_option linter.unusedVariables false
namespace Go.Proofs.YtkmcodofnckdmaaGreat
def NE(cs:List (List Pn)):Prop:=∀c∈cs,0<c.length
theorem NE.len{cs:List (List Pn)}:NE cs->cs.length<=cs.flatten.length:=by
 induction cs with
 | nil=>intro _;exact Nat.le_refl _
 | cons c cs ih =>
  intro h
  have h1:=h c (by simp)
  have h2:=ih (fun d hd=>h d (by simp[hd]))
  rw[List.flatten_cons,List.length_append,List.length_cons]
  omega
theorem NE.append{a b:List (List Pn)}(h:NE a)(k:NE b):NE (a++b):=fun c hc=>by
 rcases List.mem_append.1 hc with hc|hc
 . exact h c hc
 . exact k c hc
theorem NE.mv{cs:List (List Pn)}(h:NE cs)(dx dy:Int):NE (mvC dx dy cs):=fun c hc=>by
 obtain⟨c',hc',rfl⟩:=List.mem_map.1 hc
 rw[List.length_map]
 exact h c' hc'
theorem at_ne{o:Ol}{l:List Tu}{cs:LI}(h:atE o l cs=0):NE (atO o l cs).cs:=by
 obtain⟨h1,h2⟩:=at_ok h
 have h3:=(za1.1 (zbc.1 h1).1).2.2.2.1
 rw[h2]
 intro c hc
 have hc':c∈(List.range o.cs.length).map (reC o.cs ((exL Pn.x Pa.dx Tu.dx o l cs).map rnN) ((exL Pn.y Pa.dy Tu.dy o l cs).map rnN)):=hc
 obtain⟨k,hk,rfl⟩:=List.mem_map.1 hc'
 have hk':k<o.cs.length:=List.mem_range.1 hk
 unfold reC
 rw[List.length_map,List.length_range]
 refine h3 _ ?_
 rw[List.getD_eq_getElem?_getD,List.getElem?_eq_getElem hk',Option.getD_some]
 exact List.getElem_mem hk'
theorem at_len{o:Ol}{l:List Tu}{cs:LI}(h:atE o l cs=0):(atO o l cs).cs.length<=10/\(atO o l cs).ps.length<=6/\(atO o l cs).ps.length=o.ps.length:=by
 obtain⟨h1,h2⟩:=at_ok h
 have h3:=za1.1 (zbc.1 h1).1
 have h4:=h3.2.1
 have h5:=h3.2.2.1
 rw[h2]
 show((List.range o.cs.length).map _).length<=10/\((List.range o.ps.length).map _).length<=6/\((List.range o.ps.length).map _).length=_
 rw[List.length_map,List.length_map,List.length_range,List.length_range]
 omega
theorem z5e{f:Int->Fl}:∀ {ps:List Pa},(∀p∈ps,NE (f p.g).1)->NE (flP f ps).1:=by
 intro ps
 induction ps with
 | nil=>intro _ c hc;cases hc
 | cons p ps ih =>
  intro h
  rw[flP]
  by_cases h1:(f p.g).2=0
  . rw[if_pos h1]
    by_cases h2:(flP f ps).2=0
    . rw[if_pos h2]
      exact((h p (by simp)).mv _ _).append (ih (fun q hq=>h q (by simp[hq])))
    . rw[if_neg h2];intro c hc;cases hc
  . rw[if_neg h1];intro c hc;cases hc
theorem z5f{l:List Gl}{cs:LI}:∀(n:Nat) (g:Int),NE (flG l cs n g).1:=by
 have key:∀(n:Nat) (g:Int),(∀h,NE (flf l cs n h).1)->NE (flG l cs n g).1:=by
  intro n g hf
  cases hx:gAt l g with
  | none =>
   have e:flG l cs n g=([],5):=by cases n <;> rw[flG,hx]
   rw[e]
   intro c hc
   cases hc
  | some x =>
   rw[zfi hx]
   unfold flX
   by_cases he:atE x.o x.ts cs=0
   . rw[if_pos he]
     by_cases h3:(flP (flf l cs n) (atO x.o x.ts cs).ps).2=0
     . rw[if_pos h3]
       exact(at_ne he).append (z5e (fun p hp=>hf p.g))
     . rw[if_neg h3];intro c hc;cases hc
   . rw[if_neg he];intro c hc;cases hc
 intro n
 induction n with
 | zero=>intro g;exact key 0 g (fun h c hc=>by cases hc)
 | succ n ih=>intro g;exact key (n+1) g (fun h=>ih h)
theorem zoh{l:List Gl}{cs:LI}{n:Nat}{g:Int}:(flG l cs n g).1.length<=sq l n g/\(flG l cs n g).1.flatten.length<=sq l n g:=by
 by_cases h:(flG l cs n g).2=0
 . have h1:=zxs h
   have h2:=(z5f (l:=l) (cs:=cs) n g).len
   omega
 . rw[ztp h]
   exact⟨Nat.zero_le _,Nat.zero_le _⟩
theorem z2p{f:Int->Fl}{M:Nat}:∀ {ps:List Pa},(∀p∈ps,(f p.g).1.length<=M)->(flP f ps).1.length<=ps.length*M:=by
 intro ps
 induction ps with
 | nil=>intro _;exact Nat.zero_le _
 | cons p ps ih =>
  intro h
  rw[flP]
  have h0:=h p (by simp)
  have h9:=ih (fun q hq=>h q (by simp[hq]))
  rw[List.length_cons,Nat.succ_mul]
  by_cases h1:(f p.g).2=0
  . rw[if_pos h1]
    by_cases h2:(flP f ps).2=0
    . rw[if_pos h2]
      show(mvC p.dx p.dy (f p.g).1++(flP f ps).1).length<=_
      rw[List.length_append,zi1]
      omega
    . rw[if_neg h2];exact Nat.zero_le _
  . rw[if_neg h1];exact Nat.zero_le _
theorem z2t{l:List Gl}{cs:LI}{g:Int}{d:Nat}{x:Gl}(hx:gAt l g=some x)(h:dq l 6 g=some d):flG l cs 6 g=flX (flG l cs 6) x cs:=by
 rw[zfi hx]
 unfold flX
 by_cases he:atE x.o x.ts cs=0
 . rw[if_pos he,if_pos he]
   rw[zkz (f:=flf l cs 6) (f':=flG l cs 6) (fun p hp=>?_)]
   obtain⟨q,hq,e⟩:=at_parts he hp
   obtain⟨k,h3,h4⟩:=ze8 h hx q hq
   rw[e]at h3
   have:=dq_le h
   show flG l cs 5 p.g=flG l cs 6 p.g
   rw[zoi h3 (show k<=5 by omega),zoi h3 (show k<=6 by omega)]
 . rw[if_neg he,if_neg he]
theorem z5d{f:Int->Fl}{x:Gl}{cs:LI}(h:atE x.o x.ts cs≠0):flX f x cs=([],atE x.o x.ts cs):=by unfold flX;rw[if_neg h]
theorem z5c{f:Int->Fl}{x:Gl}{cs:LI}(h:atE x.o x.ts cs=0)(h2:(flP f (atO x.o x.ts cs).ps).2≠0):flX f x cs=([],(flP f (atO x.o x.ts cs).ps).2):=by unfold flX;rw[if_pos h,if_neg h2]
theorem z5b{f:Int->Fl}{x:Gl}{cs:LI}(h:atE x.o x.ts cs=0)(h2:(flP f (atO x.o x.ts cs).ps).2=0):flX f x cs=((atO x.o x.ts cs).cs++(flP f (atO x.o x.ts cs).ps).1,0):=by unfold flX;rw[if_pos h,if_pos h2]
theorem zxr{f:Int->Fl}{ps:List Pa}{k:Nat}(hk:k<ps.length)(h:(flP f (ps.take k)).2=0)(h2:(f (ps.getD k Pa.none).g).2=0):flP f (ps.take (k+1))=((flP f (ps.take k)).1++mvC (ps.getD k Pa.none).dx (ps.getD k Pa.none).dy (f (ps.getD k Pa.none).g).1,0):=by
 rw[show ps.take (k+1)=ps.take k++[ps.getD k Pa.none] by rw[List.take_add_one,List.getElem?_eq_getElem hk];simp[List.getD,hk]]
 rw[zhw,if_pos h,z2o,if_pos h2,if_pos rfl]
theorem zxq{f:Int->Fl}{ps:List Pa}{k:Nat}(hk:k<ps.length)(h:(flP f (ps.take k)).2=0)(h2:(f (ps.getD k Pa.none).g).2≠0):(flP f ps).2=(f (ps.getD k Pa.none).g).2:=by
 have e:ps=ps.take k++(ps.getD k Pa.none::ps.drop (k+1)):=by
  have h1:ps.getD k Pa.none=ps[k]:=by simp[List.getD,hk]
  rw[h1]
  simp
 have e2:(flP f (ps.getD k Pa.none::ps.drop (k+1)))=([],(f (ps.getD k Pa.none).g).2):=by rw[flP,if_neg h2]
 have e3:flP f ps=flP f (ps.take k++(ps.getD k Pa.none::ps.drop (k+1))):=congrArg (flP f) e
 rw[e3,zhw,if_pos h,e2,if_neg h2]
theorem zva:∀ {a b:Nat} (f:Nat->Nat) (hf:∀n,f n<=f (n+1)),a<=b->f a<=f b:=by
 intro a b f hf h
 induction b with
 | zero=>rw[show a=0 by omega];exact Nat.le_refl _
 | succ b ih =>
  by_cases e:a=b+1
  . rw[e];exact Nat.le_refl _
  . exact Nat.le_trans (ih (by omega)) (hf b)
open Go.RowKit Go.Maps
def KnC(l:List Gl)(cs:LI)(S:Nat->Prop)(w:World)(F:Int->Option Value):Prop:=∀j v,F j=some v->(flG l cs 6 j).2=0/\∃L:List (Nat×List Pn),Gw PkE 63 0 S w v L/\(∀k,v.ownBlock=some k->S k)/\L.map Prod.snd=(flG l cs 6 j).1/\(L.map Prod.fst).Nodup
theorem KnC.nil(l:List Gl)(cs:LI)(S:Nat->Prop)(w:World):KnC l cs S w (fun _=>none):=fun j v e=>by cases e
theorem KnC.stay{l:List Gl}{cs:LI}{S S':Nat->Prop}{w w':World}{F:Int->Option Value}(h:KnC l cs S w F)(hs:w.heap.size<=w'.heap.size)(hk:∀k,S k->k<w.heap.size->S' k/\w'.heap[k]?=w.heap[k]?):KnC l cs S' w' F:=fun j v e=>by
 obtain⟨h1,L,h2,h3,h4⟩:=h j v e
 exact⟨h1,L,h2.stay hs (fun k h5 _ h6=>hk k h5 h6) (fun k h5=>(hk k (h3 k h5) (h2.lo h5).2).2),(fun k h5=>(hk k (h3 k h5) (h2.lo h5).2).1),h4⟩
theorem KnC.kp{l:List Gl}{cs:LI}{S:Nat->Prop}{m:Nat}{w w':World}{F:Int->Option Value}(h:KnC l cs S w F)(hk:Kp m w w')(hm:∀k,S k->k≠m):KnC l cs S w' F :=
 h.stay hk.size (fun k h1 h2=>⟨h1,hk.block h2 (hm k h1)⟩)
theorem KnC.put{l:List Gl}{cs:LI}{S:Nat->Prop}{w:World}{F:Int->Option Value}(h:KnC l cs S w F){g:Int}{v:Value}{L:List (Nat×List Pn)}(h0:(flG l cs 6 g).2=0)(h1:Gw PkE 63 0 S w v L)(h9:∀k,v.ownBlock=some k->S k)(h2:L.map Prod.snd=(flG l cs 6 g).1)(h3:(L.map Prod.fst).Nodup):KnC l cs S w (Fup F g v):=by
 intro j u e
 unfold Fup at e
 by_cases hj:j=g
 . rw[if_pos hj]at e
   subst hj
   have:=Option.some.inj e
   subst this
   exact⟨h0,L,h1,h9,h2,h3⟩
 . rw[if_neg hj]at e
   exact h j u e
theorem Gw.rebase{α:Type}{E:El α}{t:TypeId}{b0 base:Nat}{S:Nat->Prop}{w:World}{v:Value}{l:List α}(h:Gw E t b0 S w v l)(hb:∀k,v.ownBlock=some k->base<=k):Gw E t base S w v l:=by
 obtain⟨vss,hl,⟨k1,k2⟩,h4⟩:=h
 refine⟨vss,hl,⟨k1,?_⟩,h4⟩
 rcases k2 with k2|⟨g,cap,cur,e,hg,r⟩
 . exact .inl k2
 . exact .inr ⟨g,cap,cur,e,hb g (by rw[e];rfl),r⟩
theorem Gw.gr{α:Type}{E:El α}{t:TypeId}{base:Nat}{S:Nat->Prop}{w:World}{a:OA}{n c:Nat}{l:List α}(h:Gw E t base S w (.slice a n c) l):Gr E S w a c l:=by
 obtain⟨a',c',e,hr,_⟩:=h.slice;injection e with e1 _ e2;subst e1 e2
 exact hr
structure CnP(l:List Gl)(cs:LI)(B:Nat)(A:Nat->Prop)(m:Nat)(g:Int)(d n:Nat)(w:World)(e:Ending)(w':World):Prop where
 ans:∃a1 c1,e=.returned (.tuple #[.slice a1 (flG l cs 6 g).1.length c1,.int .i64 (flG l cs 6 g).2])/\∃L:List (Nat×List Pn),Gw PkE 63 B (fun k=>B<=k) w' (.slice a1 (flG l cs 6 g).1.length c1) L/\L.map Prod.snd=(flG l cs 6 g).1/\(L.map Prod.fst).Nodup
 mp:∃n' F',Mp w' m n' F'/\KnC l cs (fun k=>B<=k/\¬A k) w' F'/\n'<=n+tk (d+1)
 kp:Kp m w w'
theorem zyj(w:World):(zeroValue 37).run Tryz.prog w=.ok (.slice none 0 0) w:=by kernel_rfl
theorem tk_up{a b:Nat}(h:a<=b):tk a<=tk b:=zva tk (fun n=>by show tk n<=1+12*tk n;omega) h
theorem Kp.grownM{m:Nat}{a w w':World}(h:Kp m a w)(hg:w.grownBy w' (some m)):Kp m a w' :=
 h.trans ⟨hg.os,hg.tape,hg.output,hg.size,fun j hj=>hg.block j hj.1 (by simp;exact hj.2)⟩
theorem ztf(w0:World)(S:Nat->Prop)(a:OA)(ca:Nat)(l:List Gl)(hl:Gr GlE S w0 a ca l)(pa:OA)(pc:Nat)(cs:LI)(hcs:Ri w0 pa pc cs)(sb m B:Nat)(hm0:w0.heap.size<=m)(hs0:w0.heap.size<=sb)(hsm:sb≠m)(hmB:m<B)(hsB:sb<B) :
 ∀(d:Nat) (g:Int) (n:Nat) (F:Int->Option Value) (A:Nat->Prop) (w:World),(∀k,A k->k<w.heap.size)->dq l 6 g=some d->sq l 6 g<=2000->n+tk (d+1)<=500000000000->Below w0.heap.size w0 w->B<=w.heap.size->Bk 82 w sb [.slice a l.length ca,.slice pa cs.length pc,.map (some m)]->Mp w m n F->KnC l cs (fun k=>B<=k/\¬A k) w F ->
     Calls Tryz.prog 38 #[.pointer (some ⟨sb,0,none⟩),.int .i64 g] w fun e w'=>CnP l cs B A m g d n w e w':=by
 intro d
 induction d using Nat.strongRecOn with
 | ind d ih =>
 intro g n F A w hA hd hsq hn hb hBs hS hM hK
 have kl:=hl.lenB
 have kc:=hcs.lenB
 have hd6:=dq_le hd
 obtain⟨x,hx,-⟩:=zbg.1 hd
 obtain⟨hg0,hg1,hxe⟩:=zxl hx
 obtain⟨kg,rfl⟩:∃k:Nat,g=(k:Int):=⟨g.toNat,by omega⟩
 rw[Int.toNat_natCast]at hxe
 have hg:I64 (kg:Int):=⟨by omega,by omega⟩
 have hkl:kg<l.length:=by omega
 have HX:Hid (gAt l (kg:Int)=some x):=hx
 have HD:Hid (dq l 6 (kg:Int)=some d):=hd
 have HSQ:Hid (sq l 6 (kg:Int)<=2000):=hsq
 obtain⟨s0,s1,s2,-⟩:=hS.three;clear hx hd hsq hg0
 cases hF:F (kg:Int) with
 | some v =>
  obtain⟨he,L,hL0,hL9,hL2,hL3⟩:=hK _ _ hF
  have hL1:=(hL0.rebase (fun k h=>(hL9 k h).1)).widenU (S':=fun k=>B<=k) (fun k h _=>h.1)
  clear hL0 hL9;obtain⟨a1,c1,rfl,-,-⟩:=hL1.slice
  have hlen:L.length=(flG l cs 6 kg).1.length:=by rw[<-hL2,List.length_map]
  have HF:Hid (CnP l cs B A m kg d n w (.returned (.tuple #[.slice a1 L.length c1,.int .i64 0])) w):=by
   refine⟨⟨a1,c1,by rw[he,hlen],L,by rw[<-hlen];exact hL1,hL2,hL3⟩,⟨n,F,hM,hK,by omega⟩,Kp.refl _ _⟩
  clear hlen hL1 hL2 hL3 he hK ih
  go_enter Tryz.func38,Tryz.ntmps38
  go_wp2_with (first | (at_lookup;refine zc2 80 37 Tryz.underlying80 (zyj _) rfl _ _ rfl m n F (kg:Int) hg hM rfl rfl _ hF ?_) | fail)
  go_ret2
  exact HF.out
 | none =>
 obtain⟨b1,off,xa,xc,qa,qc,ta,tc,ea,hb1,hGC,c0,c1,c2,-⟩:=hl.gl (Below.refl _ _) kg hkl
 rw[<-hxe]at hGC c0 c1 c2;subst ea
 replace c0:=(hb.cell (p:=⟨b1,off+kg*6,none⟩) hb1).trans c0
 replace c1:=(hb.cell (p:=⟨b1,off+kg*6+1,none⟩) hb1).trans c1
 replace c2:=(hb.cell (p:=⟨b1,off+kg*6+2,none⟩) hb1).trans c2
 have kcs:=hGC.cs.lenB
 have kps:=hGC.ps.lenB
 have kts:=hGC.ts.lenB
 have hwb:=hb.size
 have hat:=fun U (hU:Below w.heap.size w U)=>zu8 S xa xc qa qc x.o S ta tc x.ts pa pc cs U ((hGC.below hb).below hU).cs ((hGC.below hb).below hU).ps ((hGC.below hb).below hU).ts ((hcs.below hb).below hU)
 clear hxe hGC
 go_enter Tryz.func38,Tryz.ntmps38
 go_upto_region 4 with (first | (at_lookup;refine zc3 80 37 Tryz.underlying80 (zyj _) rfl _ _ rfl m n F (kg:Int) hg hM rfl rfl hF ?_) | fail)
 go_cut [8,9]from 10 (fun s8 s9 wx=>∃(G:Nat) (a1:OA) (c1':Nat) (a2:OA) (c2':Nat) (L:List (Nat×List Pn)),s8=.pointer (some ⟨G,0,none⟩)/\s9=.int .i64 (atE x.o x.ts cs)/\Bk 57 wx G [.slice a1 (atO x.o x.ts cs).cs.length c1',.slice a2 (atO x.o x.ts cs).ps.length c2']/\Gw PkE 63 w.heap.size (fun k=>w.heap.size<=k) wx (.slice a1 (atO x.o x.ts cs).cs.length c1') L/\Hid (L.map Prod.snd=(atO x.o x.ts cs).cs)/\Hid ((L.map Prod.fst).Nodup)/\Gw PaE 54 w.heap.size (fun _=>False) wx (.slice a2 (atO x.o x.ts cs).ps.length c2') (atO x.o x.ts cs).ps/\Below w.heap.size w wx)
 case first =>
  refine wp_region_held_drew (S:=fun w9=>w9.cell? ⟨sb,0,none⟩=some (.slice (some ⟨b1,off,none⟩) l.length ca)/\w9.cell? ⟨sb,1,none⟩=some (.slice pa cs.length pc)/\w9.cell? ⟨b1,off+kg*6,none⟩=some (.slice xa x.o.cs.length xc)/\w9.cell? ⟨b1,off+kg*6+1,none⟩=some (.slice qa x.o.ps.length qc)/\w9.cell? ⟨b1,off+kg*6+2,none⟩=some (.slice ta x.ts.length tc)) (by kernel_rfl) ?_ (fun hH=>?_)
  . (try dsimp only)
    go_keep
  have hdr:Below w.heap.size w w.drew:=Below.drew1
  generalize w.drew=Z at hdr hH ⊢
  have hsbw:sb<w.heap.size:=by omega
  have hb1w:b1<w.heap.size:=by omega
  replace s0:=(hdr.cell (p:=⟨sb,0,none⟩) (by show sb<_;omega)).trans s0
  replace s1:=(hdr.cell (p:=⟨sb,1,none⟩) (by show sb<_;omega)).trans s1
  replace c0:=(hdr.cell (p:=⟨b1,off+kg*6,none⟩) (by show b1<_;omega)).trans c0
  replace c1:=(hdr.cell (p:=⟨b1,off+kg*6+1,none⟩) (by show b1<_;omega)).trans c1
  replace c2:=(hdr.cell (p:=⟨b1,off+kg*6+2,none⟩) (by show b1<_;omega)).trans c2
  have hBz:Below w.heap.size w Z:=hdr
  have hzs:=hdr.size
  replace hat:=fun U (hU:Below Z.heap.size Z U)=>hat U (hdr.trans (hU.mono hdr.size))
  clear hdr s2 ih hM hK hS;refine hT 0 hH ?_;refine hT 1 hH ?_;refine hT 2 hH ?_;refine hT 3 hH ?_;refine hT 4 hH ?_;refine hT 5 hH ?_;refine hT 6 hH ?_;refine hT 7 hH ?_;refine hT 8 hH ?_;refine hT 9 hH ?_;refine hT 10 hH ?_;refine hT 11 hH ?_;refine hT 12 hH ?_
  refine hT 13 hH ?_;refine hT 14 hH ?_;refine hT 15 hH ?_;refine hT 16 hH ?_;refine hT 17 hH ?_;refine hT 18 hH ?_;refine hT 19 hH ?_
  refine wpAnyH_ready (rs:=[20,24]) (by kernel_rfl) (by simp) (hCons (i:=20) rfl (by rfl) (fun K hK=>?_) (hCons (i:=24) rfl (by rfl) (fun K hK=>?_) AllReadyH.nil))
  . go_simp
    refine(hat _ (Below.refl _ _)).mono ?_
    rintro e u ⟨a1,c1',a2,c2',rfl,L,hgc,hLs,hLn,hgp,hbu⟩
    replace HLS:Hid (L.map Prod.snd=(atO x.o x.ts cs).cs):=hLs
    replace HLN:Hid ((L.map Prod.fst).Nodup):=hLn
    clear hLs hLn
    have hus:=hbu.size
    replace s0:=(hbu.cell (p:=⟨sb,0,none⟩) (by show sb<_;omega)).trans s0
    replace s1:=(hbu.cell (p:=⟨sb,1,none⟩) (by show sb<_;omega)).trans s1
    replace c0:=(hbu.cell (p:=⟨b1,off+kg*6,none⟩) (by show b1<_;omega)).trans c0
    replace c1:=(hbu.cell (p:=⟨b1,off+kg*6+1,none⟩) (by show b1<_;omega)).trans c1
    replace c2:=(hbu.cell (p:=⟨b1,off+kg*6+2,none⟩) (by show b1<_;omega)).trans c2
    go_wp2_with fail
    refine hK.out _ _ ?_ (fun hH=>?_)
    . (try dsimp only)
      exact⟨s0,s1,c0,c1,c2⟩
    clear hK K
    try simp only[Act.put,pZ]
    have hBz0:=hBz.trans (hbu.mono hBz.size)
    refine hT 21 hH ?_;refine hT 22 hH ?_;refine hT 23 hH ?_
    refine hCall (i:=24) rfl (by kernel_rfl) (by rfl) (fun K hK=>?_)
    go_simp
    obtain⟨V1,hV1,A1,hb1⟩:∃U,U=u.alloc (.cells #[.slice none 0 0,.slice none 0 0] 57)/\Bk 57 U u.heap.size [.slice none 0 0,.slice none 0 0]/\Below u.heap.size u U:=⟨_,rfl,Bk.new _ _ _,bl1 _⟩
    rw[<-hV1];clear hV1
    have hv1s:=hb1.size
    replace s0:=(hb1.cell (p:=⟨sb,0,none⟩) (by show sb<_;omega)).trans s0
    replace s1:=(hb1.cell (p:=⟨sb,1,none⟩) (by show sb<_;omega)).trans s1
    replace c0:=(hb1.cell (p:=⟨b1,off+kg*6,none⟩) (by show b1<_;omega)).trans c0
    replace c1:=(hb1.cell (p:=⟨b1,off+kg*6+1,none⟩) (by show b1<_;omega)).trans c1
    replace c2:=(hb1.cell (p:=⟨b1,off+kg*6+2,none⟩) (by show b1<_;omega)).trans c2
    refine hK.out _ _ ?_ (fun hH=>?_)
    . (try dsimp only)
      exact⟨s0,s1,c0,c1,c2⟩
    clear hK K
    try simp only[Act.put,pZ]
    have hBz:Below w.heap.size w V1:=hBz0.trans (hb1.mono hBz0.size)
    have HNE:∀k,Z.heap.size<=k->k<V1.heap.size->k≠u.heap.size\/k=u.heap.size:=fun k _ _=>by omega
    clear HNE
    have z11:∀k,(Value.slice a1 (atO x.o x.ts cs).cs.length c1').ownBlock=some k->k<u.heap.size:=fun k hk=>(hgc.lo hk).2
    have zl0:∀k,(Value.slice a2 (atO x.o x.ts cs).ps.length c2').ownBlock=some k->k<u.heap.size:=fun k hk=>(hgp.lo hk).2
    replace hgc:=(hgc.widenU (S':=fun k=>Z.heap.size<=k/\k<u.heap.size) (fun k h1 h2=>⟨h1,h2⟩)).below hb1
    replace hgp:=hgp.below hb1
    refine hCall (i:=25) rfl (by kernel_rfl) (by rfl) (fun K hK=>?_)
    obtain⟨y0,y1,f0,f1⟩:=A1.two
    have hA2:=A1.set2U (.slice a1 (atO x.o x.ts cs).cs.length c1') (.slice a2 (atO x.o x.ts cs).ps.length c2')
    go_simp
    have hgc2:=hgc.stay (S':=fun k=>w.heap.size<=k) (w':=((V1.setCell ⟨u.heap.size,0,none⟩ (.slice a1 (atO x.o x.ts cs).cs.length c1')).setCell ⟨u.heap.size,1,none⟩ (.slice a2 (atO x.o x.ts cs).ps.length c2'))) (by rw[zbi];exact Nat.le_refl _) (fun k hk _ hl=>⟨by have:=hk.1;omega,zac _ _ ((by have:=hk.2;omega))⟩) (fun k hk=>zac _ _ ((by have:=z11 k hk;omega)))
    have hgp2:=hgp.stay (S':=fun _=>False) (w':=((V1.setCell ⟨u.heap.size,0,none⟩ (.slice a1 (atO x.o x.ts cs).cs.length c1')).setCell ⟨u.heap.size,1,none⟩ (.slice a2 (atO x.o x.ts cs).ps.length c2'))) (by rw[zbi];exact Nat.le_refl _) (fun k hk=>hk.elim) (fun k hk=>zac _ _ ((by have:=zl0 k hk;omega)))
    have hB2:Below w.heap.size w ((V1.setCell ⟨u.heap.size,0,none⟩ (.slice a1 (atO x.o x.ts cs).cs.length c1')).setCell ⟨u.heap.size,1,none⟩ (.slice a2 (atO x.o x.ts cs).ps.length c2')):=(hBz.setCell (p:=⟨u.heap.size,0,none⟩) (by show w.heap.size<=u.heap.size;omega) _).setCell (p:=⟨u.heap.size,1,none⟩) (by show w.heap.size<=u.heap.size;omega) _
    have hgl:u.heap.size<((V1.setCell ⟨u.heap.size,0,none⟩ (.slice a1 (atO x.o x.ts cs).cs.length c1')).setCell ⟨u.heap.size,1,none⟩ (.slice a2 (atO x.o x.ts cs).ps.length c2')).heap.size:=hA2.lt
    clear hgc hgp A1 y0 y1 f0 f1 z11 zl0
    replace s0:=(World.cell?_of_block (w:=V1) (a:=⟨sb,0,none⟩) (zac (g:=u.heap.size) (.slice a1 (atO x.o x.ts cs).cs.length c1') (.slice a2 (atO x.o x.ts cs).ps.length c2') (by show sb≠u.heap.size;omega))).trans s0
    replace s1:=(World.cell?_of_block (w:=V1) (a:=⟨sb,1,none⟩) (zac (g:=u.heap.size) (.slice a1 (atO x.o x.ts cs).cs.length c1') (.slice a2 (atO x.o x.ts cs).ps.length c2') (by show sb≠u.heap.size;omega))).trans s1
    replace c0:=(World.cell?_of_block (w:=V1) (a:=⟨b1,off+kg*6,none⟩) (zac (g:=u.heap.size) (.slice a1 (atO x.o x.ts cs).cs.length c1') (.slice a2 (atO x.o x.ts cs).ps.length c2') (by show b1≠u.heap.size;omega))).trans c0
    replace c1:=(World.cell?_of_block (w:=V1) (a:=⟨b1,off+kg*6+1,none⟩) (zac (g:=u.heap.size) (.slice a1 (atO x.o x.ts cs).cs.length c1') (.slice a2 (atO x.o x.ts cs).ps.length c2') (by show b1≠u.heap.size;omega))).trans c1
    replace c2:=(World.cell?_of_block (w:=V1) (a:=⟨b1,off+kg*6+2,none⟩) (zac (g:=u.heap.size) (.slice a1 (atO x.o x.ts cs).cs.length c1') (.slice a2 (atO x.o x.ts cs).ps.length c2') (by show b1≠u.heap.size;omega))).trans c2
    obtain⟨G,hG⟩:∃G,G=u.heap.size:=⟨_,rfl⟩
    generalize ((V1.setCell ⟨u.heap.size,0,none⟩ (.slice a1 (atO x.o x.ts cs).cs.length c1')).setCell ⟨u.heap.size,1,none⟩ (.slice a2 (atO x.o x.ts cs).ps.length c2'))=w10 at *
    refine hK.out _ _ ?_ (fun hH=>?_)
    . (try dsimp only)
      exact⟨s0,s1,c0,c1,c2⟩
    clear hK K
    try simp only[Act.put,pZ]
    refine hT 26 hH ?_
    refine wpAnyH_done (by kernel_rfl) ?_ _
    clear hH s0 s1 c0 c1 c2 hG
    go_wp2_with fail
    go_meet
    exact⟨u.heap.size,a1,c1',a2,c2',L,rfl,rfl,hA2,hgc2.low (by omega),HLS,HLN,hgp2.low (by omega),hB2⟩
  . go_simp
    obtain⟨V1,hV1,A1,hb1⟩:∃U,U=Z.alloc (.cells #[.slice none 0 0,.slice none 0 0] 57)/\Bk 57 U Z.heap.size [.slice none 0 0,.slice none 0 0]/\Below Z.heap.size Z U:=⟨_,rfl,Bk.new _ _ _,bl1 _⟩
    rw[<-hV1];clear hV1
    have hv1s:=hb1.size
    replace s0:=(hb1.cell (p:=⟨sb,0,none⟩) (by show sb<_;omega)).trans s0
    replace s1:=(hb1.cell (p:=⟨sb,1,none⟩) (by show sb<_;omega)).trans s1
    replace c0:=(hb1.cell (p:=⟨b1,off+kg*6,none⟩) (by show b1<_;omega)).trans c0
    replace c1:=(hb1.cell (p:=⟨b1,off+kg*6+1,none⟩) (by show b1<_;omega)).trans c1
    replace c2:=(hb1.cell (p:=⟨b1,off+kg*6+2,none⟩) (by show b1<_;omega)).trans c2
    refine hK.out _ _ ?_ (fun hH=>?_)
    . (try dsimp only)
      exact⟨s0,s1,c0,c1,c2⟩
    clear hK K
    try simp only[Act.put,pZ]
    have hBz1:Below w.heap.size w V1:=hBz.trans (hb1.mono hBz.size)
    have hgZ:Z.heap.size<V1.heap.size:=A1.lt
    refine hCall (i:=20) rfl (by kernel_rfl) (by rfl) (fun K hK=>?_)
    go_simp
    refine(hat _ hb1).mono ?_
    rintro e u ⟨a1,c1',a2,c2',rfl,L,hgc,hLs,hLn,hgp,hbu⟩
    replace HLS:Hid (L.map Prod.snd=(atO x.o x.ts cs).cs):=hLs
    replace HLN:Hid ((L.map Prod.fst).Nodup):=hLn
    clear hLs hLn
    have hus:=hbu.size
    replace s0:=(hbu.cell (p:=⟨sb,0,none⟩) (by show sb<_;omega)).trans s0
    replace s1:=(hbu.cell (p:=⟨sb,1,none⟩) (by show sb<_;omega)).trans s1
    replace c0:=(hbu.cell (p:=⟨b1,off+kg*6,none⟩) (by show b1<_;omega)).trans c0
    replace c1:=(hbu.cell (p:=⟨b1,off+kg*6+1,none⟩) (by show b1<_;omega)).trans c1
    replace c2:=(hbu.cell (p:=⟨b1,off+kg*6+2,none⟩) (by show b1<_;omega)).trans c2
    go_wp2_with fail
    refine hK.out _ _ ?_ (fun hH=>?_)
    . (try dsimp only)
      exact⟨s0,s1,c0,c1,c2⟩
    clear hK K
    try simp only[Act.put,pZ]
    replace hBz:Below w.heap.size w u:=hBz1.trans (hbu.mono hBz1.size)
    replace A1:=A1.below hbu
    have HNE:∀k,V1.heap.size<=k->k<u.heap.size->k≠Z.heap.size:=fun k h1 _=>by omega
    refine hT 21 hH ?_;refine hT 22 hH ?_;refine hT 23 hH ?_
    refine hCall (i:=25) rfl (by kernel_rfl) (by rfl) (fun K hK=>?_)
    obtain⟨y0,y1,f0,f1⟩:=A1.two
    have hA2:=A1.set2U (.slice a1 (atO x.o x.ts cs).cs.length c1') (.slice a2 (atO x.o x.ts cs).ps.length c2')
    go_simp
    have hgc2:=hgc.stay (S':=fun k=>w.heap.size<=k) (w':=((u.setCell ⟨Z.heap.size,0,none⟩ (.slice a1 (atO x.o x.ts cs).cs.length c1')).setCell ⟨Z.heap.size,1,none⟩ (.slice a2 (atO x.o x.ts cs).ps.length c2'))) (by rw[zbi];exact Nat.le_refl _) (fun k hk _ hl=>⟨by omega,zac _ _ (HNE k hk hl)⟩) (fun k hk=>zac _ _ (HNE k (hgc.lo hk).1 (hgc.lo hk).2))
    have hgp2:=hgp.stay (S':=fun _=>False) (w':=((u.setCell ⟨Z.heap.size,0,none⟩ (.slice a1 (atO x.o x.ts cs).cs.length c1')).setCell ⟨Z.heap.size,1,none⟩ (.slice a2 (atO x.o x.ts cs).ps.length c2'))) (by rw[zbi];exact Nat.le_refl _) (fun k hk=>hk.elim) (fun k hk=>zac _ _ (HNE k (hgp.lo hk).1 (hgp.lo hk).2))
    have hB2:Below w.heap.size w ((u.setCell ⟨Z.heap.size,0,none⟩ (.slice a1 (atO x.o x.ts cs).cs.length c1')).setCell ⟨Z.heap.size,1,none⟩ (.slice a2 (atO x.o x.ts cs).ps.length c2')):=(hBz.setCell (p:=⟨Z.heap.size,0,none⟩) (by show w.heap.size<=Z.heap.size;omega) _).setCell (p:=⟨Z.heap.size,1,none⟩) (by show w.heap.size<=Z.heap.size;omega) _
    have hgl:Z.heap.size<((u.setCell ⟨Z.heap.size,0,none⟩ (.slice a1 (atO x.o x.ts cs).cs.length c1')).setCell ⟨Z.heap.size,1,none⟩ (.slice a2 (atO x.o x.ts cs).ps.length c2')).heap.size:=hA2.lt
    clear hgc hgp A1 y0 y1 f0 f1 HNE
    replace s0:=(World.cell?_of_block (w:=u) (a:=⟨sb,0,none⟩) (zac (g:=Z.heap.size) (.slice a1 (atO x.o x.ts cs).cs.length c1') (.slice a2 (atO x.o x.ts cs).ps.length c2') (by show sb≠Z.heap.size;omega))).trans s0
    replace s1:=(World.cell?_of_block (w:=u) (a:=⟨sb,1,none⟩) (zac (g:=Z.heap.size) (.slice a1 (atO x.o x.ts cs).cs.length c1') (.slice a2 (atO x.o x.ts cs).ps.length c2') (by show sb≠Z.heap.size;omega))).trans s1
    replace c0:=(World.cell?_of_block (w:=u) (a:=⟨b1,off+kg*6,none⟩) (zac (g:=Z.heap.size) (.slice a1 (atO x.o x.ts cs).cs.length c1') (.slice a2 (atO x.o x.ts cs).ps.length c2') (by show b1≠Z.heap.size;omega))).trans c0
    replace c1:=(World.cell?_of_block (w:=u) (a:=⟨b1,off+kg*6+1,none⟩) (zac (g:=Z.heap.size) (.slice a1 (atO x.o x.ts cs).cs.length c1') (.slice a2 (atO x.o x.ts cs).ps.length c2') (by show b1≠Z.heap.size;omega))).trans c1
    replace c2:=(World.cell?_of_block (w:=u) (a:=⟨b1,off+kg*6+2,none⟩) (zac (g:=Z.heap.size) (.slice a1 (atO x.o x.ts cs).cs.length c1') (.slice a2 (atO x.o x.ts cs).ps.length c2') (by show b1≠Z.heap.size;omega))).trans c2
    obtain⟨G,hG⟩:∃G,G=Z.heap.size:=⟨_,rfl⟩
    generalize ((u.setCell ⟨Z.heap.size,0,none⟩ (.slice a1 (atO x.o x.ts cs).cs.length c1')).setCell ⟨Z.heap.size,1,none⟩ (.slice a2 (atO x.o x.ts cs).ps.length c2'))=w10 at *
    refine hK.out _ _ ?_ (fun hH=>?_)
    . (try dsimp only)
      exact⟨s0,s1,c0,c1,c2⟩
    clear hK K
    try simp only[Act.put,pZ]
    refine hT 26 hH ?_
    refine wpAnyH_done (by kernel_rfl) ?_ _
    clear hH s0 s1 c0 c1 c2 hG
    go_wp2_with fail
    go_meet
    exact⟨Z.heap.size,a1,c1',a2,c2',L,rfl,rfl,hA2,hgc2.low (by omega),HLS,HLN,hgp2.low (by omega),hB2⟩
 case rest =>
  clear s0 s1 s2 c0 c1 c2 hat;obtain⟨G,a1,c1',a2,c2',L,rfl,rfl,hO,hGL,HLS,HLN,hGP,hBx⟩:=hcut
  have hBB:Below w0.heap.size w0 wc:=hb.trans (hBx.mono hb.size)
  have hxs:=hBx.size
  replace hS:=hS.below hBx;replace hM:=hM.below hBx
  have HmB:Hid (∀k,B<=k->k≠m):=fun k h=>by omega
  have z5x:Hid (KnC l cs (fun k=>(B<=k/\¬A k)/\k<w.heap.size) wc F):=hK.stay hBx.size (fun k h1 h2=>⟨⟨h1,h2⟩,hBx.block k h2⟩)
  replace hK:=hK.kp (Kp.of hBx) (fun k h=>HmB.out k h.1)
  obtain⟨o0,o1,-⟩:=hO.two
  have z5w:Hid (flG l cs 6 (kg:Int)=flX (flG l cs 6) x cs):=z2t HX.out HD.out
  by_cases he:atE x.o x.ts cs=0
  rotate_left
  . have g1:(atE x.o x.ts cs != 0)=true:=bne_iff_ne.2 he
    have HR:Hid (flG l cs 6 (kg:Int)=([],atE x.o x.ts cs)):=by show _=_;rw[z5w.out,z5d he]
    have HF:Hid (CnP l cs B A m kg d n w (.returned (.tuple #[.slice none 0 0,.int .i64 (atE x.o x.ts cs)])) wc):=by
     refine⟨⟨none,0,by rw[HR.out];rfl,[],by rw[HR.out];exact Gw.nil _ _ _ _ _,by rw[HR.out];rfl,List.nodup_nil⟩,⟨n,F,hM,hK,by omega⟩,Kp.of hBx⟩
    clear HR z5w ih hM hK hS hO hGL hGP he
    generalize atE x.o x.ts cs=ae at *
    go_wp2
    go_ret2
    exact HF.out
  have g1:(atE x.o x.ts cs != 0)=false:=by rw[he];rfl
  obtain⟨hl10,hl6,hlp⟩:=at_len he
  have HIF:Hid (∀p∈(atO x.o x.ts cs).ps,∃e,dq l 6 p.g=some e/\e<d/\sq l 6 p.g<=2000):=fun p hp=>by
   obtain⟨q,hq,e⟩:=at_parts he hp
   obtain⟨e2,h1,h2⟩:=ze8 HD.out HX.out q hq
   rw[e]at h1
   refine⟨e2,ze9 h1 (by omega),h2,?_⟩
   have h4:sq l 5 q.g<=sq l 6 kg:=z0h HX.out hq
   rw[e]at h4
   have h5:sq l 6 p.g=sq l 5 p.g:=(zgl h1 (by omega)).trans (zgl h1 (by omega)).symm
   have:=HSQ.out
   omega
  have HPB:Hid (∀p∈(atO x.o x.ts cs).ps,(-32768<=p.dx/\p.dx<=32767)/\-32768<=p.dy/\p.dy<=32767):=(at_bound he).2
  have HOK:Hid ((flP (flG l cs 6) (atO x.o x.ts cs).ps).2=0->flG l cs 6 (kg:Int)=((atO x.o x.ts cs).cs++(flP (flG l cs 6) (atO x.o x.ts cs).ps).1,0)):=fun h=>by rw[z5w.out,z5b he h]
  have HNO:Hid ((flP (flG l cs 6) (atO x.o x.ts cs).ps).2≠0->flG l cs 6 (kg:Int)=([],(flP (flG l cs 6) (atO x.o x.ts cs).ps).2)):=fun h=>by rw[z5w.out,z5c he h]
  have HFB:Hid (∀g,FlB 1000000000 (flG l cs 6 g).1):=fun g=>(zto 6 g).le (by omega)
  obtain⟨oc,hoc⟩:∃o,atO x.o x.ts cs=o:=⟨_,rfl⟩
  rw[hoc]at hO hGL HLS hGP o0 o1 hl10 hl6 HIF HPB HOK HNO;clear hoc z5w hlp HX HD;obtain⟨ocs,ops⟩:=oc
  dsimp only at *
  generalize atE x.o x.ts cs=ae at *
  have HT:Hid (tk (d+1)=1+12*tk d):=rfl
  obtain⟨T,hT0⟩:∃T,tk d=T:=⟨_,rfl⟩
  have HTd:Hid (tk d=T):=hT0
  rw[hT0]at HT;rw[HT.out]at hn;clear hT0 he
  have HLP:Hid (ops.length<=6):=hl6
  have HB0:Hid (Below w.heap.size w wc):=hBx
  have HBB:Hid (Below w0.heap.size w0 wc):=hBB
  have HGP:Hid (Gw PaE 54 w.heap.size (fun _=>False) wc (.slice a2 ops.length c2') ops):=hGP
  have hGL0:∃L':List (Nat×List Pn),Gw PkE 63 w.heap.size (fun k=>w.heap.size<=k) wc (.slice a1 L'.length c1') L'/\Hid (L'.map Prod.snd=ocs++(flP (flG l cs 6) (ops.take 0)).1/\(L'.map Prod.fst).Nodup):=by
   have e:ocs.length=L.length:=by rw[<-HLS.out,List.length_map]
   rw[e]at hGL
   exact⟨L,hGL,by rw[List.take_zero,HLS.out];show ocs=ocs++[];rw[List.append_nil],HLN.out⟩
  obtain⟨L0,hGL1,HL0⟩:=hGL0
  have ev:(Value.slice a1 ocs.length c1')=.slice a1 L0.length c1':=by
   have h1:=congrArg List.length HL0.out.1
   rw[List.length_map,List.take_zero]at h1
   have h2:(ocs++(flP (flG l cs 6) []).1).length=ocs.length:=by show(ocs++[]).length=_;rw[List.append_nil]
   rw[h1,h2]
  rw[ev]at o0
  have HKS0:Hid (KnC l cs (fun k=>B<=k/\¬(A k\/(Value.slice a1 L0.length c1').ownBlock=some k)) wc F):=z5x.out.stay (Nat.le_refl _) (fun k h1 _=>⟨⟨h1.1.1,fun h2=>by
   rcases h2 with h2|h2
   . exact h1.1.2 h2
   . have:=(hGL1.lo h2).1
     omega⟩,rfl⟩)
  clear hGL hBx hBB hGP hl6 HLS HLN ev z5x;go_wp2;clear o0 o1 hO
  go_loopw [10,58] (fun v i wr=>∃(k n':Nat) (F':Int->Option Value) (L:List (Nat×List Pn)),k<=ops.length/\i=.int .i64 k/\Gw PkE 63 w.heap.size (fun k=>w.heap.size<=k) wr v L/\Hid (L.map Prod.snd=ocs++(flP (flG l cs 6) (ops.take k)).1/\(L.map Prod.fst).Nodup)/\Hid ((flP (flG l cs 6) (ops.take k)).2=0)/\Gw PaE 54 w.heap.size (fun _=>False) wr (.slice a2 ops.length c2') ops/\Bk 82 wr sb [.slice (some ⟨b1,off,none⟩) l.length ca,.slice pa cs.length pc,.map (some m)]/\Mp wr m n' F'/\Hid (KnC l cs (fun k=>B<=k/\¬(A k\/v.ownBlock=some k)) wr F')/\Hid (n'<=n+k*T)/\Kp m w wr) (fun _ i _=>ops.length-(intOf i).toNat)
  case atStart=>exact⟨0,n,F,L0,Nat.zero_le _,rfl,hGL1,HL0,rfl,HGP.out,hS,hM,HKS0,by show _<=_;omega,Kp.of HB0.out⟩
  case round =>
   clear hGL1 HL0 hS hM hK HGP;obtain⟨k,n1,F1,L1,hk,rfl,hGL,HLL,HOKk,hGP,hS,hM,HK,HN,hKp⟩:=hrel;obtain⟨av,cv,rfl,-,-⟩:=hGL.slice
   have hws:=hKp.size
   have hBw:Below w0.heap.size w0 wr:=hb.trans (hKp.below hb.size hm0)
   by_cases hkn:k<ops.length
   . have hgr:=hGP.gr
     obtain⟨bp,op,ep,hbp,hpw,e0,e1,e2⟩:=hgr.pa (Below.refl _ _) k hkn
     subst ep
     have hpb:=HPB.out _ (zdi (d:=Pa.none) hkn)
     obtain⟨ed,hed1,hed2,hed3⟩:=HIF.out _ (zdi (d:=Pa.none) hkn)
     have HMO:Hid ((flG l cs 6 (ops.getD k Pa.none).g).2=0->flP (flG l cs 6) (ops.take (k+1))=((flP (flG l cs 6) (ops.take k)).1++mvC (ops.getD k Pa.none).dx (ops.getD k Pa.none).dy (flG l cs 6 (ops.getD k Pa.none).g).1,0)):=fun h=>zxr hkn HOKk.out h
     have HST:Hid ((flG l cs 6 (ops.getD k Pa.none).g).2≠0->(flP (flG l cs 6) ops).2=(flG l cs 6 (ops.getD k Pa.none).g).2):=fun h=>zxq hkn HOKk.out h
     obtain⟨q,hq⟩:∃q,ops.getD k Pa.none=q:=⟨_,rfl⟩
     rw[hq]at hpw e0 e1 e2 hpb hed1 hed3 HMO HST;obtain⟨gl,dx,dy⟩:=q;obtain⟨hgi,hxi,hyi⟩:=hpw;dsimp only at e0 e1 e2 hgi hxi hyi HMO HST hpb hed1 hed3
     have hsz:=zoh (l:=l) (cs:=cs) (n:=6) (g:=gl)
     have i1:(0:Int)<=(k:Int):=by omega
     have i2:(k:Int)<(ops.length:Int):=by omega
     have HKS:Hid ((k+1)*T=k*T+T/\(k+1)*T<=12*T):=⟨Nat.succ_mul k T,Nat.mul_le_mul_right _ (by have:=HLP.out;omega)⟩
     have HTE:Hid (tk (ed+1)<=T):=by show _<=_;rw[<-HTd.out];exact tk_up (by omega)
     obtain⟨U,hU,XP,hbU⟩:∃U,U=wr.alloc (.cells #[.int .i64 gl,.int .i64 dx,.int .i64 dy] 54)/\Bk 54 U wr.heap.size [.int .i64 gl,.int .i64 dx,.int .i64 dy]/\Below wr.heap.size wr U:=⟨_,rfl,Bk.new _ _ _,bl1 _⟩
     replace hGL:=hGL.below hbU;replace hGP:=hGP.below hbU;replace hS:=hS.below hbU;replace hM:=hM.below hbU
     replace hBw:=hBw.trans (hbU.mono hBw.size)
     have hKU:=HK.out.kp (Kp.of hbU) (fun k h=>HmB.out k h.1)
     replace hKp:=hKp.trans (Kp.of hbU)
     have hus:=hbU.size
     have HAA:Hid (∀k,(A k\/(Value.slice av L1.length cv).ownBlock=some k)->k<U.heap.size):=fun k h=>by
      rcases h with h|h
      . have:=hA k h
        omega
      . exact(hGL.lo h).2
     have hih:=ih ed hed2 gl n1 F1 (fun k=>A k\/(Value.slice av L1.length cv).ownBlock=some k) U HAA.out hed1 hed3 (by
      have h1:=HKS.out
      have h2:=HN.out
      have h3:=HTE.out
      omega) hBw (by omega) hS hM hKU
     obtain⟨p0,p1,p2,_⟩:=XP.three;clear hq hgr hM hBw hKU
     go_upto_region 11 with fail
     rw[<-hU];clear hU e0 e1 e2
     go_wp2_with fail
     refine hih.mono ?_
     rintro ex u ⟨⟨a7,c7,rfl,L7,hG7,hL7s,hL7n⟩,⟨n2,F2,hM2,hK2,hn2⟩,hk2⟩
     have hk2s:=hk2.size
     replace hGL:=(hGL.stay (S':=fun k=>w.heap.size<=k) hk2.size (fun k h1 _ h2=>⟨h1,hk2.block h2 (by omega)⟩) (fun k hv=>hk2.block (hGL.lo hv).2 (by have:=(hGL.lo hv).1;omega)))
     replace hGP:=(hGP.stay (S':=fun _=>False) hk2.size (fun k h1=>h1.elim) (fun k hv=>hk2.block (hGP.lo hv).2 (by have:=(hGP.lo hv).1;omega)))
     replace hS:=hS.kp hk2 hsm
     replace XP:=XP.kp hk2 (by omega)
     replace hKp:=hKp.trans hk2
     have HN2:Hid (n2<=n+(k+1)*T/\n2<=n+tk (d+1)):=by
      have h1:=HKS.out
      have h2:=HN.out
      have h3:=HTE.out
      show _/\_
      rw[HT.out]
      omega
     have HK2:Hid (KnC l cs (fun k=>B<=k/\¬(A k\/(Value.slice av L1.length cv).ownBlock=some k)) u F2):=hK2
     clear hih hk2 hn2 hK2 HKS HN HK p0 p1 p2 HTE hbU
     by_cases he7:(flG l cs 6 gl).2=0
     rotate_left
     . have g2:((flG l cs 6 gl).2 != 0)=true:=bne_iff_ne.2 he7
       have hst:=HST.out he7
       have HR:Hid (flG l cs 6 (kg:Int)=([],(flG l cs 6 gl).2)):=by show _=_;rw[HNO.out (by rw[hst];exact he7),hst]
       have HF:Hid (CnP l cs B A m kg d n w (.returned (.tuple #[.slice none 0 0,.int .i64 (flG l cs 6 gl).2])) u):=by
        refine⟨⟨none,0,by rw[HR.out];rfl,[],by rw[HR.out];exact Gw.nil _ _ _ _ _,by rw[HR.out];rfl,List.nodup_nil⟩,⟨n2,F2,hM2,HK2.out.stay (Nat.le_refl _) (fun k h1 _=>⟨⟨h1.1,fun h2=>h1.2 (.inl h2)⟩,rfl⟩),HN2.out.2⟩,hKp⟩
       clear HR hst ih hM2 hS hGL hGP he7 HMO HST HOK HNO hG7 hL7s hL7n XP
       generalize flG l cs 6 gl=fr at *
       go_wp2
       go_ret2
       exact HF.out
     have g2:((flG l cs 6 gl).2 != 0)=false:=by rw[he7];rfl
     have HM9:Hid (_):=HMO.out he7
     have HLN9:Hid (L1.length<=13000):=by
      have h1:=congrArg List.length HLL.out.1
      have h2:=z2p (f:=flG l cs 6) (M:=2000) (ps:=ops.take k) (fun p hp=>by
       obtain⟨e,-,-,h3⟩:=HIF.out p (List.mem_of_mem_take hp)
       have h4:=(zoh (l:=l) (cs:=cs) (n:=6) (g:=p.g)).1
       omega)
      have h3:(ops.take k).length<=6:=by rw[List.length_take];have:=HLP.out;omega
      have h4:(ops.take k).length*2000<=6*2000:=Nat.mul_le_mul_right _ h3
      rw[List.length_map,List.length_append]at h1
      show _<=_
      omega
     have hr7:=hG7.rows
     rw[hL7s]at hr7
     have zpr:=hr7.gr
     have hmv:=zpw _ a7 c7 (flG l cs 6 gl).1 gl dx dy u zpr (HFB.out gl) (by omega) (by omega) (by omega) (by omega)
     obtain⟨p0,p1,p2,_⟩:=XP.three;clear he7 HMO HST hr7 zpr hL7s hL7n hed1 hed2
     generalize flG l cs 6 gl=fr at *
     go_wp2_with fail
     refine hmv.mono ?_
     rintro ex u2 ⟨a9,c9,rfl,L9,hG9,hL9s,hL9n,hb9⟩
     have hu2:=hb9.size
     have HID:Hid (∀y∈L1,y.1<u.heap.size):=fun y hy=>(hGL.ids y hy).2
     have HI9:Hid (∀y∈L9,u.heap.size<=y.1):=fun y hy=>(hG9.ids y hy).1
     have HGO:Hid (∀q,(Value.slice av L1.length cv).ownBlock=some q->w.heap.size<=q/\q<u.heap.size):=fun q e=>hGL.lo e
     replace hGL:=hGL.below hb9;replace hGP:=hGP.below hb9;replace hS:=hS.below hb9;replace hM2:=hM2.below hb9
     have HKU2:Hid (KnC l cs (fun k=>B<=k/\¬(A k\/(Value.slice av L1.length cv).ownBlock=some k)) u2 F2):=HK2.out.kp (Kp.of hb9) (fun k h=>HmB.out k h.1)
     replace hKp:=hKp.trans (Kp.of hb9)
     have zy5:=hG9.gr
     have z3k:Hid (fr.1.length=L9.length):=by
      show _=_
      have h1:=congrArg List.length hL9s
      rw[List.length_map,zi1]at h1
      exact h1.symm
     have HL9:Hid (L9.map Prod.snd=mvC dx dy fr.1/\(L9.map Prod.fst).Nodup):=⟨hL9s,hL9n⟩
     have hsrc:Gr PkE (fun k=>w.heap.size<=k/\(Value.slice av L1.length cv).ownBlock≠some k) u2 a9 c9 L9:=zy5.wide (fun k h1 _=>⟨by omega,fun e=>by have:=(HGO.out k e).2;omega⟩)
     have hll:L1.length+L9.length<=1000000:=by
      have:=HLN9.out
      have:=z3k.out
      omega
     have hbs:w.heap.size<=u2.heap.size:=by omega
     clear hb9 hmv zy5 hL9s hL9n HK2 p0 p1 p2 XP
     go_wp2_with (at_builtin;refine zad 37 63 Tryz.underlying37 zdr rfl Nat.one_pos (by decide) rfl _ _ rfl w.heap.size (fun k=>w.heap.size<=k) _ L1 rfl hGL a9 c9 _ L9 z3k.out rfl hsrc hll hbs ?_)
     intro v9 w9 hT9 hgrow how
     have hGP9:=hGP.beside hGL (by decide) (fun k h=>h.elim) hgrow
     have hS9:=hS.grown hgrow (fun e=>by have:=(HGO.out sb e).1;omega)
     have hM9:Mp w9 m n2 F2:=hM2.stay (hgrow.block m hM2.lt (fun e=>by have:=(HGO.out m e.symm).1;omega))
     have z2e:Kp m w w9:=hKp.grown hgrow (fun q e=>(HGO.out q e).1)
     have HK9:Hid (KnC l cs (fun k=>B<=k/\¬(A k\/v9.ownBlock=some k)) w9 F2):=HKU2.out.stay hgrow.size (fun k h1 h2=>⟨⟨h1.1,fun h3=>by
      rcases h3 with h3|h3
      . exact h1.2 (.inl h3)
      . rcases how with how|how
        . exact h1.2 (.inr (how ▸ h3))
        . rw[how]at h3
          have h4:u2.heap.size=k:=Option.some.inj h3
          omega⟩,hgrow.block k h2 (fun e=>h1.2 (.inr e.symm))⟩)
     have HL10:Hid ((L1++L9).map Prod.snd=ocs++(flP (flG l cs 6) (ops.take (k+1))).1/\((L1++L9).map Prod.fst).Nodup):=by
      refine⟨by rw[List.map_append,HLL.out.1,HL9.out.1,HM9.out,List.append_assoc],zsp HLL.out.2 HL9.out.2 (fun a ha b hb=>?_)⟩
      have h1:=HID.out a ha
      have h2:=HI9.out b hb
      omega
     have HO10:Hid ((flP (flG l cs 6) (ops.take (k+1))).2=0):=by show _=_;rw[HM9.out]
     have hk6:k<6:=by have:=HLP.out;omega
     clear hgrow how hGL hGP hS hM2 hKp hsrc hll hbs z3k HKU2 HL9 HLL HM9;go_wp2
     go_roundw
     case rel=>exact⟨k+1,n2,F2,L1++L9,by omega,by go_num,hT9,HL10,HO10,hGP9,hS9,hM9,HK9,HN2.out.1,z2e⟩
     case measure=>simp[intOf];omega
   . have ek:k=ops.length:=by omega
     have HO2:Hid ((flP (flG l cs 6) ops).2=0):=by
      have h:=HOKk.out
      rw[ek,List.take_length]at h
      exact h
     have HR:Hid (flG l cs 6 (kg:Int)=(ocs++(flP (flG l cs 6) ops).1,0)):=HOK.out HO2.out
     have HL2:Hid (L1.map Prod.snd=(flG l cs 6 (kg:Int)).1/\(L1.map Prod.fst).Nodup):=by
      have h:=HLL.out
      rw[ek,List.take_length]at h
      refine⟨?_,h.2⟩
      rw[h.1,HR.out]
     have HR2:Hid ((flG l cs 6 (kg:Int)).2=0):=by show _=_;rw[HR.out]
     have HLE:Hid (L1.length=(flG l cs 6 (kg:Int)).1.length):=by show _=_;rw[<-HL2.out.1,List.length_map]
     have g4:¬(k:Int)<(ops.length:Int):=by omega
     have hn1b:n1<=1000000000000:=by
      have h1:k*T<=12*T:=Nat.mul_le_mul_right _ (by have:=HLP.out;omega)
      have h2:=HN.out
      omega
     have HN2:Hid (n1+1<=n+tk (d+1)):=by
      have h1:k*T<=12*T:=Nat.mul_le_mul_right _ (by have:=HLP.out;omega)
      have h2:=HN.out
      show _<=_
      rw[HT.out]
      omega
     have HKA:Hid (KnC l cs (fun k=>B<=k/\¬A k) wr F1):=HK.out.stay (Nat.le_refl _) (fun k h1 _=>⟨⟨h1.1,fun h2=>h1.2 (.inl h2)⟩,rfl⟩)
     have hGA:=hGL.widenU (S':=fun k=>B<=k/\¬A k) (fun k h1 _=>⟨by omega,fun h2=>by have:=hA k h2;omega⟩)
     have HOW:Hid (∀k,(Value.slice av L1.length cv).ownBlock=some k->w.heap.size<=k):=fun k h=>(hGL.lo h).1
     obtain⟨s0,s1,s2,-⟩:=hS.three;clear HOKk HLL HN HK ek hk hkn HOK HNO HO2 HR hGP hGL
     go_wp2_with (first | (at_mapUpdate;refine zh6 80 37 Tryz.underlying80 rfl _ _ _ rfl m n1 F1 (kg:Int) _ hg hM hn1b rfl rfl rfl ?_) | fail)
     intro w9 hM9 hgrow
     have z2e:=hKp.grownM hgrow
     have hKm:Kp m wr w9:=(Kp.refl m wr).grownM hgrow
     have hG9:Gw PkE 63 w.heap.size (fun k=>B<=k/\¬A k) w9 (.slice av L1.length cv) L1:=hGA.stay hKm.size (fun k h1 _ h2=>⟨h1,hKm.block h2 (HmB.out k h1.1)⟩) (fun k h=>hKm.block (hGA.lo h).2 (HmB.out k (by have:=HOW.out k h;omega)))
     have HF:Hid (CnP l cs B A m kg d n w (.returned (.tuple #[.slice av L1.length cv,.int .i64 0])) w9):=by
      refine⟨⟨av,cv,by rw[HR2.out,HLE.out],L1,by rw[<-HLE.out];exact(hG9.low hBs).widenU (fun k h _=>h.1),HL2.out.1,HL2.out.2⟩,⟨n1+1,_,hM9,?_,HN2.out⟩,z2e⟩
      exact(HKA.out.kp hKm (fun k h=>HmB.out k h.1)).put HR2.out (hG9.low (Nat.zero_le _)) (fun k h=>⟨by have:=HOW.out k h;omega,fun h2=>by have:=HOW.out k h;have:=hA k h2;omega⟩) HL2.out.1 HL2.out.2
     clear hgrow hM9 z2e hKm hG9 hGA HKA HL2 hM hS hKp;go_wp2
     go_ret2
     exact HF.out
theorem z2g(S:Nat->Prop)(a:OA)(ca:Nat)(l:List Gl)(g:Int)(pa:OA)(pc:Nat)(cs:LI)(w:World)(hl:Gr GlE S w a ca l)(hps:∀x∈l,x.o.ps.length<=12)(hcs:Ri w pa pc cs)(hg:I64 g) :
 Calls Tryz.prog 18 #[.slice a l.length ca,.int .i64 g,.slice pa cs.length pc] w fun e w'=>∃a1 c1,e=.returned (.tuple #[.slice a1 (glC l g cs).length c1,.int .i64 (glE l g cs)])/\∃L:List (Nat×List Pn),Gw PkE 63 w.heap.size (fun k=>w.heap.size<=k) w' (.slice a1 (glC l g cs).length c1) L/\L.map Prod.snd=glC l g cs/\(L.map Prod.fst).Nodup/\Below w.heap.size w w':=by
 have kl:=hl.lenB
 have kc:=hcs.lenB
 have hig:=zlw a l.length ca g w (by omega) hg
 have HNO:Hid (∀(E:Int) (U:World),glE l g cs=E/\glC l g cs=[]->Below w.heap.size w U->∃a1 c1,(Ending.returned (.tuple #[.slice none 0 0,.int .i64 E]))=.returned (.tuple #[.slice a1 (glC l g cs).length c1,.int .i64 (glE l g cs)])/\∃L:List (Nat×List Pn),Gw PkE 63 w.heap.size (fun k=>w.heap.size<=k) U (.slice a1 (glC l g cs).length c1) L/\L.map Prod.snd=glC l g cs/\(L.map Prod.fst).Nodup/\Below w.heap.size w U):=by
  intro E U h hb
  rw[h.1,h.2]
  exact⟨none,0,rfl,[],Gw.nil _ _ _ _ _,rfl,List.nodup_nil,hb⟩
 cases hgi:isG l.length g with
 | false =>
  rw[hgi]at hig
  have HF:Hid (_):=zxf (cs:=cs) (zn2 hgi)
  clear hgi
  go_enter Tryz.func18,Tryz.ntmps18
  go_wp2_with fail
  refine hig.mono ?_
  rintro e u ⟨rfl,rfl⟩;clear hig;go_wp2
  go_ret2
  exact HNO.out 5 _ HF.out (Below.refl _ _)
 | true =>
 rw[hgi]at hig
 have HGA:Hid (_):=zyz hgi
 clear hgi
 go_enter Tryz.func18,Tryz.ntmps18
 go_wp2_with fail
 refine hig.mono ?_
 rintro e u ⟨rfl,rfl⟩;clear hig
 go_wp2_with fail
 refine(zd6 a l.length ca w).mono ?_
 rintro e U ⟨rfl,hS,hM,hB⟩
 have z40:=zod S a ca l g w U hl hps hg hS hM hB
 clear hS hM
 go_wp2_with fail
 refine z40.mono ?_
 rintro e u ⟨z18,hb⟩;clear z40
 rcases z18 with ⟨k,hk,rfl⟩|⟨hk,rfl⟩
 rotate_left
 . have HF:Hid (_):=zxh (cs:=cs) HGA.out hk
   have hb2:Below w.heap.size w (u.alloc (.cells #[.int .i64 0,.int .i64 0] 71)):=hb.trans ((bl1 _).mono hb.size)
   clear hk hb;go_wp2
   go_ret2
   exact HNO.out 6 _ HF.out hb2
 have HK:Hid (dq l 6 g=some k):=hk
 obtain⟨V,hV,X,hbV⟩:∃V,V=u.alloc (.cells #[.int .i64 (k:Int),.int .i64 ((szG l g:Nat):Int)] 71)/\Bk 71 V u.heap.size [.int .i64 (k:Int),.int .i64 ((szG l g:Nat):Int)]/\Below u.heap.size u V:=⟨_,rfl,Bk.new _ _ _,bl1 _⟩
 replace hb:=hb.trans (hbV.mono hb.size)
 obtain⟨x0,x1,_⟩:=X.two;clear hk hbV X
 go_upto_region 4 with fail
 rw[<-hV];clear hV
 by_cases hsz:2000<szG l g
 . have g1:(2000:Int)<((szG l g:Nat):Int):=by omega
   have HF:Hid (_):=zxg (cs:=cs) HK.out hsz
   clear hsz HK
   generalize szG l g=sz at *
   go_wp2
   go_ret2
   exact HNO.out 3 _ HF.out hb
 have g1:¬(2000:Int)<((szG l g:Nat):Int):=by omega
 have hkd:=dq_le HK.out
 have HSQ:Hid (sq l 6 g<=2000):=by
  have h1:=zm6 HK.out
  show _<=_
  omega
 have HG:Hid (_):=zxe (cs:=cs) HK.out (by omega)
 have hmm:=@run_makeMap Tryz.prog
 have M:=Mp.made V
 obtain⟨W1,hW1⟩:∃W,W=V.alloc (.map #[] 0):=⟨_,rfl⟩
 have hb1:Below V.heap.size V W1:=by rw[hW1];exact bl1 _
 have hs1:W1.heap.size=V.heap.size+1:=by rw[hW1];simp
 rw[<-hW1]at M
 have X2:=Bk.new 82 W1 [.slice a l.length ca,.slice pa cs.length pc,.map (some V.heap.size)]
 rw[hs1]at X2
 obtain⟨W2,hW2⟩:∃W,W=W1.alloc (.cells #[.slice a l.length ca,.slice pa cs.length pc,.map (some V.heap.size)] 82):=⟨_,rfl⟩
 have hb2:Below W1.heap.size W1 W2:=by rw[hW2];exact bl1 _
 have hs2:W2.heap.size=V.heap.size+2:=by rw[hW2];simp[hs1]
 have X3:Bk 82 W2 (V.heap.size+1) [.slice a l.length ca,.slice pa cs.length pc,.map (some V.heap.size)]:=by rw[hW2];exact X2
 have M2:=M.below hb2
 have hVW:Below w.heap.size w W2:=(hb.trans (hb1.mono hb.size)).trans (hb2.mono (Nat.le_trans hb.size hb1.size))
 have hvs:=hb.size
 have hco:=ztf w S a ca l hl pa pc cs hcs (V.heap.size+1) V.heap.size (V.heap.size+2) hvs (by omega) (by omega) (by omega) (by omega) k g 0 (fun _=>none) (fun _=>False) W2 (fun k h=>h.elim) HK.out HSQ.out (by have:=tk_le (show k+1<=7 by omega);omega) hVW (by omega) X3 M2 (KnC.nil _ _ _ _)
 have HVW:Hid (Below w.heap.size w W2):=hVW
 have HS2:Hid (W2.heap.size=V.heap.size+2):=hs2
 clear X2 X3 M M2 hb2 hVW hsz hs1 hs2 hb1
 generalize szG l g=sz at *
 go_wp2_with fail
 rw[<-hW1,<-hW2]
 refine hco.mono ?_
 rintro e u2 ⟨⟨a1,c1,rfl,L,hGL,hL1,hL2⟩,-,hKp⟩
 have hBf:Below w.heap.size w u2:=HVW.out.trans (hKp.below HVW.out.size hvs)
 have zau:∃a1' c1',(Ending.returned (.tuple #[.slice a1 (flG l cs 6 g).1.length c1,.int .i64 (flG l cs 6 g).2]))=.returned (.tuple #[.slice a1' (glC l g cs).length c1',.int .i64 (glE l g cs)])/\∃L:List (Nat×List Pn),Gw PkE 63 w.heap.size (fun k=>w.heap.size<=k) u2 (.slice a1' (glC l g cs).length c1') L/\L.map Prod.snd=glC l g cs/\(L.map Prod.fst).Nodup/\Below w.heap.size w u2:=by
  rw[HG.out.1,HG.out.2]
  exact⟨a1,c1,rfl,L,(hGL.low (by omega)).widenU (fun k h _=>by omega),hL1,hL2,hBf⟩
 have HFI:Hid (_):=zau
 clear zau hGL hL1 hL2 hKp hBf hco HG HNO hW1 hW2
 generalize flG l cs 6 g=fr at *
 go_wp2
 go_ret2
 exact HFI.out
def awG:List Gl:=[⟨⟨[[⟨1,0,false⟩]],[]⟩,[],0,0,false⟩,⟨⟨[],[⟨0,5,0⟩]⟩,[],0,0,false⟩]
theorem aw15a:glE awG 1 []=0/\(glC awG 1 []).map (fun c=>c.map (fun p=>(p.x,p.y,p.on)))=[[(6,0,false)]]/\dpG awG 1=1/\dpG awG 2=-1:=by
 decide +kernel
theorem cs_of{cs:List (List Pn)}{x y:Int}{on:Bool}(h1:cs.map (fun c=>c.map (fun p=>(p.x,p.y,p.on)))=[[(x,y,on)]]):cs=[[⟨x,y,on⟩]]:=by
 rcases cs with _|⟨c,_|⟨d,cs⟩⟩
 . simp at h1
 . rcases c with _|⟨p,_|⟨q,c⟩⟩
   . simp at h1
   . obtain⟨x,y,on⟩:=p
     simp at h1
     obtain⟨rfl,rfl,rfl⟩:=h1
     rfl
   . simp at h1
 . simp at h1
theorem aw15:glC awG 1 []=[[⟨6,0,false⟩]]:=cs_of aw15a.2.1
theorem Ri.nil0(w:World):Ri w none 0 []:=⟨(fun z hz=>by cases hz),Nat.le_refl _,Nat.zero_le _,.inl rfl⟩
theorem zd9(w:World) :
 Calls Tryz.prog 9 #[] w fun e w'=>e=.returned (.bool true)/\Below w.heap.size w w':=by
 obtain⟨V1,hV1,A1,b1⟩:∃V,V=w.alloc (.cells #[.int .i64 1,.int .i64 0,.bool false] 65)/\Bk 65 V w.heap.size [.int .i64 1,.int .i64 0,.bool false]/\Below w.heap.size w V:=⟨_,rfl,Bk.new _ _ _,bl1 _⟩
 obtain⟨V2,hV2,A2,b2⟩:∃V,V=V1.alloc (.cells #[.slice (some ⟨w.heap.size,0,none⟩) 1 1] 63)/\Bk 63 V V1.heap.size [.slice (some ⟨w.heap.size,0,none⟩) 1 1]/\Below V1.heap.size V1 V:=⟨_,rfl,Bk.new _ _ _,bl1 _⟩
 obtain⟨V3,hV3,A3,b3⟩:∃V,V=V2.alloc (.cells #[.int .i64 0,.int .i64 5,.int .i64 0] 54)/\Bk 54 V V2.heap.size [.int .i64 0,.int .i64 5,.int .i64 0]/\Below V2.heap.size V2 V:=⟨_,rfl,Bk.new _ _ _,bl1 _⟩
 obtain⟨V4,hV4,A4,b4⟩:∃V,V=V3.alloc (.cells #[.slice (some ⟨V1.heap.size,0,none⟩) 1 1,.slice none 0 0,.slice none 0 0,.int .i64 0,.int .i64 0,.bool false,.slice none 0 0,.slice (some ⟨V2.heap.size,0,none⟩) 1 1,.slice none 0 0,.int .i64 0,.int .i64 0,.bool false] 62)/\Bk 62 V V3.heap.size [.slice (some ⟨V1.heap.size,0,none⟩) 1 1,.slice none 0 0,.slice none 0 0,.int .i64 0,.int .i64 0,.bool false,.slice none 0 0,.slice (some ⟨V2.heap.size,0,none⟩) 1 1,.slice none 0 0,.int .i64 0,.int .i64 0,.bool false]/\Below V3.heap.size V3 V:=⟨_,rfl,Bk.new _ _ _,bl1 _⟩
 have hbW:Below w.heap.size w V4:=((b1.trans (b2.mono b1.size)).trans (b3.mono (Nat.le_trans b1.size b2.size))).trans (b4.mono (Nat.le_trans (Nat.le_trans b1.size b2.size) b3.size))
 replace A1:=((A1.below b2).below b3).below b4
 replace A2:=(A2.below b3).below b4
 replace A3:=A3.below b4
 have g1:Gr PnE (fun _=>True) V4 (some ⟨w.heap.size,0,none⟩) 1 [⟨1,0,false⟩]:=Gr.one (vs:=pnC ⟨1,0,false⟩) (zaz.2 ⟨rfl,⟨by decide,by decide⟩,⟨by decide,by decide⟩⟩) A1.lt (fun j hj=>A1.cell j hj)
 have g2:Gr PnE.row (fun _=>True) V4 (some ⟨V1.heap.size,0,none⟩) 1 [[⟨1,0,false⟩]]:=Gr.one (vs:=[.slice (some ⟨w.heap.size,0,none⟩) 1 1]) ⟨_,_,rfl,fun _ _ _ _=>trivial,g1,by decide⟩ A2.lt (fun j hj=>A2.cell j hj)
 have g3:Gr PaE (fun _=>True) V4 (some ⟨V2.heap.size,0,none⟩) 1 [⟨0,5,0⟩]:=Gr.one (vs:=paC ⟨0,5,0⟩) (zcf.2 ⟨rfl,⟨by decide,by decide⟩,⟨by decide,by decide⟩,⟨by decide,by decide⟩⟩) A3.lt (fun j hj=>A3.cell j hj)
 have hgl:Gr GlE (fun _=>True) V4 (some ⟨V3.heap.size,0,none⟩) 2 awG:=by
  refine⟨Nat.le_refl _,by unfold maxLen;omega,(fun e=>by cases e),fun i hi=>?_⟩
  have hi2:i<2:=hi
  rcases (show i=0\/i=1 by omega)with rfl|rfl
  . refine⟨V3.heap.size,0,[.slice (some ⟨V1.heap.size,0,none⟩) 1 1,.slice none 0 0,.slice none 0 0,.int .i64 0,.int .i64 0,.bool false],rfl,A4.lt,zjt.2 ⟨some ⟨V1.heap.size,0,none⟩,1,none,0,none,0,rfl,⟨_,_,rfl,fun _ _ _ _=>trivial,g2,by decide⟩,⟨_,_,rfl,fun _ _ _ _=>trivial,Gr.nil _ _ _ _ _ (Nat.zero_le _) (fun _=>rfl),by decide⟩,⟨_,_,rfl,fun _ _ _ _=>trivial,Gr.nil _ _ _ _ _ (Nat.zero_le _) (fun _=>rfl),by decide⟩,⟨by decide,by decide⟩,⟨by decide,by decide⟩⟩,fun j hj=>?_⟩
    have hj6:j<6:=hj
    rw[show 0+0*GlE.sz+j=j by omega]
    rw[A4.cell j (by show j<12;omega)]
    rcases (show j=0\/j=1\/j=2\/j=3\/j=4\/j=5 by omega)with rfl|rfl|rfl|rfl|rfl|rfl <;> rfl
  . refine⟨V3.heap.size,0,[.slice none 0 0,.slice (some ⟨V2.heap.size,0,none⟩) 1 1,.slice none 0 0,.int .i64 0,.int .i64 0,.bool false],rfl,A4.lt,zjt.2 ⟨none,0,some ⟨V2.heap.size,0,none⟩,1,none,0,rfl,⟨_,_,rfl,fun _ _ _ _=>trivial,Gr.nil _ _ _ _ _ (Nat.zero_le _) (fun _=>rfl),by decide⟩,⟨_,_,rfl,fun _ _ _ _=>trivial,g3,by decide⟩,⟨_,_,rfl,fun _ _ _ _=>trivial,Gr.nil _ _ _ _ _ (Nat.zero_le _) (fun _=>rfl),by decide⟩,⟨by decide,by decide⟩,⟨by decide,by decide⟩⟩,fun j hj=>?_⟩
    have hj6:j<6:=hj
    rw[show 0+1*GlE.sz+j=6+j by show 0+1*6+j=_;omega]
    rw[A4.cell (6+j) (by show 6+j<12;omega)]
    rcases (show j=0\/j=1\/j=2\/j=3\/j=4\/j=5 by omega)with rfl|rfl|rfl|rfl|rfl|rfl <;> rfl
 have hps:∀x∈awG,x.o.ps.length<=12:=by decide
 have hat:=z2g (fun _=>True) (some ⟨V3.heap.size,0,none⟩) 2 awG 1 none 0 [] V4 hgl hps (Ri.nil0 _) ⟨by decide,by decide⟩
 rw[aw15a.1,aw15]at hat
 replace hat:Calls Tryz.prog 18 #[.slice (some ⟨V3.heap.size,0,none⟩) 2 2,.int .i64 1,.slice none 0 0] V4 fun e w'=>∃a1 c1,e=.returned (.tuple #[.slice a1 1 c1,.int .i64 0])/\∃L:List (Nat×List Pn),Gw PkE 63 V4.heap.size (fun k=>V4.heap.size<=k) w' (.slice a1 1 c1) L/\L.map Prod.snd=[[⟨6,0,false⟩]]/\(L.map Prod.fst).Nodup/\Below V4.heap.size V4 w':=hat
 have hd1:=fun U (hU:Below V4.heap.size V4 U)=>zhu (fun _=>True) (some ⟨V3.heap.size,0,none⟩) 2 awG 1 U (hgl.below hU) hps ⟨by decide,by decide⟩
 have hd2:=fun U (hU:Below V4.heap.size V4 U)=>zhu (fun _=>True) (some ⟨V3.heap.size,0,none⟩) 2 awG 2 U (hgl.below hU) hps ⟨by decide,by decide⟩
 rw[aw15a.2.2.1]at hd1;rw[aw15a.2.2.2]at hd2
 replace hd1:∀U (hU:Below V4.heap.size V4 U),Calls Tryz.prog 11 #[.slice (some ⟨V3.heap.size,0,none⟩) 2 2,.int .i64 1] U fun e w'=>e=.returned (.int .i64 1)/\Below U.heap.size U w':=hd1
 replace hd2:∀U (hU:Below V4.heap.size V4 U),Calls Tryz.prog 11 #[.slice (some ⟨V3.heap.size,0,none⟩) 2 2,.int .i64 2] U fun e w'=>e=.returned (.int .i64 (-1))/\Below U.heap.size U w':=hd2
 have s1:w.heap.size+1=V1.heap.size:=by rw[hV1];simp
 have s2:V1.heap.size+1=V2.heap.size:=by rw[hV2];simp
 have s3:V2.heap.size+1=V3.heap.size:=by rw[hV3];simp
 have HS:Hid (w.heap.size+1=V1.heap.size/\V1.heap.size+1=V2.heap.size/\V2.heap.size+1=V3.heap.size):=⟨s1,s2,s3⟩
 have HV1:Hid (_=_):=hV1
 have HV2:Hid (_=_):=hV2
 have HV3:Hid (_=_):=hV3
 have HV4:Hid (_=_):=hV4
 clear A1 A2 A3 A4 g1 g2 g3 hgl b1 b2 b3 b4 s1 s2 s3 hV1 hV2 hV3 hV4 hps
 go_enter Tryz.func9,Tryz.ntmps9
 go_wp2_with fail
 rw[<-HV1.out]
 try rw[HS.out.1]
 rw[<-HV2.out]
 try rw[HS.out.2.1]
 rw[<-HV3.out]
 try rw[HS.out.2.2]
 rw[<-HV4.out];clear HV1 HV2 HV3 HV4 HS
 refine hat.mono ?_
 rintro e m1 ⟨a1,c1,rfl,L,hGL,hLs,-,hb1⟩
 have hgr:=hGL.rows
 rw[hLs]at hgr
 have hg1:=hgr.gr
 clear hat hGL hLs hgr
 obtain⟨q0,o0,q1,c3,e1,hq0,k0,hr0,-,-⟩:=hg1.rw (Below.refl _ _) 0 (by decide)
 subst e1
 replace hr0:Gr PnE (fun k=>V4.heap.size<=k) m1 q1 c3 [⟨6,0,false⟩]:=hr0
 replace k0:m1.cell? ⟨q0,o0,none⟩=some (.slice q1 1 c3):=k0
 obtain⟨r0,s0,e2,hq1,-,k1,k2,k3⟩:=hr0.pn (Below.refl _ _) 0 (by decide)
 subst e2
 replace k1:m1.cell? ⟨r0,s0,none⟩=some (.int .i64 6):=by simpa using k1
 clear hg1 hr0 k2 k3 hq0 hq1
 go_wp2_with fail
 refine(hd1 _ hb1).mono ?_
 rintro e m2 ⟨rfl,hb2⟩
 replace hb2:=hb1.trans (hb2.mono hb1.size)
 clear hb1 hd1 k0 k1
 go_wp2_with fail
 refine(hd2 _ hb2).mono ?_
 rintro e m3 ⟨rfl,hb3⟩
 have zau:=hbW.trans ((hb2.trans (hb3.mono hb2.size)).mono hbW.size)
 clear hb2 hb3 hd2;go_wp2
 go_ret
 exact⟨rfl,zau⟩
