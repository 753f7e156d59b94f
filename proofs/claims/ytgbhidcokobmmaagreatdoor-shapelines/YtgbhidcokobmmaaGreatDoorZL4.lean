import Derived.Test.YtgbhidcokobmmaaGreatDoorZL3
import Derived.Deep.CutBlock
import Derived.BigQuiet
import Derived.Deep.QuietTactic
import Derived.Outline
import Derived.Lib.MinMax
set_option maxHeartbeats 8000000
set_option maxRecDepth 100000
set_option linter.unusedSimpArgs false
set_option linter.unusedVariables false
namespace Go.Proofs.YtgbhidcokobmmaaGreatDoor
open Go.RowKit Go.Maps Go.Shelf
attribute [local go_sem] Oper.semAt_some
structure LnA(o:List Int)(w':World)(e:Ending):Prop where
 out:∃a c,e=.returned (.slice a o.length c)/\Gr El.int (fun _=>True) w' a c o
theorem zu6{P:Program}{c:Code}{K:Act->World->Prop}{Q:Exit->Act->World->Prop}{a:Act}{w:World}(h:c.wp P (Exit.then K (fun _ _ _=>False)) a w):c.wp P (Exit.then K Q) a w :=
 Code.wp_mono (fun e a w he=>by cases e <;> first | exact he | exact he.elim) h
theorem zs7(S:Nat->Prop)(a:Option Addr)(ca:Nat)(L:List Int)(b:Option Addr)(cb:Nat)(m:List Int)(ms:List Bool)(sk:Bool)(i:Int)(A:List Int)(g:Int)(w:World)
    (hL:Gr El.int S w a ca L) (hm:Ri w b cb m) (hM:MeR ms L sk i A m) (h2:2<=m.length) (hg:I64 g) (hl:L.length<=1000) :
    Calls Tryz.prog 124 #[.slice a L.length ca,.slice b m.length cb,.int .i64 g] w fun e w'=>LnA (puL (taF L m.tail) i (i+1) [g]) w' e/\Below w.heap.size w w':=by
 have kl:=hL.lenB
 have km:=hm.lenB
 have hpi:=zal.1 hM.pl
 obtain⟨n,rfl⟩:∃n:Nat,i=(n:Int):=⟨i.toNat,by omega⟩
 have hn:n<L.length:=by omega
 have HJ:Hid (foP (L.set n g) m.tail.reverse=puL (taF L m.tail) (n:Int) ((n:Int)+1) [g]):=zwb hM g
 obtain⟨R,hR⟩:∃R,puL (taF L m.tail) (n:Int) ((n:Int)+1) [g]=R:=⟨_,rfl⟩
 rw[hR]at HJ ⊢
 have HMB:Hid (∀j,j<m.length->0<=m.getD j 0/\m.getD j 0<(L.length:Int)):=fun j hj=>by
  obtain⟨q,e,hq,_⟩:=hM.ok j hj
  exact⟨by omega,by omega⟩
 obtain⟨b0,off,rfl,hb0,c0⟩:=hm.at (Below.refl _ _) 0 (by omega)
 rw[hM.fst,Nat.add_zero]at c0
 obtain⟨f,hf⟩:∃f:Nat->Int,∀j,f j=m.getD (j+1) 0:=⟨_,fun _=>rfl⟩
 have zus:=hm.2.1
 have zkc:=hm.2.2.1
 unfold maxLen at zkc
 have hc1:¬cb=1:=by omega
 have HLF:Hid (∀W,Below w.heap.size w W->∀j,j<m.length-1->W.cell? ⟨b0,off+1+j,none⟩=some (.int .i64 (f j))):=fun W hW j hj=>by
  obtain⟨b1,o1,e1,_,c1⟩:=hm.at hW (j+1) (by omega)
  cases e1
  rw[hf,Nat.add_assoc,Nat.add_comm 1 j]
  exact c1
 have HFI:Hid (∀j,j<m.length-1->0<=f j/\f j<1000):=fun j hj=>by
  have:=HMB.out (j+1) (by omega)
  rw[hf]
  omega
 have HTL:Hid (∀ys:List (Ix19 (m.length-1)),za1 ys=dnL (m.length-1) (m.length-1)->ys.map (fun x=>f x.1)=m.tail.reverse):=by
  rw[<-List.length_tail]
  exact fun ys h=>zwy (fun j hj=>by rw[hf,List.getD_eq_getElem?_getD,List.getD_eq_getElem?_getD,List.getElem?_tail]) h
 have HLZ:Hid (∀z∈L.set n g,I64 z):=fun z hz=>by
  rcases List.mem_or_eq_of_mem_set hz with h|h
  . exact hL.ri.1 z h
  . rw[h];exact hg
 have hcl:=zbj S a ca L w hL hl
 have hpc:∀W,Below w.heap.size w W->W.cell? ⟨b0,off,none⟩=some (.int .i64 (n:Int)):=fun W hW=>(hW.cell (p:=⟨b0,off,none⟩) hb0).trans c0
 have HPC:Hid (∀W,Below w.heap.size w W->W.cell? ⟨b0,off,none⟩=some (.int .i64 (n:Int))):=hpc
 have hm1:(1:Int)<=(m.length:Int):=by omega
 have hm0:0<m.length:=by omega
 have i1:(0:Int)<=(n:Int):=by omega
 have i2:(n:Int)<(L.length:Int):=by omega
 clear hR hM hm hL hf HMB hpi c0 hpc
 refine(callsIn_wide (n:=6)).1 ?_
 refine callsIn_of_wp_marks Tryz.func124 rfl trivial ?_ rfl
 simp only[Tryz.ntmps124,List.size_toArray,List.length_cons,List.length_nil,Nat.reduceAdd,Nat.reduceSub,Array.replicate_succ,Array.replicate_zero,List.push_toArray,List.append_toArray,List.nil_append,List.cons_append]
 refine wpIn_wide.2 ?_
 go_wp2_with fail
 refine hcl.mono ?_
 rintro e u ⟨⟨v,rfl,hv⟩,hbu⟩
 obtain⟨gb,cap,rfl,hgb,hglt,hgc,hgl,hgf,hgs⟩:=Io.own hv.io (by intro e;rw[e]at hn;simp at hn)
 clear hgl hgf hgs
 have hio:=hv.io
 obtain⟨U,hU,XB,hbU⟩:∃U,U=u.alloc (.cells #[.slice (some ⟨gb,0,none⟩) L.length cap] 37)/\Boxed U u.heap.size 37 (.slice (some ⟨gb,0,none⟩) L.length cap)/\Below u.heap.size u U:=⟨_,rfl,Boxed.new _ _ _,bl1 _⟩
 have hwU:=hbu.trans (hbU.mono hbu.size)
 go_upto_region 2 with fail
 rw[<-hU];clear hU hcl
 refine zu6 ?_
 refine wp_region_held_drew (S:=fun u'=>u'.cell? ⟨u.heap.size,0,none⟩=some (.slice (some ⟨gb,0,none⟩) L.length cap)/\u'.cell? ⟨b0,off,none⟩=some (.int .i64 (n:Int))) (by kernel_rfl) ⟨XB.cell,HPC.out U hwU⟩ (fun hH=>?_)
 have hdr:Below U.heap.size U U.drew:=(Below.refl _ _).drew
 generalize U.drew=Z at hdr hH ⊢
 have hwZ:=hwU.trans (hdr.mono hwU.size)
 have XZ:Boxed Z u.heap.size 37 (.slice (some ⟨gb,0,none⟩) L.length cap):=zco XB hdr
 have hioZ:=(hio.below hbU).below hdr
 obtain⟨gb',cap',e',hgb',hglt',hgc',hgl',hgf',hgs'⟩:=Io.own hioZ (by intro e;rw[e]at hn;simp at hn)
 cases e'
 have zzv:Hid (Io w.heap.size (Z.setCell ⟨gb,n,none⟩ (.int .i64 g)) (.slice (some ⟨gb,0,none⟩) L.length cap) (L.set n g)/\Boxed (Z.setCell ⟨gb,n,none⟩ (.int .i64 g)) u.heap.size 37 (.slice (some ⟨gb,0,none⟩) L.length cap)/\Below w.heap.size w (Z.setCell ⟨gb,n,none⟩ (.int .i64 g))) :=
  ⟨hgs' n g hn hg,(Below.heap_setCell _ _ _ _ (fun e=>by have e1:u.heap.size=gb:=e;omega)).trans XZ,hwZ.setCell (p:=⟨gb,n,none⟩) hgb _⟩
 have HPZ:Hid ((Z.setCell ⟨gb,n,none⟩ (.int .i64 g)).cell? ⟨b0,off,none⟩=some (.int .i64 (n:Int))):=HPC.out _ zzv.out.2.2
 have cg:=hgl' n hn
 have fg:=hgf' n
 clear hgl' hgf' hgs' hgb' hgc' hioZ;refine hT 0 hH ?_;refine hT 1 hH ?_;refine hT 2 hH ?_;refine hT 3 hH ?_;refine hT 4 hH ?_;refine hT 5 hH ?_
 refine hCall (i:=6) rfl (by kernel_rfl) (by rfl) (fun K hK=>?_)
 go_simp
 refine hK.out _ _ ⟨zzv.out.2.1.cell,HPZ.out⟩ (fun hH=>?_)
 clear hK K
 refine wpAnyH_done (by kernel_rfl) ?_ _
 go_wp2
 obtain⟨V,hV⟩:∃V,V=Z.setCell ⟨gb,n,none⟩ (.int .i64 g):=⟨_,rfl⟩
 have hszV:V.heap.size=Z.heap.size:=by rw[hV];simp[World.setCell]
 rw[<-hV]at zzv ⊢;obtain⟨S1,S2,S3⟩:=zzv.out
 have hsu:u.heap.size<Z.heap.size:=by have:=S2.lt;omega
 have hwu:w.heap.size<=u.heap.size:=hbu.size
 clear hV hH HPZ cg fg zzv XZ hdr hwU hwZ XB hbU hio hv hglt'
 obtain⟨W0,hW0⟩:∃W0,W0=V.alloc (.cells #[.slice (some ⟨b0,off+1,none⟩) (m.length-1) (cb-1)] 37):=⟨_,rfl⟩
 have bN:Boxed W0 Z.heap.size 37 (.slice (some ⟨b0,off+1,none⟩) (m.length-1) (cb-1)):=by rw[hW0,<-hszV];exact Boxed.new V _ _
 have bX:Boxed W0 u.heap.size 37 (.slice (some ⟨gb,0,none⟩) L.length cap):=by rw[hW0];exact S2.alloc _
 have hb1:Below V.heap.size V W0:=by rw[hW0];exact bl1 _
 have hB0:Below w.heap.size w W0:=S3.trans (hb1.mono S3.size)
 have hI0:Io w.heap.size W0 (.slice (some ⟨gb,0,none⟩) L.length cap) (L.set n g):=S1.below hb1
 have hs0:W0.heap.size=Z.heap.size+1:=by rw[hW0,World.size_alloc,hszV]
 rw[<-hW0];clear hW0 S1 S2 S3 hb1 hszV
 have hks:∀k:Nat,(k=Z.heap.size\/k=b0)->k<W0.heap.size:=fun k hk=>by rcases hk with rfl | rfl <;> omega
 refine(wpIn_wide (n:=6)).1 ?_
 refine wpIn_rangeFunc_ownG (F:=Fence.wide) rfl (by omega) (gf:=200) (lb:=#[.pointer (some ⟨Z.heap.size,0,none⟩)]) rfl trivial (enters_of Tryz.func200 (by kernel_rfl) rfl)
  (zku (fun k=>k=Z.heap.size\/k=b0) Fence.wide _ trivial rfl (by omega) Z.heap.size b0 (off+1) (m.length-1) (cb-1) f (by omega) W0 (by omega) (by omega) (.inl rfl) (.inr rfl) bN.cell (HLF.out _ hB0)) (fun h k=>h.trans k)
  (fun W l o o' hl h _ _=>⟨rfl,rfl,rfl,by simp,fun k hk=>World.putObj_heap_other (fun e=>by have:=hks k hk;omega)⟩) (Below.refl _ _) (fun _=>rfl)
  (fun pre W=>((∃v,Boxed W u.heap.size 37 v/\W.ownsRow w.heap.size 3 1 v (foP (L.set n g) (pre.map (fun x=>f x.1))).length ((foP (L.set n g) (pre.map (fun x=>f x.1))).map (Value.int .i64))/\True)/\Z.heap.size+1<=W.heap.size)/\Below w.heap.size w W)
  (fun c pre W=>False)
  (OwnFrom.and (OwnFrom.and (Own.from (holdsRow_own _ _ _ _ _ _ _ _) _) (fun s A B row hs hg hr=>Nat.le_trans hs hg.size)) (ownFrom_below (Nat.le_refl _) (by omega)))
  (fun c=>fun _ _ _ _ h _ _=>h)
  ⟨⟨⟨_,bX,hI0.2,trivial⟩,by omega⟩,hB0⟩
  (fun x=>{ tmps:=#[.slice a L.length ca,.slice (some ⟨b0,off,none⟩) m.length cb,.int .i64 g,undef,undef,undef,.slice none 0 0,.pointer (some ⟨u.heap.size,0,none⟩),undef,.int .i64 (f x.1),.slice a L.length ca,.slice (some ⟨gb,0,none⟩) L.length cap,.slice (some ⟨gb,0,none⟩) L.length cap,.slice (some ⟨b0,off,none⟩) m.length cb,.pointer (some ⟨b0,off,none⟩),.int .i64 (n:Int),.int .i64 g,.pointer (some ⟨gb,n,none⟩),.slice (some ⟨b0,off,none⟩) m.length cb,.slice (some ⟨b0,off+1,none⟩) (m.length-1) (cb-1),.func (.func 200) #[] #[.pointer (some ⟨Z.heap.size,0,none⟩)],.int .i64 (x.1:Int),.int .i64 (f x.1),undef,undef,undef,undef,undef,undef],defers:=[] }) ?assign ?body ?done ?stop
 case assign =>
  intro l x W K hK
  gi_wp2
  exact hK
 case stop =>
  rintro D c pre W hD hp hf
  exact hf.elim
 case body =>
  rintro l pre x W ⟨⟨⟨v,bx,own,-⟩,hsz⟩,hB⟩ _
  have HX:Hid (x.1<m.length-1):=x.2
  obtain⟨p1,p2⟩:=HFI.out x.1 x.2
  obtain⟨z,hz⟩:∃z,f x.1=z:=⟨_,rfl⟩
  obtain⟨X,hX⟩:∃X,foP (L.set n g) (pre.map (fun x=>f x.1))=X:=⟨_,rfl⟩
  have HXL:Hid (X.length<=1000):=by show _<=_;rw[<-hX];have:=zuw (pre.map (fun x=>f x.1)) (L.set n g);rw[List.length_set]at this;omega
  have HX2:Hid (foP (L.set n g) ((pre++[x]).map (fun x=>f x.1))=puL X z (z+1) []):=by show _=_;rw[List.map_append,List.map_cons,List.map_nil,zqv,hX,hz]
  have hXi:∀z∈X,I64 z:=by rw[<-hX];exact zqu _ _ HLZ.out
  rw[hz]at p1 p2 ⊢;rw[hX]at own
  have hio:Io w.heap.size W v X:=⟨hXi,own⟩
  obtain⟨xa,xc,rfl,hgr⟩:=hio.grL (S:=fun _=>True)
  have hput:Calls Tryz.prog 126 #[.slice xa X.length xc,.int .i64 z,.int .i64 (z+1),.slice none 0 0] W fun e w'=>PutA X z (z+1) [] W.heap.size w' e/\Below W.heap.size W w' :=
   zl8 (fun _=>True) (fun _=>True) xa xc X z (z+1) none 0 [] W hgr (Gr.nil _ _ _ _ _ (Nat.zero_le _) (fun _=>rfl)) ⟨by omega,by omega⟩ ⟨by omega,by omega⟩ HXL.out (by simp)
  have cR:=bx.cell
  have HBX:Hid (Boxed W u.heap.size 37 (.slice xa X.length xc)):=bx
  clear hz hX hXi own hio hgr bx
  gi_wp2_with (refine⟨trivial,?_⟩;gi_at_call 126;refine(CallsIn.inRound l (callsIn_wide.2 hput)).mono ?_)
  rintro e u2 ⟨⟨v2,rfl,hv2⟩,znk⟩
  obtain⟨x2a,x2c,rfl,-⟩:=hv2.io.grL (S:=fun _=>True)
  have bx2:=zco HBX.out znk
  have cR2:=bx2.cell
  have cF2:=bx2.frozen
  have hB2:=hB.trans (znk.mono hB.size)
  have HKE:Hid (KeepsOthers W u2):=zfp znk
  have hne:¬(u.heap.size=Z.heap.size\/u.heap.size=b0):=by omega
  have HKB:Hid (Keep (fun k=>k=Z.heap.size\/k=b0) W u2):=Keep.of_below znk (fun k hk=>by have:=hks k hk;omega)
  have HV2:Hid (Io w.heap.size (u2.setCell ⟨u.heap.size,0,none⟩ (.slice x2a (puL X z (z+1) []).length x2c)) (.slice x2a (puL X z (z+1) []).length x2c) (puL X z (z+1) [])):=((hv2.base (b2:=w.heap.size) hB.size).set (t:=37) (cs:=[_]) bx2 (by decide) 0 _).io
  have HBX2:Hid (Boxed u2 u.heap.size 37 (.slice xa X.length xc)):=bx2
  have hsz2:Z.heap.size+1<=u2.heap.size:=Nat.le_trans hsz znk.size
  obtain⟨Y,hY⟩:∃Y,puL X z (z+1) []=Y:=⟨_,rfl⟩
  rw[hY]at HV2 HX2 ⊢;clear hput znk hv2 bx2 cR hY hB hsz HBX
  gi_wp2
  refine⟨(HKE.out.trans (KeepsOthers.setCell _ _ _)).from _,HKB.out.setCell (p:=⟨u.heap.size,0,none⟩) hne _,⟨⟨⟨_,HBX2.out.set _,?_,trivial⟩,by simp[World.setCell];exact hsz2⟩,hB2.setCell (p:=⟨u.heap.size,0,none⟩) hwu _⟩⟩
  rw[HX2.out]
  exact HV2.out.2
 case done =>
  rintro D ys W hD hys ⟨⟨⟨v,bx,own,-⟩,hsz⟩,hB⟩ hK
  have HF:Hid (foP (L.set n g) (ys.map (fun x=>f x.1))=R):=by show _=_;rw[HTL.out ys hys,HJ.out]
  rw[HF.out]at own
  have HRI:Hid (∀z∈R,I64 z):=by rw[<-HF.out];exact zqu _ _ HLZ.out
  have hio:Io w.heap.size W v R:=⟨HRI.out,own⟩
  have HIO:Hid (Io w.heap.size W v R):=hio
  obtain⟨xa,xc,rfl,hgr⟩:=hio.grL (S:=fun _=>True)
  have cR:=bx.cell
  clear own hys hio hgr;go_wp2
  refine⟨by simp,.inl ⟨_,_,rfl,run_takeDeferred hK,?_⟩⟩
  have hgrow:=grownBy_putObj' W D (.deferred none)
  have hW2:Io w.heap.size (W.putObj D (.deferred none)) (.slice xa R.length xc) R:=by
   refine⟨HRI.out,HIO.out.2.kept hgrow ?_⟩
   rcases HIO.out.2.2 with ⟨e,_⟩|⟨g2,cap2,cur,e,_,hg2,_⟩
   . exact .inl (by rw[e];rfl)
   . refine .inr (fun e2=>?_)
     rw[e]at e2
     have e3:g2=D:=by simpa [Value.ownBlock] using e2
     rw[e3,hK]at hg2
     cases hg2
  obtain⟨ya,yc,e2,hgr⟩:=hW2.grL (S:=fun _=>True)
  refine⟨.slice xa R.length xc,?_,⟨ya,yc,by rw[e2],hgr⟩,hB.trans (belowK_b (w:=w) (Nat.le_refl _) W D _ _ (by omega) hK rfl rfl)⟩
  simp[results,Tryz.f124,go_sem]
def SlU:El (Int×Int):=El.int.cat El.int
theorem zei{S:Nat->Prop}{w:World}{vs:List Value}{a:Int×Int}:SlU.rep S w vs a↔vs=[.int .i64 a.1,.int .i64 a.2]/\I64 a.1/\I64 a.2:=by
 constructor
 . rintro ⟨us,ts,rfl,⟨rfl,h1⟩,⟨rfl,h2⟩⟩
   exact⟨rfl,h1,h2⟩
 . rintro ⟨rfl,h1,h2⟩
   exact⟨[_],[_],rfl,⟨rfl,h1⟩,⟨rfl,h2⟩⟩
def RuE:El Ru:=(El.int.row.cat (El.int.row.cat (El.int.cat (El.int.cat (SlU.cat (SlU.cat SlU)))))).via (fun r=>(r.inn,r.out,r.ap,r.lk,r.x,r.y,r.w)) Ru.none
def LkE:El Lk:=(El.int.cat (El.bool.cat RuE.row)).via (fun x=>(x.kd,x.sk,x.rs)) Lk.none
def ruV(a:Option Addr)(ca:Nat)(b:Option Addr)(cb:Nat)(r:Ru):List Value:=[.slice a r.inn.length ca,.slice b r.out.length cb,.int .i64 r.ap,.int .i64 r.lk,.int .i64 r.x.1,.int .i64 r.x.2,.int .i64 r.y.1,.int .i64 r.y.2,.int .i64 r.w.1,.int .i64 r.w.2]
def RuI(r:Ru):Prop:=I64 r.ap/\I64 r.lk/\(I64 r.x.1/\I64 r.x.2)/\(I64 r.y.1/\I64 r.y.2)/\(I64 r.w.1/\I64 r.w.2)
theorem zxe{S:Nat->Prop}{w:World}{vs:List Value}{r:Ru}:RuE.rep S w vs r ↔ ∃a ca b cb,vs=ruV a ca b cb r/\El.int.row.rep S w [.slice a r.inn.length ca] r.inn/\El.int.row.rep S w [.slice b r.out.length cb] r.out/\RuI r:=by
 constructor
 . rintro ⟨us,ts,rfl,h1,us2,ts2,rfl,h2,us3,ts3,rfl,⟨rfl,h3⟩,us4,ts4,rfl,⟨rfl,h4⟩,us5,ts5,rfl,h5,us6,ts6,rfl,h6,h7⟩
   have r1:=h1
   obtain⟨a,ca,e1,_⟩:=h1
   have r2:=h2
   obtain⟨b,cb,e2,_⟩:=h2
   obtain⟨rfl,k5⟩:=zei.1 h5
   obtain⟨rfl,k6⟩:=zei.1 h6
   obtain⟨rfl,k7⟩:=zei.1 h7
   subst e1 e2
   exact⟨a,ca,b,cb,rfl,r1,r2,h3,h4,k5,k6,k7⟩
 . rintro ⟨a,ca,b,cb,rfl,h1,h2,h3,h4,h5,h6,h7⟩
   exact⟨_,_,rfl,h1,_,_,rfl,h2,[.int .i64 r.ap],_,rfl,⟨rfl,h3⟩,[.int .i64 r.lk],_,rfl,⟨rfl,h4⟩,[.int .i64 r.x.1,.int .i64 r.x.2],_,rfl,zei.2 ⟨rfl,h5⟩,[.int .i64 r.y.1,.int .i64 r.y.2],[.int .i64 r.w.1,.int .i64 r.w.2],rfl,zei.2 ⟨rfl,h6⟩,zei.2 ⟨rfl,h7⟩⟩
theorem zxf{S:Nat->Prop}{w:World}{vs:List Value}{x:Lk}:LkE.rep S w vs x ↔ ∃a c,vs=[.int .i64 x.kd,.bool x.sk,.slice a x.rs.length c]/\I64 x.kd/\RuE.row.rep S w [.slice a x.rs.length c] x.rs:=by
 constructor
 . rintro ⟨us,ts,rfl,⟨rfl,h1⟩,us2,ts2,rfl,h2,h3⟩
   have e2:us2=[.bool x.sk]:=h2
   subst e2
   have r3:=h3
   obtain⟨a,c,e,_⟩:=h3;subst e
   exact⟨a,c,rfl,h1,r3⟩
 . rintro ⟨a,c,rfl,h1,h2⟩
   exact⟨[_],_,rfl,⟨rfl,h1⟩,[.bool x.sk],_,rfl,rfl,h2⟩
theorem zg5{α:Type}{E:El α}{S:Nat->Prop}{w:World}{a:Option Addr}{c:Nat}{l:List α}(h:E.row.rep S w [.slice a l.length c] l):Gr E S w a c l/\l.length<=140737488351232:=by
 obtain⟨a',c',e,_,h1,h2⟩:=h;injection e with e;injection e with e1 e2 e3;subst e1 e3
 exact⟨h1,h2⟩
theorem Gr.ru{S:Nat->Prop}{w wr:World}{a:Option Addr}{cap:Nat}{l:List Ru}(h:Gr RuE S w a cap l)(hb:Below w.heap.size w wr)(k:Nat)(hk:k<l.length) :
 ∃b off a1 c1 a2 c2,a=some ⟨b,off,none⟩/\b<w.heap.size/\RuI (l.getD k Ru.none)/\Gr El.int S wr a1 c1 (l.getD k Ru.none).inn/\Gr El.int S wr a2 c2 (l.getD k Ru.none).out/\∀j,j<10->wr.cell? ⟨b,off+k*10+j,none⟩=(ruV a1 c1 a2 c2 (l.getD k Ru.none))[j]?:=by
 obtain⟨b,off,vs,e,hl,hr,hc⟩:=h.at hb k hk
 obtain⟨a1,c1,a2,c2,rfl,h1,h2,h3⟩:=zxe.1 hr
 exact⟨b,off,a1,c1,a2,c2,e,hl,h3,(zg5 h1).1,(zg5 h2).1,fun j hj=>hc j hj⟩
theorem Gr.lk{S:Nat->Prop}{w wr:World}{a:Option Addr}{cap:Nat}{l:List Lk}(h:Gr LkE S w a cap l)(hb:Below w.heap.size w wr)(k:Nat)(hk:k<l.length) :
 ∃b off a1 c1,a=some ⟨b,off,none⟩/\b<w.heap.size/\I64 (l.getD k Lk.none).kd/\Gr RuE S wr a1 c1 (l.getD k Lk.none).rs/\wr.cell? ⟨b,off+k*3,none⟩=some (.int .i64 (l.getD k Lk.none).kd)/\wr.cell? ⟨b,off+k*3+1,none⟩=some (.bool (l.getD k Lk.none).sk)/\wr.cell? ⟨b,off+k*3+2,none⟩=some (.slice a1 (l.getD k Lk.none).rs.length c1):=by
 obtain⟨b,off,vs,e,hl,hr,hc⟩:=h.at hb k hk
 obtain⟨a1,c1,rfl,h1,h2⟩:=zxf.1 hr
 exact⟨b,off,a1,c1,e,hl,h1,(zg5 h2).1,hc 0 (by decide),hc 1 (by decide),hc 2 (by decide)⟩
theorem Bk.ru{t:TypeId}{w:World}{g:Nat}{a:Option Addr}{ca:Nat}{b:Option Addr}{cb:Nat}{r:Ru}(h:Bk t w g (ruV a ca b cb r)) :
 w.cell? ⟨g,0,none⟩=some (.slice a r.inn.length ca)/\w.cell? ⟨g,1,none⟩=some (.slice b r.out.length cb)/\w.cell? ⟨g,2,none⟩=some (.int .i64 r.ap)/\w.cell? ⟨g,3,none⟩=some (.int .i64 r.lk)/\w.cell? ⟨g,4,none⟩=some (.int .i64 r.x.1)/\w.cell? ⟨g,5,none⟩=some (.int .i64 r.x.2)/\w.cell? ⟨g,6,none⟩=some (.int .i64 r.y.1)/\w.cell? ⟨g,7,none⟩=some (.int .i64 r.y.2)/\w.cell? ⟨g,8,none⟩=some (.int .i64 r.w.1)/\w.cell? ⟨g,9,none⟩=some (.int .i64 r.w.2) :=
 ⟨h.cell 0 (by simp[ruV]),h.cell 1 (by simp[ruV]),h.cell 2 (by simp[ruV]),h.cell 3 (by simp[ruV]),h.cell 4 (by simp[ruV]),h.cell 5 (by simp[ruV]),h.cell 6 (by simp[ruV]),h.cell 7 (by simp[ruV]),h.cell 8 (by simp[ruV]),h.cell 9 (by simp[ruV])⟩
theorem zmi{l:List Int}{g:Int}{k:Nat}(hk:k<l.length)(h:gyB g (l.getD k 0)=false):l.all (gyB g)=false:=by
 cases hf:l.all (gyB g) with
 | false=>rfl
 | true =>
  rw[List.all_eq_true]at hf
  have:=hf (l.getD k 0) (by rw[List.getD_eq_getElem?_getD,List.getElem?_eq_getElem hk];exact List.getElem_mem hk)
  rw[h]at this
  cases this
theorem zhy{l:List Int}{g:Int}(h:∀k,k<l.length->gyB g (l.getD k 0)=true):l.all (gyB g)=true:=by
 rw[List.all_eq_true]
 intro z hz
 obtain⟨k,hk,e⟩:=List.getElem_of_mem hz
 have:=h k hk
 rw[List.getD_eq_getElem?_getD,List.getElem?_eq_getElem hk,Option.getD_some,e]at this
 exact this
theorem zcb{w:World}{b p:Nat}{v:Value}(h:w.cell? ⟨b,p,none⟩=some v):b<w.heap.size:=by
 by_cases hb:b<w.heap.size
 . exact hb
 . unfold World.cell? at h
   rw[Array.getElem?_eq_none (show w.heap.size<=b by omega)]at h
   simp at h
theorem Gr.ru10{S:Nat->Prop}{w wr:World}{a:Option Addr}{cap:Nat}{l:List Ru}(h:Gr RuE S w a cap l)(hb:Below w.heap.size w wr)(k:Nat)(hk:k<l.length) :
 ∃b off a1 c1 a2 c2,a=some ⟨b,off,none⟩/\b<w.heap.size/\RuI (l.getD k Ru.none)/\Gr El.int S wr a1 c1 (l.getD k Ru.none).inn/\Gr El.int S wr a2 c2 (l.getD k Ru.none).out /\
     (wr.cell? ⟨b,off+k*10,none⟩=some (.slice a1 (l.getD k Ru.none).inn.length c1)/\wr.cell? ⟨b,off+k*10+1,none⟩=some (.slice a2 (l.getD k Ru.none).out.length c2)/\wr.cell? ⟨b,off+k*10+2,none⟩=some (.int .i64 (l.getD k Ru.none).ap)/\wr.cell? ⟨b,off+k*10+3,none⟩=some (.int .i64 (l.getD k Ru.none).lk) /\
      wr.cell? ⟨b,off+k*10+4,none⟩=some (.int .i64 (l.getD k Ru.none).x.1)/\wr.cell? ⟨b,off+k*10+5,none⟩=some (.int .i64 (l.getD k Ru.none).x.2)/\wr.cell? ⟨b,off+k*10+6,none⟩=some (.int .i64 (l.getD k Ru.none).y.1)/\wr.cell? ⟨b,off+k*10+7,none⟩=some (.int .i64 (l.getD k Ru.none).y.2) /\
      wr.cell? ⟨b,off+k*10+8,none⟩=some (.int .i64 (l.getD k Ru.none).w.1)/\wr.cell? ⟨b,off+k*10+9,none⟩=some (.int .i64 (l.getD k Ru.none).w.2)):=by
 obtain⟨b,off,a1,c1,a2,c2,e,hlt,hI,h1,h2,hc⟩:=h.ru hb k hk
 exact⟨b,off,a1,c1,a2,c2,e,hlt,hI,h1,h2,hc 0 (by decide),hc 1 (by decide),hc 2 (by decide),hc 3 (by decide),hc 4 (by decide),hc 5 (by decide),hc 6 (by decide),hc 7 (by decide),hc 8 (by decide),hc 9 (by decide)⟩
theorem Gr.lkAll{S:Nat->Prop}{w:World}{a:Option Addr}{cap:Nat}{l:List Lk}(h:Gr LkE S w a cap l)(k:Nat)(hk:k<l.length) :
 ∃b off a1 c1,a=some ⟨b,off,none⟩/\I64 (l.getD k Lk.none).kd/\∀u,Below w.heap.size w u->Gr RuE S u a1 c1 (l.getD k Lk.none).rs/\u.cell? ⟨b,off+k*3,none⟩=some (.int .i64 (l.getD k Lk.none).kd)/\u.cell? ⟨b,off+k*3+1,none⟩=some (.bool (l.getD k Lk.none).sk)/\u.cell? ⟨b,off+k*3+2,none⟩=some (.slice a1 (l.getD k Lk.none).rs.length c1):=by
 obtain⟨b,off,a1,c1,e,hb,hi,hr,d0,d1,d2⟩:=h.lk (Below.refl _ _) k hk
 exact⟨b,off,a1,c1,e,hi,fun u hu=>⟨hr.below hu,(hu.cell (p:=⟨b,off+k*3,none⟩) hb).trans d0,(hu.cell (p:=⟨b,off+k*3+1,none⟩) hb).trans d1,(hu.cell (p:=⟨b,off+k*3+2,none⟩) hb).trans d2⟩⟩
theorem zg9(z:Int)(w:World)(hz:I64 z) :
 Calls Tryz.prog 69 #[.int .i64 z] w fun e w'=>e=.returned (.bool (puB z))/\w=w':=by
 by_cases h0:1<=z
 rotate_left
 . have HF:Hid (puB z=false):=by show _=_;unfold puB;rw[decide_eq_false h0];rfl
   have g0:decide (1<=z)=false:=decide_eq_false h0
   clear h0
   go_enter Tryz.func69,Tryz.ntmps69
   go_wp2
   go_ret
   exact⟨zaa HF.out.symm,rfl⟩
 have g0:decide (1<=z)=true:=decide_eq_true h0
 have HF:Hid (puB z=decide (z<=4)):=by show _=_;unfold puB;rw[g0];rfl
 obtain⟨q,hq⟩:∃q,decide (z<=4)=q:=⟨_,rfl⟩
 rw[hq]at HF;clear h0
 go_enter Tryz.func69,Tryz.ntmps69
 go_wp2
 go_ret
 exact⟨zaa HF.out.symm,rfl⟩
def isLk(n:Nat)(z:Int):Bool:=decide (0<=z)&&decide (z<(n:Int))
theorem ze3{n:Nat}{z:Int}:isLk n z=true↔0<=z/\z<(n:Int):=by unfold isLk;rw[Bool.and_eq_true,decide_eq_true_iff,decide_eq_true_iff]
theorem zka{n:Nat}{z:Int}(h:¬(0<=z/\z<(n:Int))):isLk n z=false:=by
 cases hp:isLk n z with
 | false=>rfl
 | true=>exact absurd (ze3.1 hp) h
theorem zef(a:Option Addr)(n c:Nat)(z:Int)(w:World)(hz:I64 z)(hn:n<=9223372036854775807) :
 Calls Tryz.prog 91 #[.slice a n c,.int .i64 z] w fun e w'=>e=.returned (.bool (isLk n z))/\w=w':=by
 by_cases h0:0<=z
 rotate_left
 . have HF:Hid (isLk n z=false):=by show _=_;unfold isLk;rw[decide_eq_false h0];rfl
   have g0:decide (0<=z)=false:=decide_eq_false h0
   clear h0
   go_enter Tryz.func91,Tryz.ntmps91
   go_wp2
   go_ret
   exact⟨zaa HF.out.symm,rfl⟩
 have g0:decide (0<=z)=true:=decide_eq_true h0
 have HF:Hid (isLk n z=decide (z<(n:Int))):=by show _=_;unfold isLk;rw[g0];rfl
 obtain⟨q,hq⟩:∃q,decide (z<(n:Int))=q:=⟨_,rfl⟩
 rw[hq]at HF;clear h0
 go_enter Tryz.func91,Tryz.ntmps91
 go_wp2
 go_ret
 exact⟨zaa HF.out.symm,rfl⟩
theorem zmh(a:Option Addr)(ca:Nat)(xs:List Int)(g:Int)(w:World)(h:Ri w a ca xs)(hg:I64 g) :
 Calls Tryz.prog 139 #[.slice a xs.length ca,.int .i64 g] w fun e w'=>e=.returned (.bool (xs.all (gyB g)))/\Below w.heap.size w w':=by
 have kl:=h.lenB
 have HH:Hid (Ri w a ca xs):=h
 clear h
 go_enter Tryz.func139,Tryz.ntmps139
 go_wp2
 go_loopw [9] (fun i wr=>∃k:Nat,k<=xs.length/\i=.int .i64 k/\Hid (∀j,j<k->gyB g (xs.getD j 0)=true)/\Below w.heap.size w wr) (fun i _=>xs.length-(intOf i).toNat)
 case atStart=>exact⟨0,Nat.zero_le _,rfl,(fun j hj=>by omega),Below.refl _ _⟩
 case round =>
  obtain⟨k,hk,rfl,HOK,hB⟩:=hrel
  by_cases hkn:k<xs.length
  . obtain⟨b,off,rfl,hb,c0⟩:=HH.out.at hB k hkn
    have zav:Hid (gyB g (xs.getD k 0)=false->xs.all (gyB g)=false):=zmi hkn
    obtain⟨x,hx⟩:∃x,xs.getD k 0=x:=⟨_,rfl⟩
    have HXX:Hid (xs.getD k 0=x):=hx
    rw[hx]at c0 zav;clear hx
    have i1:(0:Int)<=(k:Int):=by omega
    have i2:(k:Int)<(xs.length:Int):=by omega
    by_cases x0:x<0
    . have d0:decide (x<0)=true:=decide_eq_true x0
      have HF:Hid (xs.all (gyB g)=false):=zav.out (by unfold gyB;rw[decide_eq_false (by omega)];rfl)
      clear x0 zav HOK;go_wp2
      go_ret
      exact⟨zaa HF.out.symm,hB⟩
    have d0:decide (x<0)=false:=decide_eq_false x0
    by_cases x1:g<=x
    . have d1:decide (g<=x)=true:=decide_eq_true x1
      have HF:Hid (xs.all (gyB g)=false):=zav.out (by unfold gyB;rw[decide_eq_false (show ¬x<g by omega),Bool.and_false])
      clear x0 x1 zav HOK;go_wp2
      go_ret
      exact⟨zaa HF.out.symm,hB⟩
    have d1:decide (g<=x)=false:=decide_eq_false x1
    have za9:Hid (∀j,j<k+1->gyB g (xs.getD j 0)=true):=fun j hj=>by
     rcases Nat.lt_or_ge j k with h1|h1
     . exact HOK.out j h1
     . rw[show j=k by omega,HXX.out];exact zdg.2 ⟨by omega,by omega⟩
    clear x0 x1 zav HOK HXX;go_wp2
    go_roundw
    case rel=>exact⟨k+1,by omega,by go_num,za9,hB⟩
    case measure=>simp[intOf];omega
  . have HF:Hid (xs.all (gyB g)=true):=zhy (fun j hj=>HOK.out j (by omega))
    have g4:¬(k:Int)<(xs.length:Int):=by omega
    clear HOK;go_wp2
    go_ret
    exact⟨zaa HF.out.symm,hB⟩
theorem zfd(z:Int)(w:World)(hz:I64 z) :
 Calls Tryz.prog 73 #[.int .i64 z] w fun e w'=>e=.returned (.bool (puB z))/\w=w':=by
 by_cases h1:z=1
 . subst h1
   go_enter Tryz.func73,Tryz.ntmps73
   go_wp2
   go_ret
   exact⟨rfl,rfl⟩
 by_cases h2:z=2
 . subst h2
   go_enter Tryz.func73,Tryz.ntmps73
   go_wp2
   go_ret
   exact⟨rfl,rfl⟩
 by_cases h3:z=3
 . subst h3
   go_enter Tryz.func73,Tryz.ntmps73
   go_wp2
   go_ret
   exact⟨rfl,rfl⟩
 by_cases h4:z=4
 . subst h4
   go_enter Tryz.func73,Tryz.ntmps73
   go_wp2
   go_ret
   exact⟨rfl,rfl⟩
 have HF:Hid (puB z=false):=by
  show _=_
  cases hp:puB z with
  | false=>rfl
  | true=>have:=zha.1 hp;omega
 have g1:(z==1)=false:=beq_eq_false_iff_ne.2 h1
 have g2:(z==2)=false:=beq_eq_false_iff_ne.2 h2
 have g3:(z==3)=false:=beq_eq_false_iff_ne.2 h3
 have g4:(z==4)=false:=beq_eq_false_iff_ne.2 h4
 clear h1 h2 h3 h4
 go_enter Tryz.func73,Tryz.ntmps73
 go_wp2
 go_ret
 exact⟨zaa HF.out.symm,rfl⟩
theorem zif(a:Option Addr)(ca:Nat)(xs:List Int)(g:Int)(p q:Nat)(w:World)(h:Ri w a ca xs)(hg:I64 g) :
 Calls Tryz.prog 107 #[.slice a xs.length ca,.int .i64 g,.int .i64 p,.int .i64 q] w fun e w'=>e=.returned (.bool (alB xs g p q))/\Below w.heap.size w w':=by
 have kl:=h.lenB
 have HH:Hid (Ri w a ca xs):=h
 clear h
 go_enter Tryz.func107,Tryz.ntmps107
 go_wp2
 go_loopw [9] (fun i wr=>∃k:Nat,k<=xs.length/\i=.int .i64 k/\Hid (∀j,j<k->gyB g (xs.getD j 0)=true)/\Below w.heap.size w wr) (fun i _=>xs.length-(intOf i).toNat)
 case atStart=>exact⟨0,Nat.zero_le _,rfl,(fun j hj=>by omega),Below.refl _ _⟩
 case round =>
  obtain⟨k,hk,rfl,HOK,hB⟩:=hrel
  by_cases hkn:k<xs.length
  . obtain⟨b,off,rfl,hb,c0⟩:=HH.out.at hB k hkn
    have zav:Hid (gyB g (xs.getD k 0)=false->alB xs g p q=false):=fun h1=>by unfold alB;rw[zmi hkn h1];rfl
    obtain⟨x,hx⟩:∃x,xs.getD k 0=x:=⟨_,rfl⟩
    have HXX:Hid (xs.getD k 0=x):=hx
    rw[hx]at c0 zav;clear hx
    have i1:(0:Int)<=(k:Int):=by omega
    have i2:(k:Int)<(xs.length:Int):=by omega
    by_cases x0:x<0
    . have d0:decide (x<0)=true:=decide_eq_true x0
      have HF:Hid (alB xs g p q=false):=zav.out (by unfold gyB;rw[decide_eq_false (by omega)];rfl)
      clear x0 zav HOK;go_wp2
      go_ret
      exact⟨zaa HF.out.symm,hB⟩
    have d0:decide (x<0)=false:=decide_eq_false x0
    by_cases x1:g<=x
    . have d1:decide (g<=x)=true:=decide_eq_true x1
      have HF:Hid (alB xs g p q=false):=zav.out (by unfold gyB;rw[decide_eq_false (show ¬x<g by omega),Bool.and_false])
      clear x0 x1 zav HOK;go_wp2
      go_ret
      exact⟨zaa HF.out.symm,hB⟩
    have d1:decide (g<=x)=false:=decide_eq_false x1
    have za9:Hid (∀j,j<k+1->gyB g (xs.getD j 0)=true):=fun j hj=>by
     rcases Nat.lt_or_ge j k with h1|h1
     . exact HOK.out j h1
     . rw[show j=k by omega,HXX.out];exact zdg.2 ⟨by omega,by omega⟩
    clear x0 x1 zav HOK HXX;go_wp2
    go_roundw
    case rel=>exact⟨k+1,by omega,by go_num,za9,hB⟩
    case measure=>simp[intOf];omega
  . have g4:¬(k:Int)<(xs.length:Int):=by omega
    have e1:decide ((p:Int)<=(xs.length:Int))=decide (p<=xs.length):=by rw[Bool.eq_iff_iff,decide_eq_true_iff,decide_eq_true_iff];omega
    have e2:decide ((xs.length:Int)<=(q:Int))=decide (xs.length<=q):=by rw[Bool.eq_iff_iff,decide_eq_true_iff,decide_eq_true_iff];omega
    have HF:Hid (alB xs g p q=(decide (p<=xs.length)&&decide (xs.length<=q))):=by
     show _=_
     unfold alB
     rw[zhy (fun j hj=>HOK.out j (by omega)),Bool.true_and]
    clear HOK
    by_cases f1:p<=xs.length
    . have d1:decide (p<=xs.length)=true:=decide_eq_true f1
      rw[d1,Bool.true_and]at HF
      obtain⟨z,hz⟩:∃z,decide (xs.length<=q)=z:=⟨_,rfl⟩
      rw[hz]at HF e2;clear f1;go_wp2
      go_ret
      exact⟨zaa HF.out.symm,hB⟩
    . have d1:decide (p<=xs.length)=false:=decide_eq_false f1
      rw[d1,Bool.false_and]at HF;clear f1;go_wp2
      go_ret
      exact⟨zaa HF.out.symm,hB⟩
def reB(l:List Lk)(kd:Int)(r:Ru):Bool :=
 zsB r&&(if kd=4 then (decide (0<=r.ap)&&decide (r.ap<(r.inn.length:Int)))&&(isLk l.length r.lk&&puB (l.getD r.lk.toNat Lk.none).kd)else decide (r.ap=0)&&decide (r.lk=0))
def lsB(p q s t:Nat)(r:Ru)(g:Int):Bool:=((decide (p<=r.inn.length)&&decide (r.inn.length<=q))&&(decide (s<=r.out.length)&&decide (r.out.length<=t)))&&(r.inn.all (gyB g)&&r.out.all (gyB g))
def spN:List Nat:=[0,0,0,0,1,1,1,1,1,1,0,8,2,8,1,1,1,8,0,0]
theorem zxz{l:List Lk}{kd:Nat}{r:Ru}{g:Int}(h1:1<=kd)(h4:kd<=4):ruB l (kd:Int) r g=(lsB (spN.getD (kd*4) 0) (spN.getD (kd*4+1) 0) (spN.getD (kd*4+2) 0) (spN.getD (kd*4+3) 0) r g&&reB l (kd:Int) r):=by
 have hk:kd=1\/kd=2\/kd=3\/kd=4:=by omega
 rw[Bool.eq_iff_iff]
 unfold ruB reB lsB cxB isLk alB
 rcases hk with rfl|rfl|rfl|rfl
 . simp[spN]
   constructor
   . rintro ⟨h1,⟨h2,h3⟩,⟨h4,h5,h6⟩,h7,h8,h9⟩
     exact⟨⟨⟨⟨h5,h6⟩,h8,h9⟩,h4,h7⟩,h1,h2,h3⟩
   . rintro ⟨⟨⟨⟨h5,h6⟩,h8,h9⟩,h4,h7⟩,h1,h2,h3⟩
     exact⟨h1,⟨h2,h3⟩,⟨h4,h5,h6⟩,h7,h8,h9⟩
 . simp[spN]
   constructor
   . rintro ⟨h1,⟨h2,h3⟩,⟨h4,h5,h6⟩,h7,h9⟩
     exact⟨⟨⟨⟨h5,h6⟩,h9⟩,h4,h7⟩,h1,h2,h3⟩
   . rintro ⟨⟨⟨⟨h5,h6⟩,h9⟩,h4,h7⟩,h1,h2,h3⟩
     exact⟨h1,⟨h2,h3⟩,⟨h4,h5,h6⟩,h7,h9⟩
 . simp[spN]
   constructor
   . rintro ⟨h1,⟨h2,h3⟩,⟨h4,h5,h6⟩,h7,h8,h9⟩
     exact⟨⟨⟨⟨h5,h6⟩,h8,h9⟩,h4,h7⟩,h1,h2,h3⟩
   . rintro ⟨⟨⟨⟨h5,h6⟩,h8,h9⟩,h4,h7⟩,h1,h2,h3⟩
     exact⟨h1,⟨h2,h3⟩,⟨h4,h5,h6⟩,h7,h8,h9⟩
 . simp[spN]
   constructor
   . rintro ⟨h1,⟨h4,h5,h6⟩,h7,h8,h9,ha,hb,hc⟩
     exact⟨⟨⟨⟨h5,h6⟩,h7⟩,h4,(by rw[h7];simp)⟩,h1,⟨h8,h9⟩,⟨ha,hb⟩,hc⟩
   . rintro ⟨⟨⟨⟨h5,h6⟩,h7⟩,h4,_⟩,h1,⟨h8,h9⟩,⟨ha,hb⟩,hc⟩
     exact⟨h1,⟨h4,h5,h6⟩,h7,h8,h9,ha,hb,hc⟩
theorem zs_no{r:Ru}(h:¬(r.x=(0,0)/\r.y=(0,0)/\r.w=(0,0))){l:List Lk}{kd:Int}:reB l kd r=false:=by
 unfold reB
 cases hz:zsB r with
 | false=>rfl
 | true =>
  unfold zsB at hz
  simp only[Bool.and_eq_true,decide_eq_true_iff]at hz
  exact absurd hz h
theorem ztx{r:Ru}(h:r.x=(0,0)/\r.y=(0,0)/\r.w=(0,0)):zsB r=true:=by
 unfold zsB
 simp only[Bool.and_eq_true,decide_eq_true_iff]
 exact h
theorem zo0(S:Nat->Prop)(a:Option Addr)(ca:Nat)(l:List Lk)(kd:Int)(a1:Option Addr)(c1:Nat)(a2:Option Addr)(c2:Nat)(inn out:List Int)(ap lk x1 x2 y1 y2 w1 w2:Int)(w:World)
    (hl:Gr LkE S w a ca l) (hk:I64 kd) (hap:I64 ap) (hlk:I64 lk) (kin:inn.length<=9223372036854775807) :
    Calls Tryz.prog 104 #[.slice a l.length ca,.int .i64 kd,.agg #[.slice a1 inn.length c1,.slice a2 out.length c2,.int .i64 ap,.int .i64 lk,.int .i64 x1,.int .i64 x2,.int .i64 y1,.int .i64 y2,.int .i64 w1,.int .i64 w2]] w fun e w' =>
     e=.returned (.bool (reB l kd ⟨inn,out,ap,lk,(x1,x2),(y1,y2),(w1,w2)⟩))/\Below w.heap.size w w':=by
 have kl:=hl.lenB
 obtain⟨W,hW,X1,X2,hbW⟩:∃W,W=(w.alloc (.cells #[.slice a1 inn.length c1,.slice a2 out.length c2,.int .i64 ap,.int .i64 lk,.int .i64 x1,.int .i64 x2,.int .i64 y1,.int .i64 y2,.int .i64 w1,.int .i64 w2] 131)).alloc (.cells #[.int .i64 0,.int .i64 0] 62)/\Bk 131 W w.heap.size (ruV a1 c1 a2 c2 ⟨inn,out,ap,lk,(x1,x2),(y1,y2),(w1,w2)⟩)/\Bk 62 W (w.heap.size+1) [.int .i64 0,.int .i64 0]/\Below w.heap.size w W:=⟨_,rfl,(Bk.new _ _ (ruV a1 c1 a2 c2 ⟨inn,out,ap,lk,(x1,x2),(y1,y2),(w1,w2)⟩)).below (bl1 _),Bk.new1 _ _ _ _,bl2 _ _⟩
 obtain⟨q0,q1,q2,q3,q4,q5,q6,q7,q8,q9⟩:=X1.ru;obtain⟨z0,z1,-⟩:=X2.two;dsimp only at q0 q1 q2 q3 q4 q5 q6 q7 q8 q9
 have HR:Hid (∀q,reB l kd ⟨inn,out,ap,lk,(x1,x2),(y1,y2),(w1,w2)⟩=q->reB l kd ⟨inn,out,ap,lk,(x1,x2),(y1,y2),(w1,w2)⟩=q):=fun _ h=>h
 have HNO:Hid (¬(((x1,x2):Int×Int)=(0,0)/\((y1,y2):Int×Int)=(0,0)/\((w1,w2):Int×Int)=(0,0))->reB l kd ⟨inn,out,ap,lk,(x1,x2),(y1,y2),(w1,w2)⟩=false):=fun h=>zs_no h
 clear X1 X2
 by_cases e1:x1=0
 rotate_left
 . have HF:Hid (_=false):=HNO.out (fun h=>e1 (congrArg Prod.fst h.1))
   clear hl
   go_enter Tryz.func104,Tryz.ntmps104
   go_upto_region 2 with fail
   rw[<-hW];clear hW HNO HR;go_wp2
   go_ret
   exact⟨zaa HF.out.symm,hbW⟩
 subst e1
 by_cases e2:x2=0
 rotate_left
 . have HF:Hid (_=false):=HNO.out (fun h=>e2 (congrArg Prod.snd h.1))
   clear hl
   go_enter Tryz.func104,Tryz.ntmps104
   go_upto_region 2 with fail
   rw[<-hW];clear hW HNO HR;go_wp2
   go_ret
   exact⟨zaa HF.out.symm,hbW⟩
 subst e2
 by_cases e3:y1=0
 rotate_left
 . have HF:Hid (_=false):=HNO.out (fun h=>e3 (congrArg Prod.fst h.2.1))
   clear hl
   go_enter Tryz.func104,Tryz.ntmps104
   go_upto_region 2 with fail
   rw[<-hW];clear hW HNO HR;go_wp2
   go_ret
   exact⟨zaa HF.out.symm,hbW⟩
 subst e3
 by_cases e4:y2=0
 rotate_left
 . have HF:Hid (_=false):=HNO.out (fun h=>e4 (congrArg Prod.snd h.2.1))
   clear hl
   go_enter Tryz.func104,Tryz.ntmps104
   go_upto_region 2 with fail
   rw[<-hW];clear hW HNO HR;go_wp2
   go_ret
   exact⟨zaa HF.out.symm,hbW⟩
 subst e4
 by_cases e5:w1=0
 rotate_left
 . have HF:Hid (_=false):=HNO.out (fun h=>e5 (congrArg Prod.fst h.2.2))
   clear hl
   go_enter Tryz.func104,Tryz.ntmps104
   go_upto_region 2 with fail
   rw[<-hW];clear hW HNO HR;go_wp2
   go_ret
   exact⟨zaa HF.out.symm,hbW⟩
 subst e5
 by_cases e6:w2=0
 rotate_left
 . have HF:Hid (_=false):=HNO.out (fun h=>e6 (congrArg Prod.snd h.2.2))
   clear hl
   go_enter Tryz.func104,Tryz.ntmps104
   go_upto_region 2 with fail
   rw[<-hW];clear hW HNO HR;go_wp2
   go_ret
   exact⟨zaa HF.out.symm,hbW⟩
 subst e6
 have HZ:Hid (reB l kd ⟨inn,out,ap,lk,(0,0),(0,0),(0,0)⟩=(if kd=4 then (decide (0<=ap)&&decide (ap<(inn.length:Int)))&&(isLk l.length lk&&puB (l.getD lk.toNat Lk.none).kd)else decide (ap=0)&&decide (lk=0))):=by
  show _=_
  unfold reB
  rw[ztx ⟨rfl,rfl,rfl⟩,Bool.true_and]
 clear HNO HR
 by_cases h4:kd=4
 rotate_left
 . have HF:Hid (reB l kd ⟨inn,out,ap,lk,(0,0),(0,0),(0,0)⟩=(decide (ap=0)&&decide (lk=0))):=by show _=_;rw[HZ.out,if_neg h4]
   have g4:(kd != 4)=true:=bne_iff_ne.2 h4
   clear HZ h4 hl
   by_cases hp:ap=0
   . subst hp
     obtain⟨q,hq⟩:∃q,(lk==0)=q:=⟨_,rfl⟩
     have hq2:decide (lk=0)=q:=hq
     rw[decide_eq_true rfl,Bool.true_and,hq2]at HF;clear hq2
     go_enter Tryz.func104,Tryz.ntmps104
     go_upto_region 2 with fail
     rw[<-hW];clear hW;go_wp2
     go_ret
     exact⟨zaa HF.out.symm,hbW⟩
   . have g5:(ap==0)=false:=beq_eq_false_iff_ne.2 hp
     rw[decide_eq_false hp,Bool.false_and]at HF;clear hp
     go_enter Tryz.func104,Tryz.ntmps104
     go_upto_region 2 with fail
     rw[<-hW];clear hW;go_wp2
     go_ret
     exact⟨zaa HF.out.symm,hbW⟩
 subst h4;rw[if_pos rfl]at HZ
 by_cases p1:0<=ap
 rotate_left
 . have HF:Hid (reB l 4 ⟨inn,out,ap,lk,(0,0),(0,0),(0,0)⟩=false):=by show _=_;rw[HZ.out,decide_eq_false p1];rfl
   have g5:decide (0<=ap)=false:=decide_eq_false p1
   clear HZ p1 hl
   go_enter Tryz.func104,Tryz.ntmps104
   go_upto_region 2 with fail
   rw[<-hW];clear hW;go_wp2
   go_ret
   exact⟨zaa HF.out.symm,hbW⟩
 have g5:decide (0<=ap)=true:=decide_eq_true p1
 by_cases p2:ap<(inn.length:Int)
 rotate_left
 . have HF:Hid (reB l 4 ⟨inn,out,ap,lk,(0,0),(0,0),(0,0)⟩=false):=by show _=_;rw[HZ.out,decide_eq_false p2,Bool.and_false];rfl
   have g6:decide (ap<(inn.length:Int))=false:=decide_eq_false p2
   clear HZ p1 p2 hl
   go_enter Tryz.func104,Tryz.ntmps104
   go_upto_region 2 with fail
   rw[<-hW];clear hW;go_wp2
   go_ret
   exact⟨zaa HF.out.symm,hbW⟩
 have g6:decide (ap<(inn.length:Int))=true:=decide_eq_true p2
 rw[g5,g6,Bool.and_self,Bool.true_and]at HZ
 have hil:=zef a l.length ca lk W hlk kl
 by_cases p3:0<=lk/\lk<(l.length:Int)
 rotate_left
 . rw[zka p3]at hil
   have HF:Hid (reB l 4 ⟨inn,out,ap,lk,(0,0),(0,0),(0,0)⟩=false):=by show _=_;rw[HZ.out,zka p3];rfl
   clear HZ p1 p2 p3 hl
   go_enter Tryz.func104,Tryz.ntmps104
   go_upto_region 2 with fail
   rw[<-hW];clear hW
   go_wp2_with fail
   refine hil.mono ?_
   rintro e u ⟨rfl,rfl⟩;clear hil;go_wp2
   go_ret
   exact⟨zaa HF.out.symm,hbW⟩
 rw[ze3.2 p3]at hil
 have HF:Hid (reB l 4 ⟨inn,out,ap,lk,(0,0),(0,0),(0,0)⟩=puB (l.getD lk.toNat Lk.none).kd):=by show _=_;rw[HZ.out,ze3.2 p3];rfl
 obtain⟨n,rfl⟩:∃n:Nat,lk=(n:Int):=⟨lk.toNat,by omega⟩
 rw[Int.toNat_natCast]at HF
 have hn:n<l.length:=by omega
 obtain⟨i1,i2⟩:=p3
 obtain⟨b,off,ra,rc,rfl,hb,hkd,-,d0,-,-⟩:=hl.lk hbW n hn
 obtain⟨z,hz⟩:∃z,(l.getD n Lk.none).kd=z:=⟨_,rfl⟩
 rw[hz]at hkd d0 HF
 have hpu:=zg9 z W hkd
 clear HZ p1 p2 hl hz
 go_enter Tryz.func104,Tryz.ntmps104
 go_upto_region 2 with fail
 rw[<-hW];clear hW
 go_wp2_with fail
 refine hil.mono ?_
 rintro e u ⟨rfl,rfl⟩;clear hil
 go_wp2_with fail
 refine hpu.mono ?_
 rintro e u ⟨rfl,rfl⟩;clear hpu;go_wp2
 go_ret
 exact⟨zaa HF.out.symm,hbW⟩
structure DuA(l:List Lk)(ms:List Bool)(n k:Nat)(L:List Int)(i:Int)(w':World)(e:Ending):Prop where
 out:∃a c,e=.returned (.tuple #[.slice a (duL l ms n k L i).length c,.int .i64 (duO l ms n k L i),.bool (duB l ms n k L i)])/\Gr El.int (fun _=>True) w' a c (duL l ms n k L i)
def DoC(l:List Lk)(ms:List Bool)(n:Nat):Prop:=∀(Sl Sm S:Nat->Prop) (la:Option Addr) (lc:Nat) (mb:Option Addr) (mc:Nat) (k:Nat) (a:Option Addr) (ca:Nat) (L:List Int) (i:Int) (w:World),
 Gr LkE Sl w la lc l->Gr El.bool Sm w mb mc ms->Gr El.int S w a ca L->k<l.length->puB (l.getD k Lk.none).kd=true->plB L i=true->L.length<=200 ->
 Calls Tryz.prog 92 #[.agg #[.slice la l.length lc,.slice mb ms.length mc],.int .i64 k,.slice a L.length ca,.int .i64 i,.int .i64 (8-(n:Int))] w fun e w'=>DuA l ms n k L i w' e/\Below w.heap.size w w'
structure WinA(o:List Int)(on:Int)(w':World)(e:Ending):Prop where
 out:∃a c,e=.returned (.tuple #[.slice a o.length c,.int .i64 on])/\Gr El.int (fun _=>True) w' a c o
theorem zja(l:List Lk)(ms:List Bool)(g:Int)(hf:foU l g=true)(n:Nat)(hn7:n<=7)(IH:∀n',n=n'+1->DoC l ms n')(Sl Sm S:Nat->Prop)(la:Option Addr)(lc:Nat)(mb:Option Addr)(mc:Nat)(a1:Option Addr)(c1:Nat)(a2:Option Addr)(c2:Nat)
    (inn out:List Int) (ap lk x1 x2 y1 y2 w1 w2:Int) (a:Option Addr) (ca:Nat) (L:List Int) (pa:Option Addr) (pc:Nat) (m:List Int) (sk:Bool) (i:Int) (A:List Int) (w:World)
    (hl:Gr LkE Sl w la lc l) (hms:Gr El.bool Sm w mb mc ms) (hL:Gr El.int S w a ca L) (hp:Ri w pa pc m) (hM:MeR ms L sk i A m) (hle:L.length<=200)
    (h1:0<=ap) (h2:ap<(m.length:Int)) (h3:0<=lk) (h4:lk<(l.length:Int)) (h5:puB (l.getD lk.toNat Lk.none).kd=true) :
    Calls Tryz.prog 125 #[.agg #[.slice la l.length lc,.slice mb ms.length mc],.agg #[.slice a1 inn.length c1,.slice a2 out.length c2,.int .i64 ap,.int .i64 lk,.int .i64 x1,.int .i64 x2,.int .i64 y1,.int .i64 y2,.int .i64 w1,.int .i64 w2],.slice a L.length ca,.slice pa m.length pc,.int .i64 (8-(n:Int))] w fun e w' =>
     WinA (inF l ms n L lk (m.getD ap.toNat 0)) (max (m.getD (m.length-1) 0+1+((inF l ms n L lk (m.getD ap.toNat 0)).length:Int)-(L.length:Int)) i) w' e/\Below w.heap.size w w':=by
 have kl:=hL.lenB
 have km:=hp.lenB
 have kll:=hl.lenB
 have zdf:=hM.pos
 have hpi:=zal.1 hM.pl
 have zcn:=hM.hi (k:=m.length-1) (by omega)
 have zfr:=hM.lo (k:=m.length-1) (by omega)
 have hmL:m.length<=L.length:=by
  have:=hM.hi zdf
  rw[hM.fst]at this
  omega
 obtain⟨p,rfl⟩:∃p:Nat,ap=(p:Int):=⟨ap.toNat,by omega⟩
 obtain⟨q,rfl⟩:∃q:Nat,lk=(q:Int):=⟨lk.toNat,by omega⟩
 rw[Int.toNat_natCast]at h5;rw[Int.toNat_natCast]
 have hpm:p<m.length:=by omega
 have hql:q<l.length:=by omega
 have hz:=hM.ok p hpm
 have hpl:plB L (m.getD p 0)=true:=by
  obtain⟨z,e,hz2,_⟩:=hz
  exact zal.2 ⟨by omega,by omega⟩
 obtain⟨pb,po,rfl,hpb,-⟩:=hp.at (Below.refl _ _) 0 zdf
 have zus:=hp.2.1
 have HPC:Hid (∀W,Below w.heap.size w W->W.cell? ⟨pb,po,none⟩=some (.int .i64 i)/\W.cell? ⟨pb,po+p,none⟩=some (.int .i64 (m.getD p 0))/\W.cell? ⟨pb,po+(m.length-1),none⟩=some (.int .i64 (m.getD (m.length-1) 0))):=fun W hW=>by
  obtain⟨b1,o1,e1,_,d1⟩:=hp.at hW 0 zdf
  cases e1
  obtain⟨b2,o2,e2,_,d2⟩:=hp.at hW p hpm
  cases e2
  obtain⟨b3,o3,e3,_,d3⟩:=hp.at hW (m.length-1) (by omega)
  cases e3
  rw[hM.fst,Nat.add_zero]at d1
  exact⟨d1,d2,d3⟩
 have hcl:=fun U (hU:Below w.heap.size w U)=>zbj S a ca L U (hL.below hU) (by omega)
 have hI0:I64 i:=⟨by omega,by omega⟩
 have hsub:(m.length:Int)-1=((m.length-1:Nat):Int):=by omega
 have hlt1:m.length-1<m.length:=by omega
 obtain⟨z,hzz⟩:∃z,m.getD p 0=z:=⟨_,rfl⟩
 obtain⟨t,ht⟩:∃t,m.getD (m.length-1) 0=t:=⟨_,rfl⟩
 rw[hzz,ht]at HPC;rw[hzz,ht];rw[hzz]at hpl;rw[ht]at zcn zfr
 have hlt:t<=200:=by omega
 have hlt0:0<=t:=by omega
 have i1:(0:Int)<=(p:Int):=by omega
 have i2:(p:Int)<(m.length:Int):=by omega
 have HLI:Hid (L.length<=200):=hle
 clear zcn zfr hz hzz ht hM
 obtain⟨uu,hu⟩:∃uu:Int,8-(n:Int)=uu:=⟨_,rfl⟩
 have HU:Hid (8-(n:Int)=uu):=hu
 rw[hu];clear hu
 obtain⟨W,hW,X1,X2,hbW⟩:∃W,W=(w.alloc (.cells #[.slice la l.length lc,.slice mb ms.length mc] 152)).alloc (.cells #[.slice a1 inn.length c1,.slice a2 out.length c2,.int .i64 (p:Int),.int .i64 (q:Int),.int .i64 x1,.int .i64 x2,.int .i64 y1,.int .i64 y2,.int .i64 w1,.int .i64 w2] 131)/\Bk 152 W w.heap.size [.slice la l.length lc,.slice mb ms.length mc]/\Bk 131 W (w.heap.size+1) (ruV a1 c1 a2 c2 ⟨inn,out,(p:Int),(q:Int),(x1,x2),(y1,y2),(w1,w2)⟩)/\Below w.heap.size w W:=⟨_,rfl,(Bk.new _ _ _).below (bl1 _),Bk.new1 _ _ _ (ruV a1 c1 a2 c2 ⟨inn,out,(p:Int),(q:Int),(x1,x2),(y1,y2),(w1,w2)⟩),bl2 _ _⟩
 have hcl0:=hcl W hbW
 go_enter Tryz.func125,Tryz.ntmps125
 go_upto_region 1 with fail
 rw[<-hW];clear hW hcl
 go_wp2_with fail
 refine hcl0.mono ?_
 rintro e u ⟨⟨v,rfl,hv⟩,hbu⟩
 obtain⟨va,vc,rfl,hvg⟩:=hv.io.grL (S:=fun _=>True)
 have hbU:=hbW.trans (hbu.mono hbW.size)
 clear hcl0 hv
 cases n with
 | zero =>
  have g8:¬uu<8:=by have:=HU.out;omega
  obtain⟨d0,-,d2⟩:=HPC.out u hbU
  have HV:Hid (∀U,Below u.heap.size u U->WinA (inF l ms 0 L (q:Int) z) (max (t+1+((inF l ms 0 L (q:Int) z).length:Int)-(L.length:Int)) i) U (.returned (.tuple #[.slice va L.length vc,.int .i64 (max i (t+1))]))):=fun U hU=>by
   refine⟨va,vc,?_,hvg.below hU⟩
   show _=Ending.returned (.tuple #[.slice va L.length vc,.int .i64 (max (t+1+(L.length:Int)-(L.length:Int)) i)])
   rw[show t+1+(L.length:Int)-(L.length:Int)=t+1 by omega,Int.max_comm]
  have w1:IntKind.i64.wrap (t+1+(L.length:Int))=t+1+(L.length:Int):=zbl (by omega) (by omega)
  have w2:IntKind.i64.wrap (t+1+(L.length:Int)-(L.length:Int))=t+1:=by rw[show t+1+(L.length:Int)-(L.length:Int)=t+1 by omega];exact zbl (by omega) (by omega)
  clear hvg HPC X1 X2;go_wp2
  go_quiet (fail)
  have hb2:Below u.heap.size u (u.drewN nq):=below_drewN (Below.refl _ _) _
  have zaf:=hbU.trans (hb2.mono hbU.size)
  have HV2:=HV.out _ hb2
  generalize u.drewN nq=uf at zaf HV2
  clear d0 d2 w1 w2 hb2;go_wp2
  go_ret2
  exact⟨HV2,zaf⟩
 | succ n =>
  have g8:uu<8:=by have:=HU.out;omega
  have w1:IntKind.i64.wrap (uu+1)=uu+1:=zbl (by have:=HU.out;omega) (by omega)
  have hdo:∀Z,Below w.heap.size w Z->Calls Tryz.prog 92 #[.agg #[.slice la l.length lc,.slice mb ms.length mc],.int .i64 q,.slice a L.length ca,.int .i64 z,.int .i64 (uu+1)] Z fun e w'=>DuA l ms n q L z w' e/\Below Z.heap.size Z w':=fun Z hZ=>by
   have h:=IH n rfl Sl Sm S la lc mb mc q a ca L z Z (hl.below hZ) (hms.below hZ) (hL.below hZ) hql h5 hpl hle
   rw[show(8:Int)-(n:Int)=uu+1 by have:=HU.out;omega]at h
   exact h
  have HDL:Hid (∀d,duF l ms n q L z=some d->d.1.length<=L.length+7):=fun d hd=>(du_f hf n q L z d hql h5 hpl hd).len
  have HO:Hid (inF l ms (n+1) L (q:Int) z=duL l ms n q L z):=by show duL l ms n (q:Int).toNat L z=_;rw[Int.toNat_natCast]
  have hol:(duL l ms n q L z).length<=300:=by
   unfold duL
   cases hd:duF l ms n q L z with
   | none=>show L.length<=_;omega
   | some d=>have:=HDL.out d hd;show d.1.length<=_;omega
  have HX1:Hid (∀U,Below W.heap.size W U->(U.cell? ⟨w.heap.size,0,none⟩=some (.slice la l.length lc)/\U.cell? ⟨w.heap.size,1,none⟩=some (.slice mb ms.length mc))/\U.cell? ⟨w.heap.size+1,2,none⟩=some (.int .i64 (p:Int))/\U.cell? ⟨w.heap.size+1,3,none⟩=some (.int .i64 (q:Int))):=fun U hU=>by
   obtain⟨e0,e1,-⟩:=(X1.below hU).two
   obtain⟨-,-,e2,e3,-⟩:=(X2.below hU).ru
   exact⟨⟨e0,e1⟩,e2,e3⟩
  have HWU:Hid (Below W.heap.size W u):=hbu
  have HBW:Hid (Below w.heap.size w W):=hbW
  clear hvg X1 X2 IH hl hms hL hp HDL h5 hpl hbu hbW
  obtain⟨⟨e0,e1⟩,e2,e3⟩:=HX1.out u HWU.out
  obtain⟨-,d1,-⟩:=HPC.out u hbU
  go_wp2
  refine wp_region_held_drew (S:=fun u'=>((u'.cell? ⟨w.heap.size,0,none⟩=some (.slice la l.length lc)/\u'.cell? ⟨w.heap.size,1,none⟩=some (.slice mb ms.length mc))/\u'.cell? ⟨w.heap.size+1,2,none⟩=some (.int .i64 (p:Int))/\u'.cell? ⟨w.heap.size+1,3,none⟩=some (.int .i64 (q:Int)))/\u'.cell? ⟨pb,po+p,none⟩=some (.int .i64 z)) (by kernel_rfl) ⟨⟨⟨e0,e1⟩,e2,e3⟩,d1⟩ (fun hH=>?_)
  have hdr:Below u.heap.size u u.drew:=(Below.refl _ _).drew
  generalize u.drew=Z at hdr hH ⊢
  clear e0 e1 e2 e3 d1
  have hwZ:=hbU.trans (hdr.mono hbU.size)
  have hWZ:=HWU.out.trans (hdr.mono HWU.out.size)
  refine hT 0 hH ?_;refine hT 1 hH ?_;refine hT 2 hH ?_;refine hT 3 hH ?_;refine hT 4 hH ?_;refine hT 5 hH ?_;refine hT 6 hH ?_;refine hT 7 hH ?_;refine hT 8 hH ?_;refine hT 9 hH ?_;refine hT 10 hH ?_
  refine hCall (i:=11) rfl (by kernel_rfl) (by rfl) (fun K hK=>?_)
  go_simp
  refine(hdo Z hwZ).mono ?_
  rintro e u2 ⟨⟨xa,xc,rfl,hgr⟩,hb2⟩
  have hw2:=hwZ.trans (hb2.mono hwZ.size)
  have hW2:=hWZ.trans (hb2.mono hWZ.size)
  have HS2:=HX1.out u2 hW2
  obtain⟨f0,f1,f2⟩:=HPC.out u2 hw2
  have HO2:inF l ms (n+1) L (q:Int) z=duL l ms n q L z:=HO.out
  generalize duL l ms n q L z=o at hgr hol HO2
  have HO:Hid (inF l ms (n+1) L (q:Int) z=o):=HO2
  clear HO2
  generalize duO l ms n q L z=on
  generalize duB l ms n q L z=db
  clear hdo HX1 HPC
  go_wp2_with fail
  refine hK.out _ _ ⟨HS2,f1⟩ (fun hH=>?_)
  clear hK K
  try simp only[Act.put,pZ]
  refine hT 12 hH ?_;refine hT 13 hH ?_;refine hT 14 hH ?_;refine hT 15 hH ?_;refine hT 16 hH ?_
  refine wpAnyH_done (by kernel_rfl) ?_ _
  have HV:Hid (∀U,Below u2.heap.size u2 U->WinA (inF l ms (n+1) L (q:Int) z) (max (t+1+((inF l ms (n+1) L (q:Int) z).length:Int)-(L.length:Int)) i) U (.returned (.tuple #[.slice xa o.length xc,.int .i64 (max i (t+1+(o.length:Int)-(L.length:Int)))]))):=fun U hU=>by
   rw[HO.out]
   exact⟨xa,xc,by rw[Int.max_comm],hgr.below hU⟩
  have w1:IntKind.i64.wrap (t+1+(o.length:Int))=t+1+(o.length:Int):=zbl (by omega) (by omega)
  have w2:IntKind.i64.wrap (t+1+(o.length:Int)-(L.length:Int))=t+1+(o.length:Int)-(L.length:Int):=zbl (by omega) (by omega)
  clear hH hgr f1 HS2 hb2 hW2 hwZ hWZ hdr;go_wp2
  go_quiet (fail)
  have hb2:Below u2.heap.size u2 (u2.drewN nq):=below_drewN (Below.refl _ _) _
  have zaf:=hw2.trans (hb2.mono hw2.size)
  have HV2:=HV.out _ hb2
  generalize u2.drewN nq=uf at zaf HV2
  clear f0 f2 w1 w2 hb2;go_wp2
  go_ret2
  exact⟨HV2,zaf⟩
theorem zp1(p q s t:Nat)(a1:Option Addr)(c1:Nat)(a2:Option Addr)(c2:Nat)(inn out:List Int)(ap lk x1 x2 y1 y2 w1 w2:Int)(g:Int)(w:World)
    (hi:Ri w a1 c1 inn) (ho:Ri w a2 c2 out) (hg:I64 g) (x y z:Int×Int) :
    Calls Tryz.prog 103 #[.agg #[.int .i64 p,.int .i64 q,.int .i64 s,.int .i64 t],.agg #[.slice a1 inn.length c1,.slice a2 out.length c2,.int .i64 ap,.int .i64 lk,.int .i64 x1,.int .i64 x2,.int .i64 y1,.int .i64 y2,.int .i64 w1,.int .i64 w2],.int .i64 g] w fun e w' =>
     e=.returned (.bool (lsB p q s t ⟨inn,out,ap,lk,x,y,z⟩ g))/\Below w.heap.size w w':=by
 have ki:=hi.lenB
 have ko:=ho.lenB
 obtain⟨W,hW,X1,X2,hbW⟩:∃W,W=(w.alloc (.cells #[.int .i64 p,.int .i64 q,.int .i64 s,.int .i64 t] 168)).alloc (.cells #[.slice a1 inn.length c1,.slice a2 out.length c2,.int .i64 ap,.int .i64 lk,.int .i64 x1,.int .i64 x2,.int .i64 y1,.int .i64 y2,.int .i64 w1,.int .i64 w2] 131)/\Bk 168 W w.heap.size [.int .i64 p,.int .i64 q,.int .i64 s,.int .i64 t]/\Bk 131 W (w.heap.size+1) (ruV a1 c1 a2 c2 ⟨inn,out,ap,lk,(x1,x2),(y1,y2),(w1,w2)⟩)/\Below w.heap.size w W:=⟨_,rfl,(Bk.new _ _ _).below (bl1 _),Bk.new1 _ _ _ (ruV a1 c1 a2 c2 ⟨inn,out,ap,lk,(x1,x2),(y1,y2),(w1,w2)⟩),bl2 _ _⟩
 obtain⟨q0,q1,-⟩:=X2.ru;dsimp only at q0 q1
 have HF:Hid (lsB p q s t ⟨inn,out,ap,lk,x,y,z⟩ g=(((decide (p<=inn.length)&&decide (inn.length<=q))&&(decide (s<=out.length)&&decide (out.length<=t)))&&(inn.all (gyB g)&&out.all (gyB g)))):=rfl
 obtain⟨R,hR⟩:∃R,lsB p q s t ⟨inn,out,ap,lk,x,y,z⟩ g=R:=⟨_,rfl⟩
 rw[hR]at HF ⊢
 have h1:=fun U (hU:Below w.heap.size w U)=>zmh a1 c1 inn g U (hi.below hU) hg
 have h2:=fun U (hU:Below w.heap.size w U)=>zmh a2 c2 out g U (ho.below hU) hg
 have f1:decide ((p:Int)<=(inn.length:Int))=decide (p<=inn.length):=by rw[Bool.eq_iff_iff,decide_eq_true_iff,decide_eq_true_iff];omega
 have f2:decide ((inn.length:Int)<=(q:Int))=decide (inn.length<=q):=by rw[Bool.eq_iff_iff,decide_eq_true_iff,decide_eq_true_iff];omega
 have f3:decide ((s:Int)<=(out.length:Int))=decide (s<=out.length):=by rw[Bool.eq_iff_iff,decide_eq_true_iff,decide_eq_true_iff];omega
 have f4:decide ((out.length:Int)<=(t:Int))=decide (out.length<=t):=by rw[Bool.eq_iff_iff,decide_eq_true_iff,decide_eq_true_iff];omega
 have HX1:Hid (Bk 168 W w.heap.size [.int .i64 p,.int .i64 q,.int .i64 s,.int .i64 t]):=X1
 have HX2:Hid (Bk 131 W (w.heap.size+1) (ruV a1 c1 a2 c2 ⟨inn,out,ap,lk,(x1,x2),(y1,y2),(w1,w2)⟩)):=X2
 clear hi ho hR X1 X2
 go_enter Tryz.func103,Tryz.ntmps103
 go_upto_region 1 with fail
 rw[<-hW];clear hW
 go_quiet (fail)
 obtain⟨V,hV⟩:∃V,V=W.drewN nq:=⟨_,rfl⟩
 have hWV:Below W.heap.size W V:=by rw[hV];exact below_drewN (Below.refl _ _) _
 rw[<-hV]
 have hbV:=hbW.trans (hWV.mono hbW.size)
 have X1:=HX1.out.below hWV
 have X2:=HX2.out.below hWV
 clear q0 q1 hV HX1 HX2 hWV hbW;obtain⟨q0,q1,-⟩:=X2.ru;obtain⟨z0,z1,z2,z3,-⟩:=X1.four;dsimp only at q0 q1;clear X1 X2
 by_cases n1:p<=inn.length
 rotate_left
 . have d1:decide (p<=inn.length)=false:=decide_eq_false n1
   rw[d1]at f1 HF;rw[Bool.false_and,Bool.false_and,Bool.false_and]at HF;clear n1 f2 f3 f4;go_wp2
   go_ret
   exact⟨zaa HF.out.symm,hbV⟩
 have d1:decide (p<=inn.length)=true:=decide_eq_true n1
 rw[d1]at f1 HF
 by_cases n2:inn.length<=q
 rotate_left
 . have d2:decide (inn.length<=q)=false:=decide_eq_false n2
   rw[d2]at f2 HF;rw[Bool.and_false,Bool.false_and,Bool.false_and]at HF;clear n1 n2 f3 f4;go_wp2
   go_ret
   exact⟨zaa HF.out.symm,hbV⟩
 have d2:decide (inn.length<=q)=true:=decide_eq_true n2
 rw[d2]at f2 HF
 by_cases n3:s<=out.length
 rotate_left
 . have d3:decide (s<=out.length)=false:=decide_eq_false n3
   rw[d3]at f3 HF;rw[Bool.false_and,Bool.and_false,Bool.false_and]at HF;clear n1 n2 n3 f4;go_wp2
   go_ret
   exact⟨zaa HF.out.symm,hbV⟩
 have d3:decide (s<=out.length)=true:=decide_eq_true n3
 rw[d3]at f3 HF
 by_cases n4:out.length<=t
 rotate_left
 . have d4:decide (out.length<=t)=false:=decide_eq_false n4
   rw[d4]at f4 HF;rw[Bool.and_false,Bool.and_false,Bool.false_and]at HF;clear n1 n2 n3 n4;go_wp2
   go_ret
   exact⟨zaa HF.out.symm,hbV⟩
 have d4:decide (out.length<=t)=true:=decide_eq_true n4
 rw[d4]at f4 HF;rw[Bool.and_self,Bool.and_self,Bool.true_and]at HF;clear n1 n2 n3 n4
 have hc1:=h1 V hbV
 clear h1
 generalize inn.all (gyB g)=A1 at hc1 HF
 generalize out.all (gyB g)=A2 at h2 HF
 go_wp2_with fail
 refine hc1.mono ?_
 rintro e u ⟨rfl,hbu⟩
 have hbU:=hbV.trans (hbu.mono hbV.size)
 clear hc1
 cases A1 with
 | false =>
  rw[Bool.false_and]at HF;clear h2 hbu;go_wp2
  go_ret
  exact⟨zaa HF.out.symm,hbU⟩
 | true =>
  rw[Bool.true_and]at HF
  have e1:u.cell? ⟨w.heap.size+1,1,none⟩=some (.slice a2 out.length c2):=(hbu.cell (p:=⟨w.heap.size+1,1,none⟩) (zcb q1)).trans q1
  have hc2:=h2 u hbU
  clear h2 hbu q0 q1 z0 z1 z2 z3
  go_wp2_with fail
  refine hc2.mono ?_
  rintro e u2 ⟨rfl,hbu⟩
  have zqg:=hbU.trans (hbu.mono hbU.size)
  clear hc2;go_wp2
  go_ret
  exact⟨zaa HF.out.symm,zqg⟩
