import Derived.Test.YtkmcodofnckdmaaGreatZK35
import Derived.Deep.Strs
import Derived.OpenShut
import Derived.SizedLaws
import Derived.Lib.SmallJoins
set_option maxHeartbeats 4000000
set_option maxRecDepth 100000
set_option linter.unusedSimpArgs false
set_option linter.unusedVariables false
namespace Go.Proofs.YtkmcodofnckdmaaGreat
open Go.RowKit Go.Maps
theorem zpf(S S2:Nat->Prop)(a:OA)(ca:Nat)(b:OA)(cb:Nat)(l:List Gl)(w:World)(ha:Gr GlE S w a ca l)(hb:Gr GlE S2 w b cb l) :
 Calls Tryz.prog 26 #[.slice a l.length ca,.slice b l.length cb] w fun e w'=>e=.returned (.bool true)/\Below w.heap.size w w':=by
 have kl:=ha.lenB
 have HA:Hid (Gr GlE S w a ca l):=ha
 have HB:Hid (Gr GlE S2 w b cb l):=hb
 clear ha hb
 go_enter Tryz.func26,Tryz.ntmps26
 go_wp2
 go_loopw [5] (fun i wr=>∃k:Nat,k<=l.length/\i=.int .i64 k/\Below w.heap.size w wr) (fun i _=>l.length-(intOf i).toNat)
 case atStart=>exact⟨0,Nat.zero_le _,rfl,Below.refl _ _⟩
 case round =>
  obtain⟨k,hk,rfl,hB⟩:=hrel
  by_cases hkn:k<l.length
  . obtain⟨b1,o1,xa,xc,qa,qc,ta,tc,ea,hb1,hG1,d0,d1,d2,d3,d4,d5⟩:=HA.out.gl hB k hkn
    obtain⟨b2,o2,xa',xc',qa',qc',ta',tc',eb,hb2,hG2,e0,e1,e2,e3,e4,e5⟩:=HB.out.gl hB k hkn
    generalize l.getD k Gl.none=x at *
    subst ea eb
    have i1:(0:Int)<=(k:Int):=by omega
    have i2:(k:Int)<(l.length:Int):=by omega
    have hws:=hB.size
    have k1:=hG1.cs.lenB
    have k2:=hG1.ps.lenB
    have k3:=hG1.ts.lenB
    have hc1:=fun U (hU:Below wr.heap.size wr U)=>zpe S S2 xa xc qa qc xa' xc' qa' qc' x.o U (hG1.below hU).cs (hG1.below hU).ps (hG2.below hU).cs (hG2.below hU).ps
    have hc2:=fun U (hU:Below wr.heap.size wr U)=>zpd S S2 ta tc ta' tc' x.ts U (hG1.below hU).ts (hG2.below hU).ts
    clear hG1 hG2
    go_upto_region 6 with fail
    refine wp_region_held_drew (S:=fun w9=>w9.cell? ⟨b1,o1+k*6,none⟩=some (.slice xa x.o.cs.length xc)/\w9.cell? ⟨b1,o1+k*6+1,none⟩=some (.slice qa x.o.ps.length qc)/\w9.cell? ⟨b1,o1+k*6+2,none⟩=some (.slice ta x.ts.length tc)/\w9.cell? ⟨b1,o1+k*6+3,none⟩=some (.int .i64 x.ab)/\w9.cell? ⟨b1,o1+k*6+4,none⟩=some (.int .i64 x.ar)/\w9.cell? ⟨b1,o1+k*6+5,none⟩=some (.bool x.mr)/\w9.cell? ⟨b2,o2+k*6,none⟩=some (.slice xa' x.o.cs.length xc')/\w9.cell? ⟨b2,o2+k*6+1,none⟩=some (.slice qa' x.o.ps.length qc')/\w9.cell? ⟨b2,o2+k*6+2,none⟩=some (.slice ta' x.ts.length tc')/\w9.cell? ⟨b2,o2+k*6+3,none⟩=some (.int .i64 x.ab)/\w9.cell? ⟨b2,o2+k*6+4,none⟩=some (.int .i64 x.ar)/\w9.cell? ⟨b2,o2+k*6+5,none⟩=some (.bool x.mr)) (by kernel_rfl) ?_ (fun hH=>?_)
    . (try dsimp only)
      go_keep
    have hdr:Below wr.heap.size wr wr.drew:=Below.drew1
    generalize wr.drew=Z at hdr hH ⊢
    replace d0:=(hdr.cell (p:=⟨b1,o1+k*6,none⟩) (by show b1<_;omega)).trans d0
    replace d1:=(hdr.cell (p:=⟨b1,o1+k*6+1,none⟩) (by show b1<_;omega)).trans d1
    replace d2:=(hdr.cell (p:=⟨b1,o1+k*6+2,none⟩) (by show b1<_;omega)).trans d2
    replace d3:=(hdr.cell (p:=⟨b1,o1+k*6+3,none⟩) (by show b1<_;omega)).trans d3
    replace d4:=(hdr.cell (p:=⟨b1,o1+k*6+4,none⟩) (by show b1<_;omega)).trans d4
    replace d5:=(hdr.cell (p:=⟨b1,o1+k*6+5,none⟩) (by show b1<_;omega)).trans d5
    replace e0:=(hdr.cell (p:=⟨b2,o2+k*6,none⟩) (by show b2<_;omega)).trans e0
    replace e1:=(hdr.cell (p:=⟨b2,o2+k*6+1,none⟩) (by show b2<_;omega)).trans e1
    replace e2:=(hdr.cell (p:=⟨b2,o2+k*6+2,none⟩) (by show b2<_;omega)).trans e2
    replace e3:=(hdr.cell (p:=⟨b2,o2+k*6+3,none⟩) (by show b2<_;omega)).trans e3
    replace e4:=(hdr.cell (p:=⟨b2,o2+k*6+4,none⟩) (by show b2<_;omega)).trans e4
    replace e5:=(hdr.cell (p:=⟨b2,o2+k*6+5,none⟩) (by show b2<_;omega)).trans e5
    have hzs:=hdr.size
    refine hT 0 hH ?_;refine hT 1 hH ?_;refine hT 2 hH ?_;refine hT 3 hH ?_;refine hT 4 hH ?_;refine hT 5 hH ?_;refine hT 6 hH ?_;refine hT 7 hH ?_;refine hT 8 hH ?_;refine hT 9 hH ?_
    refine hCall (i:=10) rfl (by kernel_rfl) (by rfl) (fun K hK=>?_)
    go_simp
    refine(hc1 _ hdr).mono ?_
    rintro e u1 ⟨rfl,hu1⟩
    replace d0:=(hu1.cell (p:=⟨b1,o1+k*6,none⟩) (by show b1<_;omega)).trans d0
    replace d1:=(hu1.cell (p:=⟨b1,o1+k*6+1,none⟩) (by show b1<_;omega)).trans d1
    replace d2:=(hu1.cell (p:=⟨b1,o1+k*6+2,none⟩) (by show b1<_;omega)).trans d2
    replace d3:=(hu1.cell (p:=⟨b1,o1+k*6+3,none⟩) (by show b1<_;omega)).trans d3
    replace d4:=(hu1.cell (p:=⟨b1,o1+k*6+4,none⟩) (by show b1<_;omega)).trans d4
    replace d5:=(hu1.cell (p:=⟨b1,o1+k*6+5,none⟩) (by show b1<_;omega)).trans d5
    replace e0:=(hu1.cell (p:=⟨b2,o2+k*6,none⟩) (by show b2<_;omega)).trans e0
    replace e1:=(hu1.cell (p:=⟨b2,o2+k*6+1,none⟩) (by show b2<_;omega)).trans e1
    replace e2:=(hu1.cell (p:=⟨b2,o2+k*6+2,none⟩) (by show b2<_;omega)).trans e2
    replace e3:=(hu1.cell (p:=⟨b2,o2+k*6+3,none⟩) (by show b2<_;omega)).trans e3
    replace e4:=(hu1.cell (p:=⟨b2,o2+k*6+4,none⟩) (by show b2<_;omega)).trans e4
    replace e5:=(hu1.cell (p:=⟨b2,o2+k*6+5,none⟩) (by show b2<_;omega)).trans e5
    replace hdr:=hdr.trans (hu1.mono hdr.size)
    have hus:=hu1.size
    clear hu1 hc1
    go_wp2_with fail
    refine hK.out _ _ ?_ (fun hH=>?_)
    . (try dsimp only)
      exact⟨d0,d1,d2,d3,d4,d5,e0,e1,e2,e3,e4,e5⟩
    clear hK K
    try simp only[Act.put,pZ]
    refine hT 11 hH ?_;refine hT 12 hH ?_;refine hT 13 hH ?_;refine hT 14 hH ?_;refine hT 15 hH ?_;refine hT 16 hH ?_;refine hT 17 hH ?_;refine hT 18 hH ?_;refine hT 19 hH ?_;refine hT 20 hH ?_;refine hT 21 hH ?_;refine hT 22 hH ?_
    refine hCall (i:=23) rfl (by kernel_rfl) (by rfl) (fun K hK=>?_)
    go_simp
    refine(hc2 _ hdr).mono ?_
    rintro e u2 ⟨rfl,hu2⟩
    replace d0:=(hu2.cell (p:=⟨b1,o1+k*6,none⟩) (by show b1<_;omega)).trans d0
    replace d1:=(hu2.cell (p:=⟨b1,o1+k*6+1,none⟩) (by show b1<_;omega)).trans d1
    replace d2:=(hu2.cell (p:=⟨b1,o1+k*6+2,none⟩) (by show b1<_;omega)).trans d2
    replace d3:=(hu2.cell (p:=⟨b1,o1+k*6+3,none⟩) (by show b1<_;omega)).trans d3
    replace d4:=(hu2.cell (p:=⟨b1,o1+k*6+4,none⟩) (by show b1<_;omega)).trans d4
    replace d5:=(hu2.cell (p:=⟨b1,o1+k*6+5,none⟩) (by show b1<_;omega)).trans d5
    replace e0:=(hu2.cell (p:=⟨b2,o2+k*6,none⟩) (by show b2<_;omega)).trans e0
    replace e1:=(hu2.cell (p:=⟨b2,o2+k*6+1,none⟩) (by show b2<_;omega)).trans e1
    replace e2:=(hu2.cell (p:=⟨b2,o2+k*6+2,none⟩) (by show b2<_;omega)).trans e2
    replace e3:=(hu2.cell (p:=⟨b2,o2+k*6+3,none⟩) (by show b2<_;omega)).trans e3
    replace e4:=(hu2.cell (p:=⟨b2,o2+k*6+4,none⟩) (by show b2<_;omega)).trans e4
    replace e5:=(hu2.cell (p:=⟨b2,o2+k*6+5,none⟩) (by show b2<_;omega)).trans e5
    replace hdr:=hdr.trans (hu2.mono hdr.size)
    clear hu2 hc2
    go_wp2_with fail
    refine hK.out _ _ ?_ (fun hH=>?_)
    . (try dsimp only)
      exact⟨d0,d1,d2,d3,d4,d5,e0,e1,e2,e3,e4,e5⟩
    clear hK K
    try simp only[Act.put,pZ]
    refine hT 24 hH ?_;refine hT 25 hH ?_;refine hT 26 hH ?_;refine hT 27 hH ?_;refine hT 28 hH ?_;refine hT 29 hH ?_;refine hT 30 hH ?_;refine hT 31 hH ?_;refine hT 32 hH ?_;refine hT 33 hH ?_;refine hT 34 hH ?_;refine hT 35 hH ?_;refine hT 36 hH ?_
    refine hT 37 hH ?_;refine hT 38 hH ?_;refine hT 39 hH ?_;refine hT 40 hH ?_;refine hT 41 hH ?_;refine hT 42 hH ?_;refine hT 43 hH ?_;refine hT 44 hH ?_;refine hT 45 hH ?_;refine hT 46 hH ?_;refine hT 47 hH ?_;refine hT 48 hH ?_;refine hT 49 hH ?_
    refine hT 50 hH ?_;refine hT 51 hH ?_
    refine wpAnyH_done (by kernel_rfl) ?_ _
    have hB9:=hB.trans (hdr.mono hB.size)
    clear hH d0 d1 d2 d3 d4 d5 e0 e1 e2 e3 e4 e5 hB hdr;go_wp2
    go_roundw
    case rel=>exact⟨k+1,by omega,by go_num,hB9⟩
    case measure=>simp[intOf];omega
  . have g4:¬(k:Int)<(l.length:Int):=by omega
    go_wp2
    go_ret
    exact⟨rfl,hB⟩
theorem zq0{o:Ol}{l:List Tu}{ax:Int}(h:foT o l ax=true)(hl:l.length<=30):(tuBt l).length<=24002:=by
 obtain⟨h1,h2,h3,h4⟩:=zbc.1 h
 have:=zqw h1 h2.2 (l:=l) (fun t ht=>by
  obtain⟨k,hk,e⟩:=List.getElem_of_mem ht
  have:=h4 k hk
  rw[List.getD_eq_getElem?_getD,List.getElem?_eq_getElem hk,Option.getD_some,e]at this
  exact this)
 unfold tuBt
 rw[List.length_append]
 have:(be2 ((l.length:Nat):Int)).length=2:=rfl
 omega
theorem z2f{ax:Int}:∀ {l:List Gl},(∀x∈l,foT x.o x.ts ax=true/\x.ts.length<=30)->(glsB l).length<=24615*l.length:=by
 intro l
 induction l with
 | nil=>intro _;exact Nat.zero_le _
 | cons x l ih =>
  intro h
  have h1:=ih (fun y hy=>h y (by simp[hy]))
  obtain⟨h2,h3⟩:=h x (by simp)
  have h4:=zq0 h2 h3
  have h5:=(zjl x.o).2
  have h6:=zi7 x
  rw[glsB,List.length_append,List.length_cons]
  omega
theorem zzb{l:List Gl}{s:Sr}{ax:Int}(h:foG l s ax=true)(h30:∀x∈l,x.ts.length<=30)(h40:l.length<=40):(gsB l).length<=1048000:=by
 obtain⟨_,_,h3⟩:=zcd.1 h
 have h4:=z2f (ax:=ax) (l:=l) (fun x hx=>by
  obtain⟨k,hk,e⟩:=List.getElem_of_mem hx
  have h5:=(zf2.1 (h3 k hk)).2.2.1
  rw[List.getD_eq_getElem?_getD,List.getElem?_eq_getElem hk,Option.getD_some,e]at h5
  exact⟨h5,h30 x hx⟩)
 unfold gsB
 rw[List.length_append]
 have:(be2 ((l.length:Nat):Int)).length=2:=rfl
 omega
def IsRowK(k:IntKind)(w:World)(a:OA)(len cap:Nat)(zs:LI):Prop :=
 (a=none/\len=0/\cap=0/\zs=[]) \/
 ∃x,a=some x/\len<=cap/\cap<=maxLen/\zs.length=cap/\(∀i,i<zs.length->w.cell? (x.add i)=some (.int k (zs.getD i 0)))/\∀n∈zs,(Lit.int k n).wf=true
theorem zh7{n:Int}(h:(Lit.int .u8 n).wf=true):0<=n/\n<256:=by
 simp[Lit.wf,IntKind.min,IntKind.max,IntKind.bits,IntKind.signed]at h
 omega
theorem zhh{n:Int}(h:(Lit.int .i64 n).wf=true):-9223372036854775808<=n/\n<=9223372036854775807:=by
 simp[Lit.wf,IntKind.min,IntKind.max,IntKind.bits,IntKind.signed]at h
 omega
theorem IsRowK.cells{k:IntKind}{w:World}{a:OA}{len cap:Nat}{zs:LI}(h:IsRowK k w a len cap zs) :
 ∃ys:LI,len=ys.length/\(∀y∈ys,(Lit.int k y).wf=true)/\ys.length<=cap/\cap<=maxLen/\(a=none->cap=0) /\
     (ys=[]\/∃b off,a=some ⟨b,off,none⟩/\b<w.heap.size/\∀i,i<ys.length->w.cell? ⟨b,off+i,none⟩=some (.int k (ys.getD i 0))):=by
 rcases h with ⟨rfl,rfl,rfl,rfl⟩|⟨x,rfl,h1,h2,h3,hc,hw⟩
 . exact⟨[],rfl,(fun y hy=>by cases hy),Nat.le_refl _,Nat.zero_le _,fun _=>rfl,.inl rfl⟩
 . refine⟨zs.take len,by simp;omega,fun y hy=>hw y (List.mem_of_mem_take hy),by simp;omega,h2,(by simp),?_⟩
   by_cases h0:len=0
   . exact .inl (by simp[h0])
   . obtain⟨b,off,spot⟩:=x
     have c0:=hc 0 (by omega)
     have hspot:spot=none:=by simpa [Addr.add] using World.cell?_spot c0
     subst hspot
     refine .inr ⟨b,off,rfl,?_,fun i hi=>?_⟩
     . have:=World.block_lt_of_cell? w _ c0
       simpa [Addr.add] using this
     . simp at hi
       have zb1:(⟨b,off,none⟩:Addr).add i=⟨b,off+i,none⟩:=by unfold Addr.add;split <;> simp_all
       have hci:=hc i (by omega)
       rw[zb1]at hci;rw[hci]
       simp[List.getD,show i<len by omega]
theorem IsRowK.rb{w:World}{a:OA}{len cap:Nat}{zs:LI}(h:IsRowK .u8 w a len cap zs):∃xs:LN,len=xs.length/\Rb w a cap xs:=by
 obtain⟨ys,h1,h2,h3,h4,h5,h6⟩:=h.cells
 have hb:∀y∈ys,0<=y/\y<256:=fun y hy=>zh7 (h2 y hy)
 refine⟨ys.map Int.toNat,by simp[h1],?_,by simpa using h3,h4,h5,?_⟩
 . intro x hx
   obtain⟨y,hy,rfl⟩:=List.mem_map.1 hx
   have:=hb y hy
   omega
 . rcases h6 with rfl|⟨b,off,e,hlt,hc⟩
   . exact .inl rfl
   . refine .inr ⟨b,off,e,hlt,fun i hi=>?_⟩
     simp at hi
     rw[hc i hi]
     have h0:ys.getD i 0=ys[i]:=by simp[List.getD,hi]
     have hy:=hb ys[i] (List.getElem_mem hi)
     rw[h0]
     simp[List.getD,hi]
     omega
open Go.ChangeShapes Go.WideShapes Go.Joins Go.Deep
def Opens{α:Type}(E:El α)(t:TypeId):Prop :=
 Tryz.prog.cellsOf t=E.sz/\∀(H:Type) (enc:TypeId×Value->H) (W:World) (held:Bool) (fuel:Nat) (cs:LV) (x:DataW H×List MemPlace),
  DataW.trod enc Tryz.prog W 0 (fun _=>true) held fuel t cs=some x->(∀n∈x.1.weights Tryz.prog t,n<=reachBytes)->∃y:α,E.rep (fun k=>k<W.heap.size) W cs y
theorem Opens.num{t:TypeId}{k:IntKind}{lo hi:Int}(ht:Tryz.prog.underlying t=some (.int k))(hc:Tryz.prog.cellsOf t=1)(hb:∀z,(Lit.int k z).wf=true->lo<=z/\z<=hi):Opens (El.num k lo hi) t :=
 ⟨hc,fun H enc W held fuel cs x h hz=>by
  obtain⟨z,e,_,hw⟩:=DataW.trod_int ht h
  exact⟨z,e,hb z hw⟩⟩
theorem Opens.int{t:TypeId}(ht:Tryz.prog.underlying t=some (.int .i64))(hc:Tryz.prog.cellsOf t=1):Opens El.int t:=Opens.num ht hc (fun z hw=>zhh hw)
theorem Opens.bool{t:TypeId}(ht:Tryz.prog.underlying t=some .bool)(hc:Tryz.prog.cellsOf t=1):Opens El.bool t :=
 ⟨hc,fun H enc W held fuel cs x h hz=>by
  obtain⟨z,e,_⟩:=DataW.trod_bool ht h
  exact⟨z,e⟩⟩
theorem Opens.via{α β:Type}{E:El α}{t:TypeId}(h:Opens E t){f:β->α}{d:β}(hf:∀x,∃y,f y=x):Opens (E.via f d) t :=
 ⟨h.1,fun H enc W held fuel cs x h1 hz=>by
  obtain⟨z,hz⟩:=h.2 H enc W held fuel cs x h1 hz
  obtain⟨y,rfl⟩:=hf z
  exact⟨y,hz⟩⟩
theorem zlv{α:Type}{d:α}{p:Nat->α->Prop}:∀n,(∀i,i<n->∃o,p i o)->∃os:List α,os.length=n/\∀i,i<n->p i (os.getD i d):=by
 intro n
 induction n with
 | zero=>exact fun _=>⟨[],rfl,fun i hi=>by omega⟩
 | succ n ih =>
  intro h
  obtain⟨os,hl,ho⟩:=ih (fun i hi=>h i (by omega))
  obtain⟨o,h1⟩:=h n (by omega)
  refine⟨os++[o],by simp[hl],fun i hi=>?_⟩
  by_cases hi':i<n
  . have e:(os++[o]).getD i d=os.getD i d:=by simp[List.getD,List.getElem?_append_left (show i<os.length by omega)]
    rw[e]
    exact ho i hi'
  . have e:i=n:=by omega
    subst e
    have e:(os++[o]).getD i d=o:=by simp[List.getD,<-hl]
    rw[e]
    exact h1
theorem zf9{H:Type}{P:Program}{e:TypeId}{d:DataW H}:∀ {l:List (DataW H)},d∈l->∀ {n:Nat},n∈d.weights P e->n∈DataW.weightsAll P e l
 | c::l,h,n,hn=>by
  rw[DataW.weightsAll,List.mem_append]
  rcases List.mem_cons.1 h with h|h
  . exact .inl (by rw[<-h];exact hn)
  . exact .inr (zf9 h hn)
theorem Opens.row{α:Type}{E:El α}{t e:TypeId}(h:Opens E e)(ht:Tryz.prog.underlying t=some (.slice e))(hc:Tryz.prog.cellsOf t=1)(hsz:0<E.sz)(hby:1<=Tryz.prog.bytesOf e):Opens E.row t :=
 ⟨hc,fun H enc W held fuel cs x hf hz=>by
  rcases open_slice ht hf with ⟨hcs,_⟩|⟨ad,len,cap,m,n,D,Pl,hcs,_,hl,hm,hmm,hx,hel⟩
  . exact⟨[],none,0,hcs,(fun b o e1=>by cases e1),Gr.nil _ _ _ _ _ (Nat.zero_le _) (fun _=>rfl),Nat.zero_le _⟩
  . have hle:len<=m:=by rw[hmm];split <;> omega
    subst hx
    have hzm:∀i,i<len->∀k∈(D i).weights Tryz.prog e,k<=reachBytes:=by
     intro i hi k hk
     refine hz k ?_
     simp only[DataW.weights,ht,List.mem_cons,List.mem_append]
     exact .inr (.inl (zf9 (List.mem_map.2 ⟨i,List.mem_range.2 hi,rfl⟩) hk))
    have hzl:len<=140737488351232:=by
     have h1:=hz ((((List.range len).map D).length+((List.range (m-len)).map fun j=>D (len+j)).length)*Tryz.prog.bytesOf e) (by simp only[DataW.weights,ht];exact List.mem_cons_self)
     rw[List.length_map,List.length_map,List.length_range,List.length_range]at h1
     have h2:(len+(m-len))*1<=(len+(m-len))*Tryz.prog.bytesOf e:=Nat.mul_le_mul_left _ hby
     have h3:reachBytes=140737488351232:=rfl
     omega
    have zba:∀i,i<len->∃o:α,∃vs,E.rep (fun k=>k<W.heap.size) W vs o/\∀j,j<E.sz->W.cell? ((ad.add (i*E.sz)).add j)=vs[j]?:=by
     intro i hi
     obtain⟨cs',hc',ht'⟩:=hel i (by omega)
     rw[h.1]at hc'
     obtain⟨hlen,_,hcell⟩:=World.cells?_some hc'
     obtain⟨o,ho⟩:=h.2 H enc W held n cs' _ ht' (hzm i hi)
     refine⟨o,cs',ho,fun j hj=>?_⟩
     have:=hcell j (by omega)
     rw[this,List.getElem?_eq_getElem (by omega)]
    obtain⟨os,hol,ho⟩:=zlv (d:=E.dfl) len zba
    have key:∀i,i<len->∃b off vs,ad=⟨b,off,none⟩/\b<W.heap.size/\E.rep (fun k=>k<W.heap.size) W vs (os.getD i E.dfl)/\∀j,j<E.sz->W.cell? ⟨b,off+i*E.sz+j,none⟩=vs[j]?:=by
     intro i hi
     obtain⟨vs,h1,h2⟩:=ho i hi
     obtain⟨b,off,spot⟩:=ad
     have h0:=h2 0 hsz
     have hv:0<vs.length:=by rw[E.len h1];exact hsz
     rw[List.getElem?_eq_getElem hv]at h0
     have hspot:spot=none:=by
      obtain⟨vs',h1',h2'⟩:=ho 0 (by omega)
      have h0':=h2' 0 hsz
      rw[List.getElem?_eq_getElem (by rw[E.len h1'];exact hsz)]at h0'
      have:=World.cell?_spot h0'
      simpa [Addr.add] using this
     subst hspot
     have zb1:∀i,(⟨b,off,none⟩:Addr).add i=⟨b,off+i,none⟩:=by intro i;unfold Addr.add;split <;> simp_all
     have z41:∀i j,((⟨b,off,none⟩:Addr).add i).add j=⟨b,off+i+j,none⟩:=by intro i j;rw[zb1];unfold Addr.add;split <;> simp_all
     have hlt:=World.block_lt_of_cell? W _ h0
     rw[z41]at hlt
     exact⟨b,off,vs,rfl,hlt,h1,fun j hj=>by rw[<-z41];exact h2 j hj⟩
    refine⟨os,some ad,cap,by rw[hcs,hol],fun b o e1 hne=>?_,⟨by omega,hm,(fun e=>by cases e),fun i hi=>?_⟩,by rw[hol];exact hzl⟩
    . obtain⟨b',off',_,e2,hb',_⟩:=key 0 (by have:=List.length_pos_iff.2 hne;omega)
      rw[e2]at e1
      cases e1
      exact hb'
    . obtain⟨b,off,vs,e2,hb,h1,h2⟩:=key i (by omega)
      exact⟨b,off,vs,by rw[e2],hb,h1,h2⟩⟩
def OpensF{α:Type}(E:El α)(fs:List Field)(off:Nat):Prop :=
 ∀(H:Type) (enc:TypeId×Value->H) (W:World) (held:Bool) (n:Nat) (cs:LV),(∀f∈fs,∃y,DataW.trod enc Tryz.prog W 0 (fun _=>true) held n f.type ((cs.drop f.offset).take (Tryz.prog.cellsOf f.type))=some y/\∀k∈y.1.weights Tryz.prog f.type,k<=reachBytes) ->
  ∃x:α,E.rep (fun k=>k<W.heap.size) W ((cs.drop off).take E.sz) x
theorem OpensF.last{α:Type}{E:El α}{f:Field}{off:Nat}(h:Opens E f.type)(ho:f.offset=off):OpensF E [f] off:=by
 intro H enc W held n cs hy
 obtain⟨y,hy,hz⟩:=hy f (by simp)
 rw[h.1,ho]at hy
 exact h.2 H enc W held n _ y hy hz
theorem OpensF.more{α β:Type}{E:El α}{F:El β}{f:Field}{fs:List Field}{off:Nat}(h:Opens E f.type)(ho:f.offset=off)(hs:OpensF F fs (off+E.sz)):OpensF (E.cat F) (f::fs) off:=by
 intro H enc W held n cs hy
 obtain⟨y,hy0,hz0⟩:=hy f (by simp)
 rw[h.1,ho]at hy0
 obtain⟨x,hx⟩:=h.2 H enc W held n _ y hy0 hz0
 obtain⟨z,hz⟩:=hs H enc W held n cs (fun g hg=>hy g (by simp[hg]))
 refine⟨(x,z),(cs.drop off).take E.sz,(cs.drop (off+E.sz)).take F.sz,?_,hx,hz⟩
 show(cs.drop off).take (E.sz+F.sz)=_
 rw[List.take_add,List.drop_drop]
theorem Opens.struct{α:Type}{E:El α}{t:TypeId}{fs:Array Field}(ht:Tryz.prog.underlying t=some (.struct fs))(hc:Tryz.prog.cellsOf t=E.sz)(h:OpensF E fs.toList 0):Opens E t :=
 ⟨hc,fun H enc W held fuel cs x hf hz=>by
  obtain⟨xs,n,_,hx,hl,hlen,hff⟩:=DataW.trod_struct ht hf
  subst hx
  obtain⟨y,hy⟩:=h H enc W held n cs (fun f hf'=>by
   obtain⟨i,hi,e⟩:=List.getElem_of_mem hf'
   have:=hff i f (by rw[<-e];simp)
   have hix:i<xs.length:=by simpa [hlen] using hi
   rw[this]
   refine⟨xs[i]'hix,by rw[List.getElem?_eq_getElem],fun k hk=>hz k ?_⟩
   simp only[DataW.weights,ht]
   refine DataW.weights_mem_each (j:=i) (t:=f.type) (d:=(xs[i]'hix).1) ?_ ?_ k hk
   . rw[List.getElem?_map,List.getElem?_eq_getElem hi,e]
     rfl
   . rw[List.getElem?_map,List.getElem?_eq_getElem hix]
     rfl)
  rw[List.drop_zero,List.take_of_length_le (by rw[hl,hc];exact Nat.le_refl _)]at hy
  exact⟨y,hy⟩⟩
theorem Opens.agg{α:Type}{E:El α}{t:TypeId}(h:Opens E t){fs:Array Field}(ht:Tryz.prog.underlying t=some (.struct fs)){H:Type}{enc:TypeId×Value->H}{W:World}{held:Bool}{r:Reach}{b0:Nat}{v:Value}{d:DataW H}{p:List MemPlace}
    (hv:Value.okWide Tryz.prog W r b0 t v) (hd:DataW.Trod enc Tryz.prog W 0 (fun _=>true) held t v d p) (hz:∀n∈d.weights Tryz.prog t,n<=reachBytes):∃(cs:Array Value) (y:α),v=.agg cs/\E.rep (fun k=>k<W.heap.size) W cs.toList y:=by
 obtain⟨cs,rfl,hsz⟩:=okWide_struct ht hv
 obtain⟨fuel,hf⟩:=hd
 obtain⟨y,hy⟩:=h.2 H enc W held fuel _ _ hf hz
 exact⟨cs,y,rfl,by simpa [Value.cells] using hy⟩
theorem za0:Opens El.int 3:=Opens.int Tryz.underlying3 (by kernel_rfl)
theorem ze2:Opens El.bool 4:=Opens.bool Tryz.underlying4 (by kernel_rfl)
theorem zwh:Opens PnE 65 :=
 (Opens.struct (E:=El.int.cat (El.int.cat El.bool)) Tryz.underlying65 (by kernel_rfl) (OpensF.more za0 rfl (OpensF.more za0 rfl (OpensF.last ze2 rfl)))).via (fun x=>⟨⟨x.1,x.2.1,x.2.2⟩,rfl⟩)
theorem zwi:Opens PaE 54 :=
 (Opens.struct (E:=El.int.cat (El.int.cat El.int)) Tryz.underlying54 (by kernel_rfl) (OpensF.more za0 rfl (OpensF.more za0 rfl (OpensF.last za0 rfl)))).via (fun x=>⟨⟨x.1,x.2.1,x.2.2⟩,rfl⟩)
theorem zsi:Opens PnE.row 63:=Opens.row zwh Tryz.underlying63 (by kernel_rfl) (by decide) (of_decide_eq_true (by kernel_rfl))
theorem zpj:Opens PnE.row.row 37:=Opens.row zsi Tryz.underlying37 (by kernel_rfl) Nat.one_pos (of_decide_eq_true (by kernel_rfl))
theorem zsj:Opens PaE.row 55:=Opens.row zwi Tryz.underlying55 (by kernel_rfl) (by decide) (of_decide_eq_true (by kernel_rfl))
theorem ziy:Opens (PnE.row.row.cat PaE.row) 57 :=
 Opens.struct Tryz.underlying57 (by kernel_rfl) (OpensF.more zpj rfl (OpensF.last zsj rfl))
theorem zfw:Opens El.int.row 29:=Opens.row za0 Tryz.underlying29 (by kernel_rfl) Nat.one_pos (of_decide_eq_true (by kernel_rfl))
theorem zwg:Opens TeE 146 :=
 (Opens.struct (E:=El.int.cat (El.int.cat El.int)) Tryz.underlying146 (by kernel_rfl) (OpensF.more za0 rfl (OpensF.more za0 rfl (OpensF.last za0 rfl)))).via (fun x=>⟨⟨x.1,x.2.1,x.2.2⟩,rfl⟩)
theorem zkh:Opens TeE.row 116:=Opens.row zwg Tryz.underlying116 (by kernel_rfl) (by decide) (of_decide_eq_true (by kernel_rfl))
theorem zwf:Opens TuE 144 :=
 (Opens.struct (E:=TeE.row.cat (El.bool.cat (El.int.row.cat (El.int.row.cat El.int.row)))) Tryz.underlying144 (by kernel_rfl) (OpensF.more zkh rfl (OpensF.more ze2 rfl (OpensF.more zfw rfl (OpensF.more zfw rfl (OpensF.last zfw rfl)))))).via (fun x=>⟨⟨x.1,x.2.1,x.2.2.1,x.2.2.2.1,x.2.2.2.2⟩,rfl⟩)
theorem zsh:Opens TuE.row 58:=Opens.row zwf Tryz.underlying58 (by kernel_rfl) (by decide) (of_decide_eq_true (by kernel_rfl))
theorem zpi:Opens (El.int.cat El.int) 60:=Opens.struct Tryz.underlying60 (by kernel_rfl) (OpensF.more za0 rfl (OpensF.last za0 rfl))
theorem zwj:Opens GlE 62:=by
 refine⟨by kernel_rfl,fun H enc W held fuel cs x hf hz=>?_⟩
 have h:=(Opens.struct (E:=(PnE.row.row.cat PaE.row).cat (TuE.row.cat ((El.int.cat El.int).cat El.bool))) Tryz.underlying62 (by kernel_rfl) (OpensF.more ziy rfl (OpensF.more zsh rfl (OpensF.more zpi rfl (OpensF.last ze2 rfl))))).2 H enc W held fuel cs x hf hz
 obtain⟨⟨⟨l,m⟩,n,⟨y,z⟩,q⟩,us,ts,rfl,⟨us1,ts1,rfl,h1,h2⟩,us2,ts2,rfl,h3,us3,ts3,rfl,⟨us4,ts4,rfl,h4,h5⟩,h6⟩:=h
 refine⟨⟨⟨l,m⟩,n,y,z,q⟩,us1,ts1++(us2++((us4++ts4)++ts3)),by simp only[List.append_assoc],h1,ts1,us2++((us4++ts4)++ts3),rfl,h2,us2,(us4++ts4)++ts3,rfl,h3,us4,ts4++ts3,by simp only[List.append_assoc],h4,ts4,ts3,rfl,h5,h6⟩
theorem zsl:Opens GlE.row 22:=Opens.row zwj Tryz.underlying22 (by kernel_rfl) (by decide) (of_decide_eq_true (by kernel_rfl))
theorem zph:Opens TeE.row.row 23:=Opens.row zkh Tryz.underlying23 (by kernel_rfl) Nat.one_pos (of_decide_eq_true (by kernel_rfl))
theorem zsk:Opens El.int.row.row 24:=Opens.row zfw Tryz.underlying24 (by kernel_rfl) Nat.one_pos (of_decide_eq_true (by kernel_rfl))
theorem zlq:Opens (TeE.row.row.cat El.int.row.row) 26:=Opens.struct Tryz.underlying26 (by kernel_rfl) (OpensF.more zph rfl (OpensF.last zsk rfl))
theorem opens_set:Opens (GlE.row.cat ((TeE.row.row.cat El.int.row.row).cat El.int)) 28 :=
 Opens.struct Tryz.underlying28 (by kernel_rfl) (OpensF.more zsl rfl (OpensF.more zlq rfl (OpensF.last za0 rfl)))
theorem Gr.tzz{S:Nat->Prop}{w:World}{a:OA}{cap:Nat}{m:List (List Te)}(h:Gr TeE.row S w a cap m):Tzz w a cap m:=by
 refine⟨h.1,h.2.1,fun i hi=>?_⟩
 obtain⟨b,off,a',cap',h1,h2,h3,h4,-⟩:=h.rw (Below.refl _ _) i hi
 exact⟨b,off,a',cap',h1,h2,h3,h4.tz⟩
theorem Gr.rii{S:Nat->Prop}{w:World}{a:OA}{cap:Nat}{m:List (LI)}(h:Gr El.int.row S w a cap m):Rii w a cap m:=by
 refine⟨h.1,h.2.1,fun i hi=>?_⟩
 obtain⟨b,off,a',cap',h1,h2,h3,h4,-⟩:=h.rw (Below.refl _ _) i hi
 exact⟨b,off,a',cap',h1,h2,h3,h4.ri⟩
theorem zwk{H:Type}{enc:TypeId×Value->H}{W:World}{held:Bool}{r:Reach}{b0:Nat}{v:Value}{d:DataW H}{p:List MemPlace}
    (hv:Value.okWide Tryz.prog W r b0 28 v) (hd:DataW.Trod enc Tryz.prog W 0 (fun _=>true) held 28 v d p) (hz:∀n∈d.weights Tryz.prog 28,n<=reachBytes) :
    ∃a ca,∃l:List Gl,∃ga gc ma mc,∃s:Sr,∃ax:Int,v=.agg #[.slice a l.length ca,.slice ga s.rg.length gc,.slice ma s.rw.length mc,.int .i64 ax]/\Gr GlE (fun k=>k<W.heap.size) W a ca l/\Tzz W ga gc s.rg/\Rii W ma mc s.rw/\I64 ax:=by
 obtain⟨cs,⟨l,⟨m,n⟩,z⟩,rfl,us,ts,e,⟨a,ca,h1,_,h2,_⟩,us1,ts1,e1,⟨us2,ts2,e2,⟨b,cb,h3,_,h4,_⟩,c,cc,h5,_,h6,_⟩,⟨h7,h8⟩⟩:=opens_set.agg Tryz.underlying28 hv hd hz
 subst h1 h3 h5 h7
 refine⟨a,ca,l,b,cb,c,cc,⟨m,n⟩,z,?_,h2,h4.tzz,h6.rii,h8⟩
 congr 1
 apply Array.ext'
 rw[e,e1,e2]
 rfl
