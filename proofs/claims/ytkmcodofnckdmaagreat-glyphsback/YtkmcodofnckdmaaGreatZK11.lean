import Derived.Test.YtkmcodofnckdmaaGreatZK10
set_option linter.unusedSimpArgs false
set_option linter.unusedVariables false
namespace Go.Proofs.YtkmcodofnckdmaaGreat
structure Tu where
 rg:List Te
 al:Bool
 pts:LI
 dx:LI
 dy:LI
def Tu.none:Tu:=⟨[],false,[],[],[]⟩
def nmB(t:Tu)(n:Nat):Bool:=if t.al then decide (t.pts.length=0/\t.dx.length=n/\t.dy.length=n)else (decide (0<t.pts.length)&&(risB t.pts n&&decide (t.dx.length=t.pts.length/\t.dy.length=t.pts.length)))
def tuB(t:Tu)(n:Nat)(ax:Int):Bool:=rgB t.rg ax&&(nmB t n&&(t.dx.all fdB&&t.dy.all fdB))
def foT(o:Ol)(l:List Tu)(ax:Int):Bool:=foB o&&(decide (0<=ax/\ax<=4)&&(decide (l.length<=40)&&l.all (fun t=>tuB t (cntO o) ax)))
def nmd(t:Tu):LI:=if t.al then allI t.dx.length else t.pts
theorem zd2{t:Tu}{n:Nat}{ax:Int}:tuB t n ax=true↔rgB t.rg ax=true/\nmB t n=true/\t.dx.all fdB=true/\t.dy.all fdB=true:=by
 unfold tuB
 simp only[Bool.and_eq_true]
theorem zbc{o:Ol}{l:List Tu}{ax:Int}:foT o l ax=true↔foB o=true/\(0<=ax/\ax<=4)/\l.length<=40/\∀k,k<l.length->tuB (l.getD k Tu.none) (cntO o) ax=true:=by
 unfold foT
 simp only[Bool.and_eq_true,decide_eq_true_iff,List.all_eq_true]
 constructor
 . rintro ⟨h1,h2,h3,h4⟩
   exact⟨h1,h2,h3,fun k hk=>h4 _ (by rw[List.getD_eq_getElem?_getD,List.getElem?_eq_getElem hk];exact List.getElem_mem hk)⟩
 . rintro ⟨h1,h2,h3,h4⟩
   refine⟨h1,h2,h3,fun t ht=>?_⟩
   obtain⟨k,hk,e⟩:=List.getElem_of_mem ht
   have:=h4 k hk
   rw[List.getD_eq_getElem?_getD,List.getElem?_eq_getElem hk,Option.getD_some,e]at this
   exact this
theorem z49{o:Ol}{l:List Tu}{ax:Int}(h:¬(foB o=true/\(0<=ax/\ax<=4)/\l.length<=40/\∀k,k<l.length->tuB (l.getD k Tu.none) (cntO o) ax=true)):foT o l ax=false:=by
 cases hf:foT o l ax with
 | false=>rfl
 | true=>exact absurd (zbc.1 hf) h
theorem zi0{t:Tu}{n:Nat}(ha:t.al=true):nmB t n=true↔t.pts=[]/\t.dx.length=n/\t.dy.length=n:=by
 unfold nmB
 rw[if_pos ha,decide_eq_true_iff,List.length_eq_zero_iff]
theorem zfx{t:Tu}{n:Nat}(ha:t.al=false):nmB t n=true↔0<t.pts.length/\risB t.pts n=true/\t.dx.length=t.pts.length/\t.dy.length=t.pts.length:=by
 unfold nmB
 rw[if_neg (by rw[ha];decide)]
 simp only[Bool.and_eq_true,decide_eq_true_iff]
theorem zls{t:Tu}{n:Nat}(h:nmB t n=true):t.dx.length=(nmd t).length/\t.dy.length=(nmd t).length:=by
 cases ha:t.al with
 | true =>
  obtain⟨_,h2,h3⟩:=(zi0 ha).1 h
  unfold nmd
  rw[if_pos ha,zjr]
  exact⟨rfl,by omega⟩
 | false =>
  obtain⟨_,_,h2,h3⟩:=(zfx ha).1 h
  unfold nmd
  rw[if_neg (by rw[ha];decide)]
  exact⟨h2,h3⟩
theorem zsq{t:Tu}{n:Nat}(h:nmB t n=true):risB (nmd t) n=true:=by
 cases ha:t.al with
 | true =>
  obtain⟨_,h2,h3⟩:=(zi0 ha).1 h
  unfold nmd
  rw[if_pos ha,h2]
  exact zyc n
 | false =>
  obtain⟨_,h1,_,_⟩:=(zfx ha).1 h
  unfold nmd
  rw[if_neg (by rw[ha];decide)]
  exact h1
theorem zz1{o:Ol}{t:Tu}{ax:Int}(hf:foB o=true)(h:tuB t (cntO o) ax=true):spB o (nmd t) t.dx t.dy=true:=by
 obtain⟨h1,h2,h3,h4⟩:=zd2.1 h
 unfold spB
 rw[hf,zsq h2,decide_eq_true (zls h2).1,decide_eq_true (zls h2).2,h3,h4]
 rfl
theorem zif{pts:LI}{n:Nat}(h:risB pts n=true):pts.length<=n:=by
 have hk:∀k,k<pts.length->(k:Int)<=pts.getD k 0:=by
  intro k
  induction k with
  | zero=>intro hk;exact(zct 0 (fun j hj=>zcu.1 h j (by omega))).1
  | succ k ih =>
   intro hk
   have h1:=ih (by omega)
   have h2:=zcu.1 h (k+1) hk
   unfold risP lastI at h2
   rw[if_neg (by omega),Nat.add_sub_cancel]at h2
   omega
 by_cases h0:pts.length=0
 . omega
 . have h1:=hk (pts.length-1) (by omega)
   have h2:=(zcu.1 h (pts.length-1) (by omega)).2
   omega
theorem zfl{o:Ol}(h:foB o=true):cntO o<=86:=by
 have hf:=za1.1 h
 have h1:=hf.2.2.1
 have h2:=hf.2.2.2.2.1
 unfold cntO
 omega
theorem zx1{f:Pn->Int}{cs:List (List Pn)}{lay:LI}{tch:List Bool}(hl:lay.length=cs.flatten.length)(ht:tch.length=cs.flatten.length)(h80:cs.flatten.length<=80)(hf:∀p∈cs.flatten,-32768<=f p/\f p<=32767)(hd:∀z∈lay,-32768<=z/\z<=32767):∀k,k<=cs.length->(conQ f cs lay tch k).length=ofC cs k:=by
 intro k
 induction k with
 | zero=>intro _;simp[conQ,ofC]
 | succ k ih =>
  intro hk
  have hs:=zdp (cs:=cs) (k:=k) (by omega)
  have hle:=znw cs (k+1)
  rw[zg8,List.length_append,ih (by omega),hs]
  congr 1
  obtain⟨c,hc⟩:∃c,cs.getD k []=c:=⟨_,rfl⟩
  have hcm:∀p∈c,p∈cs.flatten:=fun p hp=>by
   have h9:=zof cs k (by omega)
   rw[hc]at h9;rw[<-h9]at hp
   exact List.mem_of_mem_drop (List.mem_of_mem_take hp)
  rw[hc]at hs ⊢
  have e1:((lay.drop (ofC cs k)).take c.length).length=c.length:=by rw[List.length_take,List.length_drop];omega
  have e2:((tch.drop (ofC cs k)).take c.length).length=c.length:=by rw[List.length_take,List.length_drop];omega
  have hF:fitB (c.map f) ((tch.drop (ofC cs k)).take c.length) ((lay.drop (ofC cs k)).take c.length)=true:=zjc.2 ⟨⟨by rw[e2,List.length_map],by rw[e1,List.length_map],by rw[List.length_map];omega⟩,fun z hz=>by
   obtain⟨p,hp,rfl⟩:=List.mem_map.1 hz
   exact hf p (hcm p hp),fun z hz=>hd z (List.mem_of_mem_drop (List.mem_of_mem_take hz))⟩
  unfold segF
  rw[hc,zg3 hF,List.length_map]
theorem zrc{f:Pn->Int}{o:Ol}{pts told:LI}(hfo:FoP o)(hf:∀p∈o.cs.flatten,-32768<=f p/\f p<=32767)(hd:∀z∈told,-32768<=z/\z<=32767):(spQ f o pts told).length=cntO o:=by
 by_cases hp:0<o.ps.length
 . rw[zgm hp,List.length_map,za8]
 . have hc:cntO o=o.cs.flatten.length:=by unfold cntO;omega
   rw[zib hp,zx1 (by rw[za8,hc]) (by rw[zcs,hc]) hfo.2.2.2.2.1 hf (z1r hd _) _ (Nat.le_refl _),zlr,hc]
def baQ(f:Pn->Int)(g:Pa->Int)(o:Ol):LI:=o.cs.flatten.map f++o.ps.map g
theorem zuj(f:Pn->Int)(g:Pa->Int)(o:Ol):(baQ f g o).length=cntO o:=by unfold baQ cntO;rw[List.length_append,List.length_map,List.length_map];omega
def tqC(f:Pn->Int)(tl:Tu->LI)(o:Ol)(cs:LI)(i:Nat)(t:Tu):Rat:=(spQ f o (nmd t) (tl t)).getD i 0*alQ t.rg cs
def exN(f:Pn->Int)(g:Pa->Int)(tl:Tu->LI)(o:Ol)(l:List Tu)(cs:LI)(i:Nat):Rat:=(((baQ f g o).getD i 0:Int):Rat)+suQ (l.map (tqC f tl o cs i))
def exL(f:Pn->Int)(g:Pa->Int)(tl:Tu->LI)(o:Ol)(l:List Tu)(cs:LI):List Rat:=(List.range (cntO o)).map (exN f g tl o l cs)
theorem zje(f:Pn->Int)(g:Pa->Int)(tl:Tu->LI)(o:Ol)(l:List Tu)(cs:LI):(exL f g tl o l cs).length=cntO o:=by unfold exL;rw[List.length_map,List.length_range]
theorem z21{f:Pn->Int}{g:Pa->Int}{tl:Tu->LI}{o:Ol}{l:List Tu}{cs:LI}{i:Nat}(hi:i<cntO o):(exL f g tl o l cs).getD i 0=exN f g tl o l cs i:=by unfold exL;simp[List.getD,hi]
theorem z20(f:Pn->Int)(g:Pa->Int)(tl:Tu->LI)(o:Ol)(cs:LI)(i:Nat):exN f g tl o [] cs i=(((baQ f g o).getD i 0:Int):Rat):=by
 unfold exN
 rw[List.map_nil,suQ,Rat.add_zero]
theorem zok(f:Pn->Int)(g:Pa->Int)(tl:Tu->LI)(o:Ol)(l:List Tu)(t:Tu)(cs:LI)(i:Nat):exN f g tl o (l++[t]) cs i=exN f g tl o l cs i+(spQ f o (nmd t) (tl t)).getD i 0*alQ t.rg cs:=by
 unfold exN
 rw[List.map_append,List.map_cons,List.map_nil,zez,zia,Rat.add_assoc]
 rfl
def trm(ds:List Rat)(p:Rat)(j:Nat):List Rat:=if ds.getD j 0=0 then []else [ds.getD j 0*p]
def adK(T:List (List Rat))(ds:List Rat)(p:Rat):Nat->List (List Rat)
 | 0=>T
 | j+1=>(adK T ds p j).set j ((adK T ds p j).getD j []++trm ds p j)
theorem zmx(T:List (List Rat))(ds:List Rat)(p:Rat)(j:Nat):(adK T ds p j).length=T.length:=by
 induction j with
 | zero=>rfl
 | succ j ih=>rw[adK,List.length_set,ih]
theorem zup(T:List (List Rat))(ds:List Rat)(p:Rat)(j i:Nat)(hi:i<T.length):(adK T ds p j).getD i []=if i<j then T.getD i []++trm ds p i else T.getD i []:=by
 induction j with
 | zero=>rw[if_neg (by omega)];rfl
 | succ j ih =>
  rw[adK]
  by_cases e:i=j
  . subst e
    rw[if_pos (by omega)]
    have h1:((adK T ds p i).set i ((adK T ds p i).getD i []++trm ds p i)).getD i []=(adK T ds p i).getD i []++trm ds p i:=by simp[List.getD,zmx,hi]
    rw[h1,ih,if_neg (by omega)]
  . have h1:((adK T ds p j).set j ((adK T ds p j).getD j []++trm ds p j)).getD i []=(adK T ds p j).getD i []:=by simp[List.getD,List.getElem?_set_ne (fun x=>e x.symm)]
    rw[h1,ih]
    by_cases h:i<j
    . rw[if_pos h,if_pos (by omega)]
    . rw[if_neg h,if_neg (by omega)]
theorem zz2(ds:List Rat)(p:Rat)(j:Nat):suQ (trm ds p j)=ds.getD j 0*p:=by
 unfold trm
 by_cases h:ds.getD j 0=0
 . rw[if_pos h,h,suQ,Rat.zero_mul]
 . rw[if_neg h,zia]
theorem zz3(ds:List Rat)(p:Rat)(j:Nat):(trm ds p j).length<=1:=by unfold trm;split <;> simp
def TmI(f:Pn->Int)(g:Pa->Int)(tl:Tu->LI)(o:Ol)(l:List Tu)(cs:LI)(k:Nat)(T:List (List Rat)):Prop :=
 T.length=cntO o/\∀i,i<cntO o->1<=(T.getD i []).length/\(T.getD i []).length<=k+1/\suQ (T.getD i [])=exN f g tl o (l.take k) cs i
theorem TmI.start(f:Pn->Int)(g:Pa->Int)(tl:Tu->LI)(o:Ol)(l:List Tu)(cs:LI):TmI f g tl o l cs 0 ((baQ f g o).map (fun z:Int=>[(z:Rat)])):=by
 refine⟨by rw[List.length_map,zuj],fun i hi=>?_⟩
 have hi':i<(baQ f g o).length:=by rw[zuj];exact hi
 have e:((baQ f g o).map (fun z:Int=>[(z:Rat)])).getD i []=[(((baQ f g o).getD i 0:Int):Rat)]:=by simp[List.getD,hi']
 rw[e,List.take_zero,z20,zia]
 exact⟨by simp,by simp,rfl⟩
theorem TmI.skip{f:Pn->Int}{g:Pa->Int}{tl:Tu->LI}{o:Ol}{l:List Tu}{cs:LI}{k:Nat}{T:List (List Rat)}(h:TmI f g tl o l cs k T)(hk:k<l.length)(h0:alQ (l.getD k Tu.none).rg cs=0):TmI f g tl o l cs (k+1) T:=by
 refine⟨h.1,fun i hi=>?_⟩
 obtain⟨h1,h2,h3⟩:=h.2 i hi
 refine⟨h1,by omega,?_⟩
 rw[zaj (d:=Tu.none) hk,zok,h0,Rat.mul_zero,Rat.add_zero]
 exact h3
theorem TmI.step{f:Pn->Int}{g:Pa->Int}{tl:Tu->LI}{o:Ol}{l:List Tu}{cs:LI}{k:Nat}{T:List (List Rat)}(h:TmI f g tl o l cs k T)(hk:k<l.length)(hl:(spQ f o (nmd (l.getD k Tu.none)) (tl (l.getD k Tu.none))).length=cntO o):TmI f g tl o l cs (k+1) (adK T (spQ f o (nmd (l.getD k Tu.none)) (tl (l.getD k Tu.none))) (alQ (l.getD k Tu.none).rg cs) (spQ f o (nmd (l.getD k Tu.none)) (tl (l.getD k Tu.none))).length):=by
 refine⟨by rw[zmx];exact h.1,fun i hi=>?_⟩
 obtain⟨h1,h2,h3⟩:=h.2 i hi
 rw[zup _ _ _ _ _ (by rw[h.1];exact hi),if_pos (by rw[hl];exact hi),List.length_append,zez,zz2,h3,zaj (d:=Tu.none) hk,zok]
 have:=zz3 (spQ f o (nmd (l.getD k Tu.none)) (tl (l.getD k Tu.none))) (alQ (l.getD k Tu.none).rg cs) i
 exact⟨by omega,by omega,rfl⟩
theorem TmI.end{f:Pn->Int}{g:Pa->Int}{tl:Tu->LI}{o:Ol}{l:List Tu}{cs:LI}{T:List (List Rat)}(h:TmI f g tl o l cs l.length T):T.map suQ=exL f g tl o l cs:=by
 refine List.ext_getElem (by rw[List.length_map,zje,h.1]) (fun i h1 h2=>?_)
 have hi:i<cntO o:=by rw[zje]at h2;exact h2
 have h3:=(h.2 i hi).2.2
 rw[List.take_length]at h3
 have e1:(T.map suQ)[i]=suQ (T.getD i []):=by rw[List.getElem_map];simp[List.getD,show i<T.length by rw[h.1];exact hi]
 have e2:=z21 (f:=f) (g:=g) (tl:=tl) (l:=l) (cs:=cs) hi
 rw[List.getD_eq_getElem?_getD,List.getElem?_eq_getElem h2,Option.getD_some]at e2
 rw[e1,h3,e2]
def rnB(qs:List Rat):Bool:=qs.all (fun q=>decide (fldE (q+1/2).floor=0))
def rnN(q:Rat):Int:=fldN (q+1/2).floor
def rnL(qs:List Rat):LI:=if rnB qs=true then qs.map rnN else []
def rnE(qs:List Rat):Int:=if rnB qs=true then 0 else 4
theorem zxn(z:Int):fldE z=0\/fldE z=4:=by unfold fldE;split <;> simp
theorem z34{qs:List Rat}{k:Nat}(hk:k<qs.length)(h:fldE (qs.getD k 0+1/2).floor≠0):rnB qs=false:=by
 unfold rnB
 refine List.all_eq_false.2 ⟨qs.getD k 0,by rw[List.getD_eq_getElem?_getD,List.getElem?_eq_getElem hk];exact List.getElem_mem hk,by rw[decide_eq_true_iff];exact h⟩
theorem z0o{qs:List Rat}(h:∀k,k<qs.length->fldE (qs.getD k 0+1/2).floor=0):rnB qs=true:=by
 unfold rnB
 refine List.all_eq_true.2 (fun q hq=>?_)
 obtain⟨k,hk,e⟩:=List.getElem_of_mem hq
 have:=h k hk
 rw[List.getD_eq_getElem?_getD,List.getElem?_eq_getElem hk,Option.getD_some,e]at this
 rw[decide_eq_true_iff]
 exact this
theorem zrn(q:Rat):-32768<=rnN q/\rnN q<=32767:=by unfold rnN fldN;split <;> omega
def reP(cs:List (List Pn))(nx ny:LI)(i j:Nat):Pn:=⟨nx.getD (ofC cs i+j) 0,ny.getD (ofC cs i+j) 0,((cs.getD i []).getD j Pn.none).on⟩
def reC(cs:List (List Pn))(nx ny:LI)(i:Nat):List Pn:=(List.range (cs.getD i []).length).map (reP cs nx ny i)
def reA(n:Nat)(ps:List Pa)(nx ny:LI)(j:Nat):Pa:=⟨(ps.getD j Pa.none).g,nx.getD (n+j) 0,ny.getD (n+j) 0⟩
def reO(o:Ol)(nx ny:LI):Ol:=⟨(List.range o.cs.length).map (reC o.cs nx ny),(List.range o.ps.length).map (reA o.cs.flatten.length o.ps nx ny)⟩
def atOk(o:Ol)(l:List Tu)(cs:LI):Bool:=foT o l (cs.length:Int)&&(rnB (exL Pn.x Pa.dx Tu.dx o l cs)&&rnB (exL Pn.y Pa.dy Tu.dy o l cs))
def atO(o:Ol)(l:List Tu)(cs:LI):Ol:=if atOk o l cs=true then reO o ((exL Pn.x Pa.dx Tu.dx o l cs).map rnN) ((exL Pn.y Pa.dy Tu.dy o l cs).map rnN)else Ol.none
def atE(o:Ol)(l:List Tu)(cs:LI):Int:=if foT o l (cs.length:Int)=true then (if atOk o l cs=true then 0 else 4)else 1
structure Gl where
 o:Ol
 ts:List Tu
 ab:Int
 ar:Int
 mr:Bool
def Gl.none:Gl:=⟨Ol.none,[],0,0,false⟩
def gAt(l:List Gl)(g:Int):Option Gl:=if 0<=g then l[g.toNat]? else none
theorem z2h{l:List Gl}{g:Int}(h:g<0):gAt l g=none:=if_neg (by omega)
theorem z2j{l:List Gl}{g:Int}(h:(l.length:Int)<=g):gAt l g=none:=by
 unfold gAt
 rw[if_pos (by omega),List.getElem?_eq_none (by omega)]
theorem z2i{l:List Gl}{k:Nat}(h:k<l.length):gAt l (k:Int)=some (l.getD k Gl.none):=by
 unfold gAt
 rw[if_pos (by omega),Int.toNat_natCast,List.getElem?_eq_getElem h]
 simp[List.getD,h]
theorem zxl{l:List Gl}{g:Int}{x:Gl}(h:gAt l g=some x):0<=g/\g<(l.length:Int)/\x=l.getD g.toNat Gl.none:=by
 unfold gAt at h
 split at h
 . rename_i h0
   obtain⟨h1,h2⟩:=List.getElem?_eq_some_iff.1 h
   refine⟨h0,by omega,?_⟩
   rw[List.getD_eq_getElem?_getD,h,Option.getD_some]
 . cases h
def dqs(f:Int->Option Nat):List Pa->Option Nat
 | []=>some 0
 | p::ps=>(f p.g).bind fun d=>(dqs f ps).bind fun e=>some (max (d+1) e)
def dq(l:List Gl):Nat->Int->Option Nat
 | 0,g=>(gAt l g).bind fun x=>dqs (fun _=>none) x.o.ps
 | n+1,g=>(gAt l g).bind fun x=>dqs (dq l n) x.o.ps
theorem zer{f:Int->Option Nat}{p:Pa}{ps:List Pa}{d:Nat}:dqs f (p::ps)=some d ↔ ∃a b,f p.g=some a/\dqs f ps=some b/\d=max (a+1) b:=by
 rw[dqs]
 constructor
 . intro h
   cases h1:f p.g with
   | none=>rw[h1]at h;cases h
   | some a =>
    cases h2:dqs f ps with
    | none=>rw[h1,h2]at h;cases h
    | some b =>
     rw[h1,h2]at h;injection h with h
     exact⟨a,b,rfl,rfl,h.symm⟩
 . rintro ⟨a,b,h1,h2,rfl⟩
   rw[h1,h2]
   rfl
theorem zon{f f':Int->Option Nat}:∀ {ps:List Pa} {d:Nat},(∀p∈ps,∀e,f p.g=some e->f' p.g=some e)->dqs f ps=some d->dqs f' ps=some d:=by
 intro ps
 induction ps with
 | nil=>intro d _ h;exact h
 | cons p ps ih =>
  intro d hm h
  obtain⟨a,b,h1,h2,rfl⟩:=zer.1 h
  exact zer.2 ⟨a,b,hm p (by simp) a h1,ih (fun q hq=>hm q (by simp[hq])) h2,rfl⟩
theorem zt2{f:Int->Option Nat}:∀ {ps:List Pa} {d:Nat},dqs f ps=some d->∀p∈ps,∃e,f p.g=some e/\e<d:=by
 intro ps
 induction ps with
 | nil=>intro d _ p hp;cases hp
 | cons q ps ih =>
  intro d h p hp
  obtain⟨a,b,h1,h2,rfl⟩:=zer.1 h
  rcases List.mem_cons.1 hp with rfl|hp
  . exact⟨a,h1,by omega⟩
  . obtain⟨e,h3,h4⟩:=ih h2 p hp
    exact⟨e,h3,by omega⟩
theorem zzi{f:Int->Option Nat}{n:Nat}:∀ {ps:List Pa} {d:Nat},(∀p∈ps,∀e,f p.g=some e->e<=n)->dqs f ps=some d->d<=n+1:=by
 intro ps
 induction ps with
 | nil=>intro d _ h;injection h with h;omega
 | cons p ps ih =>
  intro d hm h
  obtain⟨a,b,h1,h2,rfl⟩:=zer.1 h
  have:=hm p (by simp) a h1
  have:=ih (fun q hq=>hm q (by simp[hq])) h2
  omega
theorem zom{ps:List Pa}{d:Nat}(h:dqs (fun _=>none) ps=some d):ps=[]/\d=0:=by
 cases ps with
 | nil=>injection h with h;exact⟨rfl,h.symm⟩
 | cons p ps =>
  obtain⟨a,b,h1,_⟩:=zer.1 h
  cases h1
theorem zxu(f:Int->Option Nat)(p:Pa):∀ps:List Pa,dqs f (ps++[p])=(dqs f ps).bind fun e=>(f p.g).bind fun d=>some (max e (d+1)):=by
 intro ps
 induction ps with
 | nil =>
  rw[List.nil_append,dqs,dqs]
  cases f p.g with
  | none=>rfl
  | some d=>simp[dqs]
 | cons q ps ih =>
  rw[List.cons_append,dqs,ih,dqs]
  cases f q.g with
  | none=>rfl
  | some a =>
   cases dqs f ps with
   | none=>rfl
   | some b =>
    cases f p.g with
    | none=>rfl
    | some c =>
     simp only[Option.bind_some]
     congr 1
     omega
def dqf(l:List Gl):Nat->Int->Option Nat
 | 0=>fun _=>none
 | n+1=>dq l n
theorem dq_eq(l:List Gl)(n:Nat)(g:Int):dq l n g=(gAt l g).bind fun x=>dqs (dqf l n) x.o.ps:=by cases n <;> rfl
theorem zbg{l:List Gl}{n:Nat}{g:Int}{d:Nat}:dq l n g=some d ↔ ∃x,gAt l g=some x/\dqs (dqf l n) x.o.ps=some d:=by
 rw[dq_eq]
 constructor
 . intro h
   cases hx:gAt l g with
   | none=>rw[hx]at h;cases h
   | some x=>rw[hx]at h;exact⟨x,rfl,h⟩
 . rintro ⟨x,h1,h2⟩
   rw[h1]
   exact h2
theorem z24{l:List Gl}:∀ {n:Nat} {g:Int} {d:Nat},dq l n g=some d->dq l (n+1) g=some d:=by
 intro n
 induction n with
 | zero =>
  intro g d h
  obtain⟨x,h1,h2⟩:=zbg.1 h
  obtain⟨h3,rfl⟩:=zom h2
  exact zbg.2 ⟨x,h1,by rw[h3];rfl⟩
 | succ n ih =>
  intro g d h
  obtain⟨x,h1,h2⟩:=zbg.1 h
  exact zbg.2 ⟨x,h1,zon (fun p _ e h=>ih h) h2⟩
theorem ze9{l:List Gl}{n m:Nat}{g:Int}{d:Nat}(h:dq l n g=some d)(hm:n<=m):dq l m g=some d:=by
 induction m with
 | zero=>rw[show n=0 by omega]at h;exact h
 | succ m ih =>
  by_cases e:n=m+1
  . rw[<-e];exact h
  . exact z24 (ih (by omega))
theorem dq_le{l:List Gl}:∀ {n:Nat} {g:Int} {d:Nat},dq l n g=some d->d<=n:=by
 intro n
 induction n with
 | zero =>
  intro g d h
  obtain⟨x,h1,h2⟩:=zbg.1 h
  rw[(zom h2).2]
  exact Nat.le_refl _
 | succ n ih =>
  intro g d h
  obtain⟨x,h1,h2⟩:=zbg.1 h
  exact zzi (fun p _ e h=>ih h) h2
theorem zt3{l:List Gl}:∀ {d n:Nat} {g:Int},dq l n g=some d->dq l d g=some d:=by
 intro d
 induction d using Nat.strongRecOn with
 | ind d ih =>
  intro n g h
  obtain⟨x,h1,h2⟩:=zbg.1 h
  refine zbg.2 ⟨x,h1,zon (fun p hp e he=>?_) h2⟩
  obtain⟨e2,h3,h4⟩:=zt2 h2 p hp
  have hee:e=e2:=by rw[h3]at he;injection he with he;exact he.symm
  subst hee
  obtain⟨n',rfl⟩:∃m,n=m+1:=by
   cases n with
   | zero=>cases h3
   | succ m=>exact⟨m,rfl⟩
  obtain⟨d',rfl⟩:∃m,d=m+1:=⟨d-1,by omega⟩
  exact ze9 (ih e h4 h3) (by omega)
theorem z23{l:List Gl}{n m:Nat}{g:Int}{d e:Nat}(h:dq l n g=some d)(k:dq l m g=some e):d=e:=by
 have h1:=ze9 h (Nat.le_max_left n m)
 have h2:=ze9 k (Nat.le_max_right n m)
 rw[h1]at h2
 injection h2
theorem dq_at{l:List Gl}{n m:Nat}{g:Int}{d:Nat}(h:dq l n g=some d):dq l m g=if d<=m then some d else none:=by
 split
 . rename_i h1;exact ze9 (zt3 h) h1
 . rename_i h1
   cases hm:dq l m g with
   | none=>rfl
   | some e =>
    have h2:=z23 h hm
    have h3:=dq_le hm
    omega
theorem ze8{l:List Gl}{n:Nat}{g:Int}{d:Nat}{x:Gl}(h:dq l n g=some d)(hx:gAt l g=some x):∀p∈x.o.ps,∃e,dq l e p.g=some e/\e<d:=by
 obtain⟨y,h1,h2⟩:=zbg.1 h
 rw[hx]at h1;injection h1 with h1;subst h1
 intro p hp
 obtain⟨e,h3,h4⟩:=zt2 h2 p hp
 cases n with
 | zero=>cases h3
 | succ n=>exact⟨e,zt3 h3,h4⟩
def dI:Option Nat->Int
 | some d=>(d:Int)
 | none=>-1
def dpG(l:List Gl)(g:Int):Int:=dI (dq l 6 g)
def ptn(x:Gl):Nat:=x.o.cs.flatten.length
def sqs(f:Int->Nat):List Pa->Nat
 | []=>0
 | p::ps=>f p.g+sqs f ps
theorem zvk(f:Int->Nat)(p:Pa):∀ps:List Pa,sqs f (ps++[p])=sqs f ps+f p.g:=by
 intro ps
 induction ps with
 | nil=>simp[sqs]
 | cons q ps ih=>rw[List.cons_append,sqs,ih,sqs];omega
theorem zj4{f f':Int->Nat}:∀ {ps:List Pa},(∀p∈ps,f p.g=f' p.g)->sqs f ps=sqs f' ps:=by
 intro ps
 induction ps with
 | nil=>intro _;rfl
 | cons q ps ih=>intro h;rw[sqs,sqs,h q (by simp),ih (fun p hp=>h p (by simp[hp]))]
theorem z0g{f:Int->Nat}:∀ {ps:List Pa} {p:Pa},p∈ps->f p.g<=sqs f ps:=by
 intro ps
 induction ps with
 | nil=>intro p hp;cases hp
 | cons q ps ih =>
  intro p hp
  rw[sqs]
  rcases List.mem_cons.1 hp with rfl|hp
  . omega
  . have:=ih hp;omega
def sq(l:List Gl):Nat->Int->Nat
 | 0,g=>match gAt l g with | none=>0 | some x=>ptn x+sqs (fun _=>0) x.o.ps
 | n+1,g=>match gAt l g with | none=>0 | some x=>ptn x+sqs (sq l n) x.o.ps
def sqf(l:List Gl):Nat->Int->Nat
 | 0=>fun _=>0
 | n+1=>sq l n
theorem sq_at{l:List Gl}{n:Nat}{g:Int}{x:Gl}(h:gAt l g=some x):sq l n g=ptn x+sqs (sqf l n) x.o.ps:=by
 cases n with
 | zero=>rw[sq,h];rfl
 | succ n=>rw[sq,h];rfl
theorem zgl{l:List Gl}:∀ {d m:Nat} {g:Int},dq l d g=some d->d<=m->sq l m g=sq l d g:=by
 intro d
 induction d using Nat.strongRecOn with
 | ind d ih =>
  intro m g h hm
  obtain⟨x,h1,h2⟩:=zbg.1 h
  rw[sq_at h1,sq_at h1]
  congr 1
  refine zj4 (fun p hp=>?_)
  obtain⟨e,h3,h4⟩:=ze8 h h1 p hp
  obtain⟨d',rfl⟩:∃k,d=k+1:=⟨d-1,by omega⟩
  obtain⟨m',rfl⟩:∃k,m=k+1:=⟨m-1,by omega⟩
  show sq l m' p.g=sq l d' p.g
  have k1:sq l m' p.g=sq l e p.g:=ih e h4 h3 (by omega)
  have k2:sq l d' p.g=sq l e p.g:=ih e h4 h3 (by omega)
  rw[k1,k2]
def szG(l:List Gl)(g:Int):Nat:=match dq l 6 g with | none=>0 | some d=>min (sq l d g) 2001
theorem zm6{l:List Gl}{g:Int}{d:Nat}(h:dq l 6 g=some d):szG l g=min (sq l 6 g) 2001:=by
 unfold szG
 rw[h]
 show min (sq l d g) 2001=_
 rw[zgl (zt3 h) (dq_le h)]
def cap(n:Nat):Nat:=min n 2001
theorem z0h{l:List Gl}{n:Nat}{g:Int}{x:Gl}(hx:gAt l g=some x){p:Pa}(hp:p∈x.o.ps):sq l n p.g<=sq l (n+1) g:=by
 rw[sq_at (n:=n+1) hx]
 have:=z0g (f:=sq l n) hp
 show sq l n p.g<=ptn x+sqs (sq l n) x.o.ps
 omega
open Go.RowKit Go.Maps
def Gi(base:Nat)(w:World)(v:Value)(l:LI):Prop:=Gw El.int 3 base (fun _=>False) w v l
theorem Gi.nil(base:Nat)(w:World):Gi base w (.slice none 0 0) []:=Gw.nil _ _ _ _ _
theorem Gi.lo{base:Nat}{w:World}{v:Value}{l:LI}(h:Gi base w v l){g:Nat}(hg:v.ownBlock=some g):base<=g/\g<w.heap.size:=Gw.lo h hg
theorem Gr.ri{S:Nat->Prop}{w:World}{a:OA}{cap:Nat}{l:LI}(h:Gr El.int S w a cap l):Ri w a cap l:=by
 have hz:∀i,i<l.length->I64 (l.getD i 0):=fun i hi=>by
  obtain⟨b,off,vs,e,hb,hr,hc⟩:=h.2.2.2 i hi
  exact hr.2
 refine⟨fun z hz1=>?_,h.1,h.2.1,?_⟩
 . obtain⟨i,hi,e⟩:=List.getElem_of_mem hz1
   have:=hz i hi
   rw[List.getD_eq_getElem?_getD,List.getElem?_eq_getElem hi,Option.getD_some,e]at this
   exact this
 . by_cases h0:l=[]
   . exact .inl h0
   . obtain⟨b,off,e,hb⟩:=h.blk h0
     refine .inr ⟨b,off,e,hb,fun i hi=>?_⟩
     obtain⟨b',off',vs,e',hb',hr,hc⟩:=h.2.2.2 i hi
     rw[e]at e'
     cases e'
     have:=hc 0 Nat.one_pos
     rw[hr.1,show i*El.int.sz=i from Nat.mul_one i]at this
     exact this
theorem Gi.slice{base:Nat}{w:World}{v:Value}{l:LI}(h:Gi base w v l):∃a cap,v=.slice a l.length cap/\Ri w a cap l/\∀b o,a=some ⟨b,o,none⟩->base<=b/\b<w.heap.size:=by
 obtain⟨a,cap,e,hg,hb⟩:=Gw.slice h
 exact⟨a,cap,e,hg.ri,hb⟩
theorem Gi.stay{base:Nat}{w w':World}{v:Value}{l:LI}(h:Gi base w v l)(hs:w.heap.size<=w'.heap.size)(ho:∀k,v.ownBlock=some k->w'.heap[k]?=w.heap[k]?):Gi base w' v l :=
 Gw.stay h hs (fun k hk=>hk.elim) ho
theorem Gi.below{base:Nat}{w w':World}{v:Value}{l:LI}(h:Gi base w v l)(hb:Below w.heap.size w w'):Gi base w' v l:=Gw.below h hb
theorem Gi.grown{base:Nat}{w w':World}{v:Value}{l:LI}{r:Option Nat}(h:Gi base w v l)(hg:w.grownBy w' r)(hr:∀k,v.ownBlock=some k->r≠some k):Gi base w' v l :=
 h.stay hg.size (fun k hk=>hg.block k (h.lo hk).2 (fun e=>hr k hk e.symm))
theorem Gi.ne{base:Nat}{w:World}{v:Value}{l:LI}{t:TypeId}{g:Nat}{cs:LV}(h:Gi base w v l)(hb:Bk t w g cs)(ht:t≠3):v.ownBlock≠some g:=by
 intro e
 obtain⟨cur,k⟩:=Gw.ty h e
 rw[hb]at k
 simp at k
 exact ht k.2
theorem Gi.set{base:Nat}{w:World}{v:Value}{l:LI}{t:TypeId}{g:Nat}{cs:LV}(h:Gi base w v l)(hb:Bk t w g cs)(ht:t≠3)(j:Nat)(z:Value):Gi base (w.setCell ⟨g,j,none⟩ z) v l :=
 h.stay (by simp[World.setCell]) (fun k hk=>Below.heap_setCell _ _ _ _ (fun e=>h.ne hb ht (by rw[hk,e])))
theorem zaf{w:World}{ops:Array Oper}{rest:List Oper}{o:Oper}{a:Act}{Q:Exit->Act->World->Prop}
    (hgd:o.guard=none) (s x:Operand) (ho:o.op=.call { callee:=.builtin .append,args:=#[s,x],argTypes:=#[29,29] })
    (base:Nat) (v:Value) (l:LI) (hs:a.eval s=v) (hown:Gi base w v l) (g:Nat) (z:Int) (hx:a.eval x=.slice (some ⟨g,0,none⟩) 1 1)
    (hg:g<w.heap.size) (c0:w.cell? ⟨g,0,none⟩=some (.int .i64 z)) (hz:I64 z) (hlen:l.length+1<=1000000) (hbase:base<=w.heap.size)
    (h:∀v' w',Gi base w' v' (l++[z])->w.grownBy w' v.ownBlock->(v'.ownBlock=v.ownBlock\/v'.ownBlock=some w.heap.size)->wpList Tryz.prog ops Q rest (a.put o.dst v') w'):wpList Tryz.prog ops Q (o::rest) a w:=by
 refine zad 29 3 Tryz.underlying29 zcc rfl Nat.one_pos (by decide) hgd s x ho base (fun _=>False) v l hs hown (some ⟨g,0,none⟩) 1 1 [z] rfl hx ?_ hlen hbase (fun v' w' k1 k2 k3=>h v' w' k1 k2 k3)
 refine Gr.one (vs:=[.int .i64 z]) ⟨rfl,hz⟩ hg (fun j hj=>?_)
 obtain rfl:j=0:=by simp[El.int,El.num]at hj;exact hj
 exact c0
def TeE:El Te:=(El.int.cat (El.int.cat El.int)).via (fun t=>(t.st,t.pk,t.en)) Te.none
def teV(t:Te):LV:=[.int .i64 t.st,.int .i64 t.pk,.int .i64 t.en]
theorem zhg{S:Nat->Prop}{w:World}{vs:LV}{p:Te}:TeE.rep S w vs p↔vs=teV p/\Tw p:=by
 constructor
 . rintro ⟨us,ts,rfl,⟨rfl,h1⟩,us2,ts2,rfl,⟨rfl,h2⟩,⟨rfl,h3⟩⟩
   exact⟨rfl,h1,h2,h3⟩
 . rintro ⟨rfl,h1,h2,h3⟩
   exact⟨[_],_,rfl,⟨rfl,h1⟩,[_],[_],rfl,⟨rfl,h2⟩,⟨rfl,h3⟩⟩
theorem Gr.tz{S:Nat->Prop}{w:World}{a:OA}{cap:Nat}{l:List Te}(h:Gr TeE S w a cap l):Tz w a cap l:=by
 refine⟨h.1,h.2.1,fun t ht=>?_,h.2.2.1,fun i hi=>?_⟩
 . obtain⟨i,hi,e⟩:=List.getElem_of_mem ht
   obtain⟨b,off,vs,e1,hb,hr,hc⟩:=h.2.2.2 i hi
   have h2:=(zhg.1 hr).2
   rw[List.getD_eq_getElem?_getD,List.getElem?_eq_getElem hi,Option.getD_some,e]at h2
   exact h2
 . obtain⟨b,off,vs,e1,hb,hr,hc⟩:=h.2.2.2 i hi
   obtain⟨rfl,h2⟩:=zhg.1 hr
   exact⟨b,off,e1,hb,hc 0 (by decide),hc 1 (by decide),hc 2 (by decide)⟩
def TuE:El Tu:=(TeE.row.cat (El.bool.cat (El.int.row.cat (El.int.row.cat El.int.row)))).via (fun t=>(t.rg,t.al,t.pts,t.dx,t.dy)) Tu.none
def TuC(S:Nat->Prop)(w:World)(ra:OA)(rc:Nat)(pa:OA)(pc:Nat)(xa:OA)(xc:Nat)(ya:OA)(yc:Nat)(t:Tu):Prop :=
 TeE.row.rep S w [.slice ra t.rg.length rc] t.rg/\El.int.row.rep S w [.slice pa t.pts.length pc] t.pts/\El.int.row.rep S w [.slice xa t.dx.length xc] t.dx/\El.int.row.rep S w [.slice ya t.dy.length yc] t.dy
theorem zus{S:Nat->Prop}{w:World}{vs:LV}{t:Tu}:TuE.rep S w vs t ↔ ∃ra rc pa pc xa xc ya yc,vs=[.slice ra t.rg.length rc,.bool t.al,.slice pa t.pts.length pc,.slice xa t.dx.length xc,.slice ya t.dy.length yc]/\TuC S w ra rc pa pc xa xc ya yc t:=by
 constructor
 . rintro ⟨us,ts,rfl,h1,us2,ts2,rfl,h2,us3,ts3,rfl,h3,us4,ts4,rfl,h4,h5⟩
   have h2:us2=[.bool t.al]:=h2
   subst h2
   have r1:=h1
   obtain⟨ra,rc,e1,_⟩:=h1
   have r3:=h3
   obtain⟨pa,pc,e3,_⟩:=h3
   have r4:=h4
   obtain⟨xa,xc,e4,_⟩:=h4
   have r5:=h5
   obtain⟨ya,yc,e5,_⟩:=h5;subst e1 e3 e4 e5
   exact⟨ra,rc,pa,pc,xa,xc,ya,yc,rfl,r1,r3,r4,r5⟩
 . rintro ⟨ra,rc,pa,pc,xa,xc,ya,yc,rfl,h1,h2,h3,h4⟩
   exact⟨_,_,rfl,h1,[.bool t.al],_,rfl,rfl,_,_,rfl,h2,_,_,rfl,h3,h4⟩
theorem zbq{α:Type}{E:El α}{S:Nat->Prop}{w:World}{a:OA}{c:Nat}{l:List α}(h:E.row.rep S w [.slice a l.length c] l):Gr E S w a c l/\l.length<=140737488351232:=by
 obtain⟨a',c',e,_,h1,h2⟩:=h;injection e with e;injection e with e1 e2 e3;subst e1 e3
 exact⟨h1,h2⟩
theorem TuC.tz{S:Nat->Prop}{w:World}{ra:OA}{rc:Nat}{pa:OA}{pc:Nat}{xa:OA}{xc:Nat}{ya:OA}{yc:Nat}{t:Tu}(h:TuC S w ra rc pa pc xa xc ya yc t):Tz w ra rc t.rg:=(zbq h.1).1.tz
theorem TuC.pts{S:Nat->Prop}{w:World}{ra:OA}{rc:Nat}{pa:OA}{pc:Nat}{xa:OA}{xc:Nat}{ya:OA}{yc:Nat}{t:Tu}(h:TuC S w ra rc pa pc xa xc ya yc t):Ri w pa pc t.pts:=(zbq h.2.1).1.ri
theorem TuC.dx{S:Nat->Prop}{w:World}{ra:OA}{rc:Nat}{pa:OA}{pc:Nat}{xa:OA}{xc:Nat}{ya:OA}{yc:Nat}{t:Tu}(h:TuC S w ra rc pa pc xa xc ya yc t):Ri w xa xc t.dx:=(zbq h.2.2.1).1.ri
theorem TuC.dy{S:Nat->Prop}{w:World}{ra:OA}{rc:Nat}{pa:OA}{pc:Nat}{xa:OA}{xc:Nat}{ya:OA}{yc:Nat}{t:Tu}(h:TuC S w ra rc pa pc xa xc ya yc t):Ri w ya yc t.dy:=(zbq h.2.2.2).1.ri
theorem TuC.below{S:Nat->Prop}{w w':World}{ra:OA}{rc:Nat}{pa:OA}{pc:Nat}{xa:OA}{xc:Nat}{ya:OA}{yc:Nat}{t:Tu}(h:TuC S w ra rc pa pc xa xc ya yc t)(hb:Below w.heap.size w w'):TuC S w' ra rc pa pc xa xc ya yc t :=
 ⟨TeE.row.stay h.1 hb.size (fun k hk hl=>⟨hk,hb.block k hl⟩),El.int.row.stay h.2.1 hb.size (fun k hk hl=>⟨hk,hb.block k hl⟩),El.int.row.stay h.2.2.1 hb.size (fun k hk hl=>⟨hk,hb.block k hl⟩),El.int.row.stay h.2.2.2 hb.size (fun k hk hl=>⟨hk,hb.block k hl⟩)⟩
theorem TuC.len{S:Nat->Prop}{w:World}{ra:OA}{rc:Nat}{pa:OA}{pc:Nat}{xa:OA}{xc:Nat}{ya:OA}{yc:Nat}{t:Tu}(h:TuC S w ra rc pa pc xa xc ya yc t):t.rg.length<=140737488351232/\t.pts.length<=140737488351232/\t.dx.length<=140737488351232/\t.dy.length<=140737488351232:=⟨(zbq h.1).2,(zbq h.2.1).2,(zbq h.2.2.1).2,(zbq h.2.2.2).2⟩
theorem Gr.tu{S:Nat->Prop}{w wr:World}{a:OA}{cap:Nat}{l:List Tu}(h:Gr TuE S w a cap l)(hb:Below w.heap.size w wr)(k:Nat)(hk:k<l.length) :
 ∃b off ra rc pa pc xa xc ya yc,a=some ⟨b,off,none⟩/\b<w.heap.size/\TuC S wr ra rc pa pc xa xc ya yc (l.getD k Tu.none) /\
     wr.cell? ⟨b,off+k*5,none⟩=some (.slice ra (l.getD k Tu.none).rg.length rc)/\wr.cell? ⟨b,off+k*5+1,none⟩=some (.bool (l.getD k Tu.none).al)/\wr.cell? ⟨b,off+k*5+2,none⟩=some (.slice pa (l.getD k Tu.none).pts.length pc)/\wr.cell? ⟨b,off+k*5+3,none⟩=some (.slice xa (l.getD k Tu.none).dx.length xc)/\wr.cell? ⟨b,off+k*5+4,none⟩=some (.slice ya (l.getD k Tu.none).dy.length yc):=by
 obtain⟨b,off,vs,e,h1,hr,hc⟩:=h.at hb k hk
 obtain⟨ra,rc,pa,pc,xa,xc,ya,yc,rfl,ht⟩:=zus.1 hr
 exact⟨b,off,ra,rc,pa,pc,xa,xc,ya,yc,e,h1,ht,hc 0 (by decide),hc 1 (by decide),hc 2 (by decide),hc 3 (by decide),hc 4 (by decide)⟩
theorem Bk.five{t:TypeId}{w:World}{g:Nat}{x y z u v:Value}(h:Bk t w g [x,y,z,u,v]):w.cell? ⟨g,0,none⟩=some x/\w.cell? ⟨g,1,none⟩=some y/\w.cell? ⟨g,2,none⟩=some z/\w.cell? ⟨g,3,none⟩=some u/\w.cell? ⟨g,4,none⟩=some v/\w.frozen? ⟨g,0,none⟩=false/\w.frozen? ⟨g,1,none⟩=false/\w.frozen? ⟨g,2,none⟩=false/\w.frozen? ⟨g,3,none⟩=false/\w.frozen? ⟨g,4,none⟩=false :=
 ⟨h.cell 0 (by simp),h.cell 1 (by simp),h.cell 2 (by simp),h.cell 3 (by simp),h.cell 4 (by simp),h.fz 0,h.fz 1,h.fz 2,h.fz 3,h.fz 4⟩
def GlE:El Gl:=(PnE.row.row.cat (PaE.row.cat (TuE.row.cat (El.int.cat (El.int.cat El.bool))))).via (fun x=>(x.o.cs,x.o.ps,x.ts,x.ab,x.ar,x.mr)) Gl.none
def GlC(S:Nat->Prop)(w:World)(ca:OA)(cc:Nat)(pa:OA)(pc:Nat)(ta:OA)(tc:Nat)(x:Gl):Prop :=
 PnE.row.row.rep S w [.slice ca x.o.cs.length cc] x.o.cs/\PaE.row.rep S w [.slice pa x.o.ps.length pc] x.o.ps/\TuE.row.rep S w [.slice ta x.ts.length tc] x.ts/\I64 x.ab/\I64 x.ar
theorem zjt{S:Nat->Prop}{w:World}{vs:LV}{x:Gl}:GlE.rep S w vs x ↔ ∃ca cc pa pc ta tc,vs=[.slice ca x.o.cs.length cc,.slice pa x.o.ps.length pc,.slice ta x.ts.length tc,.int .i64 x.ab,.int .i64 x.ar,.bool x.mr]/\GlC S w ca cc pa pc ta tc x:=by
 constructor
 . rintro ⟨us,ts,rfl,h1,us2,ts2,rfl,h2,us3,ts3,rfl,h3,us4,ts4,rfl,⟨rfl,h4⟩,us5,ts5,rfl,⟨rfl,h5⟩,h6⟩
   have h6:ts5=[.bool x.mr]:=h6
   subst h6
   have r1:=h1
   obtain⟨ca,cc,e1,_⟩:=h1
   have r2:=h2
   obtain⟨pa,pc,e2,_⟩:=h2
   have r3:=h3
   obtain⟨ta,tc,e3,_⟩:=h3;subst e1 e2 e3
   exact⟨ca,cc,pa,pc,ta,tc,rfl,r1,r2,r3,h4,h5⟩
 . rintro ⟨ca,cc,pa,pc,ta,tc,rfl,h1,h2,h3,h4,h5⟩
   exact⟨_,_,rfl,h1,_,_,rfl,h2,_,_,rfl,h3,[.int .i64 x.ab],_,rfl,⟨rfl,h4⟩,[.int .i64 x.ar],[.bool x.mr],rfl,⟨rfl,h5⟩,rfl⟩
theorem GlC.cs{S:Nat->Prop}{w:World}{ca:OA}{cc:Nat}{pa:OA}{pc:Nat}{ta:OA}{tc:Nat}{x:Gl}(h:GlC S w ca cc pa pc ta tc x):Gr PnE.row S w ca cc x.o.cs:=(zbq h.1).1
theorem GlC.ps{S:Nat->Prop}{w:World}{ca:OA}{cc:Nat}{pa:OA}{pc:Nat}{ta:OA}{tc:Nat}{x:Gl}(h:GlC S w ca cc pa pc ta tc x):Gr PaE S w pa pc x.o.ps:=(zbq h.2.1).1
theorem GlC.ts{S:Nat->Prop}{w:World}{ca:OA}{cc:Nat}{pa:OA}{pc:Nat}{ta:OA}{tc:Nat}{x:Gl}(h:GlC S w ca cc pa pc ta tc x):Gr TuE S w ta tc x.ts:=(zbq h.2.2.1).1
theorem GlC.below{S:Nat->Prop}{w w':World}{ca:OA}{cc:Nat}{pa:OA}{pc:Nat}{ta:OA}{tc:Nat}{x:Gl}(h:GlC S w ca cc pa pc ta tc x)(hb:Below w.heap.size w w'):GlC S w' ca cc pa pc ta tc x :=
 ⟨PnE.row.row.stay h.1 hb.size (fun k hk hl=>⟨hk,hb.block k hl⟩),PaE.row.stay h.2.1 hb.size (fun k hk hl=>⟨hk,hb.block k hl⟩),TuE.row.stay h.2.2.1 hb.size (fun k hk hl=>⟨hk,hb.block k hl⟩),h.2.2.2⟩
theorem Gr.gl{S:Nat->Prop}{w wr:World}{a:OA}{cap:Nat}{l:List Gl}(h:Gr GlE S w a cap l)(hb:Below w.heap.size w wr)(k:Nat)(hk:k<l.length) :
 ∃b off ca cc pa pc ta tc,a=some ⟨b,off,none⟩/\b<w.heap.size/\GlC S wr ca cc pa pc ta tc (l.getD k Gl.none) /\
     wr.cell? ⟨b,off+k*6,none⟩=some (.slice ca (l.getD k Gl.none).o.cs.length cc)/\wr.cell? ⟨b,off+k*6+1,none⟩=some (.slice pa (l.getD k Gl.none).o.ps.length pc)/\wr.cell? ⟨b,off+k*6+2,none⟩=some (.slice ta (l.getD k Gl.none).ts.length tc)/\wr.cell? ⟨b,off+k*6+3,none⟩=some (.int .i64 (l.getD k Gl.none).ab)/\wr.cell? ⟨b,off+k*6+4,none⟩=some (.int .i64 (l.getD k Gl.none).ar)/\wr.cell? ⟨b,off+k*6+5,none⟩=some (.bool (l.getD k Gl.none).mr):=by
 obtain⟨b,off,vs,e,h1,hr,hc⟩:=h.at hb k hk
 obtain⟨ca,cc,pa,pc,ta,tc,rfl,ht⟩:=zjt.1 hr
 exact⟨b,off,ca,cc,pa,pc,ta,tc,e,h1,ht,hc 0 (by decide),hc 1 (by decide),hc 2 (by decide),hc 3 (by decide),hc 4 (by decide),hc 5 (by decide)⟩
theorem Bk.six{t:TypeId}{w:World}{g:Nat}{x y z u v s:Value}(h:Bk t w g [x,y,z,u,v,s]):w.cell? ⟨g,0,none⟩=some x/\w.cell? ⟨g,1,none⟩=some y/\w.cell? ⟨g,2,none⟩=some z/\w.cell? ⟨g,3,none⟩=some u/\w.cell? ⟨g,4,none⟩=some v/\w.cell? ⟨g,5,none⟩=some s/\∀j,w.frozen? ⟨g,j,none⟩=false :=
 ⟨h.cell 0 (by simp),h.cell 1 (by simp),h.cell 2 (by simp),h.cell 3 (by simp),h.cell 4 (by simp),h.cell 5 (by simp),fun j=>h.fz j⟩
