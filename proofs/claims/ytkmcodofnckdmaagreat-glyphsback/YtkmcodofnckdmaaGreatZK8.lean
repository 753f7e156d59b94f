import Derived.Test.YtkmcodofnckdmaaGreatZK7
set_option linter.unusedSimpArgs false
set_option linter.unusedVariables false
namespace Go.Proofs.YtkmcodofnckdmaaGreat
def hd1(s:LN):Nat:=s.headD 0
def hd2:LN->Nat
 | x::y::_=>256*x+y
 | _=>0
theorem z1f(b:LN)(p:Nat):nmV b (p:Int) 1=hd1 (b.drop p):=by
 unfold nmV
 by_cases h:p+1<=b.length
 . rw[if_pos (by simp only[inB,decide_eq_true_iff];omega),Int.toNat_natCast]
   have:0<(b.drop p).length:=by rw[List.length_drop];omega
   match hd:b.drop p,this with
   | x::t,_=>simp[hd1,V8]
 . rw[if_neg (by simp only[inB,decide_eq_true_iff];omega),List.drop_eq_nil_of_le (by omega)]
   rfl
theorem zsr(b:LN)(p:Nat):nmV b (p:Int) 2=hd2 (b.drop p):=by
 unfold nmV
 by_cases h:p+2<=b.length
 . rw[if_pos (by simp only[inB,decide_eq_true_iff];omega),Int.toNat_natCast]
   have:1<(b.drop p).length:=by rw[List.length_drop];omega
   match hd:b.drop p,this with
   | x::y::t,_=>simp[hd2,V8]
 . rw[if_neg (by simp only[inB,decide_eq_true_iff];omega)]
   have:(b.drop p).length<2:=by rw[List.length_drop];omega
   match hd:b.drop p,this with
   | [],_=>rfl
   | [x],_=>rfl
theorem zcy(z:Int)(Z:LN):hd2 (be2 z++Z)=V8 (be2 z):=by simp[be2,hd2,V8]
theorem zds(z:Int)(Z:LN):(be2 z++Z).drop 2=Z:=rfl
theorem zdx{z:Int}(h1:0<=z)(h2:z<=65535):V8 (be2 z)=z.toNat:=by
 simp only[be2,V8,List.foldl_cons,List.foldl_nil]
 omega
def rdE:Nat->LN->LN×LN
 | 0,s=>([],s)
 | n+1,s=>(hd2 s::(rdE n (s.drop 2)).1,(rdE n (s.drop 2)).2)
theorem z0y(n:Nat)(s:LN):(rdE n s).1.length=n:=by
 induction n generalizing s with
 | zero=>rfl
 | succ n ih=>rw[rdE];simp[ih]
theorem zv6(n:Nat)(s:LN):(rdE n s).2=s.drop (2*n):=by
 induction n generalizing s with
 | zero=>rfl
 | succ n ih=>rw[rdE];dsimp only;rw[ih,List.drop_drop];congr 1;omega
theorem z0z(n:Nat)(s:LN)(i:Nat)(hi:i<n):(rdE n s).1.getD i 0=hd2 (s.drop (2*i)):=by
 induction n generalizing s i with
 | zero=>omega
 | succ n ih =>
  rw[rdE]
  cases i with
  | zero=>rfl
  | succ i=>dsimp only;rw[List.getD_cons_succ,ih (s.drop 2) i (by omega),List.drop_drop];congr 2;omega
theorem zv7:∀(es:LI),(∀e∈es,0<=e/\e<=65535)->∀Z,rdE es.length (es.flatMap be2++Z)=(es.map Int.toNat,Z):=by
 intro es
 induction es with
 | nil=>intro _ Z;rfl
 | cons e t ih =>
  intro h Z
  have h0:=h e (by simp)
  rw[List.length_cons,rdE,List.flatMap_cons,List.append_assoc,zcy,zds,ih (fun x hx=>h x (by simp[hx])),zdx h0.1 h0.2]
  rfl
def rdG:Nat->Nat->LN->LN->LN×LN
 | 0,_,s,acc=>(acc,s)
 | f+1,n,s,acc=>if acc.length<n then (if hd1 s/8%2=1 then rdG f n (s.drop 2) (acc++List.replicate (hd1 (s.drop 1)+1) (hd1 s))else rdG f n (s.drop 1) (acc++[hd1 s]))else (acc,s)
theorem zdo{f n:Nat}{s acc:LN}(h:n<=acc.length):rdG f n s acc=(acc,s):=by
 cases f with
 | zero=>rfl
 | succ f=>rw[rdG,if_neg (by omega)]
theorem zin:∀(f g n:Nat) (s acc:LN),n-acc.length<=f->n-acc.length<=g->rdG f n s acc=rdG g n s acc:=by
 intro f
 induction f with
 | zero=>intro g n s acc hf _;rw[zdo (by omega),zdo (by omega)]
 | succ f ih =>
  intro g n s acc hf hg
  by_cases hn:acc.length<n
  . obtain⟨g,rfl⟩:∃m,g=m+1:=⟨g-1,by omega⟩
    rw[rdG,rdG,if_pos hn,if_pos hn]
    split
    . exact ih _ _ _ _ (by rw[List.length_append,List.length_replicate];omega) (by rw[List.length_append,List.length_replicate];omega)
    . exact ih _ _ _ _ (by rw[List.length_append,List.length_singleton];omega) (by rw[List.length_append,List.length_singleton];omega)
  . rw[zdo (by omega),zdo (by omega)]
def LikeF(a:Nat)(x:Int):Prop:=a=x.toNat\/a=x.toNat+8
theorem zv4:∀(k:Nat) (l:LI),l.length=k->(∀x∈l,0<=x/\x<64/\x.toNat/8%2=0)->∀(n:Nat) (acc Z:LN),acc.length+l.length=n ->
    ∃m:LN,rdG n n (rl l++Z) acc=(acc++m,Z)/\m.length=l.length/\∀i,i<l.length->LikeF (m.getD i 0) (l.getD i 0):=by
 intro k
 induction k using Nat.strongRecOn with
 | ind k ih =>
  intro l hk hl n acc Z hn
  by_cases h0:l=[]
  . subst h0
    exact⟨[],by rw[zdo (by simp at hn;omega)];simp[zro],rfl,fun i hi=>by simp at hi⟩
  have zfy:0<l.length:=List.length_pos_iff.2 h0
  obtain⟨x,hx⟩:∃x,l.getD 0 0=x:=⟨_,rfl⟩
  have hxm:x∈l:=by
   rw[<-hx,List.getD_eq_getElem?_getD,List.getElem?_eq_getElem zfy]
   exact List.getElem_mem zfy
  obtain⟨x1,x2,x3⟩:=hl x hxm
  obtain⟨r,hr⟩:∃r,rn Int.toNat 256 l=r:=⟨_,rfl⟩
  have r1:=zee (c:=Int.toNat) (M:=256) (by omega) h0
  obtain⟨r2,r3⟩:=rn_le (c:=Int.toNat) (M:=256) l
  rw[hr]at r1 r2 r3
  have zb4:∀j,j<r->l.getD j 0=x:=fun j hj=>by
   have h1:=zrm (c:=Int.toNat) (M:=256) (l:=l) (j:=j) (by omega)
   rw[hx]at h1
   have h2:l.getD j 0∈l:=by rw[List.getD_eq_getElem?_getD,List.getElem?_eq_getElem (by omega)];exact List.getElem_mem _
   have:=(hl _ h2).1
   omega
  have hdl:(l.drop r).length=l.length-r:=List.length_drop
  rw[zie h0,hr,hx]
  obtain⟨n,rfl⟩:∃m,n=m+1:=⟨n-1,by omega⟩
  have fin:∀a:Nat,LikeF a x->(∃m:LN,rdG n (n+1) (rl (l.drop r)++Z) (acc++List.replicate r a)=(acc++List.replicate r a++m,Z)/\m.length=(l.drop r).length/\∀i,i<(l.drop r).length->LikeF (m.getD i 0) ((l.drop r).getD i 0)) ->
      ∃m:LN,rdG n (n+1) (rl (l.drop r)++Z) (acc++List.replicate r a)=(acc++m,Z)/\m.length=l.length/\∀i,i<l.length->LikeF (m.getD i 0) (l.getD i 0):=by
   rintro a ha ⟨m,h1,h2,h3⟩
   refine⟨List.replicate r a++m,by rw[h1,List.append_assoc],by rw[List.length_append,List.length_replicate,h2,hdl];omega,fun i hi=>?_⟩
   by_cases hir:i<r
   . have e:(List.replicate r a++m).getD i 0=a:=by simp[List.getD,List.getElem?_append_left (show i<(List.replicate r a).length by simpa using hir),hir]
     rw[e,zb4 i hir]
     exact ha
   . have e:(List.replicate r a++m).getD i 0=m.getD (i-r) 0:=by simp[List.getD,List.getElem?_append_right (show(List.replicate r a).length<=i by simp;omega)]
     have e2:(l.drop r).getD (i-r) 0=l.getD i 0:=by simp[List.getD,show r+(i-r)=i by omega]
     rw[e,<-e2]
     exact h3 _ (by omega)
  have zy3:∀a,∃m:LN,rdG n (n+1) (rl (l.drop r)++Z) (acc++List.replicate r a)=(acc++List.replicate r a++m,Z)/\m.length=(l.drop r).length/\∀i,i<(l.drop r).length->LikeF (m.getD i 0) ((l.drop r).getD i 0):=by
   intro a
   have:=ih (l.drop r).length (by omega) (l.drop r) rfl (fun y hy=>hl y (List.mem_of_mem_drop hy)) (n+1) (acc++List.replicate r a) Z (by rw[List.length_append,List.length_replicate,hdl];omega)
   rw[zin (n+1) n _ _ _ (by omega) (by rw[List.length_append,List.length_replicate];omega)]at this
   exact this
  by_cases h1:r=1
  . rw[if_pos h1,rdG,if_pos (by omega)]
    have e1:hd1 ([x.toNat]++rl (l.drop r)++Z)=x.toNat:=rfl
    have e2:([x.toNat]++rl (l.drop r)++Z).drop 1=rl (l.drop r)++Z:=rfl
    rw[e1,e2,if_neg (by omega)]
    have e3:[x.toNat]=List.replicate r x.toNat:=by rw[h1];rfl
    rw[e3]
    exact fin x.toNat (.inl rfl) (zy3 _)
  . rw[if_neg h1,rdG,if_pos (by omega)]
    have e1:hd1 ([x.toNat+8,r-1]++rl (l.drop r)++Z)=x.toNat+8:=rfl
    have e2:hd1 (([x.toNat+8,r-1]++rl (l.drop r)++Z).drop 1)=r-1:=rfl
    have e3:([x.toNat+8,r-1]++rl (l.drop r)++Z).drop 2=rl (l.drop r)++Z:=rfl
    rw[e1,e2,e3,if_pos (by omega),show r-1+1=r by omega]
    exact fin _ (.inr rfl) (zy3 _)
def dfR(f sh sm:Nat)(s:LN):Int×LN :=
 if f/sh%2=1 then (if f/sm%2=1 then ((hd1 s:Int),s.drop 1)else (-(hd1 s:Int),s.drop 1))else if f/sm%2=1 then (0,s)else (sx16 (hd2 s),s.drop 2)
def rdD(sh sm:Nat):LN->LN->Int->LI×LN
 | [],s,_=>([],s)
 | f::fs,s,a=>((a+(dfR f sh sm s).1)::(rdD sh sm fs (dfR f sh sm s).2 (a+(dfR f sh sm s).1)).1,(rdD sh sm fs (dfR f sh sm s).2 (a+(dfR f sh sm s).1)).2)
theorem ziq(sh sm:Nat)(fs:LN)(s:LN)(a:Int):(rdD sh sm fs s a).1.length=fs.length:=by
 induction fs generalizing s a with
 | nil=>rfl
 | cons f t ih=>rw[rdD];simp[ih]
theorem zoq{f sh sm:Nat}{d:Int}(h1:f/sh%2=1↔(d≠0/\-256<d/\d<256))(h2:f/sm%2=1↔(0<=d/\d<256))(hd:-32768<=d/\d<=32767)(Z:LN):dfR f sh sm (axB d++Z)=(d,Z):=by
 unfold dfR axB
 rcases zjp d with h|h|h|h
 . subst h
   rw[if_neg (by rw[h1];omega),if_pos (by rw[h2];omega),if_pos rfl]
   rfl
 . rw[if_pos (by rw[h1];omega),if_pos (by rw[h2];omega),if_neg (by omega),if_pos h]
   refine Prod.ext ?_ rfl
   show((d.toNat:Nat):Int)=d
   omega
 . rw[if_pos (by rw[h1];omega),if_neg (by rw[h2];omega),if_neg (by omega),if_neg (by omega),if_pos h]
   refine Prod.ext ?_ rfl
   show -(((-d).toNat:Nat):Int)=d
   omega
 . rw[if_neg (by rw[h1];omega),if_neg (by rw[h2];omega),if_neg (by omega),if_neg (by omega),if_neg (by omega),zcy,zds,zec hd.1 hd.2]
theorem zs2{m:Nat}{x:Int}(h:LikeF m x)(h8:x.toNat/8%2=0):m%2=x.toNat%2/\m/2%2=x.toNat/2%2/\m/4%2=x.toNat/4%2/\m/16%2=x.toNat/16%2/\m/32%2=x.toNat/32%2:=by
 rcases h with h|h <;> omega
theorem zvq:∀(l:List Pn) (a b:Int) (fs:LN),fs.length=l.length->(∀i,i<l.length->LikeF (fs.getD i 0) (flg ((difs a b l).getD i (0,0,false)):Int))->(∀t∈difs a b l,(-32768<=t.1/\t.1<=32767)/\(-32768<=t.2.1/\t.2.1<=32767)) ->
    (∀Z,rdD 2 16 fs ((difs a b l).flatMap (fun t=>axB t.1)++Z) a=(l.map (·.x),Z))/\(∀Z,rdD 4 32 fs ((difs a b l).flatMap (fun t=>axB t.2.1)++Z) b=(l.map (·.y),Z))/\fs.map (fun f=>decide (f%2=1))=l.map (·.on):=by
 intro l
 induction l with
 | nil =>
  intro a b fs hf _ _
  have:fs=[]:=List.length_eq_zero_iff.1 hf
  subst this
  exact⟨fun Z=>rfl,fun Z=>rfl,rfl⟩
 | cons p t ih =>
  intro a b fs hf hk hd
  match fs,hf with
  | f::fs,hf =>
   have hf':fs.length=t.length:=by simpa using hf
   obtain⟨i1,i2,i3⟩:=ih p.x p.y fs hf' (fun i hi=>by
    have:=hk (i+1) (by simpa using hi)
    rw[List.getD_cons_succ,difs,List.getD_cons_succ]at this
    exact this) (fun u hu=>hd u (by rw[difs];simp[hu]))
   have h0:=hk 0 (by simp)
   rw[difs,List.getD_cons_zero,List.getD_cons_zero]at h0
   have hd0:=hd (p.x-a,p.y-b,p.on) (by rw[difs];simp)
   obtain⟨b1,b2,b3,b4,b5,b6,b7⟩:=zf3 (p.x-a,p.y-b,p.on)
   obtain⟨c1,c2,c3,c4,c5⟩:=zs2 h0 (by rw[Int.toNat_natCast];exact b2)
   rw[Int.toNat_natCast]at c1 c2 c3 c4 c5;dsimp only at b3 b4 b5 b6 b7 hd0
   have ex:∀Z,dfR f 2 16 (axB (p.x-a)++Z)=(p.x-a,Z):=zoq (by rw[c2];exact b4) (by rw[c4];exact b5) hd0.1
   have ey:∀Z,dfR f 4 32 (axB (p.y-b)++Z)=(p.y-b,Z):=zoq (by rw[c3];exact b6) (by rw[c5];exact b7) hd0.2
   refine⟨fun Z=>?_,fun Z=>?_,?_⟩
   . rw[difs,List.flatMap_cons,List.append_assoc,rdD]
     dsimp only
     rw[ex,show a+(p.x-a)=p.x by omega,i1]
     rfl
   . rw[difs,List.flatMap_cons,List.append_assoc,rdD]
     dsimp only
     rw[ey,show b+(p.y-b)=p.y by omega,i2]
     rfl
   . rw[List.map_cons,List.map_cons,i3,c1,b3]
     cases p.on <;> rfl
def mkP:LI->LI->LN->List Pn
 | x::xs,y::ys,f::fs=>⟨x,y,decide (f%2=1)⟩::mkP xs ys fs
 | _,_,_=>[]
theorem zwt:∀(l:List Pn) (fs:LN),fs.length=l.length->fs.map (fun f=>decide (f%2=1))=l.map (·.on)->mkP (l.map (·.x)) (l.map (·.y)) fs=l:=by
 intro l
 induction l with
 | nil=>intro fs _ _;rfl
 | cons p t ih =>
  intro fs hf ho
  match fs,hf with
  | f::fs,hf =>
   rw[List.map_cons,List.map_cons]at ho;injection ho with h1 h2
   rw[List.map_cons,List.map_cons,mkP,ih fs (by simpa using hf) h2,h1]
theorem z1j:∀(xs ys:LI) (fs:LN),xs.length=fs.length->ys.length=fs.length->(mkP xs ys fs).length=fs.length:=by
 intro xs
 induction xs with
 | nil=>intro ys fs h _;cases fs <;> simp at h ⊢;rfl
 | cons x xs ih =>
  intro ys fs h1 h2
  cases fs with
  | nil=>simp at h1
  | cons f fs =>
   cases ys with
   | nil=>simp at h2
   | cons y ys=>rw[mkP,List.length_cons,List.length_cons,ih ys fs (by simpa using h1) (by simpa using h2)]
theorem z1k:∀(xs ys:LI) (fs:LN) (i:Nat),xs.length=fs.length->ys.length=fs.length->i<fs.length->(mkP xs ys fs).getD i Pn.none=⟨xs.getD i 0,ys.getD i 0,decide (fs.getD i 0%2=1)⟩:=by
 intro xs
 induction xs with
 | nil=>intro ys fs i h _ hi;simp at h;omega
 | cons x xs ih =>
  intro ys fs i h1 h2 hi
  cases fs with
  | nil=>simp at h1
  | cons f fs =>
   cases ys with
   | nil=>simp at h2
   | cons y ys =>
   rw[mkP]
   cases i with
   | zero=>rfl
   | succ i=>rw[List.getD_cons_succ,List.getD_cons_succ,List.getD_cons_succ,List.getD_cons_succ];exact ih ys fs i (by simpa using h1) (by simpa using h2) (by simpa using hi)
def cutC:LN->Nat->List Pn->Option (List (List Pn))
 | [],_,_=>some []
 | e::t,p,l=>if e<p\/l.length<=e then none else (cutC t (e+1) l).map (fun r=>((l.drop p).take (e+1-p))::r)
theorem zt9:∀(cs:List (List Pn)),(∀c∈cs,0<c.length)->∀(A:List Pn),cutC ((endF (A.length:Int) cs).map Int.toNat) A.length (A++cs.flatten)=some cs:=by
 intro cs
 induction cs with
 | nil=>intro _ A;rfl
 | cons c t ih =>
  intro h A
  have hc:=h c (by simp)
  have e1:((A.length:Int)+(c.length:Int)-1).toNat=A.length+c.length-1:=by omega
  have hi:=ih (fun x hx=>h x (by simp[hx])) (A++c)
  rw[List.length_append,List.append_assoc,Int.natCast_add]at hi
  rw[endF,List.map_cons,e1,cutC,if_neg (by rw[List.length_append,List.flatten_cons,List.length_append];omega),show A.length+c.length-1+1=A.length+c.length by omega,List.flatten_cons,hi,show A.length+c.length-A.length=c.length by omega]
  simp
theorem zty:∀(cs:List (List Pn)) (n:Int),0<=n->(∀c∈cs,0<c.length)->∀e∈endF n cs,0<=e/\e<n+(cs.flatten.length:Int):=by
 intro cs
 induction cs with
 | nil=>intro n _ _ e he;cases he
 | cons c t ih =>
  intro n hn h e he
  have hc:=h c (by simp)
  rw[endF]at he;rw[List.flatten_cons,List.length_append]
  rcases List.mem_cons.1 he with he|he
  . rw[he];omega
  . have:=ih (n+(c.length:Int)) (by omega) (fun x hx=>h x (by simp[hx])) e he
    omega
theorem ztz:∀(cs:List (List Pn)) (n:Int),cs≠[]->(endF n cs).getD (cs.length-1) 0=n+(cs.flatten.length:Int)-1:=by
 intro cs
 induction cs with
 | nil=>intro n h;exact absurd rfl h
 | cons c t ih =>
  intro n _
  rw[endF,List.flatten_cons,List.length_append]
  cases t with
  | nil=>simp
  | cons d u =>
   have:=ih (n+(c.length:Int)) (by simp)
   simp only[List.length_cons,Nat.add_sub_cancel]at this ⊢
   rw[List.getD_cons_succ,this,Int.natCast_add]
   omega
def ptsW(n:Nat)(es:LN):Nat:=if n=0 then 0 else es.getD (n-1) 0+1
def flW(n:Nat)(s:LN):LN×LN:=if ptsW n (rdE n s).1<=80 then rdG (ptsW n (rdE n s).1) (ptsW n (rdE n s).1) (rdE n s).2 []else ([],(rdE n s).2)
def fsW(n:Nat)(s:LN):LN:=(flW n s).1.take (ptsW n (rdE n s).1)
def xsW(n:Nat)(s:LN):LI×LN:=rdD 2 16 (fsW n s) (flW n s).2 0
def ysW(n:Nat)(s:LN):LI×LN:=rdD 4 32 (fsW n s) (xsW n s).2 0
def lsW(n:Nat)(s:LN):List Pn:=mkP (xsW n s).1 (ysW n s).1 (fsW n s)
def candC(n:Nat)(s:LN):Ol:=match cutC (rdE n s).1 0 (lsW n s)with | some cs=>⟨cs,[]⟩ | none=>Ol.none
def paR(s:LN):Pa:=⟨(hd2 s:Int),sx16 (hd2 (s.drop 2)),sx16 (hd2 (s.drop 4))⟩
def psR(s:LN)(k:Nat):List Pa:=(List.range k).map (fun i=>paR (s.drop (6*i)))
def candP(s:LN):Ol:=⟨[],psR (s.drop 2) (min (hd2 s) 7)⟩
def candO(b:LN):Ol:=if sx16 (hd2 b)=-1 then candP (b.drop 2)else if sx16 (hd2 b)<=10 then candC (sx16 (hd2 b)).toNat (b.drop 2)else Ol.none
theorem znr:∀(ps:List Pa),(∀p∈ps,(0<=p.g/\p.g<=65535)/\(-32768<=p.dx/\p.dx<=32767)/\(-32768<=p.dy/\p.dy<=32767))->∀Z,psR (ps.flatMap paE++Z) ps.length=ps:=by
 intro ps
 induction ps with
 | nil=>intro _ Z;rfl
 | cons p t ih =>
  intro h Z
  obtain⟨h1,h2,h3⟩:=h p (by simp)
  have hi:=ih (fun x hx=>h x (by simp[hx])) Z
  have e:∀i,((p::t).flatMap paE++Z).drop (6*(i+1))=(t.flatMap paE++Z).drop (6*i):=by
   intro i
   rw[List.flatMap_cons,List.append_assoc,show 6*(i+1)=(paE p).length+6*i by simp[paE,be2];omega,<-List.drop_drop,List.drop_left]
  have e0:paR (((p::t).flatMap paE++Z).drop (6*0))=p:=by
   rw[Nat.mul_zero,List.drop_zero,List.flatMap_cons,paE,List.append_assoc,List.append_assoc,List.append_assoc]
   unfold paR
   have d2:(be2 p.g++(be2 p.dx++(be2 p.dy++(t.flatMap paE++Z)))).drop 2=be2 p.dx++(be2 p.dy++(t.flatMap paE++Z)):=rfl
   have d4:(be2 p.g++(be2 p.dx++(be2 p.dy++(t.flatMap paE++Z)))).drop 4=be2 p.dy++(t.flatMap paE++Z):=rfl
   rw[d2,d4,zcy,zcy,zcy,zdx h1.1 h1.2,zec h2.1 h2.2,zec h3.1 h3.2,Int.toNat_of_nonneg h1.1]
  unfold psR at hi ⊢
  rw[List.length_cons,List.range_succ_eq_map,List.map_cons,List.map_map,e0]
  exact congrArg (List.cons p) ((List.map_congr_left fun i _=>by show paR (((p::t).flatMap paE++Z).drop (6*(i+1)))=_;rw[e]).trans hi)
theorem zt5{l:List Pn}:diB l=true ↔ ∀t∈difs 0 0 l,(-32768<=t.1/\t.1<=32767)/\(-32768<=t.2.1/\t.2.1<=32767):=by
 unfold diB
 simp only[List.all_eq_true,Bool.and_eq_true,zce]
theorem zh5{o:Ol}(h:wrOE o=0):FoP o/\(o.ps.length=0->diB o.cs.flatten=true):=by
 unfold wrOE at h
 by_cases h1:foB o=true
 . refine⟨za1.1 h1,fun h2=>?_⟩
   rw[if_pos h1,if_pos h2]at h
   cases hd:diB o.cs.flatten with
   | true=>rfl
   | false=>rw[hd]at h;simp at h
 . rw[if_neg h1]at h
   omega
theorem zle{o:Ol}(h:wrOE o=0)(h0:o.ps.length=0):wrOB o=coB o.cs:=by
 obtain⟨h1,h2⟩:=zh5 h
 rw[wrOB,if_pos (za1.2 h1),if_pos h0,if_pos (h2 h0)]
theorem zld{o:Ol}(h:wrOE o=0)(h0:o.ps.length≠0):wrOB o=paB o.ps:=by
 obtain⟨h1,h2⟩:=zh5 h
 rw[wrOB,if_pos (za1.2 h1),if_neg h0]
theorem zub{cs:List (List Pn)}(f4:∀c∈cs,0<c.length)(f5:cs.flatten.length<=80)(hd:∀t∈difs 0 0 cs.flatten,(-32768<=t.1/\t.1<=32767)/\(-32768<=t.2.1/\t.2.1<=32767))(Z:LN){s:LN}
    (hs:s=(endF 0 cs).flatMap be2++(rl (flL cs.flatten)++((difs 0 0 cs.flatten).flatMap (fun t=>axB t.1)++((difs 0 0 cs.flatten).flatMap (fun t=>axB t.2.1)++Z)))):ptsW cs.length (rdE cs.length s).1=cs.flatten.length/\cutC (rdE cs.length s).1 0 (lsW cs.length s)=some cs:=by
 subst hs
 have hes:=zty cs 0 (Int.le_refl _) f4
 have hE:=zv7 (endF 0 cs) (fun e he=>by have:=hes e he;omega) (rl (flL cs.flatten)++((difs 0 0 cs.flatten).flatMap (fun t=>axB t.1)++((difs 0 0 cs.flatten).flatMap (fun t=>axB t.2.1)++Z)))
 rw[zbo]at hE
 have hpt:ptsW cs.length ((endF 0 cs).map Int.toNat)=cs.flatten.length:=by
  unfold ptsW
  by_cases hc:cs=[]
  . subst hc;rfl
  . have hl:=ztz cs 0 hc
    have hp:0<cs.length:=List.length_pos_iff.2 hc
    have hpc:0<cs.flatten.length:=by
     match cs,hc with
     | c::t,_ =>
      have:=f4 c (by simp)
      rw[List.flatten_cons,List.length_append]
      omega
    rw[if_neg (by omega),List.getD_eq_getElem?_getD,List.getElem?_map,List.getElem?_eq_getElem (by rw[zbo];omega)]
    rw[List.getD_eq_getElem?_getD,List.getElem?_eq_getElem (by rw[zbo];omega)]at hl
    simp only[Option.map_some,Option.getD_some]at hl ⊢
    omega
 have hfl:(flL cs.flatten).length=cs.flatten.length:=by unfold flL;rw[List.length_map,zb5]
 obtain⟨m,hm1,hm2,hm3⟩:=zv4 _ (flL cs.flatten) rfl (fun x hx=>by
  unfold flL at hx
  obtain⟨t,_,rfl⟩:=List.mem_map.1 hx
  obtain⟨b1,b2,_⟩:=zf3 t
  exact⟨by omega,by omega,by rw[Int.toNat_natCast];exact b2⟩) cs.flatten.length [] ((difs 0 0 cs.flatten).flatMap (fun t=>axB t.1)++((difs 0 0 cs.flatten).flatMap (fun t=>axB t.2.1)++Z)) (by rw[hfl];simp)
 rw[List.nil_append]at hm1;rw[hfl]at hm2 hm3
 obtain⟨x1,x2,x3⟩:=zvq cs.flatten 0 0 m hm2 (fun i hi=>by
  have:=hm3 i hi
  have e:(flL cs.flatten).getD i 0=(flg ((difs 0 0 cs.flatten).getD i (0,0,false)):Int):=by
   unfold flL
   rw[List.getD_eq_getElem?_getD,List.getElem?_map,List.getD_eq_getElem?_getD,List.getElem?_eq_getElem (by rw[zb5];exact hi)]
   rfl
  rw[<-e]
  exact this) hd
 have hF:flW cs.length ((endF 0 cs).flatMap be2++(rl (flL cs.flatten)++((difs 0 0 cs.flatten).flatMap (fun t=>axB t.1)++((difs 0 0 cs.flatten).flatMap (fun t=>axB t.2.1)++Z))))=(m,(difs 0 0 cs.flatten).flatMap (fun t=>axB t.1)++((difs 0 0 cs.flatten).flatMap (fun t=>axB t.2.1)++Z)):=by
  unfold flW
  rw[hE,hpt,if_pos f5,hm1]
 have hfs:fsW cs.length ((endF 0 cs).flatMap be2++(rl (flL cs.flatten)++((difs 0 0 cs.flatten).flatMap (fun t=>axB t.1)++((difs 0 0 cs.flatten).flatMap (fun t=>axB t.2.1)++Z))))=m:=by
  unfold fsW
  rw[hF,hE,hpt]
  exact List.take_of_length_le (by show m.length<=_;omega)
 refine⟨by rw[hE];exact hpt,?_⟩
 unfold lsW ysW xsW
 rw[hfs,hF,hE]
 dsimp only
 rw[x1]
 dsimp only
 rw[x2]
 dsimp only
 rw[zwt cs.flatten m hm2 x3]
 have hC:=zt9 cs f4 []
 rw[List.nil_append]at hC
 simp only[List.length_nil]at hC
 exact hC
theorem zug{o:Ol}(h:wrOE o=0)(Z:LN):candO (wrOB o++Z)=o:=by
 obtain⟨⟨f1,f2,f3,f4,f5,f6,f7⟩,hdi⟩:=zh5 h
 by_cases h0:o.ps.length=0
 . rw[zle h h0]
   have hd:=zt5.1 (hdi h0)
   obtain⟨cs,ps⟩:=o
   have hps:ps=[]:=List.length_eq_zero_iff.1 h0
   subst hps
   dsimp only at *
   unfold coB
   simp only[List.append_assoc]
   have v0:V8 (be2 (cs.length:Int))=cs.length:=by rw[zdx (by omega) (by omega),Int.toNat_natCast]
   have hsx:sx16 cs.length=(cs.length:Int):=by unfold sx16;rw[if_neg (by omega)]
   unfold candO
   rw[zcy,zds,v0,hsx,if_neg (by omega),if_pos (by omega),Int.toNat_natCast]
   obtain⟨_,hC⟩:=zub f4 f5 hd Z (s:=_) rfl
   unfold candC
   rw[hC]
 . rw[zld h h0]
   obtain⟨cs,ps⟩:=o
   have hcs:cs=[]:=List.length_eq_zero_iff.1 (by rcases f1 with f1 | f1;exact f1;exact absurd f1 h0)
   subst hcs
   dsimp only at *
   have v0:V8 (be2 (ps.length:Int))=ps.length:=by rw[zdx (by omega) (by omega),Int.toNat_natCast]
   unfold paB candO
   simp only[List.append_assoc]
   have e1:hd2 ([255,255]++(be2 (ps.length:Int)++(ps.flatMap paE++Z)))=65535:=rfl
   have e2:([255,255]++(be2 (ps.length:Int)++(ps.flatMap paE++Z))).drop 2=be2 (ps.length:Int)++(ps.flatMap paE++Z):=rfl
   rw[e1,e2,if_pos (by decide)]
   unfold candP
   rw[zcy,zds,v0,show min ps.length 7=ps.length by omega,znr ps f7]
def rdOk(b:LN):Bool:=decide (wrOE (candO b)=0)&&decide (wrOB (candO b)=b)
def rdOL(b:LN):Ol:=if rdOk b then candO b else Ol.none
def rdOE(b:LN):Int:=if rdOk b then 0 else 2
theorem zik{b:LN}:rdOk b=true↔wrOE (candO b)=0/\wrOB (candO b)=b:=by
 unfold rdOk
 rw[Bool.and_eq_true,decide_eq_true_iff,decide_eq_true_iff]
theorem znn{o:Ol}(h:wrOE o=0):rdOk (wrOB o)=true/\candO (wrOB o)=o:=by
 have e:=zug h []
 rw[List.append_nil]at e
 exact⟨zik.2 (by rw[e];exact⟨h,rfl⟩),e⟩
theorem z39{b:LN}{o:Ol}(h:wrOE o=0)(hb:wrOB o=b):rdOk b=true/\candO b=o:=by
 rw[<-hb]
 exact znn h
theorem zey(o:Ol):(wrOE o=0/\foB o=true)\/(wrOE o=1/\foB o=false/\wrOB o=[])\/(wrOE o=4/\foB o=true/\o.ps.length=0/\diB o.cs.flatten=false/\wrOB o=[]):=by
 unfold wrOE wrOB
 cases h1:foB o with
 | false=>exact .inr (.inl ⟨rfl,rfl,rfl⟩)
 | true =>
  by_cases h2:o.ps.length=0
  . cases h3:diB o.cs.flatten with
    | true=>exact .inl ⟨by simp[h2],rfl⟩
    | false=>exact .inr (.inr ⟨by simp[h2],rfl,h2,rfl,by simp[h2]⟩)
  . exact .inl ⟨by simp[h2],rfl⟩
theorem z5m:∀(k:Nat) (l:LI),l.length=k->(∀x∈l,0<=x/\x<64)->Byt (rl l)/\(rl l).length<=2*l.length:=by
 intro k
 induction k using Nat.strongRecOn with
 | ind k ih =>
  intro l hk hl
  by_cases h0:l=[]
  . subst h0;exact⟨Byt.nil,Nat.le_refl _⟩
  have zfy:0<l.length:=List.length_pos_iff.2 h0
  have hx:=hl (l.getD 0 0) (by rw[List.getD_eq_getElem?_getD,List.getElem?_eq_getElem zfy];exact List.getElem_mem zfy)
  have r1:=zee (c:=Int.toNat) (M:=256) (by omega) h0
  obtain⟨r2,r3⟩:=rn_le (c:=Int.toNat) (M:=256) l
  obtain⟨i1,i2⟩:=ih (l.drop (rn Int.toNat 256 l)).length (by rw[List.length_drop];omega) _ rfl (fun x hx=>hl x (List.mem_of_mem_drop hx))
  rw[List.length_drop]at i2;rw[zie h0]
  split
  . refine⟨Byt.append (fun y hy=>?_) i1,by rw[List.length_append,List.length_singleton];omega⟩
    rw[List.mem_singleton.1 hy]
    omega
  . refine⟨Byt.append (fun y hy=>?_) i1,by rw[List.length_append];simp only[List.length_cons,List.length_nil];omega⟩
    rcases List.mem_cons.1 hy with hy|hy
    . rw[hy];omega
    . rw[List.mem_singleton.1 hy];omega
theorem z2r(l:List Pn):∀x∈flL l,0<=x/\x<64:=by
 intro x hx
 unfold flL at hx
 obtain⟨t,_,rfl⟩:=List.mem_map.1 hx
 have:=(zf3 t).1
 omega
theorem zg2(l:List Pn):(flL l).length=l.length:=by unfold flL;rw[List.length_map,zb5]
theorem flat2{α:Type}{f:α->LN}(h:∀x,(f x).length<=2)(m:List α):(m.flatMap f).length<=2*m.length:=by
 induction m with
 | nil=>simp
 | cons x t ih=>have:=h x;rw[List.flatMap_cons,List.length_append,List.length_cons];omega
theorem zf6{α:Type}{f:α->LN}(h:∀x,Byt (f x))(m:List α):Byt (m.flatMap f):=by
 intro y hy
 obtain⟨x,_,hx⟩:=List.mem_flatMap.1 hy
 exact h x y hx
theorem zmt(cs:List (List Pn)):Byt (coB cs)/\(coB cs).length<=2+2*cs.length+6*cs.flatten.length:=by
 unfold coB
 obtain⟨r1,r2⟩:=z5m _ (flL cs.flatten) rfl (z2r _)
 rw[zg2]at r2
 have x2:=flat2 (f:=fun t:Int×Int×Bool=>axB t.1) (fun t=>zjq _) (difs 0 0 cs.flatten)
 have y2:=flat2 (f:=fun t:Int×Int×Bool=>axB t.2.1) (fun t=>zjq _) (difs 0 0 cs.flatten)
 have e2:=flat2 (f:=be2) (fun t=>by simp[be2]) (endF 0 cs)
 rw[zb5]at x2 y2;rw[zbo]at e2
 refine⟨(zck _).append ((zf6 zck _).append (r1.append ((zf6 (fun t=>zui _) _).append (zf6 (fun t=>zui _) _)))),?_⟩
 simp only[List.length_append]
 have:(be2 (cs.length:Int)).length=2:=rfl
 omega
theorem zjm(ps:List Pa):Byt (paB ps)/\(paB ps).length=4+6*ps.length:=by
 unfold paB
 refine⟨Byt.append (fun y hy=>by simp at hy;omega) ((zck _).append (zf6 (fun p=>(zck _).append ((zck _).append (zck _))) _)),?_⟩
 have:∀l:List Pa,(l.flatMap paE).length=6*l.length:=by
  intro l
  induction l with
  | nil=>rfl
  | cons p t ih =>
   have e:(paE p).length=6:=rfl
   rw[List.flatMap_cons,List.length_append,ih,e,List.length_cons]
   omega
 simp only[List.length_append,this]
 have:(be2 (ps.length:Int)).length=2:=rfl
 simp only[List.length_cons,List.length_nil]
 omega
theorem zjl(o:Ol):Byt (wrOB o)/\(wrOB o).length<=600:=by
 unfold wrOB
 split
 . rename_i h
   obtain⟨f1,f2,f3,f4,f5,f6,f7⟩:=za1.1 h
   split
   . split
     . exact⟨(zmt _).1,by have:=(zmt o.cs).2;omega⟩
     . exact⟨Byt.nil,Nat.zero_le _⟩
   . exact⟨(zjm _).1,by have:=(zjm o.ps).2;omega⟩
 . exact⟨Byt.nil,Nat.zero_le _⟩
theorem zu4{o:Ol}(h:wrOE o=0):2<=(wrOB o).length:=by
 by_cases h0:o.ps.length=0
 . rw[zle h h0]
   unfold coB
   rw[List.length_append]
   have:(be2 (o.cs.length:Int)).length=2:=rfl
   omega
 . rw[zld h h0,(zjm _).2]
   omega
open Go.RowKit Go.Maps
structure El(α:Type) where
 sz:Nat
 dfl:α
 rep:(Nat->Prop)->World->LV->α->Prop
 len:∀ {S:Nat->Prop} {w:World} {vs:LV} {x:α},rep S w vs x->vs.length=sz
 one:∀ {S:Nat->Prop} {w:World} {vs:LV} {x:α},rep S w vs x->∀u∈vs,u.oneCell'=true
 stay:∀ {S S':Nat->Prop} {w w':World} {vs:LV} {x:α},rep S w vs x->w.heap.size<=w'.heap.size->(∀k,S k->k<w.heap.size->S' k/\w'.heap[k]?=w.heap[k]?)->rep S' w' vs x
def El.num(k:IntKind)(lo hi:Int):El Int where
 sz:=1
 dfl:=0
 rep:=fun _ _ vs z=>vs=[.int k z]/\lo<=z/\z<=hi
 len:=fun h=>by rw[h.1];rfl
 one:=fun h u hu=>by rw[h.1]at hu;rw[List.mem_singleton.1 hu];rfl
 stay:=fun h _ _=>h
def El.int:El Int:=El.num .i64 (-9223372036854775808) 9223372036854775807
theorem El.int_rep{S:Nat->Prop}{w:World}{vs:LV}{z:Int}:El.int.rep S w vs z↔vs=[.int .i64 z]/\I64 z:=Iff.rfl
def El.bool:El Bool where
 sz:=1
 dfl:=false
 rep:=fun _ _ vs z=>vs=[.bool z]
 len:=fun h=>by rw[h];rfl
 one:=fun h u hu=>by rw[h]at hu;rw[List.mem_singleton.1 hu];rfl
 stay:=fun h _ _=>h
def El.cat{α β:Type}(E:El α)(F:El β):El (α×β) where
 sz:=E.sz+F.sz
 dfl:=(E.dfl,F.dfl)
 rep:=fun S w vs p=>∃us ts,vs=us++ts/\E.rep S w us p.1/\F.rep S w ts p.2
 len:=fun⟨us,ts,e,h1,h2⟩=>by rw[e,List.length_append,E.len h1,F.len h2]
 one:=fun⟨us,ts,e,h1,h2⟩ u hu=>by
  rw[e]at hu
  rcases List.mem_append.1 hu with hu|hu
  . exact E.one h1 u hu
  . exact F.one h2 u hu
 stay:=fun⟨us,ts,e,h1,h2⟩ hs hk=>⟨us,ts,e,E.stay h1 hs hk,F.stay h2 hs hk⟩
def El.via{α β:Type}(E:El α)(f:β->α)(d:β):El β where
 sz:=E.sz
 dfl:=d
 rep:=fun S w vs b=>E.rep S w vs (f b)
 len:=fun h=>E.len h
 one:=fun h=>E.one h
 stay:=fun h hs hk=>E.stay h hs hk
def Gr{α:Type}(E:El α)(S:Nat->Prop)(w:World)(a:OA)(cap:Nat)(l:List α):Prop :=
 l.length<=cap/\cap<=maxLen/\(a=none->cap=0) /\
 ∀i,i<l.length->∃b off vs,a=some ⟨b,off,none⟩/\b<w.heap.size/\E.rep S w vs (l.getD i E.dfl)/\∀j,j<E.sz->w.cell? ⟨b,off+i*E.sz+j,none⟩=vs[j]?
theorem Gr.nil{α:Type}(E:El α)(S:Nat->Prop)(w:World)(a:OA)(cap:Nat)(h:cap<=maxLen)(h0:a=none->cap=0):Gr E S w a cap []:=⟨Nat.zero_le _,h,h0,fun i hi=>by simp at hi⟩
theorem Gr.lenB{α:Type}{E:El α}{S:Nat->Prop}{w:World}{a:OA}{cap:Nat}{l:List α}(h:Gr E S w a cap l):l.length<=9223372036854775807:=by
 have h1:=h.1
 have h2:=h.2.1
 unfold maxLen at h2
 omega
theorem Gr.blk{α:Type}{E:El α}{S:Nat->Prop}{w:World}{a:OA}{cap:Nat}{l:List α}(h:Gr E S w a cap l)(hl:l≠[]):∃b off,a=some ⟨b,off,none⟩/\b<w.heap.size:=by
 obtain⟨b,off,vs,e,hb,_⟩:=h.2.2.2 0 (List.length_pos_iff.2 hl)
 exact⟨b,off,e,hb⟩
theorem Gr.stay{α:Type}{E:El α}{S S':Nat->Prop}{w w':World}{a:OA}{cap:Nat}{l:List α}(h:Gr E S w a cap l)(hs:w.heap.size<=w'.heap.size)
    (hk:∀k,S k->k<w.heap.size->S' k/\w'.heap[k]?=w.heap[k]?) (ha:∀b o,a=some ⟨b,o,none⟩->l≠[]->b<w.heap.size->w'.heap[b]?=w.heap[b]?):Gr E S' w' a cap l:=by
 refine⟨h.1,h.2.1,h.2.2.1,fun i hi=>?_⟩
 obtain⟨b,off,vs,e,hb,h1,h2⟩:=h.2.2.2 i hi
 have hbk:=ha b off e (fun e0=>by rw[e0]at hi;simp at hi) hb
 exact⟨b,off,vs,e,Nat.lt_of_lt_of_le hb hs,E.stay h1 hs hk,fun j hj=>(World.cell?_of_block (w:=w) (a:=⟨b,off+i*E.sz+j,none⟩) hbk).trans (h2 j hj)⟩
theorem Gr.below{α:Type}{E:El α}{S:Nat->Prop}{w w':World}{a:OA}{cap:Nat}{l:List α}(h:Gr E S w a cap l)(hb:Below w.heap.size w w'):Gr E S w' a cap l :=
 h.stay hb.size (fun k hk hl=>⟨hk,hb.block k hl⟩) (fun b o e hl h1=>hb.block b h1)
theorem Gr.wide{α:Type}{E:El α}{S S':Nat->Prop}{w:World}{a:OA}{cap:Nat}{l:List α}(h:Gr E S w a cap l)(hk:∀k,S k->k<w.heap.size->S' k):Gr E S' w a cap l :=
 h.stay (Nat.le_refl _) (fun k h1 h2=>⟨hk k h1 h2,rfl⟩) (fun _ _ _ _ _=>rfl)
theorem Gr.at{α:Type}{E:El α}{S:Nat->Prop}{w wr:World}{a:OA}{cap:Nat}{l:List α}(h:Gr E S w a cap l)(hb:Below w.heap.size w wr)(k:Nat)(hk:k<l.length) :
 ∃b off vs,a=some ⟨b,off,none⟩/\b<w.heap.size/\E.rep S wr vs (l.getD k E.dfl)/\∀j,j<E.sz->wr.cell? ⟨b,off+k*E.sz+j,none⟩=vs[j]?:=by
 obtain⟨b,off,vs,e,h0,h1,h2⟩:=h.2.2.2 k hk
 exact⟨b,off,vs,e,h0,E.stay h1 hb.size (fun k hk hl=>⟨hk,hb.block k hl⟩),fun j hj=>(hb.cell (p:=⟨b,off+k*E.sz+j,none⟩) h0).trans (h2 j hj)⟩
theorem Gr.take{α:Type}{E:El α}{S:Nat->Prop}{w:World}{a:OA}{cap:Nat}{l:List α}(h:Gr E S w a cap l)(n:Nat):Gr E S w a cap (l.take n):=by
 refine⟨Nat.le_trans (by simp;omega) h.1,h.2.1,h.2.2.1,fun i hi=>?_⟩
 have hi':i<n/\i<l.length:=by simp at hi;omega
 obtain⟨b,off,vs,e,h0,h1,h2⟩:=h.2.2.2 i hi'.2
 have eg:(l.take n).getD i E.dfl=l.getD i E.dfl:=by simp[List.getD,List.getElem?_take,hi'.1]
 exact⟨b,off,vs,e,h0,by rw[eg];exact h1,h2⟩
theorem Gr.from{α:Type}{E:El α}{S:Nat->Prop}{w:World}{b off cap:Nat}{l:List α}(h:Gr E S w (some ⟨b,off,none⟩) cap l)(n:Nat)(hn:n<=l.length):Gr E S w (some ⟨b,off+n*E.sz,none⟩) (cap-n) (l.drop n):=by
 refine⟨by have:=h.1;simp;omega,Nat.le_trans (Nat.sub_le _ _) h.2.1,(fun e=>by cases e),fun i hi=>?_⟩
 have hi':n+i<l.length:=by simp at hi;omega
 obtain⟨b',off',vs,e,h0,h1,h2⟩:=h.2.2.2 (n+i) hi'
 cases e
 have eg:(l.drop n).getD i E.dfl=l.getD (n+i) E.dfl:=by simp[List.getD]
 refine⟨b,off+n*E.sz,vs,rfl,h0,by rw[eg];exact h1,fun j hj=>?_⟩
 rw[show off+n*E.sz+i*E.sz+j=off+(n+i)*E.sz+j by rw[Nat.add_mul];omega]
 exact h2 j hj
def El.row{α:Type}(E:El α):El (List α) where
 sz:=1
 dfl:=[]
 rep:=fun S w vs l=>∃a cap,vs=[.slice a l.length cap]/\(∀b o,a=some ⟨b,o,none⟩->l≠[]->S b)/\Gr E S w a cap l/\l.length<=140737488351232
 len:=fun⟨a,cap,e,_⟩=>by rw[e];rfl
 one:=fun⟨a,cap,e,_⟩ u hu=>by rw[e]at hu;rw[List.mem_singleton.1 hu];rfl
 stay:=fun⟨a,cap,e,hS,h,hlb⟩ hs hk=>by
  refine⟨a,cap,e,fun b o e1 hl=>?_,h.stay hs hk (fun b o e1 hl hb=>(hk b (hS b o e1 hl) hb).2),hlb⟩
  obtain⟨b',o',e2,hb⟩:=h.blk hl
  rw[e1]at e2
  cases e2
  exact(hk b (hS b o e1 hl) hb).1
theorem zeq{sz:Nat}:∀ {vss:List (LV)},(∀i,i<vss.length->(vss.getD i []).length=sz)->vss.flatten.length=vss.length*sz:=by
 intro vss
 induction vss with
 | nil=>intro _;simp
 | cons vs t ih =>
  intro h
  have h0:vs.length=sz:=h 0 (by simp)
  have h1:=ih (fun i hi=>h (i+1) (by simpa using hi))
  rw[List.flatten_cons,List.length_append,h0,h1,List.length_cons,Nat.add_mul]
  omega
theorem zf4{sz:Nat}:∀ {vss:List (LV)} {i j:Nat},(∀i,i<vss.length->(vss.getD i []).length=sz)->i<vss.length->j<sz->vss.flatten[i*sz+j]?=(vss.getD i [])[j]?:=by
 intro vss
 induction vss with
 | nil=>intro i j _ hi _;simp at hi
 | cons vs t ih =>
  intro i j h hi hj
  have h0:vs.length=sz:=h 0 (by simp)
  cases i with
  | zero=>rw[List.flatten_cons,Nat.zero_mul,Nat.zero_add,List.getElem?_append_left (by omega)];rfl
  | succ i =>
   have h1:=ih (fun i hi=>h (i+1) (by simpa using hi)) (i:=i) (j:=j) (by simpa using hi) hj
   rw[List.flatten_cons,List.getElem?_append_right (by rw[h0,Nat.add_mul];omega),h0,show(i+1)*sz+j-sz=i*sz+j by rw[Nat.add_mul];omega,h1]
   rfl
def Gw{α:Type}(E:El α)(t:TypeId)(base:Nat)(S:Nat->Prop)(w:World)(v:Value)(l:List α):Prop :=
 ∃vss:List (LV),vss.length=l.length/\w.ownsRow base t E.sz v l.length vss.flatten/\∀i,i<l.length->E.rep (fun k=>S k/\v.ownBlock≠some k) w (vss.getD i []) (l.getD i E.dfl)
theorem Gw.nil{α:Type}(E:El α)(t:TypeId)(base:Nat)(S:Nat->Prop)(w:World):Gw E t base S w (.slice none 0 0) []:=⟨[],rfl,World.ownsRow_nil w base _ _,fun i hi=>by simp at hi⟩
theorem Gw.made{α:Type}{E:El α}{t:TypeId}{base:Nat}{S:Nat->Prop}{w:World}{v:Value}(h:w.ownsRow base t E.sz v 0 []):Gw E t base S w v []:=⟨[],rfl,h,fun i hi=>by simp at hi⟩
theorem Gw.slice{α:Type}{E:El α}{t:TypeId}{base:Nat}{S:Nat->Prop}{w:World}{v:Value}{l:List α}(h:Gw E t base S w v l):∃a cap,v=.slice a l.length cap/\Gr E S w a cap l/\∀b o,a=some ⟨b,o,none⟩->base<=b/\b<w.heap.size:=by
 obtain⟨vss,hl,h3,h4⟩:=h
 have h5:∀i,i<vss.length->(vss.getD i []).length=E.sz:=fun i hi=>E.len (h4 i (by omega))
 have hown:=h3
 rcases h3.2 with ⟨rfl,h0⟩|⟨g,cap,cur,rfl,hb,hg,hc1,hc2,hc3,ht⟩
 . have:l=[]:=List.length_eq_zero_iff.1 h0
   subst this
   exact⟨none,0,rfl,Gr.nil _ _ _ _ _ (Nat.zero_le _) (fun _=>rfl),fun b o e=>by cases e⟩
 . refine⟨_,cap,rfl,⟨hc1,hc2,(fun e=>by cases e),fun i hi=>?_⟩,fun b o e=>by cases e;exact⟨hb,(Array.getElem?_eq_some_iff.1 hg).1⟩⟩
   refine⟨g,0,vss.getD i [],rfl,(Array.getElem?_eq_some_iff.1 hg).1,E.stay (h4 i hi) (Nat.le_refl _) (fun k hk _=>⟨hk.1,rfl⟩),fun j hj=>?_⟩
   have zb1:∀j,(⟨g,0,none⟩:Addr).add j=⟨g,0+j,none⟩:=by intro j;unfold Addr.add;split <;> simp_all
   have e:=zf4 h5 (i:=i) (j:=j) (by omega) hj
   have hjl:j<(vss.getD i []).length:=by rw[h5 i (by omega)];exact hj
   rw[List.getElem?_eq_getElem hjl]at e ⊢
   have d:=hown.cells (g:=g) rfl (i*E.sz+j) _ e
   rw[zb1]at d;rw[<-d]
   simp[Nat.add_assoc]
theorem Gw.lo{α:Type}{E:El α}{t:TypeId}{base:Nat}{S:Nat->Prop}{w:World}{v:Value}{l:List α}(h:Gw E t base S w v l){g:Nat}(hg:v.ownBlock=some g):base<=g/\g<w.heap.size:=by
 obtain⟨vss,hl,h3,h4⟩:=h
 exact World.ownsRow.lt h3 g hg
theorem Gw.stay{α:Type}{E:El α}{t:TypeId}{base:Nat}{S S':Nat->Prop}{w w':World}{v:Value}{l:List α}(h:Gw E t base S w v l)(hs:w.heap.size<=w'.heap.size)
    (hk:∀k,S k->v.ownBlock≠some k->k<w.heap.size->S' k/\w'.heap[k]?=w.heap[k]?) (ho:∀k,v.ownBlock=some k->w'.heap[k]?=w.heap[k]?):Gw E t base S' w' v l:=by
 obtain⟨vss,hl,h3,h4⟩:=h
 refine⟨vss,hl,⟨h3.1,?_⟩,fun i hi=>E.stay (h4 i hi) hs (fun k h1 h2=>⟨⟨(hk k h1.1 h1.2 h2).1,h1.2⟩,(hk k h1.1 h1.2 h2).2⟩)⟩
 rcases h3.2 with h0|⟨g,cap',cur,k1,k2,k3,k4⟩
 . exact .inl h0
 . exact .inr ⟨g,cap',cur,k1,k2,(ho g (by rw[k1];rfl)).trans k3,k4⟩
theorem Gw.below{α:Type}{E:El α}{t:TypeId}{base:Nat}{S:Nat->Prop}{w w':World}{v:Value}{l:List α}(h:Gw E t base S w v l)(hb:Below w.heap.size w w'):Gw E t base S w' v l :=
 h.stay hb.size (fun k h1 _ h2=>⟨h1,hb.block k h2⟩) (fun k hk=>hb.block k (h.lo hk).2)
theorem Gw.ty{α:Type}{E:El α}{t:TypeId}{base:Nat}{S:Nat->Prop}{w:World}{v:Value}{l:List α}(h:Gw E t base S w v l){g:Nat}(hg:v.ownBlock=some g):∃cur,w.heap[g]?=some (.cells cur t (0,0)):=by
 obtain⟨vss,hl,h3,h4⟩:=h
 rcases h3.2 with ⟨e,_⟩|⟨g',cap',cur,k1,k2,k3,k4⟩
 . rw[e]at hg;cases hg
 . rw[k1]at hg
   have e:some g'=some g:=hg
   injection e with e;rw[<-e]
   exact⟨cur,k3⟩
theorem Gw.ne{α β:Type}{E:El α}{F:El β}{t u:TypeId}{base base2:Nat}{S S2:Nat->Prop}{w:World}{v x:Value}{l:List α}{m:List β}(h:Gw E t base S w v l)(h2:Gw F u base2 S2 w x m)(ht:t≠u){g:Nat}(hg:v.ownBlock=some g):x.ownBlock≠some g:=by
 intro e
 obtain⟨c1,k1⟩:=h.ty hg
 obtain⟨c2,k2⟩:=h2.ty e
 rw[k1]at k2
 simp at k2
 exact ht k2.2
theorem Gw.beside{α β:Type}{E:El α}{F:El β}{t u:TypeId}{base base2:Nat}{S S2:Nat->Prop}{w w':World}{v x:Value}{l:List α}{m:List β}(h:Gw E t base S w v l)(h2:Gw F u base2 S2 w x m)(ht:t≠u)(hS:∀k,S k->x.ownBlock≠some k)(hg:w.grownBy w' x.ownBlock):Gw E t base S w' v l :=
 h.stay hg.size (fun k h1 _ h3=>⟨h1,hg.block k h3 (fun e=>hS k h1 e.symm)⟩) (fun k hk=>hg.block k (h.lo hk).2 (fun e=>h.ne h2 ht hk e.symm))
theorem zad{α:Type}{E:El α}{w:World}{ops:Array Oper}{rest:List Oper}{o:Oper}{a:Act}{Q:Exit->Act->World->Prop}(t e:TypeId){z:Value}{by':Nat}
    (ht:Tryz.prog.underlying t=some (.slice e)) (zl1:(Tryz.prog.info? e).map (fun i=>(i.zero,i.size,i.bytes))=some (some z,E.sz,by')) (hzs:z.cells.size=E.sz) (hsz:0<E.sz) (hby:by'<=1000)
    (hgd:o.guard=none) (s x:Operand) (ho:o.op=.call { callee:=.builtin .append,args:=#[s,x],argTypes:=#[t,t] })
    (base:Nat) (S:Nat->Prop) (v:Value) (l:List α) (hs:a.eval s=v) (hown:Gw E e base S w v l) (pa:OA) (pc n:Nat) (m:List α) (hn:n=m.length) (hx:a.eval x=.slice pa n pc)
    (hp:Gr E (fun k=>S k/\v.ownBlock≠some k) w pa pc m) (hlen:l.length+m.length<=1000000) (hbase:base<=w.heap.size)
    (h:∀v' w',Gw E e base S w' v' (l++m)->w.grownBy w' v.ownBlock->(v'.ownBlock=v.ownBlock\/v'.ownBlock=some w.heap.size)->wpList Tryz.prog ops Q rest (a.put o.dst v') w'):wpList Tryz.prog ops Q (o::rest) a w:=by
 subst hn
 obtain⟨i0,hi,hz0,hz1,hz2⟩:=info_parts zl1
 obtain⟨vss,hl,h3,h4⟩:=hown
 have grown:∀v' w' (uss:List (LV)),uss.length=m.length->(∀i,i<m.length->E.rep (fun k=>S k/\v.ownBlock≠some k) w (uss.getD i []) (m.getD i E.dfl))->w'.ownsRow base e E.sz v' (l.length+m.length) (vss.flatten++uss.flatten)->w.grownBy w' v.ownBlock->(v'.ownBlock=v.ownBlock\/v'.ownBlock=some w.heap.size)->Gw E e base S w' v' (l++m):=by
  intro v' w' uss hul hu k1 k2 k4
  have hst:∀vs y,E.rep (fun k=>S k/\v.ownBlock≠some k) w vs y->E.rep (fun k=>S k/\v'.ownBlock≠some k) w' vs y:=fun vs y hy=>E.stay hy k2.size (fun k hk hlt=>⟨⟨hk.1,by
   rcases k4 with k4|k4
   . rw[k4];exact hk.2
   . rw[k4];intro e';cases e';exact absurd hlt (Nat.lt_irrefl _)⟩,k2.block k hlt (fun e'=>hk.2 e'.symm)⟩)
  refine⟨vss++uss,by rw[List.length_append,List.length_append,hl,hul],by rw[List.length_append,List.flatten_append];exact k1,fun i hi=>?_⟩
  by_cases him:i<l.length
  . have e1:(l++m).getD i E.dfl=l.getD i E.dfl:=by simp[List.getD,List.getElem?_append_left him]
    have e2:(vss++uss).getD i []=vss.getD i []:=by simp[List.getD,List.getElem?_append_left (show i<vss.length by omega)]
    rw[e1,e2]
    exact hst _ _ (h4 i him)
  . have him':i-l.length<m.length:=by simp at hi;omega
    have e1:(l++m).getD i E.dfl=m.getD (i-l.length) E.dfl:=by simp[List.getD,List.getElem?_append_right (show l.length<=i by omega)]
    have e2:(vss++uss).getD i []=uss.getD (i-l.length) []:=by simp[List.getD,List.getElem?_append_right (show vss.length<=i by omega),hl]
    rw[e1,e2]
    exact hst _ _ (hu _ him')
 cases pa with
 | none =>
  obtain rfl:=hp.2.2.1 rfl
  have hm:m=[]:=List.length_eq_zero_iff.1 (Nat.le_zero.1 hp.1)
  subst hm
  refine wpList_append_own_none hgd s x t ho base e i0 E.sz ht hi v l.length vss.flatten hs h3 hx (h v w (by rw[List.append_nil];exact⟨vss,hl,h3,h4⟩) (World.grownBy.refl w _) (.inl rfl))
 | some ad =>
  obtain⟨uss,hul,hu⟩:∃uss:List (LV),uss.length=m.length/\∀i,i<m.length->E.rep (fun k=>S k/\v.ownBlock≠some k) w (uss.getD i []) (m.getD i E.dfl)/\∀j,j<E.sz->w.cell? (ad.add (i*E.sz+j))=(uss.getD i [])[j]?:=by
   have key:∀k,k<=m.length->∃uss:List (LV),uss.length=k/\∀i,i<k->E.rep (fun k=>S k/\v.ownBlock≠some k) w (uss.getD i []) (m.getD i E.dfl)/\∀j,j<E.sz->w.cell? (ad.add (i*E.sz+j))=(uss.getD i [])[j]?:=by
    intro k
    induction k with
    | zero=>exact fun _=>⟨[],rfl,fun i hi=>by omega⟩
    | succ k ih =>
     intro hk
     obtain⟨uss,h1,h2⟩:=ih (by omega)
     obtain⟨b,off,vs,e1,hb,hr,hc⟩:=hp.2.2.2 k (by omega)
     cases e1
     refine⟨uss++[vs],by simp[h1],fun i hi=>?_⟩
     by_cases hik:i<k
     . have e2:(uss++[vs]).getD i []=uss.getD i []:=by simp[List.getD,List.getElem?_append_left (show i<uss.length by omega)]
       rw[e2]
       exact h2 i hik
     . obtain rfl:i=k:=by omega
       have e2:(uss++[vs]).getD i []=vs:=by simp[List.getD,<-h1]
       rw[e2]
       refine⟨hr,fun j hj=>?_⟩
       have zb1:(⟨b,off,none⟩:Addr).add (i*E.sz+j)=⟨b,off+(i*E.sz+j),none⟩:=by unfold Addr.add;split <;> simp_all
       rw[zb1,<-Nat.add_assoc]
       exact hc j hj
   exact key m.length (Nat.le_refl _)
  have z1u:∀i,i<uss.length->(uss.getD i []).length=E.sz:=fun i hi=>E.len (hu i (by omega)).1
  refine wpList_append_own_at w hgd s x t ho base e i0 z E.sz by' ht hi hz0 hz1 hz2 hzs hsz v l.length vss.flatten hs h3 ad m.length pc uss.flatten hx (by rw[zeq z1u,hul]) ?_ ?_ (by unfold maxLen;omega) (by
      have:=Nat.mul_le_mul hlen hby
      omega) hbase (fun v' w' k1 k2 _ k4=>h v' w' (grown v' w' uss hul (fun i hi=>(hu i hi).1) k1 k2 k4) k2 k4)
  . intro j u hj
    have hjl:j<m.length*E.sz:=by
     rcases Nat.lt_or_ge j (m.length*E.sz)with h1|h1
     . exact h1
     . rw[List.getElem?_eq_none (by rw[zeq z1u,hul];exact h1)]at hj;cases hj
    have hjd:j/E.sz<m.length:=(Nat.div_lt_iff_lt_mul hsz).2 hjl
    have e1:j/E.sz*E.sz+j%E.sz=j:=by rw[Nat.mul_comm];exact Nat.div_add_mod j E.sz
    have h1:=(hu (j/E.sz) hjd).2 (j%E.sz) (Nat.mod_lt _ hsz)
    have h2:=zf4 z1u (i:=j/E.sz) (j:=j%E.sz) (by omega) (Nat.mod_lt _ hsz)
    rw[e1]at h1 h2;rw[h1,<-h2,hj]
  . intro u hu1
    obtain⟨vs,hvs,hu2⟩:=List.mem_flatten.1 hu1
    obtain⟨i,hi,e1⟩:=List.getElem_of_mem hvs
    have:=E.one (hu i (by omega)).1 u
    rw[List.getD_eq_getElem?_getD,List.getElem?_eq_getElem hi,Option.getD_some,e1]at this
    exact this hu2
theorem Gr.one{α:Type}{E:El α}{S:Nat->Prop}{w:World}{g:Nat}{x:α}{vs:LV}(hr:E.rep S w vs x)(hg:g<w.heap.size)(hc:∀j,j<E.sz->w.cell? ⟨g,j,none⟩=vs[j]?):Gr E S w (some ⟨g,0,none⟩) 1 [x]:=by
 refine⟨Nat.le_refl _,by unfold maxLen;omega,(fun e=>by cases e),fun i hi=>?_⟩
 obtain rfl:i=0:=by simpa using hi
 exact⟨g,0,vs,rfl,hg,hr,fun j hj=>by simpa using hc j hj⟩
theorem Gr.one_new{α:Type}{E:El α}{S:Nat->Prop}{w:World}{x:α}(vs:LV)(t:TypeId)(hr:E.rep S w vs x):Gr E S (w.alloc (.cells vs.toArray t)) (some ⟨w.heap.size,0,none⟩) 1 [x]:=by
 refine Gr.one (E.stay hr (bl1 _).size (fun k hk hl=>⟨hk,(bl1 _).block k hl⟩)) (by simp) (fun j hj=>?_)
 have:=cell_of_row _ w.heap.size j _ _ (0,0) (heap_alloc_new w (.cells vs.toArray t))
 rw[this]
 simp
theorem zfn{P:Program}(w:World){o:Oper}{a:Act}{K:Act->World->Prop}{Q:Exit->Act->World->Prop}(s x:Operand)(t:TypeId)
    (ho:o.op=.call { callee:=.builtin .append,args:=#[s,x],argTypes:=#[t,t] })
    (base:Nat) (e:TypeId) (i:TypeInfo) (z:Value) (size bytes:Nat) (ht:P.underlying t=some (.slice e)) (hi:P.info? e=some i) (hz:i.zero=some z)
    (hsize:i.size=size) (hby:i.bytes=bytes) (hzs:z.cells.size=size) (hsz:0<size)
    (v:Value) (n:Nat) (xs:LV) (hs:a.eval s=v) (hown:w.ownsRow base e size v n xs)
    (ad:Addr) (m c:Nat) (news:LV) (hx:a.eval x=.slice (some ad) m c) (hl:news.length=m*size) (hnews:∀j u,news[j]?=some u->w.cell? (ad.add j)=some u) (h1:∀u∈news,u.oneCell'=true)
    (h63:n+m<=maxLen) (hbytes:(n+m)*bytes<=140737488355328) (hbase:base<=w.heap.size)
    (h:∀v' w',w'.ownsRow base e size v' (n+m) (xs++news)->w.grownBy w' v.ownBlock->(v'=.slice none 0 0↔v=.slice none 0 0/\m=0)->(v'.ownBlock=v.ownBlock\/v'.ownBlock=some w.heap.size)->K (a.put o.dst v') w') :
    o.wp P a w K Q:=by
 obtain⟨v',w',hr,h2,h3,h4,h5⟩:=run_append_own_at (P:=P) w base t o.type e i z size bytes ht hi hz hsize hby hzs hsz v n xs hown ad m c news hl hnews h1 h63 hbytes hbase
 unfold Oper.wp execOp
 simp only[ho,resolve,invoke,builtin,Sem.run_bind,Sem.run_pure,Result.andThen_ok,List.map_toArray,List.map_cons,List.map_nil,hs,hx,hr]
 exact h v' w' h2 h3 h4 h5
