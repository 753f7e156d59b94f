import Derived.Test.YtgbhidcokobmmaaGreatDoorZL8
set_option maxHeartbeats 1000000
set_option maxRecDepth 100000
set_option linter.unusedSimpArgs false
set_option linter.unusedVariables false
namespace Go.Proofs.YtgbhidcokobmmaaGreatDoor
structure Ft where
 tg:ByteArray
 lk:List Int
def Ft.none:Ft:=⟨⟨#[]⟩,[]⟩
structure Cn where
 ax:Int
 ls:Int
 ms:Int
def Cn.none:Cn:=⟨0,0,0⟩
structure Sw where
 cn:List Cn
 ft:Int
 lk:List Int
def Sw.none:Sw:=⟨[],0,[]⟩
theorem zmg{α:Type}{l:List α}{e:α}{p:α->Bool}:l.all p=true ↔ ∀k,k<l.length->p (l.getD k e)=true:=by
 rw[List.all_eq_true]
 constructor
 . intro h k hk
   refine h _ ?_
   rw[List.getD_eq_getElem?_getD,List.getElem?_eq_getElem hk]
   exact List.getElem_mem hk
 . intro h x hx
   obtain⟨k,hk,e1⟩:=List.getElem_of_mem hx
   have:=h k hk
   rw[List.getD_eq_getElem?_getD,List.getElem?_eq_getElem hk,Option.getD_some,e1]at this
   exact this
theorem zw6{α:Type}{l:List α}{e:α}{p:α->Bool}{k:Nat}(hk:k<l.length)(h:p (l.getD k e)=false):l.all p=false:=by
 cases hf:l.all p with
 | false=>rfl
 | true =>
  have:=(zmg (e:=e)).1 hf k hk
  rw[h]at this
  cases this
def hoC(cs:List Int)(c:Cn):Bool:=decide (0<=c.ax)&&(decide (c.ls<=cs.getD c.ax.toNat 0)&&decide (cs.getD c.ax.toNat 0<=c.ms))
def hoB(cs:List Int)(l:List Cn):Bool:=l.all (hoC cs)
theorem zqf{cs:List Int}{l:List Cn}:hoB cs l=true ↔ ∀k,k<l.length->hoC cs (l.getD k Cn.none)=true:=zmg
theorem zup{cs:List Int}{l:List Cn}{k:Nat}(hk:k<l.length)(h:hoC cs (l.getD k Cn.none)=false):hoB cs l=false:=zw6 hk h
def fsS(cs:List Int)(n:Int):List Sw->Option (List Int)
 | []=>none
 | s::t=>if s.ft=n/\hoB cs s.cn=true then some s.lk else fsS cs n t
theorem zl2{cs:List Int}{n:Int}{l:List Sw}{k:Nat}(hk:k<l.length)(h:¬((l.getD k Sw.none).ft=n/\hoB cs (l.getD k Sw.none).cn=true)):fsS cs n (l.drop k)=fsS cs n (l.drop (k+1)):=by
 rw[List.getD_eq_getElem?_getD,List.getElem?_eq_getElem hk,Option.getD_some]at h
 rw[List.drop_eq_getElem_cons hk,fsS,if_neg h]
theorem zqn{cs:List Int}{n:Int}{l:List Sw}{k:Nat}(hk:k<l.length)(h:(l.getD k Sw.none).ft=n/\hoB cs (l.getD k Sw.none).cn=true):fsS cs n (l.drop k)=some (l.getD k Sw.none).lk:=by
 rw[List.getD_eq_getElem?_getD,List.getElem?_eq_getElem hk,Option.getD_some]at h ⊢
 rw[List.drop_eq_getElem_cons hk,fsS,if_pos h]
theorem zqo{cs:List Int}{n:Int}{l:List Sw}:fsS cs n (l.drop l.length)=none:=by rw[List.drop_length];rfl
theorem zy8{cs:List Int}{n:Int}:∀ {l:List Sw} {x:List Int},fsS cs n l=some x->∃s∈l,x=s.lk:=by
 intro l
 induction l with
 | nil=>intro x h;cases h
 | cons s t ih =>
  intro x h
  rw[fsS]at h
  split at h
  . injection h with h;exact⟨s,List.mem_cons_self ..,h.symm⟩
  . obtain⟨s',h1,h2⟩:=ih h;exact⟨s',List.mem_cons_of_mem _ h1,h2⟩
def lkQ(l:List Ft)(sw:List Sw)(n:Int)(cs:List Int):List Int:=if 0<=n/\n<(l.length:Int)then (match fsS cs n sw with | none=>(l.getD n.toNat Ft.none).lk | some x=>x)else []
theorem zj7{l:List Ft}{sw:List Sw}{n:Int}{cs:List Int}(h:¬(0<=n/\n<(l.length:Int))):lkQ l sw n cs=[]:=by unfold lkQ;rw[if_neg h]
theorem zpx{l:List Ft}{sw:List Sw}{n:Int}{cs:List Int}(h:0<=n/\n<(l.length:Int))(h2:fsS cs n sw=none):lkQ l sw n cs=(l.getD n.toNat Ft.none).lk:=by unfold lkQ;rw[if_pos h,h2]
theorem zui{l:List Ft}{sw:List Sw}{n:Int}{cs:List Int}{x:List Int}(h:0<=n/\n<(l.length:Int))(h2:fsS cs n sw=some x):lkQ l sw n cs=x:=by unfold lkQ;rw[if_pos h,h2]
theorem zpy{p:List Int->Prop}{l:List Ft}{sw:List Sw}{n:Int}{cs:List Int}(h0:p [])(h1:∀f∈l,p f.lk)(h2:∀s∈sw,p s.lk):p (lkQ l sw n cs):=by
 unfold lkQ
 by_cases h:0<=n/\n<(l.length:Int)
 . rw[if_pos h]
   cases hf:fsS cs n sw with
   | none =>
    have hn:n.toNat<l.length:=by omega
    show p (l.getD n.toNat Ft.none).lk
    rw[List.getD_eq_getElem?_getD,List.getElem?_eq_getElem hn]
    exact h1 _ (List.getElem_mem hn)
   | some x =>
    obtain⟨s,hs,e⟩:=zy8 hf
    show p x
    rw[e]
    exact h2 s hs
 . rw[if_neg h];exact h0
def riT(l:List Int):Prop:=l.Pairwise (· < ·)
theorem zoy:riT []:=List.Pairwise.nil
theorem zc3{x:Int}{t:List Int}:riT (x::t)↔(∀y∈t,x<y)/\riT t:=List.pairwise_cons
theorem zsc:∀ {l m:List Int},riT l->riT m->(∀x,x∈l↔x∈m)->l=m:=by
 intro l
 induction l with
 | nil =>
  intro m _ _ h
  cases m with
  | nil=>rfl
  | cons y t=>have:=(h y).2 (List.mem_cons_self ..);cases this
 | cons x l ih =>
  intro m hl hm h
  cases m with
  | nil=>have:=(h x).1 (List.mem_cons_self ..);cases this
  | cons y t =>
   obtain⟨h1,h2⟩:=zc3.1 hl
   obtain⟨h3,h4⟩:=zc3.1 hm
   have e:x=y:=by
    have a1:=(h x).1 (List.mem_cons_self ..)
    have a2:=(h y).2 (List.mem_cons_self ..)
    rcases List.mem_cons.1 a1 with a1|a1
    . exact a1
    rcases List.mem_cons.1 a2 with a2|a2
    . exact a2.symm
    have b1:=h3 x a1
    have b2:=h1 y a2
    omega
   subst e
   rw[ih h2 h4 (fun z=>?_)]
   constructor
   . intro hz
     rcases List.mem_cons.1 ((h z).1 (List.mem_cons_of_mem _ hz))with e|e
     . have:=h1 z hz;omega
     . exact e
   . intro hz
     rcases List.mem_cons.1 ((h z).2 (List.mem_cons_of_mem _ hz))with e|e
     . have:=h3 z hz;omega
     . exact e
def puT(n:Int):List Int->List Int
 | []=>[n]
 | x::t=>if x<n then x::puT n t else if x=n then x::t else n::x::t
theorem zo4{n:Int}:∀ {l:List Int} {z:Int},z∈puT n l↔z=n\/z∈l:=by
 intro l
 induction l with
 | nil=>intro z;simp[puT]
 | cons x t ih =>
  intro z
  rw[puT]
  split
  . rw[List.mem_cons,List.mem_cons,ih]
    constructor
    . rintro (h|h|h)
      . exact .inr (.inl h)
      . exact .inl h
      . exact .inr (.inr h)
    . rintro (h|h|h)
      . exact .inr (.inl h)
      . exact .inl h
      . exact .inr (.inr h)
  . split
    . next h1 h2 =>
      rw[List.mem_cons]
      constructor
      . intro h;exact .inr h
      . rintro (h|h)
        . exact .inl (by rw[h,h2])
        . exact h
    . rw[List.mem_cons,List.mem_cons]
theorem zx3{n:Int}:∀ {l:List Int},riT l->riT (puT n l):=by
 intro l
 induction l with
 | nil=>intro _;exact zc3.2 ⟨fun y hy=>(by cases hy),zoy⟩
 | cons x t ih =>
  intro h
  obtain⟨h1,h2⟩:=zc3.1 h
  rw[puT]
  split
  . next hx =>
    refine zc3.2 ⟨fun y hy=>?_,ih h2⟩
    rcases zo4.1 hy with e|e
    . rw[e];exact hx
    . exact h1 y e
  . next hx =>
    split
    . exact h
    . next hy =>
      refine zc3.2 ⟨fun y hy2=>?_,h⟩
      rcases List.mem_cons.1 hy2 with e|e
      . rw[e];omega
      . have:=h1 y e;omega
theorem zx4{n:Int}:∀ {l:List Int} {k:Nat},k<=l.length->(∀j,j<k->l.getD j 0<n)->(k<l.length->¬l.getD k 0<n)->puT n l=l.take k++n::l.drop (if k<l.length/\l.getD k 0=n then k+1 else k):=by
 intro l
 induction l with
 | nil =>
  intro k hk _ _
  obtain rfl:k=0:=by simpa using hk
  rfl
 | cons x t ih =>
  intro k hk h1 h2
  cases k with
  | zero =>
   have hx:¬x<n:=h2 (by simp)
   rw[puT,if_neg hx]
   by_cases e:x=n
   . subst e
     rw[if_pos rfl,if_pos ⟨by simp,rfl⟩]
     rfl
   . rw[if_neg e,if_neg (fun h=>e h.2)]
     rfl
  | succ k =>
   have hx:x<n:=h1 0 (by omega)
   rw[puT,if_pos hx,ih (k:=k) (by simpa using hk) (fun j hj=>h1 (j+1) (by omega)) (fun hk2=>h2 (by simpa using hk2))]
   have e:(k+1<(x::t).length/\(x::t).getD (k+1) 0=n)↔(k<t.length/\t.getD k 0=n):=by
    rw[List.length_cons,List.getD_cons_succ]
    exact⟨fun h=>⟨by omega,h.2⟩,fun h=>⟨by omega,h.2⟩⟩
   by_cases hh:k<t.length/\t.getD k 0=n
   . rw[if_pos hh,if_pos (e.2 hh)]
     rfl
   . rw[if_neg hh,if_neg (fun h=>hh (e.1 h))]
     rfl
def hasT(on:List ByteArray)(t:ByteArray):Bool:=on.any (fun s=>decide (s=t))
theorem zlz{on:List ByteArray}{t:ByteArray}:hasT on t=true↔t∈on:=by
 unfold hasT
 rw[List.any_eq_true]
 constructor
 . rintro ⟨x,hx,e⟩
   rw[decide_eq_true_iff]at e;rw[<-e]
   exact hx
 . intro h
   exact⟨t,h,decide_eq_true rfl⟩
def adT(out x:List Int):List Int:=x.foldl (fun o n=>puT n o) out
theorem zw8:∀ {x out:List Int} {z:Int},z∈adT out x↔z∈x\/z∈out:=by
 intro x
 induction x with
 | nil=>intro out z;simp[adT]
 | cons n t ih =>
  intro out z
  show z∈adT (puT n out) t↔_
  rw[ih,zo4,List.mem_cons]
  constructor
  . rintro (h|h|h)
    . exact .inl (.inr h)
    . exact .inl (.inl h)
    . exact .inr h
  . rintro ((h|h)|h)
    . exact .inr (.inl h)
    . exact .inl h
    . exact .inr (.inr h)
theorem zzr:∀ {x out:List Int},riT out->riT (adT out x):=by
 intro x
 induction x with
 | nil=>intro out h;exact h
 | cons n t ih=>intro out h;exact ih (zx3 h)
theorem zts{out x:List Int}{k:Nat}(hk:k<x.length):adT out (x.take (k+1))=puT (x.getD k 0) (adT out (x.take k)):=by
 unfold adT
 rw[List.take_add_one,List.getElem?_eq_getElem hk,List.foldl_append,List.getD_eq_getElem?_getD,List.getElem?_eq_getElem hk]
 rfl
def chT(l:List Ft)(sw:List Sw)(cs:List Int)(on:List ByteArray):Nat->List Int
 | 0=>[]
 | k+1=>if hasT on (l.getD k Ft.none).tg then adT (chT l sw cs on k) (lkQ l sw (k:Int) cs)else chT l sw cs on k
def chFt(l:List Ft)(sw:List Sw)(cs:List Int)(on:List ByteArray):List Int:=chT l sw cs on l.length
theorem zzk(l:List Ft)(sw:List Sw)(cs:List Int)(on:List ByteArray)(k:Nat):riT (chT l sw cs on k):=by
 induction k with
 | zero=>exact zoy
 | succ k ih =>
  rw[chT]
  split
  . exact zzr ih
  . exact ih
theorem zw0(l:List Ft)(sw:List Sw)(cs:List Int)(on:List ByteArray):riT (chFt l sw cs on):=zzk ..
def V:List Nat->Nat
 | []=>0
 | x::xs=>x+4294967296*V xs
def Lim(xs:List Nat):Prop:=∀x∈xs,x<4294967296
def strip:List Nat->List Nat
 | []=>[]
 | x::xs=>if strip xs=[]then (if x=0 then []else [x])else x::strip xs
def Tr(xs:List Nat):Prop:=strip xs=xs
theorem zh1(xs ys:List Nat):V (xs++ys)=V xs+4294967296 ^ xs.length*V ys:=by
 induction xs with
 | nil=>simp[V]
 | cons x xs ih=>simp only[List.cons_append,V,ih,List.length_cons,Nat.pow_succ,Nat.mul_add];rw[Nat.mul_comm (4294967296 ^ xs.length) 4294967296,Nat.mul_assoc];omega
theorem Lim.cons{x:Nat}{xs:List Nat}(h:Lim (x::xs)):x<4294967296/\Lim xs:=⟨h x (by simp),fun y hy=>h y (by simp[hy])⟩
theorem Lim.mk{x:Nat}{xs:List Nat}(hx:x<4294967296)(h:Lim xs):Lim (x::xs):=by
 intro y hy;rcases List.mem_cons.1 hy with rfl | hy
 . exact hx
 . exact h y hy
theorem Lim.nil:Lim []:=by intro x hx;cases hx
theorem Lim.append{xs ys:List Nat}(h:Lim xs)(k:Lim ys):Lim (xs++ys):=by
 intro x hx;rcases List.mem_append.1 hx with hx | hx
 . exact h x hx
 . exact k x hx
theorem Lim.snoc{xs:List Nat}{x:Nat}(h:Lim xs)(hx:x<4294967296):Lim (xs++[x]):=h.append (Lim.mk hx Lim.nil)
theorem Lim.take{xs:List Nat}(h:Lim xs)(n:Nat):Lim (xs.take n):=fun x hx=>h x (List.mem_of_mem_take hx)
theorem Lim.drop{xs:List Nat}(h:Lim xs)(n:Nat):Lim (xs.drop n):=fun x hx=>h x (List.mem_of_mem_drop hx)
theorem Lim.getD{xs:List Nat}(h:Lim xs)(i:Nat):xs.getD i 0<4294967296:=by
 rw[List.getD_eq_getElem?_getD]
 by_cases hi:i<xs.length
 . rw[List.getElem?_eq_getElem hi];exact h _ (List.getElem_mem hi)
 . rw[List.getElem?_eq_none (by omega)];decide
theorem Lim.set{xs:List Nat}(h:Lim xs)(i:Nat){x:Nat}(hx:x<4294967296):Lim (xs.set i x):=by
 intro y hy;rcases List.mem_or_eq_of_mem_set hy with hy | rfl
 . exact h y hy
 . exact hx
theorem V_lt{xs:List Nat}(h:Lim xs):V xs<4294967296 ^ xs.length:=by
 induction xs with
 | nil=>simp[V]
 | cons x xs ih =>
  have:=ih h.cons.2;have hx:=h.cons.1
  simp only[V,List.length_cons,Nat.pow_succ];omega
theorem V_nil:V []=0:=rfl
theorem zk2(n:Nat):V (List.replicate n 0)=0:=by
 induction n with
 | zero=>rfl
 | succ n ih=>rw[List.replicate_succ,V,ih]
theorem zcg(xs:List Nat)(i:Nat):xs.take (i+1)=xs.take i++(if i<xs.length then [xs.getD i 0]else []):=by
 by_cases h:i<xs.length
 . rw[if_pos h,List.take_succ_eq_append_getElem h];simp[List.getD,h]
 . rw[if_neg h,List.take_of_length_le (by omega),List.take_of_length_le (by omega)];simp
theorem zao(xs:List Nat)(i:Nat):V (xs.take (i+1))=V (xs.take i)+4294967296 ^ i*xs.getD i 0:=by
 rw[zcg,zh1]
 by_cases h:i<xs.length
 . rw[if_pos h,List.length_take,Nat.min_eq_left (by omega)];simp[V]
 . rw[if_neg h];simp[V,List.getD,List.getElem?_eq_none (Nat.le_of_not_lt h)]
theorem zb8(xs:List Nat)(i:Nat):V xs=V (xs.take i)+4294967296 ^ i*V (xs.drop i):=by
 by_cases h:i<=xs.length
 . have:=zh1 (xs.take i) (xs.drop i)
   rw[List.take_append_drop,List.length_take,Nat.min_eq_left h]at this;exact this
 . rw[List.take_of_length_le (by omega),List.drop_eq_nil_of_le (by omega)];simp[V]
theorem zd4(xs:List Nat)(x:Nat):V (xs++[x])=V xs+4294967296 ^ xs.length*x:=by rw[zh1];simp[V]
theorem zk3:∀(a b:List Nat),(∀j,a.getD j 0=b.getD j 0)->V a=V b:=by
 intro a;induction a with
 | nil =>
  intro b;induction b with
  | nil=>intro _;rfl
  | cons y b ih =>
   intro h
   have h0:=h 0;have h1:=ih (fun j=>by have:=h (j+1);simpa using this)
   simp at h0;simp only[V]at h1 ⊢;omega
 | cons x a ih =>
  intro b h
  cases b with
  | nil =>
   have h0:=h 0;have h1:=ih [] (fun j=>by have:=h (j+1);simpa using this)
   simp at h0;simp only[V]at h1 ⊢;omega
  | cons y b =>
   have h0:=h 0;have h1:=ih b (fun j=>by have:=h (j+1);simpa using this)
   simp at h0;rw[V,V,h1,h0]
theorem zci(a:List Nat)(j:Nat):a.tail.getD j 0=a.getD (j+1) 0:=by cases a <;> simp
theorem zbb(a:List Nat):V a=a.getD 0 0+4294967296*V a.tail:=by cases a <;> simp[V]
theorem Lim.tail{a:List Nat}(h:Lim a):Lim a.tail:=by
 cases a with
 | nil=>exact h
 | cons x a=>exact h.cons.2
theorem ze6:∀(i:Nat) (a b:List Nat),Lim a->(∀j,i<j->a.getD j 0=b.getD j 0)->a.getD i 0<b.getD i 0->V a<V b:=by
 intro i;induction i with
 | zero =>
  intro a b _ h h0
  rw[zbb a,zbb b,zk3 a.tail b.tail (fun j=>by rw[zci,zci];exact h (j+1) (by omega))];omega
 | succ i ih =>
  intro a b hl h h0
  have:=ih a.tail b.tail hl.tail (fun j hj=>by rw[zci,zci];exact h (j+1) (by omega)) (by rw[zci,zci];exact h0)
  have hx:=hl.getD 0
  rw[zbb a,zbb b];omega
theorem zaj(xs:List Nat):V (strip xs)=V xs:=by
 induction xs with
 | nil=>rfl
 | cons x xs ih =>
  rw[strip]
  by_cases h:strip xs=[]
  . rw[if_pos h];rw[h]at ih
    by_cases hx:x=0
    . rw[if_pos hx];simp only[V]at ih ⊢;omega
    . rw[if_neg hx];simp only[V]at ih ⊢;omega
  . rw[if_neg h];simp only[V];rw[ih]
theorem zjd(xs:List Nat):strip (strip xs)=strip xs:=by
 induction xs with
 | nil=>rfl
 | cons x xs ih =>
  rw[strip]
  by_cases h:strip xs=[]
  . rw[if_pos h]
    by_cases hx:x=0
    . rw[if_pos hx];rfl
    . rw[if_neg hx];simp[strip,hx]
  . rw[if_neg h,strip,ih,if_neg h]
theorem zak(xs:List Nat):Tr (strip xs):=zjd xs
theorem zcq:Tr []:=rfl
theorem zfb(xs:List Nat):strip (xs++[0])=strip xs:=by
 induction xs with
 | nil=>rfl
 | cons x xs ih=>rw[List.cons_append,strip,ih,strip]
theorem zgd(xs:List Nat)(x:Nat)(hx:x≠0):strip (xs++[x])=xs++[x]:=by
 induction xs with
 | nil=>simp[strip,hx]
 | cons y xs ih=>rw[List.cons_append,strip,ih,if_neg (by simp)]
theorem zu8{xs:List Nat}{x:Nat}(hx:x≠0):Tr (xs++[x]):=zgd xs x hx
theorem zd7(xs:List Nat):strip xs=xs.take (strip xs).length:=by
 induction xs with
 | nil=>rfl
 | cons x xs ih =>
  rw[strip]
  by_cases h:strip xs=[]
  . rw[if_pos h]
    by_cases hx:x=0
    . rw[if_pos hx];simp
    . rw[if_neg hx];simp
  . rw[if_neg h];simp only[List.length_cons,List.take_succ_cons];rw[<-ih]
theorem zag(xs:List Nat):(strip xs).length<=xs.length:=by rw[zd7];simp;omega
theorem Lim.strip{xs:List Nat}(h:Lim xs):Lim (strip xs):=by rw[zd7];exact h.take _
theorem zb4(xs:List Nat)(n:Nat)(h:n<xs.length)(h0:xs.getD n 0=0):strip (xs.take (n+1))=strip (xs.take n):=by
 rw[zcg,if_pos h,h0,zfb]
theorem zb5(xs:List Nat)(n:Nat)(h:n<xs.length)(h0:xs.getD n 0≠0):strip (xs.take (n+1))=xs.take (n+1):=by
 rw[zcg,if_pos h,zgd _ _ h0]
theorem Tr.last{xs:List Nat}(h:Tr xs)(hn:xs≠[]):xs.getD (xs.length-1) 0≠0:=by
 intro h0
 have hl:0<xs.length:=List.length_pos_iff.2 hn
 have e:=zb4 xs (xs.length-1) (by omega) h0
 rw[show xs.length-1+1=xs.length by omega,List.take_length]at e
 have e2:strip xs=xs:=h
 have:=zag (xs.take (xs.length-1))
 rw[<-e,e2]at this
 simp at this;omega
theorem V_ge{xs:List Nat}(h:Tr xs)(hn:xs≠[]):4294967296 ^ (xs.length-1)<=V xs:=by
 have hl:0<xs.length:=List.length_pos_iff.2 hn
 have e:=zao xs (xs.length-1)
 rw[show xs.length-1+1=xs.length by omega,List.take_length]at e
 have h1:=h.last hn
 rw[e]
 calc 4294967296 ^ (xs.length-1)=4294967296 ^ (xs.length-1)*1:=by omega
  _<=4294967296 ^ (xs.length-1)*xs.getD (xs.length-1) 0:=Nat.mul_le_mul_left _ (by omega)
  _<=_:=by omega
theorem zah{xs:List Nat}(h:Tr xs){k:Nat}(hv:V xs<4294967296 ^ k):xs.length<=k:=by
 rcases Decidable.em (xs=[])with rfl|hn
 . simp
 . have h1:=V_ge h hn
   rcases Nat.lt_or_ge k xs.length with hk|hk
   . have:4294967296 ^ k<=4294967296 ^ (xs.length-1):=Nat.pow_le_pow_right (by decide) (by omega)
     omega
   . exact hk
theorem zau{a b:List Nat}(ha:Lim a)(hb:Tr b)(h:a.length<b.length):V a<V b:=by
 have h1:=V_lt ha
 have h2:=V_ge hb (by intro e;rw[e]at h;simp at h)
 have:4294967296 ^ a.length<=4294967296 ^ (b.length-1):=Nat.pow_le_pow_right (by decide) (by omega)
 omega
theorem zb7{xs:List Nat}(h:Tr xs)(hv:V xs=0):xs=[]:=by
 rcases Decidable.em (xs=[])with rfl|hn
 . rfl
 . have h1:=V_ge h hn
   have:0<4294967296 ^ (xs.length-1):=Nat.pow_pos (by decide)
   omega
theorem zn0:∀(n:Nat) (a b:List Nat),a.length=n->b.length=n->Lim a->Lim b->V a=V b->a=b:=by
 intro n;induction n with
 | zero=>intro a b ha hb _ _ _;rw[List.length_eq_zero_iff.1 ha,List.length_eq_zero_iff.1 hb]
 | succ n ih =>
  intro a b ha hb la lb h
  match a,b,ha,hb with
  | x::a,y::b,ha,hb =>
   have:=la.cons.1;have:=lb.cons.1
   simp only[V]at h
   have e1:x=y:=by omega
   have e2:V a=V b:=by omega
   rw[e1,ih a b (by simpa using ha) (by simpa using hb) la.cons.2 lb.cons.2 e2]
theorem uniq{a b:List Nat}(la:Lim a)(lb:Lim b)(ta:Tr a)(tb:Tr b)(h:V a=V b):a=b:=by
 have h1:¬a.length<b.length:=fun hl=>by have:=zau la tb hl;omega
 have h2:¬b.length<a.length:=fun hl=>by have:=zau lb ta hl;omega
 exact zn0 b.length a b (by omega) rfl la lb h
open Go.RowKit
def U(n:Nat):Value:=.int .u32 (n:Int)
def Rd(w:World)(a:Option Addr)(cap:Nat)(xs:List Nat):Prop :=
 Lim xs/\xs.length<=cap/\cap<=maxLen/\(a=none->cap=0) /\
 (xs=[]\/∃b off,a=some ⟨b,off,none⟩/\b<w.heap.size/\∀i,i<xs.length->w.cell? ⟨b,off+i,none⟩=some (.int .u32 (xs.getD i 0:Nat)))
theorem Rd.lim{w:World}{a:Option Addr}{cap:Nat}{xs:List Nat}(h:Rd w a cap xs):Lim xs:=h.1
theorem Rd.le{w:World}{a:Option Addr}{cap:Nat}{xs:List Nat}(h:Rd w a cap xs):xs.length<=cap:=h.2.1
theorem Rd.cap{w:World}{a:Option Addr}{cap:Nat}{xs:List Nat}(h:Rd w a cap xs):cap<=maxLen:=h.2.2.1
def Fm(w:World)(a:Option Addr)(xs:List Nat):Prop :=
 xs=[]\/∃b off,a=some ⟨b,off,none⟩/\b<w.heap.size/\∀i,i<xs.length->w.cell? ⟨b,off+i,none⟩=some (.int .u32 (xs.getD i 0:Nat))
theorem Rd.fm{w:World}{a:Option Addr}{cap:Nat}{xs:List Nat}(h:Rd w a cap xs):Fm w a xs:=h.2.2.2.2
theorem Fm.at{w wr:World}{a:Option Addr}{xs:List Nat}(h:Fm w a xs)(hb:Below w.heap.size w wr)(k:Nat)(hk:k<xs.length) :
 ∃b off,a=some ⟨b,off,none⟩/\b<w.heap.size/\wr.cell? ⟨b,off+k,none⟩=some (.int .u32 (xs.getD k 0:Nat)):=by
 rcases h with rfl|⟨b,off,h1,h2,h3⟩
 . simp at hk
 . exact⟨b,off,h1,h2,(hb.cell (p:=⟨b,off+k,none⟩) h2).trans (h3 k hk)⟩
theorem Rd.keep{w w':World}{a:Option Addr}{cap:Nat}{xs:List Nat}(h:Rd w a cap xs)(hs:w.heap.size<=w'.heap.size)
    (hb:∀b,b<w.heap.size->(∃o,a=some ⟨b,o,none⟩)->w'.heap[b]?=w.heap[b]?):Rd w' a cap xs:=by
 obtain⟨h1,h2,h3,h5,h4⟩:=h
 refine⟨h1,h2,h3,h5,?_⟩
 rcases h4 with h4|⟨b,off,e,hb1,hc⟩
 . exact .inl h4
 . exact .inr ⟨b,off,e,Nat.lt_of_lt_of_le hb1 hs,fun i hi=>(World.cell?_of_block (w:=w) (a:=⟨b,off+i,none⟩) (hb b hb1 ⟨off,e⟩)).trans (hc i hi)⟩
theorem Rd.below{w w':World}{a:Option Addr}{cap:Nat}{xs:List Nat}(h:Rd w a cap xs)(hb:Below w.heap.size w w'):Rd w' a cap xs :=
 h.keep hb.size fun b hb1 _=>hb.block b hb1
theorem Rd.take{w:World}{a:Option Addr}{cap:Nat}{xs:List Nat}(h:Rd w a cap xs)(n:Nat):Rd w a cap (xs.take n):=by
 obtain⟨h1,h2,h3,h5,h4⟩:=h
 refine⟨h1.take n,by simp;omega,h3,h5,?_⟩
 rcases h4 with rfl|⟨b,off,e,hb1,hc⟩
 . exact .inl (by simp)
 . refine .inr ⟨b,off,e,hb1,fun i hi=>?_⟩
   simp at hi
   rw[hc i (by omega)]
   simp[List.getD,show i<n by omega]
theorem Rd.strip{w:World}{a:Option Addr}{cap:Nat}{xs:List Nat}(h:Rd w a cap xs):Rd w a cap (strip xs):=by
 rw[zd7];exact h.take _
theorem Rd.nil(w:World)(a:Option Addr)(cap:Nat)(h:cap<=maxLen)(h0:a=none->cap=0):Rd w a cap []:=⟨Lim.nil,Nat.zero_le _,h,h0,.inl rfl⟩
def Res(e:TypeId)(base:Nat)(w:World)(a:Option Addr)(cap:Nat)(xs:List Nat):Prop :=
 Lim xs/\w.ownsRow base e 1 (.slice a xs.length cap) xs.length (xs.map U)
theorem Res.lim{e:TypeId}{base:Nat}{w:World}{a:Option Addr}{cap:Nat}{xs:List Nat}(h:Res e base w a cap xs):Lim xs:=h.1
theorem Res.rd{e:TypeId}{base:Nat}{w:World}{a:Option Addr}{cap:Nat}{xs:List Nat}(h:Res e base w a cap xs):Rd w a cap xs:=by
 obtain⟨hl,h⟩:=h
 rcases h.2 with ⟨hv,h0⟩|⟨g,cap',cur,hv,hb,hg,hc1,hc2,hc3,ht⟩
 . have:xs=[]:=List.length_eq_zero_iff.1 h0
   subst this
   simp at hv
   exact Rd.nil _ _ _ (by rw[hv.2];exact Nat.zero_le _) (fun _=>hv.2)
 . simp at hv
   obtain⟨rfl,rfl⟩:=hv
   refine⟨hl,hc1,hc2,(by simp),.inr ⟨g,0,rfl,(Array.getElem?_eq_some_iff.1 hg).1,fun i hi=>?_⟩⟩
   have:=h.cells (g:=g) rfl i (U (xs.getD i 0)) (by simp[List.getD,hi])
   have zdx:(⟨g,0,none⟩:Addr).add i=⟨g,0+i,none⟩:=by unfold Addr.add;split <;> simp_all
   rw[zdx]at this;exact this
theorem zep{w:World}{base base':Nat}{e:TypeId}{size:Nat}{v:Value}{n:Nat}{xs:List Value}(h:w.ownsRow base e size v n xs)(hb:base'<=base):w.ownsRow base' e size v n xs:=by
 refine⟨h.1,?_⟩
 rcases h.2 with h0|⟨g,cap,cur,h1,h2,h3⟩
 . exact .inl h0
 . exact .inr ⟨g,cap,cur,h1,Nat.le_trans hb h2,h3⟩
theorem Res.mono{e:TypeId}{base base':Nat}{w:World}{a:Option Addr}{cap:Nat}{xs:List Nat}(h:Res e base w a cap xs)(hb:base'<=base):Res e base' w a cap xs:=⟨h.1,zep h.2 hb⟩
theorem Res.below{e:TypeId}{base:Nat}{w w':World}{a:Option Addr}{cap:Nat}{xs:List Nat}(h:Res e base w a cap xs)(hb:Below w.heap.size w w'):Res e base w' a cap xs:=by
 refine⟨h.1,h.2.1,?_⟩
 rcases h.2.2 with h0|⟨g,cap',cur,h1,h2,h3,h4⟩
 . exact .inl h0
 . exact .inr ⟨g,cap',cur,h1,h2,(hb.block g (Array.getElem?_eq_some_iff.1 h3).1).trans h3,h4⟩
theorem Res.of{e:TypeId}{base:Nat}{w:World}{v:Value}{n:Nat}{xs:List Nat}(hl:Lim xs)(h:w.ownsRow base e 1 v n (xs.map U)):∃a cap,v=.slice a xs.length cap/\Res e base w a cap xs:=by
 have hn:n=xs.length:=by have:=h.1;simp at this;omega
 subst hn
 rcases h.2 with ⟨hv,h0⟩|⟨g,cap,cur,hv,_⟩
 . exact⟨none,0,by rw[hv,h0],hl,by rw[h0]at h ⊢;rw[hv]at h;exact h⟩
 . subst hv;exact⟨_,cap,rfl,hl,h⟩
theorem zsd{w:World}{g:Nat}{zs:List Nat}{e:TypeId}(h:w.heap[g]?=some (.cells (zs.map U).toArray e (0,0)))(hl:Lim zs)(off n cap:Nat)(h1:off+n<=zs.length)(h2:n<=cap)(h3:cap<=maxLen) :
 Rd w (some ⟨g,off,none⟩) cap ((zs.drop off).take n):=by
 refine⟨(hl.drop off).take n,by simp;omega,h3,(by simp),.inr ⟨g,off,rfl,(Array.getElem?_eq_some_iff.1 h).1,fun i hi=>?_⟩⟩
 simp at hi
 rw[cell_of_row w g (off+i) _ e (0,0) h]
 simp[List.getD,U,show off+i<zs.length by omega,show i<n by omega]
theorem zx1(w:World)(e:TypeId)(zs:List Nat)(cs:Array Value)(hc:cs=(zs.map U).toArray)(hl:Lim zs)(hm:zs.length<=maxLen):Rd (w.alloc (.cells cs e)) (some ⟨w.heap.size,0,none⟩) zs.length zs:=by
 subst hc
 have:=zsd (heap_alloc_new w (.cells (zs.map U).toArray e)) hl 0 zs.length zs.length (by omega) (Nat.le_refl _) hm
 simpa using this
theorem zat{w:World}{base:Nat}{e:TypeId}{v:Value}{n z:Nat}{zs:List Nat}(h:w.ownsRow base e 1 v n (List.map U zs++[U z])):w.ownsRow base e 1 v n ((zs++[z]).map U):=by
 rw[List.map_append];exact h
theorem ziu(xs:List Nat):∀u∈xs.map U,u.oneCell'=true:=by
 intro u hu
 obtain⟨x,_,rfl⟩:=List.mem_map.1 hu
 rfl
section
variable {P:Program} {w:World} {ops:Array Oper} {rest:List Oper} {o:Oper} {a:Act} {Q:Exit->Act->World->Prop}
theorem zbx(hgd:o.guard=none)(s x:Operand)(t:TypeId)(ho:o.op=.call { callee:=.builtin .append,args:=#[s,x],argTypes:=#[t,t] })
    (base:Nat) (e:TypeId) (i:TypeInfo) (ht:P.underlying t=some (.slice e)) (hi:P.info? e=some i) (hz:i.zero=some (.int .u32 0)) (hsize:i.size=1) (hby:i.bytes=4)
    (v:Value) (n:Nat) (ys:List Nat) (hs:a.eval s=v) (hown:w.ownsRow base e 1 v n (ys.map U))
    (ad:Option Addr) (c m:Nat) (zs:List Nat) (hx:a.eval x=.slice ad m c) (hm:m=zs.length) (hrd:Rd w ad c zs) (hlen:n+zs.length<=2000000000) (hbase:base<=w.heap.size)
    (h:∀v' w',w'.ownsRow base e 1 v' (n+zs.length) ((ys++zs).map U)->w.grownBy w' v.ownBlock->wpList P ops Q rest (a.put o.dst v') w'):wpList P ops Q (o::rest) a w:=by
 subst hm
 cases ad with
 | none =>
  have hc:c=0:=hrd.2.2.2.1 rfl
  have hzs:zs=[]:=by
   rcases hrd.2.2.2.2 with h0|⟨b,off,e',_⟩
   . exact h0
   . cases e'
  subst hzs;subst hc
  refine wpList_append_own_none hgd s x t ho base e i 1 ht hi v n (ys.map U) hs hown hx (h v w (by simpa using hown) (World.grownBy.refl w _))
 | some ad =>
  refine wpList_append_own w hgd s x t ho base e i (.int .u32 0) 1 4 ht hi hz hsize hby rfl (by decide) v n (ys.map U) hs hown ad zs.length c (zs.map U) hx (by simp) ?_ (ziu zs) (by unfold maxLen;omega) (by omega) hbase ?_
  . intro j u hj
    rcases hrd.2.2.2.2 with rfl|⟨b,off,e',hb,hc⟩
    . simp at hj
    . simp at e';subst e'
      have hjl:j<zs.length:=by
       rcases Nat.lt_or_ge j zs.length with h1|h1
       . exact h1
       . rw[List.getElem?_eq_none (by simpa using h1)]at hj;cases hj
      have zdx:(⟨b,off,none⟩:Addr).add j=⟨b,off+j,none⟩:=by unfold Addr.add;split <;> simp_all
      rw[zdx,hc j hjl]
      rw[List.getElem?_map,List.getElem?_eq_getElem hjl]at hj
      simp at hj;rw[<-hj];simp[List.getD,hjl,U]
  . intro v' w' h1 h2 _
    exact h v' w' (by rw[List.map_append];exact h1) h2
theorem zae(hgd:o.guard=none)(s x:Operand)(t:TypeId)(ho:o.op=.call { callee:=.builtin .append,args:=#[s,x],argTypes:=#[t,t] })
    (base:Nat) (e:TypeId) (i:TypeInfo) (ht:P.underlying t=some (.slice e)) (hi:P.info? e=some i) (hz:i.zero=some (.int .u32 0)) (hsize:i.size=1) (hby:i.bytes=4)
    (v:Value) (n:Nat) (ys:List Nat) (hs:a.eval s=v) (hown:w.ownsRow base e 1 v n (ys.map U))
    (g z:Nat) (hx:a.eval x=.slice (some ⟨g,0,none⟩) 1 1) (hc:w.cell? ⟨g,0,none⟩=some (.int .u32 (z:Int))) (hlen:n+1<=2000000000) (hbase:base<=w.heap.size)
    (h:∀v' w',w'.ownsRow base e 1 v' (n+1) ((ys++[z]).map U)->w.grownBy w' v.ownBlock->wpList P ops Q rest (a.put o.dst v') w'):wpList P ops Q (o::rest) a w:=by
 refine wpList_append_own w hgd s x t ho base e i (.int .u32 0) 1 4 ht hi hz hsize hby rfl (by decide) v n (ys.map U) hs hown ⟨g,0,none⟩ 1 1 [U z] hx rfl ?_ (ziu [z]) (by unfold maxLen;omega) (by omega) hbase ?_
 . intro j u hj
   match j,hj with
   | 0,hj=>simp at hj;subst hj;simpa [Addr.add,U] using hc
 . intro v' w' h1 h2 _
   exact h v' w' (by rw[List.map_append];exact h1) h2
end
theorem Below.drew1{w:World}:Below w.heap.size w w.drew:=(Below.refl _ _).drew
theorem zfj{a a':Option Addr}{n n' c c':Nat}(h1:a=a')(h2:n=n')(h3:c=c'):Ending.returned (.slice a n c)=.returned (.slice a' n' c'):=by rw[h1,h2,h3]
theorem zby(a:Option Addr)(cap:Nat)(xs:List Nat)(w:World)(h:Rd w a cap xs) :
 Calls Tryz.prog 182 #[.slice a xs.length cap] w fun e w'=>e=.returned (.slice a (strip xs).length cap)/\w=w':=by
 have hc2:xs.length<=cap:=h.2.1
 have hc3:cap<=maxLen:=h.2.2.1
 unfold maxLen at hc3
 rcases h.2.2.2.2 with rfl|⟨b,off,rfl,hb,hc⟩
 . go_enter Tryz.func182,Tryz.ntmps182
   go_wp2
   go_loop [3] (fun n=>n=.int .i64 0) (fun n=>(intOf n).toNat)
   case atStart=>rfl
   case round =>
    subst hrel;go_wp2
    all_goals
     go_ret
     exact⟨zfj (by simp[Addr.add]) rfl rfl,rfl⟩
 . clear h
   go_enter Tryz.func182,Tryz.ntmps182
   go_wp2
   go_loop [3] (fun n=>∃k:Nat,k<=xs.length/\n=.int .i64 k/\strip (xs.take k)=strip xs) (fun n=>(intOf n).toNat)
   case atStart=>exact⟨xs.length,Nat.le_refl _,rfl,by rw[List.take_length]⟩
   case round =>
    obtain⟨k,hk,rfl,hst⟩:=hrel
    have HS:Hid (strip (xs.take k)=strip xs):=hst
    clear hst
    by_cases hk0:k=0
    . subst hk0
      go_wp2
      go_ret
      exact⟨zfj rfl (by rw[<-HS.out];rfl) rfl,rfl⟩
    . obtain⟨j,rfl⟩:∃j,k=j+1:=⟨k-1,by omega⟩
      have hcj:=hc j (by omega)
      obtain⟨x,hx⟩:∃x,xs.getD j 0=x:=⟨_,rfl⟩
      rw[hx]at hcj
      have HX:Hid (xs.getD j 0=x):=hx
      clear hx hc
      by_cases hx0:x=0
      . subst hx0
        go_wp2
        go_round
        case rel=>exact⟨j,by omega,rfl,by rw[<-HS.out,zb4 xs j (by omega) HX.out]⟩
        case measure=>simp[intOf]
      . have hx1:((x:Int)==0)=false:=by simp;omega
        go_wp2
        go_ret
        have e:strip xs=xs.take (j+1):=by rw[<-HS.out];exact zb5 xs j (by omega) (by rw[HX.out];exact hx0)
        exact⟨zfj rfl (by rw[e];simp;omega) rfl,rfl⟩
theorem za3:(Tryz.prog.info? 211).map (fun i=>(i.zero,i.size,i.bytes))=some (some (.int .u32 0),1,4):=by kernel_rfl
theorem zbz(a:Option Addr)(cap:Nat)(xs:List Nat)(w:World)(h:Rd w a cap xs)(hl:xs.length<=1000000000) :
 Calls Tryz.prog 140 #[.slice a xs.length cap] w fun e w'=>∃a' cap',e=.returned (.slice a' (strip xs).length cap')/\Res 211 w.heap.size w' a' cap' (strip xs)/\Below w.heap.size w w':=by
 obtain⟨i0,hi,hz0,hz1,hz2⟩:=info_parts za3
 have hsl:=zag xs
 go_enter Tryz.func140,Tryz.ntmps140
 go_wp2_with fail
 refine(zby a cap xs _ (h.below ((Below.refl _ _).alloc (Nat.le_refl _) _))).mono ?_
 rintro e w' ⟨rfl,hw⟩
 subst hw
 go_wp2_with (at_builtin;refine zbx rfl _ _ 94 rfl w.heap.size 211 i0 Tryz.underlying94 hi hz0 hz1 hz2 _ 0 [] rfl ?_ a cap _ (strip xs) rfl rfl ?_ ?_ ?_ ?_)
 . exact World.ownsRow_made w #[] 0 (Nat.le_refl _) (Nat.zero_le _) rfl
 . exact h.strip.below ((Below.refl _ _).alloc (Nat.le_refl _) _)
 . omega
 . simp
 . intro v' w1 hown hgrow
   obtain⟨a',cap',rfl,hres⟩:=Res.of h.lim.strip hown
   go_wp2
   go_ret
   exact⟨a',cap',rfl,hres,((Below.refl _ _).alloc (Nat.le_refl _) _).grown hgrow (by simp) (fun k hk=>by simp[Value.ownBlock]at hk;omega)⟩
theorem zdu(n:Nat)(w:World)(hn:n<18446744073709551616) :
 Calls Tryz.prog 108 #[.int .u64 (n:Int)] w fun e w'=>∃a cap ys,e=.returned (.slice a ys.length cap)/\V ys=n/\Tr ys/\Res 211 w.heap.size w' a cap ys/\Below w.heap.size w w':=by
 go_enter Tryz.func108,Tryz.ntmps108
 go_wp2_with fail
 have hrd:=zx1 w 211 [n%4294967296,n/4294967296] #[Value.int IntKind.u32 (↑n%4294967296),Value.int IntKind.u32 (↑n/4294967296)] (by simp[U]) (Lim.mk (by omega) (Lim.mk (by omega) Lim.nil)) (by simp[maxLen])
 refine(zbz (some ⟨w.heap.size,0,none⟩) 2 [n%4294967296,n/4294967296] _ hrd (by simp)).mono ?_
 rintro e w' ⟨a,cap,rfl,hres,hb⟩
 go_wp2
 go_ret
 refine⟨a,cap,_,rfl,?_,zak _,hres.mono (by simp),((Below.refl _ _).alloc (Nat.le_refl _) _).trans (hb.mono (by simp))⟩
 rw[zaj];simp only[V];omega
def cmpN(x y:Nat):Int:=if x<y then -1 else if y<x then 1 else 0
theorem zas{a b:Int}(h:a=b):Ending.returned (.int .i64 a)=.returned (.int .i64 b):=by rw[h]
theorem zaz{a b:Bool}(h:a=b):Ending.returned (.bool a)=.returned (.bool b):=by rw[h]
theorem zkn(x y:Nat)(w:World) :
 Calls Tryz.prog 186 #[.int .i64 (x:Int),.int .i64 (y:Int)] w fun e w'=>e=.returned (.int .i64 (cmpN x y))/\w=w':=by
 rcases Nat.lt_trichotomy x y with h|rfl|h
 . have h1:(x:Int)<(y:Int):=by omega
   go_enter Tryz.func186,Tryz.ntmps186
   go_wp2
   go_ret
   exact⟨zas (by simp[cmpN,h]),rfl⟩
 . have h1:¬(x:Int)<(x:Int):=by omega
   go_enter Tryz.func186,Tryz.ntmps186
   go_wp2
   go_ret
   exact⟨zas (by simp[cmpN]),rfl⟩
 . have h1:(y:Int)<(x:Int):=by omega
   have h2:¬(x:Int)<(y:Int):=by omega
   go_enter Tryz.func186,Tryz.ntmps186
   go_wp2
   go_ret
   exact⟨zas (by simp[cmpN,h];omega),rfl⟩
theorem zkm(x y:Nat)(w:World) :
 Calls Tryz.prog 187 #[.int .u32 (x:Int),.int .u32 (y:Int)] w fun e w'=>e=.returned (.int .i64 (cmpN x y))/\w=w':=by
 rcases Nat.lt_trichotomy x y with h|rfl|h
 . have h1:(x:Int)<(y:Int):=by omega
   go_enter Tryz.func187,Tryz.ntmps187
   go_wp2
   go_ret
   exact⟨zas (by simp[cmpN,h]),rfl⟩
 . have h1:¬(x:Int)<(x:Int):=by omega
   go_enter Tryz.func187,Tryz.ntmps187
   go_wp2
   go_ret
   exact⟨zas (by simp[cmpN]),rfl⟩
 . have h1:(y:Int)<(x:Int):=by omega
   have h2:¬(x:Int)<(y:Int):=by omega
   go_enter Tryz.func187,Tryz.ntmps187
   go_wp2
   go_ret
   exact⟨zas (by simp[cmpN,h];omega),rfl⟩
theorem zeu(x y:Nat)(w:World) :
 Calls Tryz.prog 187 #[.int .u32 (x:Int),.int .u32 (y:Int)] w fun e w'=>e=.returned (.int .i64 (cmpN x y))/\w'=w :=
 (zkm x y w).mono fun _ _ h=>⟨h.1,h.2.symm⟩
theorem Rd.at{w:World}{b off cap:Nat}{xs:List Nat}(h:Rd w (some ⟨b,off,none⟩) cap xs)(i:Nat)(hi:i<xs.length):w.cell? ⟨b,off+i,none⟩=some (.int .u32 (xs.getD i 0:Nat)):=by
 rcases h.2.2.2.2 with rfl|⟨b',off',e,hb,hc⟩
 . simp at hi
 . simp at e;obtain⟨rfl,rfl⟩:=e;exact hc i hi
theorem Rd.lt{w:World}{b off cap:Nat}{xs:List Nat}(h:Rd w (some ⟨b,off,none⟩) cap xs)(hn:xs≠[]):b<w.heap.size:=by
 rcases h.2.2.2.2 with rfl|⟨b',off',e,hb,hc⟩
 . exact absurd rfl hn
 . simp at e;obtain⟨rfl,rfl⟩:=e;exact hb
theorem zht(a:Option Addr)(cap:Nat)(xs:List Nat)(b:Option Addr)(cbp:Nat)(ys:List Nat)(w:World)(ha:Rd w a cap xs)(hb:Rd w b cbp ys) :
 Calls Tryz.prog 145 #[.slice a xs.length cap,.slice b ys.length cbp] w fun e w'=>e=.returned (.int .i64 (cmpN (V xs) (V ys)))/\Below w.heap.size w w':=by
 have la:=ha.strip
 have lb:=hb.strip
 have hbd:=la.le
 have hbd2:=la.cap
 have hbe:=lb.le
 have hbe2:=lb.cap
 unfold maxLen at hbd2 hbe2
 have ea:=zaj xs
 have eb:=zaj ys
 have ta:=zak xs
 have tb:=zak ys
 have HV:Hid (cmpN (V xs) (V ys)=cmpN (V (strip xs)) (V (strip ys))):=by show _=_;rw[ea,eb]
 clear ea eb
 go_enter Tryz.func145,Tryz.ntmps145
 go_wp2_with fail
 refine(zby a cap xs _ ha).mono ?_
 rintro e w' ⟨rfl,rfl⟩
 go_wp2_with fail
 refine(zby b cbp ys _ hb).mono ?_
 rintro e w' ⟨rfl,rfl⟩
 clear ha hb
 generalize strip xs=xs at *
 generalize strip ys=ys at *
 by_cases hlen:xs.length=ys.length
 . have hl2:((xs.length:Int) != (ys.length:Int))=false:=by simp;omega
   rcases la.2.2.2.2 with rfl|⟨ba,oa,rfl,hla,hca⟩
   . have hy:ys=[]:=List.length_eq_zero_iff.1 hlen.symm
     subst hy
     go_wp2_with fail
     go_loop [5] (fun i=>i=.int .i64 (-1)) (fun i=>(intOf i).toNat)
     case atStart=>rfl
     case round =>
      subst hrel;go_wp2
      go_ret
      exact⟨zas (by rw[HV.out];rfl),Below.refl _ _⟩
   . rcases lb.2.2.2.2 with rfl|⟨bb,ob,rfl,hlb,hcb⟩
     . simp at hlen
       subst hlen
       go_wp2_with fail
       go_loop [5] (fun i=>i=.int .i64 (-1)) (fun i=>(intOf i).toNat)
       case atStart=>rfl
       case round =>
        subst hrel;go_wp2
        go_ret
        exact⟨zas (by rw[HV.out];rfl),Below.refl _ _⟩
     . have lax:=la.lim
       have lay:=lb.lim
       clear la lb
       go_wp2_with fail
       go_loopw [5] (fun i wr=>∃(k:Nat) (m:Int),k<=ys.length/\m=(k:Int)-1/\i=.int .i64 m/\(∀j,k<=j->xs.getD j 0=ys.getD j 0)/\Below w.heap.size w wr) (fun i _=>(intOf i+1).toNat)
       case atStart=>exact⟨ys.length,_,Nat.le_refl _,rfl,rfl,fun j hj=>by simp[List.getD,List.getElem?_eq_none (show ys.length<=j from hj),List.getElem?_eq_none (show xs.length<=j by omega)],Below.refl _ _⟩
       case round =>
        obtain⟨k,m,hk,hm,rfl,hst,hnx⟩:=hrel
        have HS:Hid (∀j,k<=j->xs.getD j 0=ys.getD j 0):=hst
        clear hst
        by_cases hk0:k=0
        . subst hk0
          obtain rfl:m=-1:=by omega
          clear hm;go_wp2
          go_ret
          refine⟨zas ?_,hnx⟩
          rw[HV.out,zk3 xs ys (fun j=>HS.out j (Nat.zero_le _))]
          simp[cmpN]
        . obtain⟨j,rfl⟩:∃j,k=j+1:=⟨k-1,by omega⟩
          obtain rfl:m=(j:Int):=by omega
          clear hm
          have gx:=(hnx.cell (p:=⟨ba,oa+j,none⟩) hla).trans (hca j (by omega))
          have gy:=(hnx.cell (p:=⟨bb,ob+j,none⟩) hlb).trans (hcb j (by omega))
          obtain⟨x,hx⟩:∃x,xs.getD j 0=x:=⟨_,rfl⟩
          obtain⟨y,hy⟩:∃y,ys.getD j 0=y:=⟨_,rfl⟩
          rw[hx]at gx;rw[hy]at gy
          have HX:Hid (xs.getD j 0=x):=hx
          have HY:Hid (ys.getD j 0=y):=hy
          clear hx hy hca hcb
          have b1:(0:Int)<=(j:Int):=by omega
          have b2:(j:Int)<(ys.length:Int):=by omega
          rcases Nat.lt_trichotomy x y with h|rfl|h
          . have hne:((x:Int) != (y:Int))=true:=by simp;omega
            go_wp2_with fail
            go_quiet (fail)
            go_wp2_with fail
            have gx2:(wr.drewN nq).cell? ⟨ba,oa+j,none⟩=some (.int .u32 (x:Int)):=gx
            have gy2:(wr.drewN nq).cell? ⟨bb,ob+j,none⟩=some (.int .u32 (y:Int)):=gy
            have zyt:=below_drewN hnx nq
            clear gx gy
            generalize wr.drewN nq=wq at gx2 gy2 zyt ⊢
            go_quiet ((go_at_call 187;exact Calls.quiet_of_same (zeu _ _ _)))
            go_wp2
            go_ret
            refine⟨zas ?_,below_drewN zyt _⟩
            have:=ze6 j xs ys lax (fun i hi=>HS.out i (by omega)) (by rw[HX.out,HY.out];exact h)
            rw[HV.out];simp[cmpN,h,this]
          . have hne:((x:Int) != (x:Int))=false:=by simp
            go_wp2_with fail
            go_quiet (fail)
            go_wp2
            go_roundw
            case rel =>
             refine⟨j,_,by omega,rfl,by go_num,fun i hi=>?_,below_drewN hnx _⟩
             rcases Nat.lt_or_eq_of_le hi with h|rfl
             . exact HS.out i (by omega)
             . rw[HX.out,HY.out]
            case measure=>simp[intOf]
          . have hne:((x:Int) != (y:Int))=true:=by simp;omega
            go_wp2_with fail
            go_quiet (fail)
            go_wp2_with fail
            have gx2:(wr.drewN nq).cell? ⟨ba,oa+j,none⟩=some (.int .u32 (x:Int)):=gx
            have gy2:(wr.drewN nq).cell? ⟨bb,ob+j,none⟩=some (.int .u32 (y:Int)):=gy
            have zyt:=below_drewN hnx nq
            clear gx gy
            generalize wr.drewN nq=wq at gx2 gy2 zyt ⊢
            go_quiet ((go_at_call 187;exact Calls.quiet_of_same (zeu _ _ _)))
            go_wp2
            go_ret
            refine⟨zas ?_,below_drewN zyt _⟩
            have:=ze6 j ys xs lay (fun i hi=>(HS.out i (by omega)).symm) (by rw[HX.out,HY.out];exact h)
            rw[HV.out];unfold cmpN;rw[if_neg (by omega),if_pos h,if_neg (by omega),if_pos this]
 . have hl2:((xs.length:Int) != (ys.length:Int))=true:=by simp;omega
   go_wp2_with fail
   refine(zkn xs.length ys.length _).mono ?_
   rintro e w' ⟨rfl,rfl⟩
   go_wp2
   go_ret
   refine⟨zas ?_,Below.refl _ _⟩
   rw[HV.out]
   unfold cmpN
   rcases Nat.lt_or_gt_of_ne hlen with h|h
   . have:=zau la.lim tb h;simp[h,this]
   . have:=zau lb.lim ta h;rw[if_neg (by omega),if_pos h,if_neg (by omega),if_pos this]
theorem za5(xs:List Nat)(j:Nat)(h:xs.length<=j):xs.getD j 0=0:=by simp[List.getD,List.getElem?_eq_none h]
theorem Rd.form{w:World}{a:Option Addr}{cap:Nat}{xs:List Nat}(h:Rd w a cap xs) :
 xs=[]\/∃b off,a=some ⟨b,off,none⟩/\b<w.heap.size/\∀i,i<xs.length->w.cell? ⟨b,off+i,none⟩=some (.int .u32 (xs.getD i 0:Nat)):=h.2.2.2.2
theorem zdr(a:Option Addr)(cap:Nat)(xs:List Nat)(b:Option Addr)(cbp:Nat)(ys:List Nat)(w:World)(ha:Rd w a cap xs)(hb:Rd w b cbp ys) :
 Calls Tryz.prog 206 #[.slice a xs.length cap,.slice b ys.length cbp] w fun e w'=>e=.returned (.int .i64 (cmpN (V xs) (V ys)))/\w=w':=by
 have lx:=ha.lim
 have ly:=hb.lim
 have k1:=ha.le
 have k2:=ha.cap
 have k3:=hb.le
 have k4:=hb.cap
 unfold maxLen at k2 k4
 have fa:=ha.form
 have fb:=hb.form
 clear ha hb
 obtain⟨n,hn⟩:∃n,xs.length=n:=⟨_,rfl⟩
 obtain⟨m,hm⟩:∃m,ys.length=m:=⟨_,rfl⟩
 have HN:Hid (xs.length=n):=hn
 have HM:Hid (ys.length=m):=hm
 rw[hn]at k1 fa ⊢;rw[hm]at k3 fb ⊢;clear hn hm
 have HA:Hid (xs=[]\/∃b off,a=some ⟨b,off,none⟩/\b<w.heap.size/\∀i,i<n->w.cell? ⟨b,off+i,none⟩=some (.int .u32 (xs.getD i 0:Nat))):=fa
 have HB:Hid (ys=[]\/∃b' off,b=some ⟨b',off,none⟩/\b'<w.heap.size/\∀i,i<m->w.cell? ⟨b',off+i,none⟩=some (.int .u32 (ys.getD i 0:Nat))):=fb
 clear fa fb
 go_enter Tryz.func206,Tryz.ntmps206
 go_wp2
 all_goals
  go_loop [5] (fun i=>∃(k:Nat) (q:Int),k<=max n m/\q=(k:Int)-1/\i=.int .i64 q/\(∀j,k<=j->xs.getD j 0=ys.getD j 0)) (fun i=>(intOf i+1).toNat)
  case atStart =>
   refine⟨max n m,_,Nat.le_refl _,?_,rfl,fun j hj=>?_⟩
   . omega
   . rw[za5 xs j (by rw[HN.out];omega),za5 ys j (by rw[HM.out];omega)]
  case round =>
   obtain⟨k,q,hk,hq,rfl,hst⟩:=hrel
   have HS:Hid (∀j,k<=j->xs.getD j 0=ys.getD j 0):=hst
   clear hst
   by_cases hk0:k=0
   . subst hk0
     obtain rfl:q=-1:=by omega
     clear hq;go_wp2
     go_ret
     refine⟨zas ?_,rfl⟩
     rw[zk3 xs ys (fun j=>HS.out j (Nat.zero_le _))]
     simp[cmpN]
   . obtain⟨j,rfl⟩:∃j,k=j+1:=⟨k-1,by omega⟩
     obtain rfl:q=(j:Int):=by omega
     clear hq
     obtain⟨x,hx⟩:∃x,xs.getD j 0=x:=⟨_,rfl⟩
     obtain⟨y,hy⟩:∃y,ys.getD j 0=y:=⟨_,rfl⟩
     have HX:Hid (xs.getD j 0=x):=hx
     have HY:Hid (ys.getD j 0=y):=hy
     have fin_lt:x<y->cmpN (V xs) (V ys)=-1:=fun h=>by
      have:=ze6 j xs ys lx (fun i hi=>HS.out i (by omega)) (by rw[hx,hy];exact h)
      simp[cmpN,this]
     have fin_gt:y<x->cmpN (V xs) (V ys)=1:=fun h=>by
      have:=ze6 j ys xs ly (fun i hi=>(HS.out i (by omega)).symm) (by rw[hx,hy];exact h)
      unfold cmpN;rw[if_neg (by omega),if_pos this]
     have hstep:x=y->∀i,j<=i->xs.getD i 0=ys.getD i 0:=fun h i hi=>by
      rcases Nat.lt_or_eq_of_le hi with h1|rfl
      . exact HS.out i (by omega)
      . rw[hx,hy,h]
     have HLT:Hid (x<y->cmpN (V xs) (V ys)=-1):=fin_lt
     have HGT:Hid (y<x->cmpN (V xs) (V ys)=1):=fin_gt
     have HST:Hid (x=y->∀i,j<=i->xs.getD i 0=ys.getD i 0):=hstep
     clear fin_lt fin_gt hstep hx hy
     have ca:j<n->∃b off,a=some ⟨b,off,none⟩/\w.cell? ⟨b,off+j,none⟩=some (.int .u32 (x:Int)):=fun hj=>by
      rcases HA.out with h0|⟨b,off,h1,h2,h3⟩
      . have:=HN.out;rw[h0]at this;simp at this;omega
      . exact⟨b,off,h1,by rw[h3 j hj,HX.out]⟩
     have cb:j<m->∃b' off,b=some ⟨b',off,none⟩/\w.cell? ⟨b',off+j,none⟩=some (.int .u32 (y:Int)):=fun hj=>by
      rcases HB.out with h0|⟨b,off,h1,h2,h3⟩
      . have:=HM.out;rw[h0]at this;simp at this;omega
      . exact⟨b,off,h1,by rw[h3 j hj,HY.out]⟩
     have xa:n<=j->x=0:=fun hj=>by rw[<-HX.out];exact za5 xs j (by rw[HN.out];exact hj)
     have ya:m<=j->y=0:=fun hj=>by rw[<-HY.out];exact za5 ys j (by rw[HM.out];exact hj)
     clear HA HB HX HY HS
     by_cases hj1:j<n
     all_goals by_cases hj2:j<m
     . obtain⟨b1,o1,rfl,c1⟩:=ca hj1
       obtain⟨b2,o2,rfl,c2⟩:=cb hj2
       clear ca cb xa ya
       rcases Nat.lt_trichotomy x y with h|h|h
       all_goals try (exfalso;omega)
       all_goals go_wp2
       all_goals first
        | (go_ret;exact⟨zas (HLT.out h).symm,rfl⟩)
        | (go_ret;exact⟨zas (HGT.out h).symm,rfl⟩)
        | (go_round
           case rel=>exact⟨j,_,by omega,rfl,by go_num,HST.out h⟩
           case measure=>simp[intOf])
     . obtain⟨b1,o1,rfl,c1⟩:=ca hj1
       have y0:=ya (by omega)
       subst y0;clear ca cb xa ya
       rcases Nat.lt_trichotomy x 0 with h|h|h
       all_goals try (exfalso;omega)
       all_goals go_wp2
       all_goals first
        | (go_ret;exact⟨zas (HLT.out h).symm,rfl⟩)
        | (go_ret;exact⟨zas (HGT.out h).symm,rfl⟩)
        | (go_round
           case rel=>exact⟨j,_,by omega,rfl,by go_num,HST.out h⟩
           case measure=>simp[intOf])
     . obtain⟨b2,o2,rfl,c2⟩:=cb hj2
       have x0:=xa (by omega)
       subst x0;clear ca cb xa ya
       rcases Nat.lt_trichotomy 0 y with h|h|h
       all_goals try (exfalso;omega)
       all_goals go_wp2
       all_goals first
        | (go_ret;exact⟨zas (HLT.out h).symm,rfl⟩)
        | (go_ret;exact⟨zas (HGT.out h).symm,rfl⟩)
        | (go_round
           case rel=>exact⟨j,_,by omega,rfl,by go_num,HST.out h⟩
           case measure=>simp[intOf])
     . omega
