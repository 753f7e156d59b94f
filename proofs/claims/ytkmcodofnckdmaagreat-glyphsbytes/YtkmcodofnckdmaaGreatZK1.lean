import Derived.WalkKit
import Derived.ProofKit
import Derived.Below
import Derived.Laws.AppendOwnNone
import Derived.Test.YtkmcodofnckdmaaGreatProg
import Derived.Outline
import Derived.BigQuiet
import Derived.Deep.QuietTactic
import Derived.WalkSmall
set_option maxHeartbeats 1600000
set_option maxRecDepth 100000
set_option linter.unusedSimpArgs false
set_option linter.unusedVariables false
namespace Go.Proofs.YtkmcodofnckdmaaGreat
open Tryz
theorem qA{α:Type _}{a b:List α}:(a++b).length=a.length+b.length:=List.length_append
theorem qB{p:Prop}[Decidable p](h:¬p):decide p=false:=decide_eq_false h
theorem qC{p:Prop}[Decidable p](h:p):decide p=true:=decide_eq_true h
theorem qD(n:Nat):0<=n:=Nat.zero_le n
theorem qE(n:Nat):n<=n:=Nat.le_refl n
theorem qF{n m k:Nat}(h:n<=m)(g:m<=k):n<=k:=Nat.le_trans h g
theorem qG{α:Type _}{l:List α}{i:Nat}(h:i<l.length):l[i]?=some l[i]:=List.getElem?_eq_getElem h
theorem qH{α:Type _}{l:List α}{i:Nat}{a:α}:l.getD i a=(l[i]?).getD a:=List.getD_eq_getElem?_getD
theorem qI{α:Type _}(a b c:List α):a++b++c=a++(b++c):=List.append_assoc a b c
theorem qJ{α:Type _}{i:Nat}{l:List α}:(l.drop i).length=l.length-i:=List.length_drop
theorem qK{α:Type _}{β:Type _}{l:List α}(f:α->β):(l.map f).length=l.length:=List.length_map f
theorem qL{α:Type _}{i:Nat}{l:List α}:(l.take i).length=min i l.length:=List.length_take
theorem qM{p:Prop}[Decidable p]:decide p=true<->p:=decide_eq_true_iff
theorem qN{n m k:Nat}(h:n<m)(g:m<=k):n<k:=Nat.lt_of_lt_of_le h g
theorem qO{α:Type _}{a b:List α}{i:Nat}(h:a.length<=i):(a++b)[i]?=b[i-a.length]?:=List.getElem?_append_right h
abbrev OA:=Option Addr
abbrev LN:=List Nat
abbrev LI:=List Int
abbrev LV:=List Value
def V:LN->Nat
 | []=>0
 | x::xs=>x+4294967296*V xs
def Lim(xs:LN):Prop:=∀x∈xs,x<4294967296
def strip:LN->LN
 | []=>[]
 | x::xs=>if strip xs=[]then (if x=0 then []else [x])else x::strip xs
def Tr(xs:LN):Prop:=strip xs=xs
theorem zoq(xs ys:LN):V (xs++ys)=V xs+4294967296 ^ xs.length*V ys:=by
 induction xs with
 | nil=>simp[V]
 | cons x xs ih=>simp only[List.cons_append,V,ih,List.length_cons,Nat.pow_succ,Nat.mul_add];rw[Nat.mul_comm (4294967296 ^ xs.length) 4294967296,Nat.mul_assoc];omega
theorem Lim.cons{x:Nat}{xs:LN}(h:Lim (x::xs)):x<4294967296/\Lim xs:=⟨h x (by simp),fun y hy=>h y (by simp[hy])⟩
theorem Lim.mk{x:Nat}{xs:LN}(hx:x<4294967296)(h:Lim xs):Lim (x::xs):=by
 intro y hy;rcases List.mem_cons.1 hy with rfl | hy
 . exact hx
 . exact h y hy
theorem Lim.nil:Lim []:=by intro x hx;cases hx
theorem Lim.append{xs ys:LN}(h:Lim xs)(k:Lim ys):Lim (xs++ys):=by
 intro x hx;rcases List.mem_append.1 hx with hx | hx
 . exact h x hx
 . exact k x hx
theorem Lim.snoc{xs:LN}{x:Nat}(h:Lim xs)(hx:x<4294967296):Lim (xs++[x]):=h.append (Lim.mk hx Lim.nil)
theorem Lim.take{xs:LN}(h:Lim xs)(n:Nat):Lim (xs.take n):=fun x hx=>h x (List.mem_of_mem_take hx)
theorem Lim.drop{xs:LN}(h:Lim xs)(n:Nat):Lim (xs.drop n):=fun x hx=>h x (List.mem_of_mem_drop hx)
theorem Lim.getD{xs:LN}(h:Lim xs)(i:Nat):xs.getD i 0<4294967296:=by
 rw[qH];by_cases hi:i<xs.length
 . rw[qG hi];exact h _ (List.getElem_mem hi)
 . rw[List.getElem?_eq_none (by omega)];decide
theorem Lim.set{xs:LN}(h:Lim xs)(i:Nat){x:Nat}(hx:x<4294967296):Lim (xs.set i x):=by
 intro y hy;rcases List.mem_or_eq_of_mem_set hy with hy | rfl
 . exact h y hy
 . exact hx
theorem V_lt{xs:LN}(h:Lim xs):V xs<4294967296 ^ xs.length:=by
 induction xs with
 | nil=>simp[V]
 | cons x xs ih =>
  have:=ih h.cons.2;have hx:=h.cons.1;simp only[V,List.length_cons,Nat.pow_succ];omega
theorem zco(xs:LN)(i:Nat):xs.take (i+1)=xs.take i++(if i<xs.length then [xs.getD i 0]else []):=by
 by_cases h:i<xs.length
 . rw[if_pos h,List.take_succ_eq_append_getElem h];simp[List.getD,h]
 . rw[if_neg h,List.take_of_length_le (by omega),List.take_of_length_le (by omega)];simp
theorem zbh(xs:LN)(i:Nat):V (xs.take (i+1))=V (xs.take i)+4294967296 ^ i*xs.getD i 0:=by
 rw[zco,zoq];by_cases h:i<xs.length
 . rw[if_pos h,qL,Nat.min_eq_left (by omega)];simp[V]
 . rw[if_neg h];simp[V,List.getD,List.getElem?_eq_none (Nat.le_of_not_lt h)]
theorem zt0(xs:LN)(x:Nat):V (xs++[x])=V xs+4294967296 ^ xs.length*x:=by rw[zoq];simp[V]
theorem zt2:∀(a b:LN),(∀j,a.getD j 0=b.getD j 0)->V a=V b:=by
 intro a;induction a with
 | nil =>
  intro b;induction b with
  | nil=>intro _;rfl
  | cons y b ih =>
   intro h;have h0:=h 0;have h1:=ih (fun j=>by have:=h (j+1);simpa using this);simp at h0;simp only[V]at h1 ⊢;omega
 | cons x a ih =>
  intro b h;cases b with
  | nil =>
   have h0:=h 0;have h1:=ih [] (fun j=>by have:=h (j+1);simpa using this);simp at h0;simp only[V]at h1 ⊢;omega
  | cons y b =>
   have h0:=h 0;have h1:=ih b (fun j=>by have:=h (j+1);simpa using this);simp at h0;rw[V,V,h1,h0]
theorem zcv(a:LN)(j:Nat):a.tail.getD j 0=a.getD (j+1) 0:=by cases a <;> simp
theorem zcd(a:LN):V a=a.getD 0 0+4294967296*V a.tail:=by cases a <;> simp[V]
theorem Lim.tail{a:LN}(h:Lim a):Lim a.tail:=by
 cases a with
 | nil=>exact h
 | cons x a=>exact h.cons.2
theorem zoo:∀(i:Nat) (a b:LN),Lim a->(∀j,i<j->a.getD j 0=b.getD j 0)->a.getD i 0<b.getD i 0->V a<V b:=by
 intro i;induction i with
 | zero =>
  intro a b _ h h0;rw[zcd a,zcd b,zt2 a.tail b.tail (fun j=>by rw[zcv,zcv];exact h (j+1) (by omega))];omega
 | succ i ih =>
  intro a b hl h h0;have:=ih a.tail b.tail hl.tail (fun j hj=>by rw[zcv,zcv];exact h (j+1) (by omega)) (by rw[zcv,zcv];exact h0);have hx:=hl.getD 0;rw[zcd a,zcd b];omega
theorem zbd(xs:LN):V (strip xs)=V xs:=by
 induction xs with
 | nil=>rfl
 | cons x xs ih =>
  rw[strip];by_cases h:strip xs=[]
  . rw[if_pos h];rw[h]at ih
    by_cases hx:x=0
    . rw[if_pos hx];simp only[V]at ih ⊢;omega
    . rw[if_neg hx];simp only[V]at ih ⊢;omega
  . rw[if_neg h];simp only[V];rw[ih]
theorem zlq(xs:LN):strip (strip xs)=strip xs:=by
 induction xs with
 | nil=>rfl
 | cons x xs ih =>
  rw[strip];by_cases h:strip xs=[]
  . rw[if_pos h]
    by_cases hx:x=0
    . rw[if_pos hx];rfl
    . rw[if_neg hx];simp[strip,hx]
  . rw[if_neg h,strip,ih,if_neg h]
theorem zbi(xs:LN):Tr (strip xs):=zlq xs
theorem zwr:Tr []:=rfl
theorem zhb(xs:LN):strip (xs++[0])=strip xs:=by
 induction xs with
 | nil=>rfl
 | cons x xs ih=>rw[List.cons_append,strip,ih,strip]
theorem zox(xs:LN)(x:Nat)(hx:x≠0):strip (xs++[x])=xs++[x]:=by
 induction xs with
 | nil=>simp[strip,hx]
 | cons y xs ih=>rw[List.cons_append,strip,ih,if_neg (by simp)]
theorem zfe(xs:LN):strip xs=xs.take (strip xs).length:=by
 induction xs with
 | nil=>rfl
 | cons x xs ih =>
  rw[strip];by_cases h:strip xs=[]
  . rw[if_pos h]
    by_cases hx:x=0
    . rw[if_pos hx];simp
    . rw[if_neg hx];simp
  . rw[if_neg h];simp only[List.length_cons,List.take_succ_cons];rw[<-ih]
theorem zao(xs:LN):(strip xs).length<=xs.length:=by rw[zfe];simp;omega
theorem Lim.strip{xs:LN}(h:Lim xs):Lim (strip xs):=by rw[zfe];exact h.take _
theorem zdh(xs:LN)(n:Nat)(h:n<xs.length)(h0:xs.getD n 0=0):strip (xs.take (n+1))=strip (xs.take n):=by
 rw[zco,if_pos h,h0,zhb]
theorem zdi(xs:LN)(n:Nat)(h:n<xs.length)(h0:xs.getD n 0≠0):strip (xs.take (n+1))=xs.take (n+1):=by
 rw[zco,if_pos h,zox _ _ h0]
theorem Tr.last{xs:LN}(h:Tr xs)(hn:xs≠[]):xs.getD (xs.length-1) 0≠0:=by
 intro h0;have hl:0<xs.length:=List.length_pos_iff.2 hn;have e:=zdh xs (xs.length-1) (by omega) h0;rw[show xs.length-1+1=xs.length by omega,List.take_length]at e;have e2:strip xs=xs:=h;have:=zao (xs.take (xs.length-1));rw[<-e,e2]at this;simp at this;omega
theorem V_ge{xs:LN}(h:Tr xs)(hn:xs≠[]):4294967296 ^ (xs.length-1)<=V xs:=by
 have hl:0<xs.length:=List.length_pos_iff.2 hn;have e:=zbh xs (xs.length-1);rw[show xs.length-1+1=xs.length by omega,List.take_length]at e;have h1:=h.last hn;rw[e]
 calc 4294967296 ^ (xs.length-1)=4294967296 ^ (xs.length-1)*1:=by omega
  _<=4294967296 ^ (xs.length-1)*xs.getD (xs.length-1) 0:=Nat.mul_le_mul_left _ (by omega)
  _<=_:=by omega
theorem zei{xs:LN}(h:Tr xs){k:Nat}(hv:V xs<4294967296 ^ k):xs.length<=k:=by
 rcases Decidable.em (xs=[])with rfl|hn
 . simp
 . have h1:=V_ge h hn
   rcases Nat.lt_or_ge k xs.length with hk|hk
   . have:4294967296 ^ k<=4294967296 ^ (xs.length-1):=Nat.pow_le_pow_right (by decide) (by omega)
     omega
   . exact hk
theorem zbw{a b:LN}(ha:Lim a)(hb:Tr b)(h:a.length<b.length):V a<V b:=by
 have h1:=V_lt ha;have h2:=V_ge hb (by intro e;rw[e]at h;simp at h);have:4294967296 ^ a.length<=4294967296 ^ (b.length-1):=Nat.pow_le_pow_right (by decide) (by omega);omega
theorem zmd{xs:LN}(h:Tr xs)(hv:V xs=0):xs=[]:=by
 rcases Decidable.em (xs=[])with rfl|hn
 . rfl
 . have h1:=V_ge h hn
   have:0<4294967296 ^ (xs.length-1):=Nat.pow_pos (by decide);omega
theorem zp7:∀(n:Nat) (a b:LN),a.length=n->b.length=n->Lim a->Lim b->V a=V b->a=b:=by
 intro n;induction n with
 | zero=>intro a b ha hb _ _ _;rw[List.length_eq_zero_iff.1 ha,List.length_eq_zero_iff.1 hb]
 | succ n ih =>
  intro a b ha hb la lb h
  match a,b,ha,hb with
  | x::a,y::b,ha,hb =>
   have:=la.cons.1;have:=lb.cons.1;simp only[V]at h;have e1:x=y:=(by omega);have e2:V a=V b:=(by omega);rw[e1,ih a b (by simpa using ha) (by simpa using hb) la.cons.2 lb.cons.2 e2]
theorem uniq{a b:LN}(la:Lim a)(lb:Lim b)(ta:Tr a)(tb:Tr b)(h:V a=V b):a=b:=by
 have h1:¬a.length<b.length:=fun hl=>by have:=zbw la tb hl;omega
 have h2:¬b.length<a.length:=fun hl=>by have:=zbw lb ta hl;omega
 exact zp7 b.length a b (by omega) rfl la lb h
open Go.RowKit
def U(n:Nat):Value:=.int .u32 (n:Int)
def Rd(w:World)(a:OA)(cap:Nat)(xs:LN):Prop :=
 Lim xs/\xs.length<=cap/\cap<=maxLen/\(a=none->cap=0) /\
 (xs=[]\/∃b off,a=some ⟨b,off,none⟩/\b<w.heap.size/\∀i,i<xs.length->w.cell? ⟨b,off+i,none⟩=some (.int .u32 (xs.getD i 0:Nat)))
theorem Rd.lim{w:World}{a:OA}{cap:Nat}{xs:LN}(h:Rd w a cap xs):Lim xs:=h.1
theorem Rd.le{w:World}{a:OA}{cap:Nat}{xs:LN}(h:Rd w a cap xs):xs.length<=cap:=h.2.1
theorem Rd.cap{w:World}{a:OA}{cap:Nat}{xs:LN}(h:Rd w a cap xs):cap<=maxLen:=h.2.2.1
def Fm(w:World)(a:OA)(xs:LN):Prop :=
 xs=[]\/∃b off,a=some ⟨b,off,none⟩/\b<w.heap.size/\∀i,i<xs.length->w.cell? ⟨b,off+i,none⟩=some (.int .u32 (xs.getD i 0:Nat))
theorem Rd.fm{w:World}{a:OA}{cap:Nat}{xs:LN}(h:Rd w a cap xs):Fm w a xs:=h.2.2.2.2
theorem Fm.at{w wr:World}{a:OA}{xs:LN}(h:Fm w a xs)(hb:Below w.heap.size w wr)(k:Nat)(hk:k<xs.length) :
 ∃b off,a=some ⟨b,off,none⟩/\b<w.heap.size/\wr.cell? ⟨b,off+k,none⟩=some (.int .u32 (xs.getD k 0:Nat)):=by
 rcases h with rfl|⟨b,off,h1,h2,h3⟩
 . simp at hk
 . exact⟨b,off,h1,h2,(hb.cell (p:=⟨b,off+k,none⟩) h2).trans (h3 k hk)⟩
theorem Rd.keep{w w':World}{a:OA}{cap:Nat}{xs:LN}(h:Rd w a cap xs)(hs:w.heap.size<=w'.heap.size)
    (hb:∀b,b<w.heap.size->(∃o,a=some ⟨b,o,none⟩)->w'.heap[b]?=w.heap[b]?):Rd w' a cap xs:=by
 obtain⟨h1,h2,h3,h5,h4⟩:=h;refine⟨h1,h2,h3,h5,?_⟩;rcases h4 with h4|⟨b,off,e,hb1,hc⟩
 . exact .inl h4
 . exact .inr ⟨b,off,e,qN hb1 hs,fun i hi=>(World.cell?_of_block (w:=w) (a:=⟨b,off+i,none⟩) (hb b hb1 ⟨off,e⟩)).trans (hc i hi)⟩
theorem Rd.below{w w':World}{a:OA}{cap:Nat}{xs:LN}(h:Rd w a cap xs)(hb:Below w.heap.size w w'):Rd w' a cap xs :=
 h.keep hb.size fun b hb1 _=>hb.block b hb1
theorem Rd.take{w:World}{a:OA}{cap:Nat}{xs:LN}(h:Rd w a cap xs)(n:Nat):Rd w a cap (xs.take n):=by
 obtain⟨h1,h2,h3,h5,h4⟩:=h;refine⟨h1.take n,by simp;omega,h3,h5,?_⟩;rcases h4 with rfl|⟨b,off,e,hb1,hc⟩
 . exact .inl (by simp)
 . refine .inr ⟨b,off,e,hb1,fun i hi=>?_⟩
   simp at hi;rw[hc i (by omega)];simp[List.getD,show i<n by omega]
theorem Rd.strip{w:World}{a:OA}{cap:Nat}{xs:LN}(h:Rd w a cap xs):Rd w a cap (strip xs):=by
 rw[zfe];exact h.take _
theorem Rd.nil(w:World)(a:OA)(cap:Nat)(h:cap<=maxLen)(h0:a=none->cap=0):Rd w a cap []:=⟨Lim.nil,qD _,h,h0,.inl rfl⟩
def Res(e:TypeId)(base:Nat)(w:World)(a:OA)(cap:Nat)(xs:LN):Prop :=
 Lim xs/\w.ownsRow base e 1 (.slice a xs.length cap) xs.length (xs.map U)
theorem Res.lim{e:TypeId}{base:Nat}{w:World}{a:OA}{cap:Nat}{xs:LN}(h:Res e base w a cap xs):Lim xs:=h.1
theorem Res.rd{e:TypeId}{base:Nat}{w:World}{a:OA}{cap:Nat}{xs:LN}(h:Res e base w a cap xs):Rd w a cap xs:=by
 obtain⟨hl,h⟩:=h;rcases h.2 with ⟨hv,h0⟩|⟨g,cap',cur,hv,hb,hg,hc1,hc2,hc3,ht⟩
 . have:xs=[]:=List.length_eq_zero_iff.1 h0
   subst this;simp at hv;exact Rd.nil _ _ _ (by rw[hv.2];exact qD _) (fun _=>hv.2)
 . simp at hv
   obtain⟨rfl,rfl⟩:=hv;refine⟨hl,hc1,hc2,(by simp),.inr ⟨g,0,rfl,(Array.getElem?_eq_some_iff.1 hg).1,fun i hi=>?_⟩⟩;have:=h.cells (g:=g) rfl i (U (xs.getD i 0)) (by simp[List.getD,hi]);have zdp:(⟨g,0,none⟩:Addr).add i=⟨g,0+i,none⟩:=(by unfold Addr.add;split <;> simp_all);rw[zdp]at this;exact this
theorem zk0{w:World}{base base':Nat}{e:TypeId}{size:Nat}{v:Value}{n:Nat}{xs:LV}(h:w.ownsRow base e size v n xs)(hb:base'<=base):w.ownsRow base' e size v n xs:=by
 refine⟨h.1,?_⟩;rcases h.2 with h0|⟨g,cap,cur,h1,h2,h3⟩
 . exact .inl h0
 . exact .inr ⟨g,cap,cur,h1,qF hb h2,h3⟩
theorem Res.mono{e:TypeId}{base base':Nat}{w:World}{a:OA}{cap:Nat}{xs:LN}(h:Res e base w a cap xs)(hb:base'<=base):Res e base' w a cap xs:=⟨h.1,zk0 h.2 hb⟩
theorem Res.below{e:TypeId}{base:Nat}{w w':World}{a:OA}{cap:Nat}{xs:LN}(h:Res e base w a cap xs)(hb:Below w.heap.size w w'):Res e base w' a cap xs:=by
 refine⟨h.1,h.2.1,?_⟩;rcases h.2.2 with h0|⟨g,cap',cur,h1,h2,h3,h4⟩
 . exact .inl h0
 . exact .inr ⟨g,cap',cur,h1,h2,(hb.block g (Array.getElem?_eq_some_iff.1 h3).1).trans h3,h4⟩
theorem Res.of{e:TypeId}{base:Nat}{w:World}{v:Value}{n:Nat}{xs:LN}(hl:Lim xs)(h:w.ownsRow base e 1 v n (xs.map U)):∃a cap,v=.slice a xs.length cap/\Res e base w a cap xs:=by
 have hn:n=xs.length:=by have:=h.1;simp at this;omega
 subst hn;rcases h.2 with ⟨hv,h0⟩|⟨g,cap,cur,hv,_⟩
 . exact⟨none,0,by rw[hv,h0],hl,by rw[h0]at h ⊢;rw[hv]at h;exact h⟩
 . subst hv;exact⟨_,cap,rfl,hl,h⟩
theorem zuo{w:World}{g:Nat}{zs:LN}{e:TypeId}(h:w.heap[g]?=some (.cells (zs.map U).toArray e (0,0)))(hl:Lim zs)(off n cap:Nat)(h1:off+n<=zs.length)(h2:n<=cap)(h3:cap<=maxLen) :
 Rd w (some ⟨g,off,none⟩) cap ((zs.drop off).take n):=by
 refine⟨(hl.drop off).take n,by simp;omega,h3,(by simp),.inr ⟨g,off,rfl,(Array.getElem?_eq_some_iff.1 h).1,fun i hi=>?_⟩⟩;simp at hi;rw[cell_of_row w g (off+i) _ e (0,0) h];simp[List.getD,U,show off+i<zs.length by omega,show i<n by omega]
theorem z1b(w:World)(e:TypeId)(zs:LN)(cs:Array Value)(hc:cs=(zs.map U).toArray)(hl:Lim zs)(hm:zs.length<=maxLen):Rd (w.alloc (.cells cs e)) (some ⟨w.heap.size,0,none⟩) zs.length zs:=by
 subst hc;have:=zuo (heap_alloc_new w (.cells (zs.map U).toArray e)) hl 0 zs.length zs.length (by omega) (qE _) hm;simpa using this
theorem zd2{w:World}{base:Nat}{e:TypeId}{v:Value}{n z:Nat}{zs:LN}(h:w.ownsRow base e 1 v n (List.map U zs++[U z])):w.ownsRow base e 1 v n ((zs++[z]).map U):=by
 rw[List.map_append];exact h
theorem zk2(xs:LN):∀u∈xs.map U,u.oneCell'=true:=by
 intro u hu;obtain⟨x,_,rfl⟩:=List.mem_map.1 hu;rfl
section
variable {P:Program} {w:World} {ops:Array Oper} {rest:List Oper} {o:Oper} {a:Act} {Q:Exit->Act->World->Prop}
theorem zf6(hgd:o.guard=none)(s x:Operand)(t:TypeId)(ho:o.op=.call { callee:=.builtin .append,args:=#[s,x],argTypes:=#[t,t] })
    (base:Nat) (e:TypeId) (i:TypeInfo) (ht:P.underlying t=some (.slice e)) (hi:P.info? e=some i) (hz:i.zero=some (.int .u32 0)) (hsize:i.size=1) (hby:i.bytes=4)
    (v:Value) (n:Nat) (ys:LN) (hs:a.eval s=v) (hown:w.ownsRow base e 1 v n (ys.map U))
    (ad:OA) (c m:Nat) (zs:LN) (hx:a.eval x=.slice ad m c) (hm:m=zs.length) (hrd:Rd w ad c zs) (hlen:n+zs.length<=2000000000) (hbase:base<=w.heap.size)
    (h:∀v' w',w'.ownsRow base e 1 v' (n+zs.length) ((ys++zs).map U)->w.grownBy w' v.ownBlock->wpList P ops Q rest (a.put o.dst v') w'):wpList P ops Q (o::rest) a w:=by
 subst hm;cases ad with
 | none =>
  have hc:c=0:=hrd.2.2.2.1 rfl;have hzs:zs=[]:=by
   rcases hrd.2.2.2.2 with h0|⟨b,off,e',_⟩
   . exact h0
   . cases e'
  subst hzs;subst hc;refine wpList_append_own_none hgd s x t ho base e i 1 ht hi v n (ys.map U) hs hown hx (h v w (by simpa using hown) (World.grownBy.refl w _))
 | some ad =>
  refine wpList_append_own w hgd s x t ho base e i (.int .u32 0) 1 4 ht hi hz hsize hby rfl (by decide) v n (ys.map U) hs hown ad zs.length c (zs.map U) hx (by simp) ?_ (zk2 zs) (by unfold maxLen;omega) (by omega) hbase ?_
  . intro j u hj
    rcases hrd.2.2.2.2 with rfl|⟨b,off,e',hb,hc⟩
    . simp at hj
    . simp at e';subst e'
      have hjl:j<zs.length:=by
       rcases Nat.lt_or_ge j zs.length with h1|h1
       . exact h1
       . rw[List.getElem?_eq_none (by simpa using h1)]at hj;cases hj
      have zdp:(⟨b,off,none⟩:Addr).add j=⟨b,off+j,none⟩:=(by unfold Addr.add;split <;> simp_all);rw[zdp,hc j hjl];rw[List.getElem?_map,qG hjl]at hj;simp at hj;rw[<-hj];simp[List.getD,hjl,U]
  . intro v' w' h1 h2 _
    exact h v' w' (by rw[List.map_append];exact h1) h2
theorem zaq(hgd:o.guard=none)(s x:Operand)(t:TypeId)(ho:o.op=.call { callee:=.builtin .append,args:=#[s,x],argTypes:=#[t,t] })
    (base:Nat) (e:TypeId) (i:TypeInfo) (ht:P.underlying t=some (.slice e)) (hi:P.info? e=some i) (hz:i.zero=some (.int .u32 0)) (hsize:i.size=1) (hby:i.bytes=4)
    (v:Value) (n:Nat) (ys:LN) (hs:a.eval s=v) (hown:w.ownsRow base e 1 v n (ys.map U))
    (g z:Nat) (hx:a.eval x=.slice (some ⟨g,0,none⟩) 1 1) (hc:w.cell? ⟨g,0,none⟩=some (.int .u32 (z:Int))) (hlen:n+1<=2000000000) (hbase:base<=w.heap.size)
    (h:∀v' w',w'.ownsRow base e 1 v' (n+1) ((ys++[z]).map U)->w.grownBy w' v.ownBlock->wpList P ops Q rest (a.put o.dst v') w'):wpList P ops Q (o::rest) a w:=by
 refine wpList_append_own w hgd s x t ho base e i (.int .u32 0) 1 4 ht hi hz hsize hby rfl (by decide) v n (ys.map U) hs hown ⟨g,0,none⟩ 1 1 [U z] hx rfl ?_ (zk2 [z]) (by unfold maxLen;omega) (by omega) hbase ?_
 . intro j u hj
   match j,hj with
   | 0,hj=>simp at hj;subst hj;simpa [Addr.add,U] using hc
 . intro v' w' h1 h2 _
   exact h v' w' (by rw[List.map_append];exact h1) h2
end
theorem Below.drew1{w:World}:Below w.heap.size w w.drew:=(Below.refl _ _).drew
theorem zhk{a a':OA}{n n' c c':Nat}(h1:a=a')(h2:n=n')(h3:c=c'):Ending.returned (.slice a n c)=.returned (.slice a' n' c'):=by rw[h1,h2,h3]
theorem zcl(a:OA)(cap:Nat)(xs:LN)(w:World)(h:Rd w a cap xs) :
 Calls Tryz.prog 254 #[.slice a xs.length cap] w fun e w'=>e=.returned (.slice a (strip xs).length cap)/\w=w':=by
 have hc2:xs.length<=cap:=h.2.1;have hc3:cap<=maxLen:=h.2.2.1;unfold maxLen at hc3;rcases h.2.2.2.2 with rfl|⟨b,off,rfl,hb,hc⟩
 . go_enter func254,ntmps254
   go_wp2
   go_loop [3] (fun n=>n=.int .i64 0) (fun n=>(intOf n).toNat)
   case atStart=>rfl
   case round =>
    subst hrel;go_wp2
    all_goals
     go_ret;exact⟨zhk (by simp[Addr.add]) rfl rfl,rfl⟩
 . clear h
   go_enter func254,ntmps254;go_wp2
   go_loop [3] (fun n=>∃k:Nat,k<=xs.length/\n=.int .i64 k/\strip (xs.take k)=strip xs) (fun n=>(intOf n).toNat)
   case atStart=>exact⟨xs.length,qE _,rfl,by rw[List.take_length]⟩
   case round =>
    obtain⟨k,hk,rfl,hst⟩:=hrel;have HS:Hid (strip (xs.take k)=strip xs):=hst;clear hst;by_cases hk0:k=0
    . subst hk0
      go_wp2;go_ret;exact⟨zhk rfl (by rw[<-HS.out];rfl) rfl,rfl⟩
    . obtain⟨j,rfl⟩:∃j,k=j+1:=⟨k-1,by omega⟩
      have hcj:=hc j (by omega);obtain⟨x,hx⟩:∃x,xs.getD j 0=x:=⟨_,rfl⟩;rw[hx]at hcj;have HX:Hid (xs.getD j 0=x):=hx;clear hx hc;by_cases hx0:x=0
      . subst hx0
        go_wp2
        go_round
        case rel=>exact⟨j,by omega,rfl,by rw[<-HS.out,zdh xs j (by omega) HX.out]⟩
        case measure=>simp[intOf]
      . have hx1:((x:Int)==0)=false:=by simp;omega
        go_wp2;go_ret;have e:strip xs=xs.take (j+1):=(by rw[<-HS.out];exact zdi xs j (by omega) (by rw[HX.out];exact hx0));exact⟨zhk rfl (by rw[e];simp;omega) rfl,rfl⟩
theorem zhu:(Tryz.prog.info? 250).map (fun i=>(i.zero,i.size,i.bytes))=some (some (.int .u32 0),1,4):=by kernel_rfl
theorem zdx(a:OA)(cap:Nat)(xs:LN)(w:World)(h:Rd w a cap xs)(hl:xs.length<=1000000000) :
 Calls Tryz.prog 201 #[.slice a xs.length cap] w fun e w'=>∃a' cap',e=.returned (.slice a' (strip xs).length cap')/\Res 250 w.heap.size w' a' cap' (strip xs)/\Below w.heap.size w w':=by
 obtain⟨i0,hi,hz0,hz1,hz2⟩:=info_parts zhu;have hsl:=zao xs;go_enter func201,ntmps201;go_wp2_with fail
 refine(zcl a cap xs _ (h.below ((Below.refl _ _).alloc (qE _) _))).mono ?_;rintro e w' ⟨rfl,hw⟩;subst hw;go_wp2_with (at_builtin;refine zf6 rfl _ _ 123 rfl w.heap.size 250 i0 underlying123 hi hz0 hz1 hz2 _ 0 [] rfl ?_ a cap _ (strip xs) rfl rfl ?_ ?_ ?_ ?_)
 . exact World.ownsRow_made w #[] 0 (qE _) (qD _) rfl
 . exact h.strip.below ((Below.refl _ _).alloc (qE _) _)
 . omega
 . simp
 . intro v' w1 hown hgrow
   obtain⟨a',cap',rfl,hres⟩:=Res.of h.lim.strip hown;go_wp2;go_ret;exact⟨a',cap',rfl,hres,((Below.refl _ _).alloc (qE _) _).grown hgrow (by simp) (fun k hk=>by simp[Value.ownBlock]at hk;omega)⟩
theorem ziu(n:Nat)(w:World)(hn:n<18446744073709551616) :
 Calls Tryz.prog 159 #[.int .u64 (n:Int)] w fun e w'=>∃a cap ys,e=.returned (.slice a ys.length cap)/\V ys=n/\Tr ys/\Res 250 w.heap.size w' a cap ys/\Below w.heap.size w w':=by
 go_enter func159,ntmps159;go_wp2_with fail
 have hrd:=z1b w 250 [n%4294967296,n/4294967296] #[Value.int IntKind.u32 (↑n%4294967296),Value.int IntKind.u32 (↑n/4294967296)] (by simp[U]) (Lim.mk (by omega) (Lim.mk (by omega) Lim.nil)) (by simp[maxLen]);refine(zdx (some ⟨w.heap.size,0,none⟩) 2 [n%4294967296,n/4294967296] _ hrd (by simp)).mono ?_;rintro e w' ⟨a,cap,rfl,hres,hb⟩;go_wp2;go_ret;refine⟨a,cap,_,rfl,?_,zbi _,hres.mono (by simp),((Below.refl _ _).alloc (qE _) _).trans (hb.mono (by simp))⟩;rw[zbd];simp only[V];omega
def cmpN(x y:Nat):Int:=if x<y then -1 else if y<x then 1 else 0
theorem zb3{a b:Int}(h:a=b):Ending.returned (.int .i64 a)=.returned (.int .i64 b):=by rw[h]
theorem zch{a b:Bool}(h:a=b):Ending.returned (.bool a)=.returned (.bool b):=by rw[h]
theorem zmm(x y:Nat)(w:World) :
 Calls Tryz.prog 258 #[.int .i64 (x:Int),.int .i64 (y:Int)] w fun e w'=>e=.returned (.int .i64 (cmpN x y))/\w=w':=by
 rcases Nat.lt_trichotomy x y with h|rfl|h
 . have h1:(x:Int)<(y:Int):=by omega
   go_enter func258,ntmps258;go_wp2;go_ret;exact⟨zb3 (by simp[cmpN,h]),rfl⟩
 . have h1:¬(x:Int)<(x:Int):=by omega
   go_enter func258,ntmps258;go_wp2;go_ret;exact⟨zb3 (by simp[cmpN]),rfl⟩
 . have h1:(y:Int)<(x:Int):=by omega
   have h2:¬(x:Int)<(y:Int):=(by omega);go_enter func258,ntmps258;go_wp2;go_ret;exact⟨zb3 (by simp[cmpN,h];omega),rfl⟩
theorem zml(x y:Nat)(w:World) :
 Calls Tryz.prog 259 #[.int .u32 (x:Int),.int .u32 (y:Int)] w fun e w'=>e=.returned (.int .i64 (cmpN x y))/\w=w':=by
 rcases Nat.lt_trichotomy x y with h|rfl|h
 . have h1:(x:Int)<(y:Int):=by omega
   go_enter func259,ntmps259;go_wp2;go_ret;exact⟨zb3 (by simp[cmpN,h]),rfl⟩
 . have h1:¬(x:Int)<(x:Int):=by omega
   go_enter func259,ntmps259;go_wp2;go_ret;exact⟨zb3 (by simp[cmpN]),rfl⟩
 . have h1:(y:Int)<(x:Int):=by omega
   have h2:¬(x:Int)<(y:Int):=(by omega);go_enter func259,ntmps259;go_wp2;go_ret;exact⟨zb3 (by simp[cmpN,h];omega),rfl⟩
theorem zf2(x y:Nat)(w:World) :
 Calls Tryz.prog 259 #[.int .u32 (x:Int),.int .u32 (y:Int)] w fun e w'=>e=.returned (.int .i64 (cmpN x y))/\w'=w :=
 (zml x y w).mono fun _ _ h=>⟨h.1,h.2.symm⟩
theorem Rd.lt{w:World}{b off cap:Nat}{xs:LN}(h:Rd w (some ⟨b,off,none⟩) cap xs)(hn:xs≠[]):b<w.heap.size:=by
 rcases h.2.2.2.2 with rfl|⟨b',off',e,hb,hc⟩
 . exact absurd rfl hn
 . simp at e;obtain⟨rfl,rfl⟩:=e;exact hb
theorem z0p(a:OA)(cap:Nat)(xs:LN)(b:OA)(cbp:Nat)(ys:LN)(w:World)(ha:Rd w a cap xs)(hb:Rd w b cbp ys) :
 Calls Tryz.prog 206 #[.slice a xs.length cap,.slice b ys.length cbp] w fun e w'=>e=.returned (.int .i64 (cmpN (V xs) (V ys)))/\Below w.heap.size w w':=by
 have la:=ha.strip;have lb:=hb.strip;have hbd:=la.le;have hbd2:=la.cap;have hbe:=lb.le;have hbe2:=lb.cap;unfold maxLen at hbd2 hbe2;have ea:=zbd xs;have eb:=zbd ys;have ta:=zbi xs;have tb:=zbi ys;have HV:Hid (cmpN (V xs) (V ys)=cmpN (V (strip xs)) (V (strip ys))):=by show _=_;rw[ea,eb]
 clear ea eb;go_enter func206,ntmps206;go_wp2_with fail
 refine(zcl a cap xs _ ha).mono ?_;rintro e w' ⟨rfl,rfl⟩;go_wp2_with fail
 refine(zcl b cbp ys _ hb).mono ?_;rintro e w' ⟨rfl,rfl⟩;clear ha hb;generalize strip xs=xs at *;generalize strip ys=ys at *;by_cases hlen:xs.length=ys.length
 . have hl2:((xs.length:Int) != (ys.length:Int))=false:=by simp;omega
   rcases la.2.2.2.2 with rfl|⟨ba,oa,rfl,hla,hca⟩
   . have hy:ys=[]:=List.length_eq_zero_iff.1 hlen.symm
     subst hy;go_wp2_with fail
     go_loop [5] (fun i=>i=.int .i64 (-1)) (fun i=>(intOf i).toNat)
     case atStart=>rfl
     case round =>
      subst hrel;go_wp2;go_ret;exact⟨zb3 (by rw[HV.out];rfl),Below.refl _ _⟩
   . rcases lb.2.2.2.2 with rfl|⟨bb,ob,rfl,hlb,hcb⟩
     . simp at hlen
       subst hlen;go_wp2_with fail
       go_loop [5] (fun i=>i=.int .i64 (-1)) (fun i=>(intOf i).toNat)
       case atStart=>rfl
       case round =>
        subst hrel;go_wp2;go_ret;exact⟨zb3 (by rw[HV.out];rfl),Below.refl _ _⟩
     . have lax:=la.lim
       have lay:=lb.lim;clear la lb;go_wp2_with fail
       go_loopw [5] (fun i wr=>∃(k:Nat) (m:Int),k<=ys.length/\m=(k:Int)-1/\i=.int .i64 m/\(∀j,k<=j->xs.getD j 0=ys.getD j 0)/\Below w.heap.size w wr) (fun i _=>(intOf i+1).toNat)
       case atStart=>exact⟨ys.length,_,qE _,rfl,rfl,fun j hj=>by simp[List.getD,List.getElem?_eq_none (show ys.length<=j from hj),List.getElem?_eq_none (show xs.length<=j by omega)],Below.refl _ _⟩
       case round =>
        obtain⟨k,m,hk,hm,rfl,hst,hnx⟩:=hrel;have HS:Hid (∀j,k<=j->xs.getD j 0=ys.getD j 0):=hst;clear hst;by_cases hk0:k=0
        . subst hk0
          obtain rfl:m=-1:=by omega
          clear hm;go_wp2;go_ret;refine⟨zb3 ?_,hnx⟩;rw[HV.out,zt2 xs ys (fun j=>HS.out j (qD _))];simp[cmpN]
        . obtain⟨j,rfl⟩:∃j,k=j+1:=⟨k-1,by omega⟩
          obtain rfl:m=(j:Int):=by omega
          clear hm;have gx:=(hnx.cell (p:=⟨ba,oa+j,none⟩) hla).trans (hca j (by omega));have gy:=(hnx.cell (p:=⟨bb,ob+j,none⟩) hlb).trans (hcb j (by omega));obtain⟨x,hx⟩:∃x,xs.getD j 0=x:=⟨_,rfl⟩;obtain⟨y,hy⟩:∃y,ys.getD j 0=y:=⟨_,rfl⟩;rw[hx]at gx;rw[hy]at gy;have HX:Hid (xs.getD j 0=x):=hx;have HY:Hid (ys.getD j 0=y):=hy;clear hx hy hca hcb;have b1:(0:Int)<=(j:Int):=(by omega);have b2:(j:Int)<(ys.length:Int):=(by omega);rcases Nat.lt_trichotomy x y with h|rfl|h
          . have hne:((x:Int) != (y:Int))=true:=by simp;omega
            go_wp2_with fail
            go_quiet (fail)
            go_wp2_with fail
            have gx2:(wr.drewN nq).cell? ⟨ba,oa+j,none⟩=some (.int .u32 (x:Int)):=gx;have gy2:(wr.drewN nq).cell? ⟨bb,ob+j,none⟩=some (.int .u32 (y:Int)):=gy;have z15:=below_drewN hnx nq;clear gx gy;generalize wr.drewN nq=wq at gx2 gy2 z15 ⊢
            go_quiet ((go_at_call 259;exact Calls.quiet_of_same (zf2 _ _ _)))
            go_wp2;go_ret;refine⟨zb3 ?_,below_drewN z15 _⟩;have:=zoo j xs ys lax (fun i hi=>HS.out i (by omega)) (by rw[HX.out,HY.out];exact h);rw[HV.out];simp[cmpN,h,this]
          . have hne:((x:Int) != (x:Int))=false:=by simp
            go_wp2_with fail
            go_quiet (fail)
            go_wp2;go_roundw
            case rel =>
             refine⟨j,_,by omega,rfl,by go_num,fun i hi=>?_,below_drewN hnx _⟩;rcases Nat.lt_or_eq_of_le hi with h|rfl
             . exact HS.out i (by omega)
             . rw[HX.out,HY.out]
            case measure=>simp[intOf]
          . have hne:((x:Int) != (y:Int))=true:=by simp;omega
            go_wp2_with fail
            go_quiet (fail)
            go_wp2_with fail
            have gx2:(wr.drewN nq).cell? ⟨ba,oa+j,none⟩=some (.int .u32 (x:Int)):=gx;have gy2:(wr.drewN nq).cell? ⟨bb,ob+j,none⟩=some (.int .u32 (y:Int)):=gy;have z15:=below_drewN hnx nq;clear gx gy;generalize wr.drewN nq=wq at gx2 gy2 z15 ⊢
            go_quiet ((go_at_call 259;exact Calls.quiet_of_same (zf2 _ _ _)))
            go_wp2;go_ret;refine⟨zb3 ?_,below_drewN z15 _⟩;have:=zoo j ys xs lay (fun i hi=>(HS.out i (by omega)).symm) (by rw[HX.out,HY.out];exact h);rw[HV.out];unfold cmpN;rw[if_neg (by omega),if_pos h,if_neg (by omega),if_pos this]
 . have hl2:((xs.length:Int) != (ys.length:Int))=true:=by simp;omega
   go_wp2_with fail
   refine(zmm xs.length ys.length _).mono ?_;rintro e w' ⟨rfl,rfl⟩;go_wp2;go_ret;refine⟨zb3 ?_,Below.refl _ _⟩;rw[HV.out];unfold cmpN;rcases Nat.lt_or_gt_of_ne hlen with h|h
   . have:=zbw la.lim tb h;simp[h,this]
   . have:=zbw lb.lim ta h;rw[if_neg (by omega),if_pos h,if_neg (by omega),if_pos this]
theorem zlb(xs:LN)(j:Nat)(h:xs.length<=j):xs.getD j 0=0:=by simp[List.getD,List.getElem?_eq_none h]
theorem zcw(w:World)(e:TypeId)(q:Int)(z:Nat)(h:q=(z:Int)):(w.alloc (.cells #[.int .u32 q] e)).cell? ⟨w.heap.size,0,none⟩=some (.int .u32 (z:Int)):=by
 subst h;rw[cell_of_row _ w.heap.size 0 #[Value.int .u32 (z:Int)] e (0,0) (heap_alloc_new w _)];rfl
theorem zgy{zs L S:LN}{k cy x y s:Nat}(hz:zs.length=k)(he:V zs+4294967296 ^ k*cy=V (L.take k)+V (S.take k))(hx:L.getD k 0=x)(hy:S.getD k 0=y)(hs:s=x+cy+y) :
 V (zs++[s%4294967296])+4294967296 ^ (k+1)*(s/4294967296)=V (L.take (k+1))+V (S.take (k+1)):=by
 rw[zt0,hz,zbh,zbh,hx,hy,Nat.pow_succ];have hd:=Nat.mod_add_div s 4294967296;generalize s%4294967296=r at hd ⊢;generalize s/4294967296=d at hd ⊢;subst hs;generalize 4294967296 ^ k=p at he ⊢;generalize V zs=o at he ⊢;generalize V (L.take k)=A at he ⊢;generalize V (S.take k)=C at he ⊢
 grind
theorem z0r(a:OA)(cap:Nat)(xs:LN)(b:OA)(cbp:Nat)(ys:LN)(w:World)(ha:Rd w a cap xs)(hb:Rd w b cbp ys)(hla:xs.length<=500000000)(hlb:ys.length<=500000000) :
 Calls Tryz.prog 204 #[.slice a xs.length cap,.slice b ys.length cbp] w fun e w' =>
     ∃a' cap' zs,e=.returned (.slice a' zs.length cap')/\V zs=V xs+V ys/\Tr zs/\Res 250 w.heap.size w' a' cap' zs/\Below w.heap.size w w':=by
 obtain⟨i0,hi,hz0,hz1,hz2⟩:=info_parts zhu;have Xr:=ha.strip;have Yr:=hb.strip;have lx:=zao xs;have ly:=zao ys;go_enter func204,ntmps204;go_wp2_with fail
 refine(zcl a cap xs _ ha).mono ?_;rintro e w' ⟨rfl,rfl⟩;go_wp2_with fail
 refine(zcl b cbp ys _ hb).mono ?_;rintro e w' ⟨rfl,rfl⟩;clear ha hb;generalize hX:strip xs=X at Xr lx ⊢;generalize hY:strip ys=Y at Yr ly ⊢;by_cases hlt:X.length<Y.length
 . have hL2:=Yr.le
   have hL3:=Yr.cap;unfold maxLen at hL3;have lL:=Yr.lim;have lS:=Xr.lim;have fL:=Yr.fm;have fS:=Xr.fm;have HV:Hid (V Y+V X=V xs+V ys):=(by show _=_;rw[<-hY,<-hX,zbd,zbd];omega);clear Yr Xr;go_wp2_with (at_make;refine wpList_make_own _ rfl _ _ 123 rfl w.heap.size 250 i0 (.int .u32 0) 1 underlying123 hi hz0 hz1 _ _ _ (Y.length+1) rfl rfl (by omega) (by rw[hz2];omega) (by unfold maxLen;omega) (qE _) ?_)
   intro u0 zpf ze6;have hb0:Below w.heap.size w u0:=(Below.refl _ _).grown ze6 (qE _) (fun k h=>by cases h);go_wp2
   go_loopw [5,6,27] (fun out c i wr=>∃(k:Nat) (zs:LN) (cy:Nat),k<=Y.length/\i=.int .i64 k/\c=.int .u64 cy/\cy<=1/\zs.length=k/\Lim zs/\V zs+4294967296 ^ k*cy=V (Y.take k)+V (X.take k)/\wr.ownsRow w.heap.size 250 1 out k (zs.map U)/\Below w.heap.size w wr) (fun _ _ i _=>Y.length-(intOf i).toNat)
   case atStart=>exact⟨0,[],0,qD _,rfl,rfl,qD _,rfl,Lim.nil,by simp[V],zpf,hb0⟩
   case round =>
    obtain⟨k,zs,cy,hk,rfl,rfl,hcy,hzl,lz,heq,hown,hnx⟩:=hrel;have HE:Hid (V zs+4294967296 ^ k*cy=V (Y.take k)+V (X.take k)):=heq;have HZ:Hid (zs.length=k):=hzl;have hsz:=hnx.size;clear heq hzl;by_cases hkn:k<Y.length
    . obtain⟨bl,ol,rfl,_,hcl⟩:=fL.at hnx k hkn
      obtain⟨x,hx⟩:∃x,Y.getD k 0=x:=⟨_,rfl⟩;obtain⟨y,hy⟩:∃y,X.getD k 0=y:=⟨_,rfl⟩;have bx:x<4294967296:=(by rw[<-hx];exact lL.getD k);have byy:y<4294967296:=(by rw[<-hy];exact lS.getD k);rw[hx]at hcl;have HX:Hid (Y.getD k 0=x):=hx;have HY:Hid (X.getD k 0=y):=hy;clear hx hy;by_cases hkm:k<X.length
      . obtain⟨bs,os,rfl,_,hcs⟩:=fS.at hnx k hkm
        rw[HY.out]at hcs;go_wp2_with (at_builtin;refine zaq rfl _ _ 123 rfl w.heap.size 250 i0 underlying123 hi hz0 hz1 hz2 _ k zs rfl (hown.alloc _) wr.heap.size ((x+cy+y)%4294967296) rfl (zcw _ _ _ _ (by omega)) (by omega) (by simp;omega) ?_)
        intro v' w1 hown1 zcj;have hb1:Below w.heap.size w w1:=(hnx.alloc hsz _).grown zcj (by simp;omega) (fun k hk=>(hown.lt k hk).1);clear hcl hcs hown;go_wp2;go_roundw
        case rel =>
         exact⟨k+1,zs++[(x+cy+y)%4294967296],(x+cy+y)/4294967296,by omega,by go_num,by go_num,by omega,by simp[HZ.out],lz.snoc (by omega),zgy HZ.out HE.out HX.out HY.out rfl,zd2 hown1,hb1⟩
        case measure=>simp[intOf];omega
      . have y0:y=0:=by rw[<-HY.out];exact zlb _ _ (by omega)
        subst y0;go_wp2_with (at_builtin;refine zaq rfl _ _ 123 rfl w.heap.size 250 i0 underlying123 hi hz0 hz1 hz2 _ k zs rfl (hown.alloc _) wr.heap.size ((x+cy)%4294967296) rfl (zcw _ _ _ _ (by omega)) (by omega) (by simp;omega) ?_)
        intro v' w1 hown1 zcj;have hb1:Below w.heap.size w w1:=(hnx.alloc hsz _).grown zcj (by simp;omega) (fun k hk=>(hown.lt k hk).1);clear hcl hown;go_wp2;go_roundw
        case rel =>
         exact⟨k+1,zs++[(x+cy)%4294967296],(x+cy)/4294967296,by omega,by go_num,by go_num,by omega,by simp[HZ.out],lz.snoc (by omega),zgy HZ.out HE.out HX.out HY.out (by omega),zd2 hown1,hb1⟩
        case measure=>simp[intOf];omega
    . obtain rfl:k=Y.length:=by omega
      go_wp2_with (at_builtin;refine zaq rfl _ _ 123 rfl w.heap.size 250 i0 underlying123 hi hz0 hz1 hz2 _ _ zs rfl (hown.alloc _) wr.heap.size cy rfl (zcw _ _ _ _ (by omega)) (by omega) (by simp;omega) ?_)
      intro v' w1 hown1 zcj;have hb1:Below w.heap.size w w1:=(hnx.alloc hsz _).grown zcj (by simp;omega) (fun k hk=>(hown.lt k hk).1);have o1:=zd2 hown1;have lts:=lz.snoc (show cy<4294967296 by omega);obtain⟨ts,hts⟩:∃ts,zs++[cy]=ts:=⟨_,rfl⟩;have htl:ts.length<=1000000000:=(by rw[<-hts];simp[HZ.out];omega);rw[hts]at o1 lts;have HT:Hid (zs++[cy]=ts):=hts;obtain⟨a',cap',rfl,hres⟩:=Res.of lts o1;clear hown1 hown hts o1;go_wp2_with fail
      refine(zdx _ _ _ _ hres.rd htl).mono ?_;rintro e w2 ⟨a2,c2,rfl,hr2,hb2⟩;go_wp2;go_ret;refine⟨a2,c2,_,rfl,?_,zbi _,hr2.mono hb1.size,hb1.trans (hb2.mono hb1.size)⟩;have h1:=HE.out;rw[List.take_length,List.take_of_length_le (by omega)]at h1;rw[zbd,<-HT.out,zt0,HZ.out,h1,HV.out]
 . have hL2:=Xr.le
   have hL3:=Xr.cap;unfold maxLen at hL3;have lL:=Xr.lim;have lS:=Yr.lim;have fL:=Xr.fm;have fS:=Yr.fm;have HV:Hid (V X+V Y=V xs+V ys):=(by show _=_;rw[<-hX,<-hY,zbd,zbd]);clear Xr Yr;go_wp2_with (at_make;refine wpList_make_own _ rfl _ _ 123 rfl w.heap.size 250 i0 (.int .u32 0) 1 underlying123 hi hz0 hz1 _ _ _ (X.length+1) rfl rfl (by omega) (by rw[hz2];omega) (by unfold maxLen;omega) (qE _) ?_)
   intro u0 zpf ze6;have hb0:Below w.heap.size w u0:=(Below.refl _ _).grown ze6 (qE _) (fun k h=>by cases h);go_wp2
   go_loopw [5,6,27] (fun out c i wr=>∃(k:Nat) (zs:LN) (cy:Nat),k<=X.length/\i=.int .i64 k/\c=.int .u64 cy/\cy<=1/\zs.length=k/\Lim zs/\V zs+4294967296 ^ k*cy=V (X.take k)+V (Y.take k)/\wr.ownsRow w.heap.size 250 1 out k (zs.map U)/\Below w.heap.size w wr) (fun _ _ i _=>X.length-(intOf i).toNat)
   case atStart=>exact⟨0,[],0,qD _,rfl,rfl,qD _,rfl,Lim.nil,by simp[V],zpf,hb0⟩
   case round =>
    obtain⟨k,zs,cy,hk,rfl,rfl,hcy,hzl,lz,heq,hown,hnx⟩:=hrel;have HE:Hid (V zs+4294967296 ^ k*cy=V (X.take k)+V (Y.take k)):=heq;have HZ:Hid (zs.length=k):=hzl;have hsz:=hnx.size;clear heq hzl;by_cases hkn:k<X.length
    . obtain⟨bl,ol,rfl,_,hcl⟩:=fL.at hnx k hkn
      obtain⟨x,hx⟩:∃x,X.getD k 0=x:=⟨_,rfl⟩;obtain⟨y,hy⟩:∃y,Y.getD k 0=y:=⟨_,rfl⟩;have bx:x<4294967296:=(by rw[<-hx];exact lL.getD k);have byy:y<4294967296:=(by rw[<-hy];exact lS.getD k);rw[hx]at hcl;have HX:Hid (X.getD k 0=x):=hx;have HY:Hid (Y.getD k 0=y):=hy;clear hx hy;by_cases hkm:k<Y.length
      . obtain⟨bs,os,rfl,_,hcs⟩:=fS.at hnx k hkm
        rw[HY.out]at hcs;go_wp2_with (at_builtin;refine zaq rfl _ _ 123 rfl w.heap.size 250 i0 underlying123 hi hz0 hz1 hz2 _ k zs rfl (hown.alloc _) wr.heap.size ((x+cy+y)%4294967296) rfl (zcw _ _ _ _ (by omega)) (by omega) (by simp;omega) ?_)
        intro v' w1 hown1 zcj;have hb1:Below w.heap.size w w1:=(hnx.alloc hsz _).grown zcj (by simp;omega) (fun k hk=>(hown.lt k hk).1);clear hcl hcs hown;go_wp2;go_roundw
        case rel =>
         exact⟨k+1,zs++[(x+cy+y)%4294967296],(x+cy+y)/4294967296,by omega,by go_num,by go_num,by omega,by simp[HZ.out],lz.snoc (by omega),zgy HZ.out HE.out HX.out HY.out rfl,zd2 hown1,hb1⟩
        case measure=>simp[intOf];omega
      . have y0:y=0:=by rw[<-HY.out];exact zlb _ _ (by omega)
        subst y0;go_wp2_with (at_builtin;refine zaq rfl _ _ 123 rfl w.heap.size 250 i0 underlying123 hi hz0 hz1 hz2 _ k zs rfl (hown.alloc _) wr.heap.size ((x+cy)%4294967296) rfl (zcw _ _ _ _ (by omega)) (by omega) (by simp;omega) ?_)
        intro v' w1 hown1 zcj;have hb1:Below w.heap.size w w1:=(hnx.alloc hsz _).grown zcj (by simp;omega) (fun k hk=>(hown.lt k hk).1);clear hcl hown;go_wp2;go_roundw
        case rel =>
         exact⟨k+1,zs++[(x+cy)%4294967296],(x+cy)/4294967296,by omega,by go_num,by go_num,by omega,by simp[HZ.out],lz.snoc (by omega),zgy HZ.out HE.out HX.out HY.out (by omega),zd2 hown1,hb1⟩
        case measure=>simp[intOf];omega
    . obtain rfl:k=X.length:=by omega
      go_wp2_with (at_builtin;refine zaq rfl _ _ 123 rfl w.heap.size 250 i0 underlying123 hi hz0 hz1 hz2 _ _ zs rfl (hown.alloc _) wr.heap.size cy rfl (zcw _ _ _ _ (by omega)) (by omega) (by simp;omega) ?_)
      intro v' w1 hown1 zcj;have hb1:Below w.heap.size w w1:=(hnx.alloc hsz _).grown zcj (by simp;omega) (fun k hk=>(hown.lt k hk).1);have o1:=zd2 hown1;have lts:=lz.snoc (show cy<4294967296 by omega);obtain⟨ts,hts⟩:∃ts,zs++[cy]=ts:=⟨_,rfl⟩;have htl:ts.length<=1000000000:=(by rw[<-hts];simp[HZ.out];omega);rw[hts]at o1 lts;have HT:Hid (zs++[cy]=ts):=hts;obtain⟨a',cap',rfl,hres⟩:=Res.of lts o1;clear hown1 hown hts o1;go_wp2_with fail
      refine(zdx _ _ _ _ hres.rd htl).mono ?_;rintro e w2 ⟨a2,c2,rfl,hr2,hb2⟩;go_wp2;go_ret;refine⟨a2,c2,_,rfl,?_,zbi _,hr2.mono hb1.size,hb1.trans (hb2.mono hb1.size)⟩;have h1:=HE.out;rw[List.take_length,List.take_of_length_le (by omega)]at h1;rw[zbd,<-HT.out,zt0,HZ.out,h1,HV.out]
def Blk(e:TypeId)(w:World)(g:Nat)(zs:LN):Prop :=
 ∃cur:Array Value,w.heap[g]?=some (.cells cur e (0,0))/\zs.length<=cur.size/\cur.toList.take zs.length=zs.map U
theorem Blk.cell{e:TypeId}{w:World}{g:Nat}{zs:LN}(h:Blk e w g zs)(i:Nat)(hi:i<zs.length):w.cell? ⟨g,i,none⟩=some (.int .u32 (zs.getD i 0:Nat)):=by
 obtain⟨cur,h1,h2,h3⟩:=h;rw[cell_of_row w g i _ e (0,0) h1];have h4:(cur.toList.take zs.length)[i]?=(zs.map U)[i]?:=by rw[h3]
 rw[List.getElem?_take,if_pos hi]at h4;simp at h4;rw[h4];simp[List.getD,U,hi]
theorem Blk.frozen{e:TypeId}{w:World}{g:Nat}{zs:LN}(h:Blk e w g zs)(i:Nat):w.frozen? ⟨g,i,none⟩=false:=by
 obtain⟨cur,h1,_⟩:=h;exact frozen_of_row w g i _ e h1
theorem Blk.lt{e:TypeId}{w:World}{g:Nat}{zs:LN}(h:Blk e w g zs):g<w.heap.size:=by
 obtain⟨cur,h1,_⟩:=h;exact(Array.getElem?_eq_some_iff.1 h1).1
theorem Blk.set{e:TypeId}{w:World}{g:Nat}{zs:LN}(h:Blk e w g zs)(i:Nat)(q:Int)(z:Nat)(hi:i<zs.length)(hq:q=(z:Int)):Blk e (w.setCell ⟨g,i,none⟩ (.int .u32 q)) g (zs.set i z):=by
 subst hq;obtain⟨cur,h1,h2,h3⟩:=h;refine⟨cur.setIfInBounds i (.int .u32 (z:Int)),heap_setCell_same w g i _ e (.int .u32 (z:Int)) h1,by simpa using h2,?_⟩;rw[List.map_set,<-h3,Array.toList_setIfInBounds,List.length_set,List.take_set];rfl
theorem Blk.rd{e:TypeId}{w:World}{g:Nat}{zs:LN}(h:Blk e w g zs)(hl:Lim zs)(off n cap:Nat)(h1:off+n<=zs.length)(h2:n<=cap)(h3:cap<=maxLen) :
 Rd w (some ⟨g,off,none⟩) cap ((zs.drop off).take n):=by
 refine⟨(hl.drop off).take n,by simp;omega,h3,(by simp),.inr ⟨g,off,rfl,h.lt,fun i hi=>?_⟩⟩;simp at hi;rw[h.cell (off+i) (by omega)];simp[List.getD,show off+i<zs.length by omega,show i<n by omega]
theorem zdq{w wr:World}{g:Nat}(h:w.grownBy wr (some g))(i:Nat)(v:Value):w.grownBy (wr.setCell ⟨g,i,none⟩ v) (some g) :=
 ⟨h.os,h.tape,h.output,by have:=h.size;simp[World.setCell];exact this,fun k hk hne=>by rw[Below.heap_setCell wr ⟨g,i,none⟩ v k (fun e=>hne (by simp[e]))];exact h.block k hk hne⟩
theorem Fm.other{w wr:World}{g:Nat}{a:OA}{xs:LN}(h:Fm w a xs)(hg:w.grownBy wr (some g))(hs:∀k o,a=some ⟨k,o,none⟩->xs≠[]->k≠g)(k:Nat)(hk:k<xs.length) :
 ∃b off,a=some ⟨b,off,none⟩/\b≠g/\wr.cell? ⟨b,off+k,none⟩=some (.int .u32 (xs.getD k 0:Nat)):=by
 rcases h with rfl|⟨b,off,h1,h2,h3⟩
 . simp at hk
 . have hne:b≠g:=hs b off h1 (by intro e;rw[e]at hk;simp at hk)
   exact⟨b,off,h1,hne,(World.cell?_of_block (w:=w) (a:=⟨b,off+k,none⟩) (hg.block b h2 (by simpa using hne))).trans (h3 k hk)⟩
theorem zig(n:Nat):(madeCells (Value.int .u32 0).cells n).toList=(List.replicate n 0).map U:=by
 apply List.ext_getElem?;intro i;by_cases h:i<n
 . simp[madeCells,h,U,Value.cells,Nat.mod_one]
 . simp[madeCells,h,U]
theorem zwh{e:TypeId}{w':World}{base n g:Nat}(h:w'.ownsRow base e 1 (.slice (some ⟨g,0,none⟩) n n) n (madeCells #[Value.int .u32 0] n).toList):Blk e w' g (List.replicate n 0):=by
 rw[show(#[Value.int .u32 0]:Array Value)=(Value.int .u32 0).cells from rfl,zig]at h;rcases h.2 with ⟨h0,_⟩|⟨g',cap,cur,h1,h2,h3,h4,h5,h6,h7⟩
 . cases h0
 . simp at h1
   obtain⟨rfl,rfl⟩:=h1;exact⟨cur,h3,by simp;omega,by simpa using h7⟩
theorem Res.blk{e:TypeId}{base:Nat}{w:World}{a:OA}{cap:Nat}{xs:LN}(h:Res e base w a cap xs) :
 xs=[]\/∃g,a=some ⟨g,0,none⟩/\base<=g/\Blk e w g xs:=by
 rcases h.2.2 with ⟨h0,h1⟩|⟨g,cap',cur,h1,h2,h3,h4,h5,h6,h7⟩
 . exact .inl (List.length_eq_zero_iff.1 h1)
 . simp at h1
   obtain⟨rfl,rfl⟩:=h1;exact .inr ⟨g,rfl,h2,cur,h3,by omega,by simpa using h7⟩
def Sv(f:Nat->Nat):Nat->Nat
 | 0=>0
 | k+1=>Sv f k+4294967296 ^ k*f k
theorem zkf{f g:Nat->Nat}{k:Nat}(h:∀i,i<k->f i=g i):Sv f k=Sv g k:=by
 induction k with
 | zero=>rfl
 | succ k ih=>rw[Sv,Sv,ih (fun i hi=>h i (by omega)),h k (by omega)]
theorem z3x(f:Nat->Nat)(m n:Nat):Sv f (m+n)=Sv f m+4294967296 ^ m*Sv (fun i=>f (m+i)) n:=by
 induction n with
 | zero=>simp[Sv]
 | succ n ih=>rw[<-Nat.add_assoc,Sv,ih,Sv,Nat.pow_add,Nat.mul_add,<-Nat.add_assoc,Nat.mul_assoc]
theorem z0s{f:Nat->Nat}{k:Nat}(h:∀i,i<k->f i=0):Sv f k=0:=by
 induction k with
 | zero=>rfl
 | succ k ih=>rw[Sv,ih (fun i hi=>h i (by omega)),h k (by omega)];simp
theorem zlk(xs:LN)(k:Nat):V (xs.take k)=Sv (fun i=>xs.getD i 0) k:=by
 induction k with
 | zero=>simp[V,Sv]
 | succ k ih=>rw[zbh,ih,Sv]
theorem V_Sv(xs:LN):V xs=Sv (fun i=>xs.getD i 0) xs.length:=by rw[<-zlk,List.take_length]
theorem zn6(xs:LN)(i j z:Nat):(xs.set i z).getD j 0=if i=j/\j<xs.length then z else xs.getD j 0:=by
 simp only[qH,List.getElem?_set];by_cases h:i=j
 . subst h
   by_cases h2:i<xs.length
   . simp[h2]
   . simp[h2]
 . simp[h]
theorem zc7(xs:LN)(i j z:Nat)(h:i≠j):(xs.set i z).getD j 0=xs.getD j 0:=by rw[zn6,if_neg (by omega)]
theorem zen(xs:LN)(i z:Nat)(h:i<xs.length):(xs.set i z).getD i 0=z:=by rw[zn6,if_pos ⟨rfl,h⟩]
theorem ztz{cs zs ys:LN}{off k cy f y o s p:Nat}(hy:ys.getD k 0=y)(hp:y*f=p)(ho:zs.getD (off+k) 0=o)(hs:s=p+o+cy)(hlen:off+k<cs.length)
    (he:Sv (fun i=>cs.getD (off+i) 0) k+4294967296 ^ k*cy=Sv (fun i=>zs.getD (off+i) 0) k+V (ys.take k)*f) :
    Sv (fun i=>(cs.set (off+k) (s%4294967296)).getD (off+i) 0) (k+1)+4294967296 ^ (k+1)*(s/4294967296)=Sv (fun i=>zs.getD (off+i) 0) (k+1)+V (ys.take (k+1))*f:=by
 rw[Sv,Sv,zbh,hy,ho,zen _ _ _ hlen,Nat.pow_succ];rw[zkf (g:=fun i=>cs.getD (off+i) 0) (fun i hi=>zc7 _ _ _ _ (by omega))];have hd:=Nat.mod_add_div s 4294967296;generalize s%4294967296=r at hd ⊢;generalize s/4294967296=d at hd ⊢;subst hs;subst hp;generalize 4294967296 ^ k=q at he ⊢;generalize Sv (fun i=>cs.getD (off+i) 0) k=A at he ⊢;generalize Sv (fun i=>zs.getD (off+i) 0) k=C at he ⊢;generalize V (ys.take k)=D at he ⊢
 grind
theorem zr7{y f:Nat}(hy:y<4294967296)(hf:f<4294967296):y*f<=18446744065119617025:=by
 have:=Nat.mul_le_mul (show y<=4294967295 by omega) (show f<=4294967295 by omega);simpa using this
