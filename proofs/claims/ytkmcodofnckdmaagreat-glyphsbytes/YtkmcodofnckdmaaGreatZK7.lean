import Derived.Test.YtkmcodofnckdmaaGreatZK6
set_option linter.unusedSimpArgs false
set_option linter.unusedVariables false
namespace Go.Proofs.YtkmcodofnckdmaaGreat
theorem be2L(z:Int):(be2 z).length=2:=rfl
theorem zeu{z:Int}(h1:-32768<=z)(h2:z<=32767):sx16 (V8 (be2 z))=z:=by
 simp only[be2,V8,List.foldl_cons,List.foldl_nil];unfold sx16;split <;> omega
theorem zxl{xs:LN}(h:Byt xs)(hl:xs.length=2):be2 (sx16 (V8 xs))=xs:=by
 match xs,hl with
 | [a,b],_ =>
  have ha:=h a (by simp);have hb:=h b (by simp);have e:V8 [a,b]=256*a+b:=by simp only[V8,List.foldl_cons,List.foldl_nil];omega
  have hz:∃k:Int,sx16 (V8 [a,b])=((256*a+b:Nat):Int)+65536*k:=by
   rw[e,sx16];split
   . exact⟨-1,by omega⟩
   . exact⟨0,by omega⟩
  obtain⟨k,hk⟩:=hz;rw[hk];simp only[be2,List.cons.injEq,and_true];refine⟨by omega,by omega⟩
theorem be_V8{xs:LN}(h:Byt xs)(hl:xs.length=2):be2 ((V8 xs:Nat):Int)=xs:=by
 match xs,hl with
 | [a,b],_ =>
  have ha:=h a (by simp);have hb:=h b (by simp);have e:V8 [a,b]=256*a+b:=by simp only[V8,List.foldl_cons,List.foldl_nil];omega
  rw[e];simp only[be2,List.cons.injEq,and_true];refine⟨by omega,by omega⟩
def rn(c:Int->Nat)(M:Nat):LI->Nat
 | []=>0
 | x::t=>min M (1+(t.takeWhile (fun y=>c y==c x)).length)
theorem ze0{c:Int->Nat}{M:Nat}(hM:0<M){l:LI}(hl:l≠[]):1<=rn c M l:=by
 cases l with
 | nil=>exact absurd rfl hl
 | cons x t=>rw[rn];omega
theorem zkj{α:Type}(p:α->Bool)(l:List α):(l.takeWhile p).length<=l.length:=by
 induction l with
 | nil=>simp
 | cons x t ih=>rw[List.takeWhile_cons];split <;> simp;omega
theorem rn_le{c:Int->Nat}{M:Nat}(l:LI):rn c M l<=l.length/\rn c M l<=M:=by
 cases l with
 | nil=>exact⟨qE _,qD _⟩
 | cons x t =>
  have:=zkj (fun y=>c y==c x) t;rw[rn,List.length_cons];omega
theorem zi7{p:Int->Bool}:∀(l:LI) (j:Nat),j<(l.takeWhile p).length->p (l.getD j 0)=true:=by
 intro l
 induction l with
 | nil=>intro j hj;simp at hj
 | cons x t ih =>
  intro j hj;rw[List.takeWhile_cons]at hj;split at hj
  . rename_i hx
    cases j with
    | zero=>simpa using hx
    | succ j=>exact ih j (by simpa using hj)
  . simp at hj
theorem zlv{c:Int->Nat}{M:Nat}{l:LI}{j:Nat}(hj:j<rn c M l):c (l.getD j 0)=c (l.getD 0 0):=by
 cases l with
 | nil=>simp[rn]at hj
 | cons x t =>
  rw[rn]at hj;cases j with
  | zero=>rfl
  | succ j =>
   have:=zi7 (p:=fun y=>c y==c x) t j (by omega);simpa using this
theorem zfr{p:Int->Bool}:∀ {l:LI} {k:Nat},(∀j,j<k->p (l.getD j 0)=true)->k<=l.length->(k=l.length\/p (l.getD k 0)=false)->(l.takeWhile p).length=k:=by
 intro l
 induction l with
 | nil=>intro k _ hk _;simp at hk;simp[hk]
 | cons x t ih =>
  intro k h1 hk h2;cases k with
  | zero =>
   rcases h2 with h2|h2
   . simp at h2
   . rw[List.takeWhile_cons,if_neg (by simpa using h2)]
     rfl
  | succ k =>
   have hx:p x=true:=h1 0 (by omega);rw[List.takeWhile_cons,if_pos hx,List.length_cons,ih (k:=k) (fun j hj=>h1 (j+1) (by omega)) (by simpa using hk) (by simpa using h2)]
theorem zkk{p:Int->Bool}:∀ {l:LI} {k:Nat},(∀j,j<k->p (l.getD j 0)=true)->k<=l.length->k<=(l.takeWhile p).length:=by
 intro l
 induction l with
 | nil=>intro k _ hk;simpa using hk
 | cons x t ih =>
  intro k h1 hk;cases k with
  | zero=>exact qD _
  | succ k =>
   have hx:p x=true:=h1 0 (by omega);rw[List.takeWhile_cons,if_pos hx,List.length_cons];have:=ih (k:=k) (fun j hj=>h1 (j+1) (by omega)) (by simpa using hk);omega
theorem rn_eq{c:Int->Nat}{M:Nat}{l:LI}{k:Nat}(h0:1<=k)(h1:k<=M)(h2:k<=l.length)(h3:∀j,j<k->c (l.getD j 0)=c (l.getD 0 0))(h4:k=M\/k=l.length\/c (l.getD k 0)≠c (l.getD 0 0)):rn c M l=k:=by
 cases l with
 | nil=>simp at h2;omega
 | cons x t =>
  obtain⟨k,rfl⟩:∃m,k=m+1:=⟨k-1,by omega⟩;have a1:∀j,j<k->(fun y=>c y==c x) (t.getD j 0)=true:=fun j hj=>by
   have:=h3 (j+1) (by omega);simpa using this
  have a2:k<=t.length:=by simpa using h2
  have a3:=zkk (p:=fun y=>c y==c x) a1 a2;rw[rn];rcases h4 with h4|h4|h4
  . omega
  . rw[zfr (p:=fun y=>c y==c x) a1 a2 (.inl (by simpa using h4))];omega
  . rw[zfr (p:=fun y=>c y==c x) a1 a2 (.inr (by simpa using h4))];omega
structure Pk where
 c:Int->Nat
 M:Nat
 en:Nat->Int->LN
def pkF(P:Pk):Nat->LI->LN
 | 0,_=>[]
 | _+1,[]=>[]
 | n+1,x::t=>[P.M*P.c x+rn P.c P.M (x::t)-1]++(((x::t).take (rn P.c P.M (x::t))).flatMap (P.en (P.c x))++pkF P n ((x::t).drop (rn P.c P.M (x::t))))
def pk(P:Pk)(l:LI):LN:=pkF P l.length l
theorem zrw(P:Pk)(n:Nat):pkF P n []=[]:=by cases n <;> rfl
theorem zuz(P:Pk)(hM:0<P.M):∀(n:Nat) (l:LI),l.length<=n->pkF P n l=pk P l:=by
 intro n
 induction n using Nat.strongRecOn with
 | ind n ih =>
  intro l hl;cases l with
  | nil=>rw[zrw,pk,zrw]
  | cons x t =>
   obtain⟨n,rfl⟩:∃m,n=m+1:=⟨n-1,by simp at hl;omega⟩;have h1:=ze0 (c:=P.c) hM (l:=x::t) (by simp);have hd:((x::t).drop (rn P.c P.M (x::t))).length<=t.length:=(by rw[qJ,List.length_cons];omega);have ht:t.length<=n:=(by simpa using hl);rw[pk,List.length_cons,pkF,pkF,ih n (by omega) _ (by omega)];by_cases htn:t.length<n+1
   . rw[ih t.length (by omega) _ hd]
   . omega
theorem zkz(P:Pk):pk P []=[]:=rfl
theorem zjm(P:Pk)(hM:0<P.M){l:LI}(hl:l≠[]) :
 pk P l=[P.M*P.c (l.getD 0 0)+rn P.c P.M l-1]++((l.take (rn P.c P.M l)).flatMap (P.en (P.c (l.getD 0 0)))++pk P (l.drop (rn P.c P.M l))):=by
 cases l with
 | nil=>exact absurd rfl hl
 | cons x t =>
  have h1:=ze0 (c:=P.c) hM (l:=x::t) (by simp);have hd:((x::t).drop (rn P.c P.M (x::t))).length<=t.length:=by rw[qJ,List.length_cons];omega
  conv=>lhs;rw[pk,List.length_cons,pkF,zuz P hM _ _ hd]
  rfl
structure Rp where
 M:Nat
 top:Nat
 sz:Nat->Nat
 vl:LN->Nat->Nat->Int
def runV(R:Rp)(b:LN)(kd at_ k:Nat):LI:=(List.range k).map (fun i=>R.vl b kd (at_+i*R.sz kd))
theorem zaw(R:Rp)(b:LN)(kd at_ k:Nat):(runV R b kd at_ k).length=k:=by simp[runV]
theorem zb9(R:Rp)(b:LN)(kd at_ k:Nat):runV R b kd at_ (k+1)=runV R b kd at_ k++[R.vl b kd (at_+k*R.sz kd)]:=by simp[runV,List.range_succ]
def hdB(R:Rp)(b:LN)(at_ n:Nat):Bool :=
 decide (at_+1<=b.length/\nmV b (at_:Int) 1<R.top/\nmV b (at_:Int) 1%R.M+1<=n/\at_+1+(nmV b (at_:Int) 1%R.M+1)*R.sz (nmV b (at_:Int) 1/R.M)<=b.length)
def rdF(R:Rp)(b:LN):Nat->Nat->Nat->Option (LI×Nat)
 | _,at_,0=>some ([],at_)
 | 0,_,_+1=>none
 | f+1,at_,n+1=>if hdB R b at_ (n+1) then
     (match rdF R b f (at_+1+(nmV b (at_:Int) 1%R.M+1)*R.sz (nmV b (at_:Int) 1/R.M)) (n+1-(nmV b (at_:Int) 1%R.M+1)) with
     | some (l,e)=>some (runV R b (nmV b (at_:Int) 1/R.M) (at_+1) (nmV b (at_:Int) 1%R.M+1)++l,e)
     | none=>none)else none
theorem zbe(R:Rp)(b:LN)(f at_:Nat):rdF R b f at_ 0=some ([],at_):=by cases f <;> rfl
theorem zuv(R:Rp)(b:LN):∀(f g at_ n:Nat),n<=f->n<=g->rdF R b f at_ n=rdF R b g at_ n:=by
 intro f
 induction f with
 | zero =>
  intro g at_ n hf _;obtain rfl:n=0:=Nat.le_zero.1 hf;rw[zbe,zbe]
 | succ f ih =>
  intro g at_ n hf hg;cases n with
  | zero=>rw[zbe,zbe]
  | succ n =>
   obtain⟨g,rfl⟩:∃m,g=m+1:=⟨g-1,by omega⟩;rw[rdF,rdF,ih g _ _ (by omega) (by omega)]
theorem zho(R:Rp)(b:LN):∀(f at_ n:Nat) (l:LI) (e:Nat),rdF R b f at_ n=some (l,e)->l.length=n/\at_<=e/\(at_<=b.length->e<=b.length):=by
 intro f
 induction f with
 | zero =>
  intro at_ n l e h;cases n with
  | zero=>rw[zbe]at h;cases h;exact⟨rfl,qE _,fun h=>h⟩
  | succ n=>cases h
 | succ f ih =>
  intro at_ n l e h;cases n with
  | zero=>rw[zbe]at h;cases h;exact⟨rfl,qE _,fun h=>h⟩
  | succ n =>
   rw[rdF]at h;split at h
   . rename_i hh
     have hh':=of_decide_eq_true hh;split at h
     . rename_i l' e' hr
       cases h;obtain⟨h1,h2,h3⟩:=ih _ _ _ _ hr;refine⟨?_,by omega,fun _=>h3 hh'.2.2.2⟩;rw[qA,zaw,h1];omega
     . cases h
   . cases h
structure Pn where
 x:Int
 y:Int
 on:Bool
structure Pa where
 g:Int
 dx:Int
 dy:Int
structure Ol where
 cs:List (List Pn)
 ps:List Pa
def Pn.none:Pn:=⟨0,0,false⟩
def Pa.none:Pa:=⟨0,0,0⟩
def Ol.none:Ol:=⟨[],[]⟩
def pnF(p:Pn):Bool:=fdB p.x&&fdB p.y
def paF(p:Pa):Bool:=decide (0<=p.g/\p.g<=65535)&&(fdB p.dx&&fdB p.dy)
def foB(o:Ol):Bool :=
 !(decide (0<o.cs.length)&&decide (0<o.ps.length))&&(decide (o.cs.length<=10)&&(decide (o.ps.length<=6)&&(o.cs.all (fun c=>decide (0<c.length))&&(decide (o.cs.flatten.length<=80)&&(o.cs.flatten.all pnF&&o.ps.all paF)))))
def FoP(o:Ol):Prop:=(o.cs.length=0\/o.ps.length=0)/\o.cs.length<=10/\o.ps.length<=6/\(∀c∈o.cs,0<c.length)/\o.cs.flatten.length<=80/\(∀p∈o.cs.flatten,(-32768<=p.x/\p.x<=32767)/\(-32768<=p.y/\p.y<=32767))/\(∀p∈o.ps,(0<=p.g/\p.g<=65535)/\(-32768<=p.dx/\p.dx<=32767)/\(-32768<=p.dy/\p.dy<=32767))
theorem zbg{o:Ol}:foB o=true↔FoP o:=by
 unfold foB FoP pnF paF;simp only[Bool.and_eq_true,Bool.not_eq_true',Bool.and_eq_false_iff,qM,decide_eq_false_iff_not,List.all_eq_true,zbc];constructor
 . rintro ⟨h,r⟩
   exact⟨by omega,r⟩
 . rintro ⟨h,r⟩
   exact⟨by omega,r⟩
def endF(n:Int):List (List Pn)->LI
 | []=>[]
 | c::t=>(n+(c.length:Int)-1)::endF (n+(c.length:Int)) t
theorem zck(n:Int)(l:List (List Pn)):(endF n l).length=l.length:=by
 induction l generalizing n with
 | nil=>rfl
 | cons c t ih=>rw[endF,List.length_cons,ih,List.length_cons]
theorem zmf(n:Int)(l m:List (List Pn)):endF n (l++m)=endF n l++endF (n+(l.flatten.length:Int)) m:=by
 induction l generalizing n with
 | nil=>simp[endF]
 | cons c t ih =>
  rw[List.cons_append,endF,endF,ih,List.flatten_cons,qA,List.cons_append,Int.natCast_add];congr 2;congr 1;omega
def bxS(b:Int×Int×Int×Int)(q:Pn):Int×Int×Int×Int:=(min b.1 q.x,min b.2.1 q.y,max b.2.2.1 q.x,max b.2.2.2 q.y)
def bxO:List Pn->Int×Int×Int×Int
 | []=>(0,0,0,0)
 | p::t=>t.foldl bxS (p.x,p.y,p.x,p.y)
def difs(a b:Int):List Pn->List (Int×Int×Bool)
 | []=>[]
 | p::t=>(p.x-a,p.y-b,p.on)::difs p.x p.y t
theorem za8(a b:Int)(l:List Pn):(difs a b l).length=l.length:=by
 induction l generalizing a b with
 | nil=>rfl
 | cons p t ih=>rw[difs,List.length_cons,ih,List.length_cons]
theorem zgr:∀(l:List Pn) (a b:Int) (i:Nat),i<l.length->(difs a b l).getD i (0,0,false)=((l.getD i Pn.none).x-(if i=0 then a else (l.getD (i-1) Pn.none).x),(l.getD i Pn.none).y-(if i=0 then b else (l.getD (i-1) Pn.none).y),(l.getD i Pn.none).on):=by
 intro l
 induction l with
 | nil=>intro a b i hi;simp at hi
 | cons p t ih =>
  intro a b i hi;cases i with
  | zero=>rfl
  | succ i =>
   rw[difs,List.getD_cons_succ,ih p.x p.y i (by simpa using hi)];cases i with
   | zero=>simp
   | succ i=>simp
def axF(d:Int)(sh sm:Nat):Nat:=if d=0 then sm else if 0<d/\d<256 then sh+sm else if d<0/\-256<d then sh else 0
def axB(d:Int):LN:=if d=0 then []else if 0<d/\d<256 then [d.toNat]else if d<0/\-256<d then [(-d).toNat]else be2 d
theorem zgv(d:Int):(d=0)\/(0<d/\d<256)\/(d<0/\-256<d)\/(d<=-256\/256<=d):=by omega
theorem zdv(d:Int):(axB d).length<=2:=by unfold axB be2;split <;> (try split) <;> (try split) <;> simp
theorem ztu(d:Int):Byt (axB d):=by
 unfold axB;split
 . exact Byt.nil
 . split
   . rename_i h;intro x hx;rw[List.mem_singleton.1 hx];omega
   . split
     . rename_i h;intro x hx;rw[List.mem_singleton.1 hx];omega
     . exact zb4 _
def flg(t:Int×Int×Bool):Nat:=axF t.1 2 16+axF t.2.1 4 32+(if t.2.2 then 1 else 0)
theorem zgp(t:Int×Int×Bool):flg t<64/\flg t/8%2=0/\flg t%2=(if t.2.2 then 1 else 0)/\(flg t/2%2=1↔(t.1≠0/\-256<t.1/\t.1<256))/\(flg t/16%2=1↔(0<=t.1/\t.1<256))/\(flg t/4%2=1↔(t.2.1≠0/\-256<t.2.1/\t.2.1<256))/\(flg t/32%2=1↔(0<=t.2.1/\t.2.1<256)):=by
 obtain⟨d,e,c⟩:=t;unfold flg axF;dsimp only;rcases zgv d with h|h|h|h <;> rcases zgv e with k|k|k|k <;> cases c <;> (repeat' split) <;> (try omega) <;> refine⟨by omega,by omega,by omega,?_,?_,?_,?_⟩ <;> constructor <;> intro q <;> omega
def rlF:Nat->LI->LN
 | 0,_=>[]
 | _+1,[]=>[]
 | n+1,x::t=>(if rn Int.toNat 256 (x::t)=1 then [x.toNat]else [x.toNat+8,rn Int.toNat 256 (x::t)-1])++rlF n ((x::t).drop (rn Int.toNat 256 (x::t)))
def rl(l:LI):LN:=rlF l.length l
theorem zyl(n:Nat):rlF n []=[]:=by cases n <;> rfl
theorem znd:rl []=[]:=rfl
theorem zum:∀(n:Nat) (l:LI),l.length<=n->rlF n l=rl l:=by
 intro n
 induction n using Nat.strongRecOn with
 | ind n ih =>
  intro l hl;cases l with
  | nil=>rw[zyl,znd]
  | cons x t =>
   obtain⟨n,rfl⟩:∃m,n=m+1:=⟨n-1,by simp at hl;omega⟩;have h1:=ze0 (c:=Int.toNat) (M:=256) (by omega) (l:=x::t) (by simp);have hd:((x::t).drop (rn Int.toNat 256 (x::t))).length<=t.length:=(by rw[qJ,List.length_cons];omega);have ht:t.length<=n:=(by simpa using hl);rw[rl,List.length_cons,rlF,rlF,ih n (by omega) _ (by omega)];by_cases htn:t.length<n+1
   . rw[ih t.length (by omega) _ hd]
   . omega
theorem zhj{l:LI}(hl:l≠[]):rl l=(if rn Int.toNat 256 l=1 then [(l.getD 0 0).toNat]else [(l.getD 0 0).toNat+8,rn Int.toNat 256 l-1])++rl (l.drop (rn Int.toNat 256 l)):=by
 cases l with
 | nil=>exact absurd rfl hl
 | cons x t =>
  have h1:=ze0 (c:=Int.toNat) (M:=256) (by omega) (l:=x::t) (by simp);have hd:((x::t).drop (rn Int.toNat 256 (x::t))).length<=t.length:=by rw[qJ,List.length_cons];omega
  conv=>lhs;rw[rl,List.length_cons,rlF,zum _ _ hd]
  rfl
def flL(l:List Pn):LI:=(difs 0 0 l).map (fun t=>(flg t:Int))
def coB(cs:List (List Pn)):LN:=be2 (cs.length:Int)++((endF 0 cs).flatMap be2++(rl (flL cs.flatten)++((difs 0 0 cs.flatten).flatMap (fun t=>axB t.1)++(difs 0 0 cs.flatten).flatMap (fun t=>axB t.2.1))))
def paE(p:Pa):LN:=be2 p.g++(be2 p.dx++be2 p.dy)
def paB(ps:List Pa):LN:=[255,255]++(be2 (ps.length:Int)++ps.flatMap paE)
def diB(l:List Pn):Bool:=(difs 0 0 l).all (fun t=>fdB t.1&&fdB t.2.1)
def wrOE(o:Ol):Int:=if foB o then (if o.ps.length=0 then (if diB o.cs.flatten then 0 else 4)else 0)else 1
def wrOB(o:Ol):LN:=if foB o then (if o.ps.length=0 then (if diB o.cs.flatten then coB o.cs else [])else paB o.ps)else []
def hd1(s:LN):Nat:=s.headD 0
def hd2:LN->Nat
 | x::y::_=>256*x+y
 | _=>0
theorem zr6(b:LN)(p:Nat):nmV b (p:Int) 1=hd1 (b.drop p):=by
 unfold nmV;by_cases h:p+1<=b.length
 . rw[if_pos (by simp only[inB,qM];omega),Int.toNat_natCast]
   have:0<(b.drop p).length:=by rw[qJ];omega
   match hd:b.drop p,this with
   | x::t,_=>simp[hd1,V8]
 . rw[if_neg (by simp only[inB,qM];omega),List.drop_eq_nil_of_le (by omega)]
   rfl
theorem zjq(b:LN)(p:Nat):nmV b (p:Int) 2=hd2 (b.drop p):=by
 unfold nmV;by_cases h:p+2<=b.length
 . rw[if_pos (by simp only[inB,qM];omega),Int.toNat_natCast]
   have:1<(b.drop p).length:=by rw[qJ];omega
   match hd:b.drop p,this with
   | x::y::t,_=>simp[hd2,V8]
 . rw[if_neg (by simp only[inB,qM];omega)]
   have:(b.drop p).length<2:=by rw[qJ];omega
   match hd:b.drop p,this with
   | [],_=>rfl
   | [x],_=>rfl
theorem zc6(z:Int)(Z:LN):hd2 (be2 z++Z)=V8 (be2 z):=by simp[be2,hd2,V8]
theorem zd6(z:Int)(Z:LN):(be2 z++Z).drop 2=Z:=rfl
theorem zeb{z:Int}(h1:0<=z)(h2:z<=65535):V8 (be2 z)=z.toNat:=by
 simp only[be2,V8,List.foldl_cons,List.foldl_nil];omega
def rdE:Nat->LN->LN×LN
 | 0,s=>([],s)
 | n+1,s=>(hd2 s::(rdE n (s.drop 2)).1,(rdE n (s.drop 2)).2)
theorem zl1(n:Nat)(s:LN):(rdE n s).1.length=n:=by
 induction n generalizing s with
 | zero=>rfl
 | succ n ih=>rw[rdE];simp[ih]
theorem zns(n:Nat)(s:LN):(rdE n s).2=s.drop (2*n):=by
 induction n generalizing s with
 | zero=>rfl
 | succ n ih=>rw[rdE];dsimp only;rw[ih,List.drop_drop];congr 1;omega
theorem zrm(n:Nat)(s:LN)(i:Nat)(hi:i<n):(rdE n s).1.getD i 0=hd2 (s.drop (2*i)):=by
 induction n generalizing s i with
 | zero=>omega
 | succ n ih =>
  rw[rdE];cases i with
  | zero=>rfl
  | succ i=>dsimp only;rw[List.getD_cons_succ,ih (s.drop 2) i (by omega),List.drop_drop];congr 2;omega
theorem zuw:∀(es:LI),(∀e∈es,0<=e/\e<=65535)->∀Z,rdE es.length (es.flatMap be2++Z)=(es.map Int.toNat,Z):=by
 intro es
 induction es with
 | nil=>intro _ Z;rfl
 | cons e t ih =>
  intro h Z;have h0:=h e (by simp);rw[List.length_cons,rdE,List.flatMap_cons,qI,zc6,zd6,ih (fun x hx=>h x (by simp[hx])),zeb h0.1 h0.2];rfl
def rdG:Nat->Nat->LN->LN->LN×LN
 | 0,_,s,acc=>(acc,s)
 | f+1,n,s,acc=>if acc.length<n then (if hd1 s/8%2=1 then rdG f n (s.drop 2) (acc++List.replicate (hd1 (s.drop 1)+1) (hd1 s))else rdG f n (s.drop 1) (acc++[hd1 s]))else (acc,s)
theorem zc4{f n:Nat}{s acc:LN}(h:n<=acc.length):rdG f n s acc=(acc,s):=by
 cases f with
 | zero=>rfl
 | succ f=>rw[rdG,if_neg (by omega)]
theorem zji:∀(f g n:Nat) (s acc:LN),n-acc.length<=f->n-acc.length<=g->rdG f n s acc=rdG g n s acc:=by
 intro f
 induction f with
 | zero=>intro g n s acc hf _;rw[zc4 (by omega),zc4 (by omega)]
 | succ f ih =>
  intro g n s acc hf hg;by_cases hn:acc.length<n
  . obtain⟨g,rfl⟩:∃m,g=m+1:=⟨g-1,by omega⟩
    rw[rdG,rdG,if_pos hn,if_pos hn];split
    . exact ih _ _ _ _ (by rw[qA,List.length_replicate];omega) (by rw[qA,List.length_replicate];omega)
    . exact ih _ _ _ _ (by rw[qA,List.length_singleton];omega) (by rw[qA,List.length_singleton];omega)
  . rw[zc4 (by omega),zc4 (by omega)]
def LikeF(a:Nat)(x:Int):Prop:=a=x.toNat\/a=x.toNat+8
theorem zuu:∀(k:Nat) (l:LI),l.length=k->(∀x∈l,0<=x/\x<64/\x.toNat/8%2=0)->∀(n:Nat) (acc Z:LN),acc.length+l.length=n ->
    ∃m:LN,rdG n n (rl l++Z) acc=(acc++m,Z)/\m.length=l.length/\∀i,i<l.length->LikeF (m.getD i 0) (l.getD i 0):=by
 intro k
 induction k using Nat.strongRecOn with
 | ind k ih =>
  intro l hk hl n acc Z hn;by_cases h0:l=[]
  . subst h0
    exact⟨[],by rw[zc4 (by simp at hn;omega)];simp[znd],rfl,fun i hi=>by simp at hi⟩
  have zsk:0<l.length:=List.length_pos_iff.2 h0;obtain⟨x,hx⟩:∃x,l.getD 0 0=x:=⟨_,rfl⟩;have hxm:x∈l:=by
   rw[<-hx,qH,qG zsk];exact List.getElem_mem zsk
  obtain⟨x1,x2,x3⟩:=hl x hxm;obtain⟨r,hr⟩:∃r,rn Int.toNat 256 l=r:=⟨_,rfl⟩;have r1:=ze0 (c:=Int.toNat) (M:=256) (by omega) h0;obtain⟨r2,r3⟩:=rn_le (c:=Int.toNat) (M:=256) l;rw[hr]at r1 r2 r3;have zf8:∀j,j<r->l.getD j 0=x:=fun j hj=>by
   have h1:=zlv (c:=Int.toNat) (M:=256) (l:=l) (j:=j) (by omega);rw[hx]at h1;have h2:l.getD j 0∈l:=(by rw[qH,qG (by omega)];exact List.getElem_mem _);have:=(hl _ h2).1;omega
  have hdl:(l.drop r).length=l.length-r:=qJ;rw[zhj h0,hr,hx];obtain⟨n,rfl⟩:∃m,n=m+1:=⟨n-1,by omega⟩;have fin:∀a:Nat,LikeF a x->(∃m:LN,rdG n (n+1) (rl (l.drop r)++Z) (acc++List.replicate r a)=(acc++List.replicate r a++m,Z)/\m.length=(l.drop r).length/\∀i,i<(l.drop r).length->LikeF (m.getD i 0) ((l.drop r).getD i 0)) ->
      ∃m:LN,rdG n (n+1) (rl (l.drop r)++Z) (acc++List.replicate r a)=(acc++m,Z)/\m.length=l.length/\∀i,i<l.length->LikeF (m.getD i 0) (l.getD i 0):=by
   rintro a ha ⟨m,h1,h2,h3⟩;refine⟨List.replicate r a++m,by rw[h1,qI],by rw[qA,List.length_replicate,h2,hdl];omega,fun i hi=>?_⟩;by_cases hir:i<r
   . have e:(List.replicate r a++m).getD i 0=a:=by simp[List.getD,List.getElem?_append_left (show i<(List.replicate r a).length by simpa using hir),hir]
     rw[e,zf8 i hir];exact ha
   . have e:(List.replicate r a++m).getD i 0=m.getD (i-r) 0:=by simp[List.getD,qO (show(List.replicate r a).length<=i by simp;omega)]
     have e2:(l.drop r).getD (i-r) 0=l.getD i 0:=(by simp[List.getD,show r+(i-r)=i by omega]);rw[e,<-e2];exact h3 _ (by omega)
  have zsj:∀a,∃m:LN,rdG n (n+1) (rl (l.drop r)++Z) (acc++List.replicate r a)=(acc++List.replicate r a++m,Z)/\m.length=(l.drop r).length/\∀i,i<(l.drop r).length->LikeF (m.getD i 0) ((l.drop r).getD i 0):=by
   intro a;have:=ih (l.drop r).length (by omega) (l.drop r) rfl (fun y hy=>hl y (List.mem_of_mem_drop hy)) (n+1) (acc++List.replicate r a) Z (by rw[qA,List.length_replicate,hdl];omega);rw[zji (n+1) n _ _ _ (by omega) (by rw[qA,List.length_replicate];omega)]at this;exact this
  by_cases h1:r=1
  . rw[if_pos h1,rdG,if_pos (by omega)]
    have e1:hd1 ([x.toNat]++rl (l.drop r)++Z)=x.toNat:=rfl;have e2:([x.toNat]++rl (l.drop r)++Z).drop 1=rl (l.drop r)++Z:=rfl;rw[e1,e2,if_neg (by omega)];have e3:[x.toNat]=List.replicate r x.toNat:=(by rw[h1];rfl);rw[e3];exact fin x.toNat (.inl rfl) (zsj _)
  . rw[if_neg h1,rdG,if_pos (by omega)]
    have e1:hd1 ([x.toNat+8,r-1]++rl (l.drop r)++Z)=x.toNat+8:=rfl;have e2:hd1 (([x.toNat+8,r-1]++rl (l.drop r)++Z).drop 1)=r-1:=rfl;have e3:([x.toNat+8,r-1]++rl (l.drop r)++Z).drop 2=rl (l.drop r)++Z:=rfl;rw[e1,e2,e3,if_pos (by omega),show r-1+1=r by omega];exact fin _ (.inr rfl) (zsj _)
def dfR(f sh sm:Nat)(s:LN):Int×LN :=
 if f/sh%2=1 then (if f/sm%2=1 then ((hd1 s:Int),s.drop 1)else (-(hd1 s:Int),s.drop 1))else if f/sm%2=1 then (0,s)else (sx16 (hd2 s),s.drop 2)
def rdD(sh sm:Nat):LN->LN->Int->LI×LN
 | [],s,_=>([],s)
 | f::fs,s,a=>((a+(dfR f sh sm s).1)::(rdD sh sm fs (dfR f sh sm s).2 (a+(dfR f sh sm s).1)).1,(rdD sh sm fs (dfR f sh sm s).2 (a+(dfR f sh sm s).1)).2)
theorem zdm(sh sm:Nat)(fs:LN)(s:LN)(a:Int):(rdD sh sm fs s a).1.length=fs.length:=by
 induction fs generalizing s a with
 | nil=>rfl
 | cons f t ih=>rw[rdD];simp[ih]
theorem zoe{f sh sm:Nat}{d:Int}(h1:f/sh%2=1↔(d≠0/\-256<d/\d<256))(h2:f/sm%2=1↔(0<=d/\d<256))(hd:-32768<=d/\d<=32767)(Z:LN):dfR f sh sm (axB d++Z)=(d,Z):=by
 unfold dfR axB;rcases zgv d with h|h|h|h
 . subst h
   rw[if_neg (by rw[h1];omega),if_pos (by rw[h2];omega),if_pos rfl];rfl
 . rw[if_pos (by rw[h1];omega),if_pos (by rw[h2];omega),if_neg (by omega),if_pos h]
   refine Prod.ext ?_ rfl;show((d.toNat:Nat):Int)=d;omega
 . rw[if_pos (by rw[h1];omega),if_neg (by rw[h2];omega),if_neg (by omega),if_neg (by omega),if_pos h]
   refine Prod.ext ?_ rfl;show -(((-d).toNat:Nat):Int)=d;omega
 . rw[if_neg (by rw[h1];omega),if_neg (by rw[h2];omega),if_neg (by omega),if_neg (by omega),if_neg (by omega),zc6,zd6,zeu hd.1 hd.2]
theorem zsb{m:Nat}{x:Int}(h:LikeF m x)(h8:x.toNat/8%2=0):m%2=x.toNat%2/\m/2%2=x.toNat/2%2/\m/4%2=x.toNat/4%2/\m/16%2=x.toNat/16%2/\m/32%2=x.toNat/32%2:=by
 rcases h with h|h <;> omega
theorem zup:∀(l:List Pn) (a b:Int) (fs:LN),fs.length=l.length->(∀i,i<l.length->LikeF (fs.getD i 0) (flg ((difs a b l).getD i (0,0,false)):Int))->(∀t∈difs a b l,(-32768<=t.1/\t.1<=32767)/\(-32768<=t.2.1/\t.2.1<=32767)) ->
    (∀Z,rdD 2 16 fs ((difs a b l).flatMap (fun t=>axB t.1)++Z) a=(l.map (·.x),Z))/\(∀Z,rdD 4 32 fs ((difs a b l).flatMap (fun t=>axB t.2.1)++Z) b=(l.map (·.y),Z))/\fs.map (fun f=>decide (f%2=1))=l.map (·.on):=by
 intro l
 induction l with
 | nil =>
  intro a b fs hf _ _;have:fs=[]:=List.length_eq_zero_iff.1 hf;subst this;exact⟨fun Z=>rfl,fun Z=>rfl,rfl⟩
 | cons p t ih =>
  intro a b fs hf hk hd
  match fs,hf with
  | f::fs,hf =>
   have hf':fs.length=t.length:=(by simpa using hf)
   obtain⟨i1,i2,i3⟩:=ih p.x p.y fs hf' (fun i hi=>by
    have:=hk (i+1) (by simpa using hi);rw[List.getD_cons_succ,difs,List.getD_cons_succ]at this
    exact this) (fun u hu=>hd u (by rw[difs];simp[hu]))
   have h0:=hk 0 (by simp);rw[difs,List.getD_cons_zero,List.getD_cons_zero]at h0;have hd0:=hd (p.x-a,p.y-b,p.on) (by rw[difs];simp);obtain⟨b1,b2,b3,b4,b5,b6,b7⟩:=zgp (p.x-a,p.y-b,p.on);obtain⟨c1,c2,c3,c4,c5⟩:=zsb h0 (by rw[Int.toNat_natCast];exact b2);rw[Int.toNat_natCast]at c1 c2 c3 c4 c5;dsimp only at b3 b4 b5 b6 b7 hd0;have ex:∀Z,dfR f 2 16 (axB (p.x-a)++Z)=(p.x-a,Z):=zoe (by rw[c2];exact b4) (by rw[c4];exact b5) hd0.1;have ey:∀Z,dfR f 4 32 (axB (p.y-b)++Z)=(p.y-b,Z):=zoe (by rw[c3];exact b6) (by rw[c5];exact b7) hd0.2;refine⟨fun Z=>?_,fun Z=>?_,?_⟩
   . rw[difs,List.flatMap_cons,qI,rdD]
     dsimp only;rw[ex,show a+(p.x-a)=p.x by omega,i1];rfl
   . rw[difs,List.flatMap_cons,qI,rdD]
     dsimp only;rw[ey,show b+(p.y-b)=p.y by omega,i2];rfl
   . rw[List.map_cons,List.map_cons,i3,c1,b3]
     cases p.on <;> rfl
def mkP:LI->LI->LN->List Pn
 | x::xs,y::ys,f::fs=>⟨x,y,decide (f%2=1)⟩::mkP xs ys fs
 | _,_,_=>[]
theorem zvb:∀(l:List Pn) (fs:LN),fs.length=l.length->fs.map (fun f=>decide (f%2=1))=l.map (·.on)->mkP (l.map (·.x)) (l.map (·.y)) fs=l:=by
 intro l
 induction l with
 | nil=>intro fs _ _;rfl
 | cons p t ih =>
  intro fs hf ho
  match fs,hf with
  | f::fs,hf =>
   rw[List.map_cons,List.map_cons]at ho;injection ho with h1 h2
   rw[List.map_cons,List.map_cons,mkP,ih fs (by simpa using hf) h2,h1]
theorem zl5:∀(xs ys:LI) (fs:LN),xs.length=fs.length->ys.length=fs.length->(mkP xs ys fs).length=fs.length:=by
 intro xs
 induction xs with
 | nil=>intro ys fs h _;cases fs <;> simp at h ⊢;rfl
 | cons x xs ih =>
  intro ys fs h1 h2;cases fs with
  | nil=>simp at h1
  | cons f fs =>
   cases ys with
   | nil=>simp at h2
   | cons y ys=>rw[mkP,List.length_cons,List.length_cons,ih ys fs (by simpa using h1) (by simpa using h2)]
theorem zr8:∀(xs ys:LI) (fs:LN) (i:Nat),xs.length=fs.length->ys.length=fs.length->i<fs.length->(mkP xs ys fs).getD i Pn.none=⟨xs.getD i 0,ys.getD i 0,decide (fs.getD i 0%2=1)⟩:=by
 intro xs
 induction xs with
 | nil=>intro ys fs i h _ hi;simp at h;omega
 | cons x xs ih =>
  intro ys fs i h1 h2 hi;cases fs with
  | nil=>simp at h1
  | cons f fs =>
   cases ys with
   | nil=>simp at h2
   | cons y ys =>
   rw[mkP];cases i with
   | zero=>rfl
   | succ i=>rw[List.getD_cons_succ,List.getD_cons_succ,List.getD_cons_succ,List.getD_cons_succ];exact ih ys fs i (by simpa using h1) (by simpa using h2) (by simpa using hi)
def cutC:LN->Nat->List Pn->Option (List (List Pn))
 | [],_,_=>some []
 | e::t,p,l=>if e<p\/l.length<=e then none else (cutC t (e+1) l).map (fun r=>((l.drop p).take (e+1-p))::r)
theorem ztj:∀(cs:List (List Pn)),(∀c∈cs,0<c.length)->∀(A:List Pn),cutC ((endF (A.length:Int) cs).map Int.toNat) A.length (A++cs.flatten)=some cs:=by
 intro cs
 induction cs with
 | nil=>intro _ A;rfl
 | cons c t ih =>
  intro h A;have hc:=h c (by simp);have e1:((A.length:Int)+(c.length:Int)-1).toNat=A.length+c.length-1:=by omega
  have hi:=ih (fun x hx=>h x (by simp[hx])) (A++c);rw[qA,qI,Int.natCast_add]at hi;rw[endF,List.map_cons,e1,cutC,if_neg (by rw[qA,List.flatten_cons,qA];omega),show A.length+c.length-1+1=A.length+c.length by omega,List.flatten_cons,hi,show A.length+c.length-A.length=c.length by omega];simp
theorem zme:∀(cs:List (List Pn)) (n:Int),0<=n->(∀c∈cs,0<c.length)->∀e∈endF n cs,0<=e/\e<n+(cs.flatten.length:Int):=by
 intro cs
 induction cs with
 | nil=>intro n _ _ e he;cases he
 | cons c t ih =>
  intro n hn h e he;have hc:=h c (by simp);rw[endF]at he;rw[List.flatten_cons,qA];rcases List.mem_cons.1 he with he|he
  . rw[he];omega
  . have:=ih (n+(c.length:Int)) (by omega) (fun x hx=>h x (by simp[hx])) e he
    omega
theorem zta:∀(cs:List (List Pn)) (n:Int),cs≠[]->(endF n cs).getD (cs.length-1) 0=n+(cs.flatten.length:Int)-1:=by
 intro cs
 induction cs with
 | nil=>intro n h;exact absurd rfl h
 | cons c t ih =>
  intro n _;rw[endF,List.flatten_cons,qA];cases t with
  | nil=>simp
  | cons d u =>
   have:=ih (n+(c.length:Int)) (by simp);simp only[List.length_cons,Nat.add_sub_cancel]at this ⊢;rw[List.getD_cons_succ,this,Int.natCast_add];omega
def ptsW(n:Nat)(es:LN):Nat:=if n=0 then 0 else es.getD (n-1) 0+1
def flW(n:Nat)(s:LN):LN×LN:=if ptsW n (rdE n s).1<=80 then rdG (ptsW n (rdE n s).1) (ptsW n (rdE n s).1) (rdE n s).2 []else ([],(rdE n s).2)
def fsW(n:Nat)(s:LN):LN:=(flW n s).1.take (ptsW n (rdE n s).1)
def xsW(n:Nat)(s:LN):LI×LN:=rdD 2 16 (fsW n s) (flW n s).2 0
def ysW(n:Nat)(s:LN):LI×LN:=rdD 4 32 (fsW n s) (xsW n s).2 0
def lsW(n:Nat)(s:LN):List Pn:=mkP (xsW n s).1 (ysW n s).1 (fsW n s)
def candC(n:Nat)(s:LN):Ol:=match cutC (rdE n s).1 0 (lsW n s)with | some cs=>⟨cs,[]⟩ | none=>Ol.none
def paR(s:LN):Pa:=⟨(hd2 s:Int),sx16 (hd2 (s.drop 2)),sx16 (hd2 (s.drop 4))⟩
def psR(s:LN)(k:Nat):List Pa:=(List.range k).map (fun i=>paR (s.drop (6*i)))
def candP(s:LN):Ol:=⟨[],psR (s.drop 2) (min (hd2 s) 7)⟩
def candO(b:LN):Ol:=if sx16 (hd2 b)=-1 then candP (b.drop 2)else if sx16 (hd2 b)<=10 then candC (sx16 (hd2 b)).toNat (b.drop 2)else Ol.none
theorem znw:∀(ps:List Pa),(∀p∈ps,(0<=p.g/\p.g<=65535)/\(-32768<=p.dx/\p.dx<=32767)/\(-32768<=p.dy/\p.dy<=32767))->∀Z,psR (ps.flatMap paE++Z) ps.length=ps:=by
 intro ps
 induction ps with
 | nil=>intro _ Z;rfl
 | cons p t ih =>
  intro h Z;obtain⟨h1,h2,h3⟩:=h p (by simp);have hi:=ih (fun x hx=>h x (by simp[hx])) Z;have e:∀i,((p::t).flatMap paE++Z).drop (6*(i+1))=(t.flatMap paE++Z).drop (6*i):=by
   intro i;rw[List.flatMap_cons,qI,show 6*(i+1)=(paE p).length+6*i by simp[paE,be2];omega,<-List.drop_drop,List.drop_left]
  have e0:paR (((p::t).flatMap paE++Z).drop (6*0))=p:=by
   rw[Nat.mul_zero,List.drop_zero,List.flatMap_cons,paE,qI,qI,qI];unfold paR;have d2:(be2 p.g++(be2 p.dx++(be2 p.dy++(t.flatMap paE++Z)))).drop 2=be2 p.dx++(be2 p.dy++(t.flatMap paE++Z)):=rfl;have d4:(be2 p.g++(be2 p.dx++(be2 p.dy++(t.flatMap paE++Z)))).drop 4=be2 p.dy++(t.flatMap paE++Z):=rfl;rw[d2,d4,zc6,zc6,zc6,zeb h1.1 h1.2,zeu h2.1 h2.2,zeu h3.1 h3.2,Int.toNat_of_nonneg h1.1]
  unfold psR at hi ⊢;rw[List.length_cons,List.range_succ_eq_map,List.map_cons,List.map_map,e0];exact congrArg (List.cons p) ((List.map_congr_left fun i _=>by show paR (((p::t).flatMap paE++Z).drop (6*(i+1)))=_;rw[e]).trans hi)
theorem zj2{l:List Pn}:diB l=true ↔ ∀t∈difs 0 0 l,(-32768<=t.1/\t.1<=32767)/\(-32768<=t.2.1/\t.2.1<=32767):=by
 unfold diB;simp only[List.all_eq_true,Bool.and_eq_true,zbc]
theorem zi4{o:Ol}(h:wrOE o=0):FoP o/\(o.ps.length=0->diB o.cs.flatten=true):=by
 unfold wrOE at h;by_cases h1:foB o=true
 . refine⟨zbg.1 h1,fun h2=>?_⟩
   rw[if_pos h1,if_pos h2]at h;cases hd:diB o.cs.flatten with
   | true=>rfl
   | false=>rw[hd]at h;simp at h
 . rw[if_neg h1]at h
   omega
theorem zlm{o:Ol}(h:wrOE o=0)(h0:o.ps.length=0):wrOB o=coB o.cs:=by
 obtain⟨h1,h2⟩:=zi4 h;rw[wrOB,if_pos (zbg.2 h1),if_pos h0,if_pos (h2 h0)]
theorem zll{o:Ol}(h:wrOE o=0)(h0:o.ps.length≠0):wrOB o=paB o.ps:=by
 obtain⟨h1,h2⟩:=zi4 h;rw[wrOB,if_pos (zbg.2 h1),if_neg h0]
theorem ztk{cs:List (List Pn)}(f4:∀c∈cs,0<c.length)(f5:cs.flatten.length<=80)(hd:∀t∈difs 0 0 cs.flatten,(-32768<=t.1/\t.1<=32767)/\(-32768<=t.2.1/\t.2.1<=32767))(Z:LN){s:LN}
    (hs:s=(endF 0 cs).flatMap be2++(rl (flL cs.flatten)++((difs 0 0 cs.flatten).flatMap (fun t=>axB t.1)++((difs 0 0 cs.flatten).flatMap (fun t=>axB t.2.1)++Z)))):ptsW cs.length (rdE cs.length s).1=cs.flatten.length/\cutC (rdE cs.length s).1 0 (lsW cs.length s)=some cs:=by
 subst hs;have hes:=zme cs 0 (Int.le_refl _) f4;have hE:=zuw (endF 0 cs) (fun e he=>by have:=hes e he;omega) (rl (flL cs.flatten)++((difs 0 0 cs.flatten).flatMap (fun t=>axB t.1)++((difs 0 0 cs.flatten).flatMap (fun t=>axB t.2.1)++Z)));rw[zck]at hE;have hpt:ptsW cs.length ((endF 0 cs).map Int.toNat)=cs.flatten.length:=by
  unfold ptsW;by_cases hc:cs=[]
  . subst hc;rfl
  . have hl:=zta cs 0 hc
    have hp:0<cs.length:=List.length_pos_iff.2 hc;have hpc:0<cs.flatten.length:=by
     match cs,hc with
     | c::t,_ =>
      have:=f4 c (by simp);rw[List.flatten_cons,qA];omega
    rw[if_neg (by omega),qH,List.getElem?_map,qG (by rw[zck];omega)];rw[qH,qG (by rw[zck];omega)]at hl;simp only[Option.map_some,Option.getD_some]at hl ⊢;omega
 have hfl:(flL cs.flatten).length=cs.flatten.length:=by unfold flL;rw[qK,za8]
 obtain⟨m,hm1,hm2,hm3⟩:=zuu _ (flL cs.flatten) rfl (fun x hx=>by
  unfold flL at hx;obtain⟨t,_,rfl⟩:=List.mem_map.1 hx;obtain⟨b1,b2,_⟩:=zgp t
  exact⟨by omega,by omega,by rw[Int.toNat_natCast];exact b2⟩) cs.flatten.length [] ((difs 0 0 cs.flatten).flatMap (fun t=>axB t.1)++((difs 0 0 cs.flatten).flatMap (fun t=>axB t.2.1)++Z)) (by rw[hfl];simp)
 rw[List.nil_append]at hm1;rw[hfl]at hm2 hm3
 obtain⟨x1,x2,x3⟩:=zup cs.flatten 0 0 m hm2 (fun i hi=>by
  have:=hm3 i hi;have e:(flL cs.flatten).getD i 0=(flg ((difs 0 0 cs.flatten).getD i (0,0,false)):Int):=by
   unfold flL;rw[qH,List.getElem?_map,qH,qG (by rw[za8];exact hi)];rfl
  rw[<-e]
  exact this) hd
 have hF:flW cs.length ((endF 0 cs).flatMap be2++(rl (flL cs.flatten)++((difs 0 0 cs.flatten).flatMap (fun t=>axB t.1)++((difs 0 0 cs.flatten).flatMap (fun t=>axB t.2.1)++Z))))=(m,(difs 0 0 cs.flatten).flatMap (fun t=>axB t.1)++((difs 0 0 cs.flatten).flatMap (fun t=>axB t.2.1)++Z)):=by
  unfold flW;rw[hE,hpt,if_pos f5,hm1]
 have hfs:fsW cs.length ((endF 0 cs).flatMap be2++(rl (flL cs.flatten)++((difs 0 0 cs.flatten).flatMap (fun t=>axB t.1)++((difs 0 0 cs.flatten).flatMap (fun t=>axB t.2.1)++Z))))=m:=by
  unfold fsW;rw[hF,hE,hpt];exact List.take_of_length_le (by show m.length<=_;omega)
 refine⟨by rw[hE];exact hpt,?_⟩;unfold lsW ysW xsW;rw[hfs,hF,hE];dsimp only;rw[x1];dsimp only;rw[x2];dsimp only;rw[zvb cs.flatten m hm2 x3];have hC:=ztj cs f4 [];rw[List.nil_append]at hC;simp only[List.length_nil]at hC;exact hC
theorem zts{o:Ol}(h:wrOE o=0)(Z:LN):candO (wrOB o++Z)=o:=by
 obtain⟨⟨f1,f2,f3,f4,f5,f6,f7⟩,hdi⟩:=zi4 h;by_cases h0:o.ps.length=0
 . rw[zlm h h0]
   have hd:=zj2.1 (hdi h0);obtain⟨cs,ps⟩:=o;have hps:ps=[]:=List.length_eq_zero_iff.1 h0;subst hps;dsimp only at *;unfold coB;simp only[qI];have v0:V8 (be2 (cs.length:Int))=cs.length:=(by rw[zeb (by omega) (by omega),Int.toNat_natCast]);have hsx:sx16 cs.length=(cs.length:Int):=(by unfold sx16;rw[if_neg (by omega)]);unfold candO;rw[zc6,zd6,v0,hsx,if_neg (by omega),if_pos (by omega),Int.toNat_natCast];obtain⟨_,hC⟩:=ztk f4 f5 hd Z (s:=_) rfl;unfold candC;rw[hC]
 . rw[zll h h0]
   obtain⟨cs,ps⟩:=o;have hcs:cs=[]:=List.length_eq_zero_iff.1 (by rcases f1 with f1 | f1;exact f1;exact absurd f1 h0);subst hcs;dsimp only at *;have v0:V8 (be2 (ps.length:Int))=ps.length:=(by rw[zeb (by omega) (by omega),Int.toNat_natCast]);unfold paB candO;simp only[qI];have e1:hd2 ([255,255]++(be2 (ps.length:Int)++(ps.flatMap paE++Z)))=65535:=rfl;have e2:([255,255]++(be2 (ps.length:Int)++(ps.flatMap paE++Z))).drop 2=be2 (ps.length:Int)++(ps.flatMap paE++Z):=rfl;rw[e1,e2,if_pos (by decide)];unfold candP;rw[zc6,zd6,v0,show min ps.length 7=ps.length by omega,znw ps f7]
def rdOk(b:LN):Bool:=decide (wrOE (candO b)=0)&&decide (wrOB (candO b)=b)
def rdOL(b:LN):Ol:=if rdOk b then candO b else Ol.none
def rdOE(b:LN):Int:=if rdOk b then 0 else 2
theorem zjf{b:LN}:rdOk b=true↔wrOE (candO b)=0/\wrOB (candO b)=b:=by
 unfold rdOk;rw[Bool.and_eq_true,qM,qM]
theorem zno{o:Ol}(h:wrOE o=0):rdOk (wrOB o)=true/\candO (wrOB o)=o:=by
 have e:=zts h [];rw[List.append_nil]at e;exact⟨zjf.2 (by rw[e];exact⟨h,rfl⟩),e⟩
theorem z1d{b:LN}{o:Ol}(h:wrOE o=0)(hb:wrOB o=b):rdOk b=true/\candO b=o:=by
 rw[<-hb];exact zno h
theorem zim(o:Ol):(wrOE o=0/\foB o=true)\/(wrOE o=1/\foB o=false/\wrOB o=[])\/(wrOE o=4/\foB o=true/\o.ps.length=0/\diB o.cs.flatten=false/\wrOB o=[]):=by
 unfold wrOE wrOB;cases h1:foB o with
 | false=>exact .inr (.inl ⟨rfl,rfl,rfl⟩)
 | true =>
  by_cases h2:o.ps.length=0
  . cases h3:diB o.cs.flatten with
    | true=>exact .inl ⟨by simp[h2],rfl⟩
    | false=>exact .inr (.inr ⟨by simp[h2],rfl,h2,rfl,by simp[h2]⟩)
  . exact .inl ⟨by simp[h2],rfl⟩
theorem zxj:∀(k:Nat) (l:LI),l.length=k->(∀x∈l,0<=x/\x<64)->Byt (rl l)/\(rl l).length<=2*l.length:=by
 intro k
 induction k using Nat.strongRecOn with
 | ind k ih =>
  intro l hk hl;by_cases h0:l=[]
  . subst h0;exact⟨Byt.nil,qE _⟩
  have zsk:0<l.length:=List.length_pos_iff.2 h0;have hx:=hl (l.getD 0 0) (by rw[qH,qG zsk];exact List.getElem_mem zsk);have r1:=ze0 (c:=Int.toNat) (M:=256) (by omega) h0;obtain⟨r2,r3⟩:=rn_le (c:=Int.toNat) (M:=256) l;obtain⟨i1,i2⟩:=ih (l.drop (rn Int.toNat 256 l)).length (by rw[qJ];omega) _ rfl (fun x hx=>hl x (List.mem_of_mem_drop hx));rw[qJ]at i2;rw[zhj h0];split
  . refine⟨Byt.append (fun y hy=>?_) i1,by rw[qA,List.length_singleton];omega⟩
    rw[List.mem_singleton.1 hy];omega
  . refine⟨Byt.append (fun y hy=>?_) i1,by rw[qA];simp only[List.length_cons,List.length_nil];omega⟩
    rcases List.mem_cons.1 hy with hy|hy
    . rw[hy];omega
    . rw[List.mem_singleton.1 hy];omega
theorem zs3(l:List Pn):∀x∈flL l,0<=x/\x<64:=by
 intro x hx;unfold flL at hx;obtain⟨t,_,rfl⟩:=List.mem_map.1 hx;have:=(zgp t).1;omega
theorem zfk(l:List Pn):(flL l).length=l.length:=by unfold flL;rw[qK,za8]
theorem flat2{α:Type}{f:α->LN}(h:∀x,(f x).length<=2)(m:List α):(m.flatMap f).length<=2*m.length:=by
 induction m with
 | nil=>simp
 | cons x t ih=>have:=h x;rw[List.flatMap_cons,qA,List.length_cons];omega
theorem zgt{α:Type}{f:α->LN}(h:∀x,Byt (f x))(m:List α):Byt (m.flatMap f):=by
 intro y hy;obtain⟨x,_,hx⟩:=List.mem_flatMap.1 hy;exact h x y hx
theorem zms(cs:List (List Pn)):Byt (coB cs)/\(coB cs).length<=2+2*cs.length+6*cs.flatten.length:=by
 unfold coB;obtain⟨r1,r2⟩:=zxj _ (flL cs.flatten) rfl (zs3 _);rw[zfk]at r2;have x2:=flat2 (f:=fun t:Int×Int×Bool=>axB t.1) (fun t=>zdv _) (difs 0 0 cs.flatten);have y2:=flat2 (f:=fun t:Int×Int×Bool=>axB t.2.1) (fun t=>zdv _) (difs 0 0 cs.flatten);have e2:=flat2 (f:=be2) (fun t=>by simp[be2]) (endF 0 cs);rw[za8]at x2 y2;rw[zck]at e2;refine⟨(zb4 _).append ((zgt zb4 _).append (r1.append ((zgt (fun t=>ztu _) _).append (zgt (fun t=>ztu _) _)))),?_⟩;simp only[qA];have:(be2 (cs.length:Int)).length=2:=rfl;omega
theorem zj8(ps:List Pa):Byt (paB ps)/\(paB ps).length=4+6*ps.length:=by
 unfold paB;refine⟨Byt.append (fun y hy=>by simp at hy;omega) ((zb4 _).append (zgt (fun p=>(zb4 _).append ((zb4 _).append (zb4 _))) _)),?_⟩;have:∀l:List Pa,(l.flatMap paE).length=6*l.length:=by
  intro l
  induction l with
  | nil=>rfl
  | cons p t ih =>
   have e:(paE p).length=6:=rfl;rw[List.flatMap_cons,qA,ih,e,List.length_cons];omega
 simp only[qA,this];have:(be2 (ps.length:Int)).length=2:=rfl;simp only[List.length_cons,List.length_nil];omega
theorem zgs(o:Ol):Byt (wrOB o)/\(wrOB o).length<=600:=by
 unfold wrOB;split
 . rename_i h
   obtain⟨f1,f2,f3,f4,f5,f6,f7⟩:=zbg.1 h;split
   . split
     . exact⟨(zms _).1,by have:=(zms o.cs).2;omega⟩
     . exact⟨Byt.nil,qD _⟩
   . exact⟨(zj8 _).1,by have:=(zj8 o.ps).2;omega⟩
 . exact⟨Byt.nil,qD _⟩
theorem zt7{o:Ol}(h:wrOE o=0):2<=(wrOB o).length:=by
 by_cases h0:o.ps.length=0
 . rw[zlm h h0]
   unfold coB;rw[qA];have:(be2 (o.cs.length:Int)).length=2:=rfl;omega
 . rw[zll h h0,(zj8 _).2]
   omega
