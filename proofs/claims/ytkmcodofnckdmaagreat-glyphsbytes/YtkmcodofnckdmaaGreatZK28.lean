import Derived.Test.YtkmcodofnckdmaaGreatZK27
set_option maxHeartbeats 4000000
set_option maxRecDepth 100000
set_option linter.unusedSimpArgs false
set_option linter.unusedVariables false
namespace Go.Proofs.YtkmcodofnckdmaaGreat
open Tryz
def foGx(l:List Gl)(s:Sr)(ax:Int)(i:Nat):Bool:=(dq l 6 (i:Int)).isSome&&(decide (szG l (i:Int)<=2000)&&(foT (l.getD i Gl.none).o (l.getD i Gl.none).ts ax&&fiS s (l.getD i Gl.none).ab (l.getD i Gl.none).ar))
def foG(l:List Gl)(s:Sr)(ax:Int):Bool:=decide (1<=l.length/\l.length<=100)&&(stB s ax&&(List.range l.length).all (foGx l s ax))
theorem zd5{l:List Gl}{s:Sr}{ax:Int}{i:Nat}:foGx l s ax i=true↔(dq l 6 (i:Int)).isSome=true/\szG l (i:Int)<=2000/\foT (l.getD i Gl.none).o (l.getD i Gl.none).ts ax=true/\fiS s (l.getD i Gl.none).ab (l.getD i Gl.none).ar=true:=by
 unfold foGx;simp only[Bool.and_eq_true,qM]
theorem zbt{l:List Gl}{s:Sr}{ax:Int}:foG l s ax=true↔(1<=l.length/\l.length<=100)/\stB s ax=true/\∀i,i<l.length->foGx l s ax i=true:=by
 unfold foG;simp only[Bool.and_eq_true,qM,List.all_eq_true,List.mem_range]
def glB(x:Gl):LN:=be4 (((wrOB x.o).length:Nat):Int)++(wrOB x.o++(be4 (((tuBt x.ts).length:Nat):Int)++(tuBt x.ts++(be2 x.ab++(be2 x.ar++be1 (if x.mr then 1 else 0))))))
def glsB:List Gl->LN
 | []=>[]
 | x::l=>glB x++glsB l
theorem zaz(l m:List Gl):glsB (l++m)=glsB l++glsB m:=by
 induction l with
 | nil=>rfl
 | cons t l ih=>rw[List.cons_append,glsB,glsB,ih,qI]
theorem ze7(x:Gl):glsB [x]=glB x:=by rw[glsB,glsB,List.append_nil]
def gsB(l:List Gl):LN:=be2 ((l.length:Nat):Int)++glsB l
theorem zem(x:Gl):(glB x).length=13+(wrOB x.o).length+(tuBt x.ts).length:=by
 unfold glB;simp only[qA];rw[show ∀z,(be4 z).length=4 from fun _=>rfl,show ∀z,(be4 z).length=4 from fun _=>rfl,show ∀z,(be2 z).length=2 from fun _=>rfl,show ∀z,(be2 z).length=2 from fun _=>rfl,show ∀z,(be1 z).length=1 from fun _=>rfl];omega
def frE:List Gl->Int
 | []=>0
 | x::l=>if wrOE x.o=0 then frE l else wrOE x.o
theorem zfj(a b:List Gl):frE (a++b)=if frE a=0 then frE b else frE a:=by
 induction a with
 | nil=>rfl
 | cons x a ih =>
  rw[List.cons_append,frE,frE,ih];by_cases h:wrOE x.o=0
  . rw[if_pos h,if_pos h]
  . rw[if_neg h,if_neg h,if_neg h]
theorem zjy:∀ {l:List Gl},frE l=0 ↔ ∀x∈l,wrOE x.o=0:=by
 intro l
 induction l with
 | nil=>exact⟨(fun _ x hx=>by cases hx),(fun _=>rfl)⟩
 | cons x l ih =>
  rw[frE];by_cases h:wrOE x.o=0
  . rw[if_pos h,ih]
    exact⟨fun h1 y hy=>by
     rcases List.mem_cons.1 hy with rfl|hy
     . exact h
     . exact h1 y hy,fun h1 y hy=>h1 y (by simp[hy])⟩
  . rw[if_neg h]
    exact⟨fun h1=>absurd h1 h,fun h1=>absurd (h1 x (by simp)) h⟩
def wrGE(l:List Gl)(s:Sr)(ax:Int):Int:=if foG l s ax then (if frE l=0 then (if (gsB l).length<=1048576 then 0 else 3)else frE l)else 1
def wrGB(l:List Gl)(s:Sr)(ax:Int):LN:=if wrGE l s ax=0 then gsB l else []
theorem zbx{l:List Gl}{s:Sr}{ax:Int}:wrGE l s ax=0↔foG l s ax=true/\frE l=0/\(gsB l).length<=1048576:=by
 unfold wrGE;by_cases h1:foG l s ax=true
 . rw[if_pos h1]
   by_cases h2:frE l=0
   . rw[if_pos h2]
     by_cases h3:(gsB l).length<=1048576
     . rw[if_pos h3];exact⟨fun _=>⟨h1,h2,h3⟩,fun _=>rfl⟩
     . rw[if_neg h3];exact⟨fun h=>absurd h (by decide),fun h=>absurd h.2.2 h3⟩
   . rw[if_neg h2];exact⟨fun h=>absurd h h2,fun h=>absurd h.2.1 h2⟩
 . rw[if_neg h1];exact⟨fun h=>absurd h (by decide),fun h=>absurd h.1 h1⟩
def g1(b:LN)(p:Nat):Nat:=nmV b (p:Int) 4
def g2(b:LN)(p:Nat):Nat:=p+4+g1 b p
def g3(b:LN)(p:Nat):Nat:=nmV b (g2 b p:Int) 4
def g4(b:LN)(p:Nat):Nat:=g2 b p+4+g3 b p
def gOb(b:LN)(p:Nat):LN:=cutV b ((p+4:Nat):Int) (g1 b p:Int)
def gTb(b:LN)(p:Nat):LN:=cutV b ((g2 b p+4:Nat):Int) (g3 b p:Int)
def rdGl(b:LN)(ax:Int)(p:Nat):Option (Gl×Nat) :=
 if g4 b p+5<=b.length/\rdOE (gOb b p)=0/\rdTE (gTb b p) (rdOL (gOb b p)) ax=0 then
  some (⟨rdOL (gOb b p),rdTL (gTb b p) (rdOL (gOb b p)) ax,sx16 (nmV b (g4 b p:Int) 2),sx16 (nmV b ((g4 b p+2:Nat):Int) 2),decide (nmV b ((g4 b p+4:Nat):Int) 1=1)⟩,g4 b p+5)
 else none
def rdGk(b:LN)(ax:Int):Nat->Option (List Gl×Nat)
 | 0=>some ([],2)
 | k+1=>(rdGk b ax k).bind fun r=>(rdGl b ax r.2).bind fun t=>some (r.1++[t.1],t.2)
theorem zrj{b:LN}{ax:Int}{k:Nat}(h:rdGk b ax k=none):∀m,k<=m->rdGk b ax m=none:=by
 intro m
 induction m with
 | zero=>intro hm;rw[show k=0 by omega]at h;exact h
 | succ m ih =>
  intro hm;by_cases e:k=m+1
  . rw[<-e];exact h
  . rw[rdGk,ih (by omega)];rfl
theorem zjh{b:LN}{ax:Int}:∀ {k:Nat} {l:List Gl} {p:Nat},rdGk b ax k=some (l,p)->l.length=k:=by
 intro k
 induction k with
 | zero=>intro l p h;rw[rdGk]at h;injection h with h;injection h with h1 h2;rw[<-h1];rfl
 | succ k ih =>
  intro l p h;rw[rdGk]at h;cases hr:rdGk b ax k with
  | none=>rw[hr]at h;cases h
  | some r =>
   rw[hr]at h;cases ht:rdGl b ax r.2 with
   | none=>rw[Option.bind_some,ht]at h;cases h
   | some t =>
    rw[Option.bind_some,ht,Option.bind_some]at h;injection h with h;injection h with h1 h2
    rw[<-h1,qA,ih (l:=r.1) (p:=r.2) (by rw[hr])];rfl
theorem z1c{o:Ol}(h:wrOE o=0):rdOL (wrOB o)=o/\rdOE (wrOB o)=0:=by
 obtain⟨h1,h2⟩:=zno h;unfold rdOL rdOE;rw[if_pos h1,if_pos h1];exact⟨h2,rfl⟩
theorem zkv{b A Z:LN}{p:Nat}{x:Gl}{ax:Int}{s:Sr}(hb:b=A++(glB x++Z))(hp:A.length=p)(ho:wrOE x.o=0)(ht:foT x.o x.ts ax=true)(hf:fiS s x.ab x.ar=true):rdGl b ax p=some (x,p+(glB x).length):=by
 obtain⟨f1,f2⟩:=zs5.1 hf;have l1:=(zgs x.o).2;have l2:=zfc ht;obtain⟨r1,r2⟩:=z1c ho;obtain⟨t1,t2⟩:=zuq ht;obtain⟨X1,hX1⟩:∃X,wrOB x.o=X:=⟨_,rfl⟩;obtain⟨X2,hX2⟩:∃X,tuBt x.ts=X:=⟨_,rfl⟩;have hlen:=zem x;have e0:b=A++(be4 ((X1.length:Nat):Int)++(X1++(be4 ((X2.length:Nat):Int)++(X2++(be2 x.ab++(be2 x.ar++(be1 (if x.mr then 1 else 0)++Z))))))):=by rw[hb,glB,hX1,hX2];simp only[qI]
 rw[hX1]at l1 r1 r2 hlen;rw[hX2]at l2 t1 t2 hlen;have q1:g1 b p=X1.length:=by
  unfold g1;rw[zbl (n:=4) e0 hp rfl,zxq (by omega)]
 have e1:b=(A++be4 ((X1.length:Nat):Int))++(X1++(be4 ((X2.length:Nat):Int)++(X2++(be2 x.ab++(be2 x.ar++(be1 (if x.mr then 1 else 0)++Z)))))):=by rw[e0];simp only[qI]
 have q2:g2 b p=p+4+X1.length:=by unfold g2;rw[q1]
 have o1:gOb b p=X1:=by
  unfold gOb;rw[q1];exact zth e1 (by rw[qA,hp];rfl) rfl
 have e2:b=(A++(be4 ((X1.length:Nat):Int)++X1))++(be4 ((X2.length:Nat):Int)++(X2++(be2 x.ab++(be2 x.ar++(be1 (if x.mr then 1 else 0)++Z))))):=by rw[e0];simp only[qI]
 have k2:(A++(be4 ((X1.length:Nat):Int)++X1)).length=p+4+X1.length:=by
  rw[qA,qA,hp,show(be4 ((X1.length:Nat):Int)).length=4 from rfl];omega
 have q3:g3 b p=X2.length:=by
  unfold g3;rw[q2,zbl (n:=4) e2 k2 rfl,zxq (by omega)]
 have q4:g4 b p=p+4+X1.length+4+X2.length:=by unfold g4;rw[q2,q3]
 have e3:b=(A++(be4 ((X1.length:Nat):Int)++(X1++be4 ((X2.length:Nat):Int))))++(X2++(be2 x.ab++(be2 x.ar++(be1 (if x.mr then 1 else 0)++Z)))):=by rw[e0];simp only[qI]
 have k3:(A++(be4 ((X1.length:Nat):Int)++(X1++be4 ((X2.length:Nat):Int)))).length=p+4+X1.length+4:=by
  rw[qA,qA,qA,hp,show(be4 ((X1.length:Nat):Int)).length=4 from rfl,show(be4 ((X2.length:Nat):Int)).length=4 from rfl];omega
 have o2:gTb b p=X2:=by
  unfold gTb;rw[q3,q2];exact zth e3 k3 rfl
 have e4:b=(A++(be4 ((X1.length:Nat):Int)++(X1++(be4 ((X2.length:Nat):Int)++X2))))++(be2 x.ab++(be2 x.ar++(be1 (if x.mr then 1 else 0)++Z))):=by rw[e0];simp only[qI]
 have k4:(A++(be4 ((X1.length:Nat):Int)++(X1++(be4 ((X2.length:Nat):Int)++X2)))).length=p+4+X1.length+4+X2.length:=by
  rw[qA,qA,qA,qA,hp,show(be4 ((X1.length:Nat):Int)).length=4 from rfl,show(be4 ((X2.length:Nat):Int)).length=4 from rfl];omega
 have e5:b=(A++(be4 ((X1.length:Nat):Int)++(X1++(be4 ((X2.length:Nat):Int)++(X2++be2 x.ab)))))++(be2 x.ar++(be1 (if x.mr then 1 else 0)++Z)):=by rw[e0];simp only[qI]
 have e6:b=(A++(be4 ((X1.length:Nat):Int)++(X1++(be4 ((X2.length:Nat):Int)++(X2++(be2 x.ab++be2 x.ar))))))++(be1 (if x.mr then 1 else 0)++Z):=by rw[e0];simp only[qI]
 have k5:(A++(be4 ((X1.length:Nat):Int)++(X1++(be4 ((X2.length:Nat):Int)++(X2++be2 x.ab))))).length=p+4+X1.length+4+X2.length+2:=by
  have:=k4;simp only[qA]at this ⊢;rw[show(be2 x.ab).length=2 from rfl];omega
 have k6:(A++(be4 ((X1.length:Nat):Int)++(X1++(be4 ((X2.length:Nat):Int)++(X2++(be2 x.ab++be2 x.ar)))))).length=p+4+X1.length+4+X2.length+4:=by
  have:=k4;simp only[qA]at this ⊢;rw[show(be2 x.ab).length=2 from rfl,show(be2 x.ar).length=2 from rfl];omega
 have v1:sx16 (nmV b ((p+4+X1.length+4+X2.length:Nat):Int) 2)=x.ab:=by
  rw[zbl (n:=2) e4 k4 rfl];exact zeu f1.1 f1.2
 have v2:sx16 (nmV b ((p+4+X1.length+4+X2.length+2:Nat):Int) 2)=x.ar:=by
  rw[zbl (n:=2) e5 k5 rfl];exact zeu (by omega) (by omega)
 have v3:decide (nmV b ((p+4+X1.length+4+X2.length+4:Nat):Int) 1=1)=x.mr:=by
  rw[zbl (n:=1) e6 k6 rfl];cases x.mr <;> decide
 have hle:p+4+X1.length+4+X2.length+5<=b.length:=by
  have h1:=congrArg List.length e6;rw[qA,k6,qA,show(be1 (if x.mr then 1 else 0)).length=1 from rfl]at h1;omega
 unfold rdGl;rw[o1,o2,q4,r1,t1,v1,v2,v3,if_pos ⟨hle,r2,t2⟩];rw[show p+4+X1.length+4+X2.length+5=p+(glB x).length by omega]
theorem zrk{l:List Gl}{s:Sr}{ax:Int}(h:wrGE l s ax=0):∀k,k<=l.length->rdGk (gsB l) ax k=some (l.take k,2+(glsB (l.take k)).length):=by
 obtain⟨h1,h2,h3⟩:=zbx.1 h;obtain⟨h4,h5,h6⟩:=zbt.1 h1;intro k
 induction k with
 | zero=>intro _;rfl
 | succ k ih =>
  intro hk;rw[rdGk,ih (by omega)];simp only[Option.bind_some];have hgk:l.getD k Gl.none=l[k]:=by simp[List.getD,show k<l.length by omega]
  have hb:gsB l=(be2 ((l.length:Nat):Int)++glsB (l.take k))++(glB (l.getD k Gl.none)++glsB (l.drop (k+1))):=by
   have es:l=l.take k++l[k]::l.drop (k+1):=(by simp);unfold gsB;rw[qI];congr 1;rw[hgk]
   conv=>lhs;rw[es,zaz,glsB]
  obtain⟨f1,f2,f3,f4⟩:=zd5.1 (h6 k (by omega));rw[zkv hb (by rw[qA];rfl) (zjy.1 h2 _ (by rw[hgk];exact List.getElem_mem _)) f3 f4];simp only[Option.bind_some];rw[zak (d:=Gl.none) (by omega),zaz,ze7,qA,Nat.add_assoc]
def rdGOk(b:LN)(s:Sr)(ax:Int):Bool:=decide (nmV b 0 2<=100)&&(match rdGk b ax (nmV b 0 2)with | some r=>decide (wrGE r.1 s ax=0)&&decide (gsB r.1=b) | none=>false)
def rdGL(b:LN)(s:Sr)(ax:Int):List Gl:=if rdGOk b s ax=true then (match rdGk b ax (nmV b 0 2)with | some r=>r.1 | none=>[])else []
def rdGE(b:LN)(s:Sr)(ax:Int):Int:=if rdGOk b s ax=true then 0 else 2
theorem zrh{b:LN}{s:Sr}{ax:Int}(h:rdGOk b s ax=false):rdGL b s ax=[]/\rdGE b s ax=2:=by
 unfold rdGL rdGE;rw[h];exact⟨rfl,rfl⟩
theorem zku{b:LN}{s:Sr}{ax:Int}(h:¬nmV b 0 2<=100):rdGOk b s ax=false:=by unfold rdGOk;rw[qB h];rfl
theorem zkt{b:LN}{s:Sr}{ax:Int}{k:Nat}(h:rdGk b ax k=none)(hk:k<=nmV b 0 2):rdGOk b s ax=false:=by unfold rdGOk;rw[zrj h _ hk];simp
theorem zhm{b:LN}{s:Sr}{ax:Int}{l:List Gl}{p:Nat}(h:rdGk b ax (nmV b 0 2)=some (l,p))(hn:wrGE l s ax≠0\/gsB l≠b):rdGOk b s ax=false:=by
 unfold rdGOk;rw[h];rcases hn with hn|hn
 . simp[qB hn]
 . simp[qB hn]
theorem zks{b:LN}{s:Sr}{ax:Int}{l:List Gl}{p:Nat}(h:rdGk b ax (nmV b 0 2)=some (l,p))(hf:wrGE l s ax=0)(hb:gsB l=b):rdGL b s ax=l/\rdGE b s ax=0:=by
 have hl:=zjh h;have h3:=(zbt.1 (zbx.1 hf).1).1.2;have hk:rdGOk b s ax=true:=by
  unfold rdGOk;rw[qC (by omega),h];simp[hf,hb]
 unfold rdGL rdGE;rw[if_pos hk,if_pos hk,h];exact⟨rfl,rfl⟩
theorem zy8{l:List Gl}(h:l.length<=100):nmV (gsB l) 0 2=l.length:=by
 have:=zbl (b:=gsB l) (A:=[]) (X:=be2 ((l.length:Nat):Int)) (Z:=glsB l) (q:=0) (n:=2) rfl rfl rfl;rw[show((0:Nat):Int)=0 from rfl]at this;rw[this,z3v (by omega)]
theorem zyt{b:LN}{s:Sr}{ax:Int}(h:rdGOk b s ax=true):wrGE (rdGL b s ax) s ax=0/\gsB (rdGL b s ax)=b:=by
 unfold rdGL;rw[if_pos h];unfold rdGOk at h;rw[Bool.and_eq_true]at h;cases hr:rdGk b ax (nmV b 0 2) with
 | none=>rw[hr]at h;cases h.2
 | some r =>
  rw[hr]at h;have h5:=h.2;simp only[Bool.and_eq_true,qM]at h5;exact h5
open Go.RowKit Go.Maps
def Tzz(w:World)(a:OA)(cap:Nat)(g:List (List Te)):Prop :=
 g.length<=cap/\cap<=maxLen /\
 ∀i,i<g.length->∃b off a' cap',a=some ⟨b,off,none⟩/\b<w.heap.size/\w.cell? ⟨b,off+i,none⟩=some (.slice a' (g.getD i []).length cap')/\Tz w a' cap' (g.getD i [])
theorem Tzz.at{w wr:World}{a:OA}{cap:Nat}{m:List (List Te)}(h:Tzz w a cap m)(hb:Below w.heap.size w wr)(k:Nat)(hk:k<m.length) :
 ∃b off a' cap',a=some ⟨b,off,none⟩/\b<w.heap.size/\wr.cell? ⟨b,off+k,none⟩=some (.slice a' (m.getD k []).length cap')/\Tz wr a' cap' (m.getD k []):=by
 obtain⟨b,off,a',cap',h1,h2,h3,h4⟩:=h.2.2 k hk;exact⟨b,off,a',cap',h1,h2,(hb.cell (p:=⟨b,off+k,none⟩) h2).trans h3,h4.below hb⟩
theorem Tzz.below{w w':World}{a:OA}{cap:Nat}{m:List (List Te)}(h:Tzz w a cap m)(hb:Below w.heap.size w w'):Tzz w' a cap m:=by
 refine⟨h.1,h.2.1,fun i hi=>?_⟩;obtain⟨b,off,a',cap',h1,h2,h3⟩:=h.at hb i hi;exact⟨b,off,a',cap',h1,qN h2 hb.size,h3⟩
theorem Tzz.lenB{w:World}{a:OA}{cap:Nat}{m:List (List Te)}(h:Tzz w a cap m):m.length<=9223372036854775807:=by
 have h1:=h.1;have h2:=h.2.1;unfold maxLen at h2;omega
def Rii(w:World)(a:OA)(cap:Nat)(m:List (LI)):Prop :=
 m.length<=cap/\cap<=maxLen /\
 ∀i,i<m.length->∃b off a' cap',a=some ⟨b,off,none⟩/\b<w.heap.size/\w.cell? ⟨b,off+i,none⟩=some (.slice a' (m.getD i []).length cap')/\Ri w a' cap' (m.getD i [])
theorem Rii.at{w wr:World}{a:OA}{cap:Nat}{m:List (LI)}(h:Rii w a cap m)(hb:Below w.heap.size w wr)(k:Nat)(hk:k<m.length) :
 ∃b off a' cap',a=some ⟨b,off,none⟩/\b<w.heap.size/\wr.cell? ⟨b,off+k,none⟩=some (.slice a' (m.getD k []).length cap')/\Ri wr a' cap' (m.getD k []):=by
 obtain⟨b,off,a',cap',h1,h2,h3,h4⟩:=h.2.2 k hk;exact⟨b,off,a',cap',h1,h2,(hb.cell (p:=⟨b,off+k,none⟩) h2).trans h3,h4.below hb⟩
theorem Rii.below{w w':World}{a:OA}{cap:Nat}{m:List (LI)}(h:Rii w a cap m)(hb:Below w.heap.size w w'):Rii w' a cap m:=by
 refine⟨h.1,h.2.1,fun i hi=>?_⟩;obtain⟨b,off,a',cap',h1,h2,h3⟩:=h.at hb i hi;exact⟨b,off,a',cap',h1,qN h2 hb.size,h3⟩
theorem Rii.lenB{w:World}{a:OA}{cap:Nat}{m:List (LI)}(h:Rii w a cap m):m.length<=9223372036854775807:=by
 have h1:=h.1;have h2:=h.2.1;unfold maxLen at h2;omega
def BxS(w:World)(g:Nat)(x y:Value):Prop:=w.heap[g]?=some (.cells #[x,y] 26 (0,0))
theorem BxS.cells{w:World}{g:Nat}{x y:Value}(h:BxS w g x y) :
 w.cell? ⟨g,0,none⟩=some x/\w.cell? ⟨g,1,none⟩=some y/\w.frozen? ⟨g,0,none⟩=false/\w.frozen? ⟨g,1,none⟩=false :=
 ⟨cell_of_row w g 0 _ _ (0,0) h,cell_of_row w g 1 _ _ (0,0) h,frozen_of_row w g 0 _ _ h,frozen_of_row w g 1 _ _ h⟩
theorem BxS.lt{w:World}{g:Nat}{x y:Value}(h:BxS w g x y):g<w.heap.size:=(Array.getElem?_eq_some_iff.1 h).1
theorem BxS.below{w w':World}{g:Nat}{x y:Value}(h:BxS w g x y)(hb:Below w.heap.size w w'):BxS w' g x y:=(hb.block g h.lt).trans h
theorem BxS.new(w:World)(x y:Value):BxS (w.alloc (.cells #[x,y] 26)) w.heap.size x y:=heap_alloc_new w _
def BxL(w:World)(g:Nat)(x y:Value):Prop:=w.heap[g]?=some (.cells #[x,y] 60 (0,0))
theorem BxL.cells{w:World}{g:Nat}{x y:Value}(h:BxL w g x y) :
 w.cell? ⟨g,0,none⟩=some x/\w.cell? ⟨g,1,none⟩=some y/\w.frozen? ⟨g,0,none⟩=false/\w.frozen? ⟨g,1,none⟩=false :=
 ⟨cell_of_row w g 0 _ _ (0,0) h,cell_of_row w g 1 _ _ (0,0) h,frozen_of_row w g 0 _ _ h,frozen_of_row w g 1 _ _ h⟩
theorem BxL.lt{w:World}{g:Nat}{x y:Value}(h:BxL w g x y):g<w.heap.size:=(Array.getElem?_eq_some_iff.1 h).1
theorem BxL.below{w w':World}{g:Nat}{x y:Value}(h:BxL w g x y)(hb:Below w.heap.size w w'):BxL w' g x y:=(hb.block g h.lt).trans h
theorem BxL.new(w:World)(x y:Value):BxL (w.alloc (.cells #[x,y] 60)) w.heap.size x y:=heap_alloc_new w _
theorem BxL.new1(w:World)(o:Obj)(x y:Value):BxL ((w.alloc o).alloc (.cells #[x,y] 60)) (w.heap.size+1) x y:=by
 have h:=BxL.new (w.alloc o) x y;simpa using h
theorem zqg(z:Int):(IntKind.i16.wrap z==z)=fdB z:=by
 rw[zmw,fdB,Bool.eq_iff_iff,beq_iff_eq,qM];split <;> omega
theorem zf4(z:Int)(w:World)(hz:I64 z) :
 Calls Tryz.prog 105 #[.int .i64 z] w fun e w'=>e=.returned (.bool (fdB z))/\w=w':=by
 have HE:Hid ((IntKind.i16.wrap z==z)=fdB z):=zqg z;have h1:IntKind.i64.wrap (IntKind.i16.wrap z)=IntKind.i16.wrap z:=by rw[zmw];simp only[IntKind.wrap,IntKind.bits,IntKind.signed];split <;> (simp;omega)
 go_enter func105,ntmps105;go_wp2;go_ret;exact⟨zaa HE.out,rfl⟩
theorem zty{r:LI}{k:Nat}(hk:k<r.length)(h:fdB (r.getD k 0)=false):r.all fdB=false:=by
 rw[Bool.eq_false_iff];intro e;have:=List.all_eq_true.1 e (r.getD k 0) (by rw[qH,qG hk];exact List.getElem_mem hk);rw[h]at this;cases this
theorem zom{r:LI}(h:∀j,j<r.length->fdB (r.getD j 0)=true):r.all fdB=true:=by
 rw[List.all_eq_true];intro z hz;obtain⟨i,hi,e⟩:=List.getElem_of_mem hz;have:=h i hi;rw[qH,qG hi]at this;rw[<-e];exact this
theorem zp3(a:OA)(cap:Nat)(r:LI)(w:World)(h:Ri w a cap r) :
 Calls Tryz.prog 100 #[.slice a r.length cap] w fun e w'=>e=.returned (.bool (r.all fdB))/\Below w.heap.size w w':=by
 have k2:=h.lenB;have HH:Hid (Ri w a cap r):=h;clear h;go_enter func100,ntmps100;go_wp2
 go_loopw [7] (fun i wr=>∃k:Nat,k<=r.length/\i=.int .i64 k/\(∀j,j<k->fdB (r.getD j 0)=true)/\Below w.heap.size w wr) (fun i _=>r.length-(intOf i).toNat)
 case atStart=>exact⟨0,qD _,rfl,(fun j hj=>by omega),Below.refl _ _⟩
 case round =>
  obtain⟨k,hk,rfl,hok,hB⟩:=hrel;have HOK:Hid (∀j,j<k->fdB (r.getD j 0)=true):=hok;clear hok;by_cases hkn:k<r.length
  . obtain⟨b,off,ea,hb,d0⟩:=HH.out.at hB k hkn
    subst ea;have hz:=HH.out.i64 hkn;obtain⟨z,hzz⟩:∃z,r.getD k 0=z:=⟨_,rfl⟩;have HZ:Hid (r.getD k 0=z):=hzz;rw[hzz]at d0 hz;have hfo:=fun U=>zf4 z U hz;clear hzz;cases hf:fdB z with
    | false =>
     have HF:Hid (r.all fdB=false):=zty hkn (by rw[HZ.out];exact hf);simp only[hf]at hfo;clear hf HZ HOK;go_wp2_with fail
     refine(hfo _).mono ?_;rintro e u1 ⟨rfl,rfl⟩;go_wp2;go_ret;exact⟨zaa HF.out.symm,hB⟩
    | true =>
     have zb5:Hid (∀j,j<k+1->fdB (r.getD j 0)=true):=fun j hj=>by
      rcases Nat.lt_or_ge j k with h1|h1
      . exact HOK.out j h1
      . rw[show j=k by omega,HZ.out];exact hf
     simp only[hf]at hfo;clear hf HZ HOK;go_wp2_with fail
     refine(hfo _).mono ?_;rintro e u1 ⟨rfl,rfl⟩;go_wp2;go_roundw
     case rel=>exact⟨k+1,by omega,by go_num,zb5.out,hB⟩
     case measure=>simp[intOf];omega
  . obtain rfl:k=r.length:=by omega
    have HF:Hid (r.all fdB=true):=zom HOK.out;clear HOK;go_wp2;go_ret;exact⟨zaa HF.out.symm,hB⟩
def hrB(s:Sr)(i:Int):Bool:=decide (0<=i)&&decide (i<(s.rw.length:Int))
theorem zmo(x:Value)(b:OA)(cb:Nat)(s:Sr)(i:Int)(w:World)(hl:s.rw.length<=9223372036854775807)(hx:x.oneCell'=true) :
 Calls Tryz.prog 106 #[.agg #[x,.slice b s.rw.length cb],.int .i64 i] w fun e w'=>e=.returned (.bool (hrB s i))/\Below w.heap.size w w':=by
 by_cases h1:0<=i
 . have g1:decide (0<=i)=true:=qC h1
   have HE:Hid (hrB s i=decide (i<(s.rw.length:Int))):=(by show _=_;rw[hrB,g1,Bool.true_and]);go_enter func106,ntmps106;go_wp2;go_ret;exact⟨zaa HE.out.symm,bl1 _⟩
 . have g1:decide (0<=i)=false:=qB h1
   have HE:Hid (hrB s i=false):=(by show _=_;rw[hrB,g1,Bool.false_and]);go_enter func106,ntmps106;go_wp2;go_ret;exact⟨zaa HE.out.symm,bl1 _⟩
theorem zto(a:OA)(ca:Nat)(b:OA)(cb:Nat)(s:Sr)(x r:Int)(w:World)(hl:s.rw.length<=9223372036854775807)(hx:I64 x)(hr:I64 r) :
 Calls Tryz.prog 59 #[.agg #[.slice a s.rg.length ca,.slice b s.rw.length cb],.agg #[.int .i64 x,.int .i64 r]] w fun e w'=>e=.returned (.bool (fiS s x r))/\Below w.heap.size w w':=by
 obtain⟨W,hW,X1,X2,hbW⟩:∃W,W=(w.alloc (.cells #[.slice a s.rg.length ca,.slice b s.rw.length cb] 26)).alloc (.cells #[.int .i64 x,.int .i64 r] 60) /\
     BxS W w.heap.size (.slice a s.rg.length ca) (.slice b s.rw.length cb)/\BxL W (w.heap.size+1) (.int .i64 x) (.int .i64 r)/\Below w.heap.size w W:=⟨_,rfl,(BxS.new _ _ _).below (bl1 _),BxL.new1 _ _ _ _,bl2 _ _⟩
 have hif:=fun U=>zf4 x U hx;have hhr:=fun U=>zmo (.slice a s.rg.length ca) b cb s r U hl rfl;cases hf:fdB x with
 | false =>
  have HE:Hid (fiS s x r=false):=by show _=_;rw[fiS,hf,Bool.false_and]
  simp only[hf]at hif;clear hf;go_enter func59,ntmps59;go_wp2_with fail
  rw[<-hW];clear hW;refine(hif _).mono ?_;rintro e u1 ⟨rfl,rfl⟩;obtain⟨c0,c1,_⟩:=X1.cells;obtain⟨d0,d1,_⟩:=X2.cells;go_wp2;go_ret;exact⟨zaa HE.out.symm,hbW⟩
 | true =>
  simp only[hf]at hif;by_cases h1:r=-1
  . have HE:Hid (fiS s x r=true):=by show _=_;rw[fiS,hf,Bool.true_and,qC h1,Bool.true_or]
    have g1:(r == -1)=true:=(by simp[h1]);clear hf h1;go_enter func59,ntmps59;go_wp2_with fail
    rw[<-hW];clear hW;refine(hif _).mono ?_;rintro e u1 ⟨rfl,rfl⟩;obtain⟨c0,c1,_⟩:=X1.cells;obtain⟨d0,d1,_⟩:=X2.cells;go_wp2;go_ret;exact⟨zaa HE.out.symm,hbW⟩
  . have g1:(r == -1)=false:=by simp[h1]
    have HE:Hid (fiS s x r=(hrB s r&&decide (r<400))):=(by show _=_;rw[fiS,hf,Bool.true_and,qB h1,Bool.false_or,hrB,Bool.and_assoc]);clear hf h1;cases hh:hrB s r with
    | false =>
     have HE2:Hid (fiS s x r=false):=(by show _=_;rw[HE.out,hh,Bool.false_and]);simp only[hh]at hhr;clear hh;go_enter func59,ntmps59;go_wp2_with fail
     rw[<-hW];clear hW;refine(hif _).mono ?_;rintro e u1 ⟨rfl,rfl⟩;obtain⟨c0,c1,_⟩:=X1.cells;obtain⟨d0,d1,_⟩:=X2.cells;go_wp2_with fail
     refine(hhr _).mono ?_;rintro e u2 ⟨rfl,hb2⟩;replace X2:=X2.below hb2;replace hbW:=hbW.trans (hb2.mono hbW.size);clear c0 c1 d0 d1 hb2;obtain⟨d0,d1,_⟩:=X2.cells;go_wp2;go_ret;exact⟨zaa HE2.out.symm,hbW⟩
    | true =>
     have HE2:Hid (fiS s x r=decide (r<400)):=(by show _=_;rw[HE.out,hh,Bool.true_and]);simp only[hh]at hhr;clear hh;go_enter func59,ntmps59;go_wp2_with fail
     rw[<-hW];clear hW;refine(hif _).mono ?_;rintro e u1 ⟨rfl,rfl⟩;obtain⟨c0,c1,_⟩:=X1.cells;obtain⟨d0,d1,_⟩:=X2.cells;go_wp2_with fail
     refine(hhr _).mono ?_;rintro e u2 ⟨rfl,hb2⟩;replace X2:=X2.below hb2;replace hbW:=hbW.trans (hb2.mono hbW.size);clear c0 c1 d0 d1 hb2;obtain⟨d0,d1,_⟩:=X2.cells;go_wp2;go_ret;exact⟨zaa HE2.out.symm,hbW⟩
theorem zwu{s:Sr}{n:Int}(h:¬((0<=n/\n<=4)/\s.rg.length<=40/\s.rw.length<=400/\(∀l∈s.rg,rgB l n=true)/\(∀r∈s.rw,r.length=s.rg.length/\r.all fdB=true))):stB s n=false:=by
 rw[Bool.eq_false_iff];intro e;unfold stB roB at e;simp only[Bool.and_eq_true,qM,List.all_eq_true (p:=fun l=>rgB l n),List.all_eq_true (p:=fun(r:LI)=>decide (r.length=s.rg.length)&&r.all fdB)]at e;exact h e
theorem zqv{s:Sr}{n:Int}(h1:0<=n/\n<=4)(h2:s.rg.length<=40)(h3:s.rw.length<=400)(h4:∀j,j<s.rg.length->rgB (s.rg.getD j []) n=true)(h5:∀j,j<s.rw.length->(s.rw.getD j []).length=s.rg.length/\(s.rw.getD j []).all fdB=true):stB s n=true:=by
 unfold stB roB;simp only[Bool.and_eq_true,qM,List.all_eq_true (p:=fun l=>rgB l n),List.all_eq_true (p:=fun(r:LI)=>decide (r.length=s.rg.length)&&r.all fdB)];refine⟨h1,h2,h3,fun l hl=>?_,fun r hr=>?_⟩
 . obtain⟨i,hi,e⟩:=List.getElem_of_mem hl
   have:=h4 i hi;rw[getL hi,e]at this;exact this
 . obtain⟨i,hi,e⟩:=List.getElem_of_mem hr
   have:=h5 i hi;rw[getL hi,e]at this;exact this
theorem zpz(a:OA)(ca:Nat)(b:OA)(cb:Nat)(s:Sr)(n:Int)(w:World)(hg:Tzz w a ca s.rg)(hm:Rii w b cb s.rw) :
 Calls Tryz.prog 57 #[.agg #[.slice a s.rg.length ca,.slice b s.rw.length cb],.int .i64 n] w fun e w'=>e=.returned (.bool (stB s n))/\Below w.heap.size w w':=by
 have k1:=hg.lenB;have k2:=hm.lenB;have HNO:Hid (∀h:¬((0<=n/\n<=4)/\s.rg.length<=40/\s.rw.length<=400/\(∀l∈s.rg,rgB l n=true)/\(∀r∈s.rw,r.length=s.rg.length/\r.all fdB=true)),stB s n=false):=fun h=>zwu h;have HG:Hid (Tzz w a ca s.rg):=hg;have HM:Hid (Rii w b cb s.rw):=hm;clear hg hm;by_cases h1:n<0
 . have g1:decide (n<0)=true:=qC h1
   have HE:Hid (stB s n=false):=HNO.out (fun h=>by omega);go_enter func57,ntmps57;go_wp2;go_ret;exact⟨zaa HE.out.symm,bl1 _⟩
 have g1:decide (n<0)=false:=qB h1;by_cases h2:4<n
 . have g2:decide (4<n)=true:=qC h2
   have HE:Hid (stB s n=false):=HNO.out (fun h=>by omega);go_enter func57,ntmps57;go_wp2;go_ret;exact⟨zaa HE.out.symm,bl1 _⟩
 have g2:decide (4<n)=false:=qB h2;by_cases h3:40<s.rg.length
 . have g3:decide ((40:Int)<(s.rg.length:Int))=true:=qC (by omega)
   have HE:Hid (stB s n=false):=HNO.out (fun h=>by omega);go_enter func57,ntmps57;go_wp2;go_ret;exact⟨zaa HE.out.symm,bl1 _⟩
 have g3:decide ((40:Int)<(s.rg.length:Int))=false:=qB (by omega);by_cases h4:400<s.rw.length
 . have g4:decide ((400:Int)<(s.rw.length:Int))=true:=qC (by omega)
   have HE:Hid (stB s n=false):=HNO.out (fun h=>by omega);go_enter func57,ntmps57;go_wp2;go_ret;exact⟨zaa HE.out.symm,bl1 _⟩
 have g4:decide ((400:Int)<(s.rw.length:Int))=false:=qB (by omega);have HB:Hid ((0<=n/\n<=4)/\s.rg.length<=40/\s.rw.length<=400):=⟨⟨by omega,by omega⟩,by omega,by omega⟩;obtain⟨W,hW,X1,hbW⟩:∃W,W=w.alloc (.cells #[.slice a s.rg.length ca,.slice b s.rw.length cb] 26)/\BxS W w.heap.size (.slice a s.rg.length ca) (.slice b s.rw.length cb)/\Below w.heap.size w W:=⟨_,rfl,BxS.new _ _ _,bl1 _⟩;go_enter func57,ntmps57;go_wp2;rw[<-hW];clear hW
 go_loopw [30] (fun i wr=>∃k:Nat,k<=s.rg.length/\i=.int .i64 k/\(∀j,j<k->rgB (s.rg.getD j []) n=true)/\BxS wr w.heap.size (.slice a s.rg.length ca) (.slice b s.rw.length cb)/\Below w.heap.size w wr) (fun i _=>s.rg.length-(intOf i).toNat)
 case atStart=>exact⟨0,qD _,rfl,(fun j hj=>by omega),X1,hbW⟩
 case round =>
  clear X1 hbW;obtain⟨k,hk,rfl,hok,X1,hB⟩:=hrel;have HOK:Hid (∀j,j<k->rgB (s.rg.getD j []) n=true):=hok;clear hok;by_cases hkn:k<s.rg.length
  . obtain⟨b1,o1,a1,c1,ea,_,d0,hp⟩:=HG.out.at hB k hkn
    have zc5:=zgo hkn;have hrg:=zh5 a1 c1 (s.rg.getD k []) n wr hp;obtain⟨l,hl⟩:∃l,s.rg.getD k []=l:=⟨_,rfl⟩;have HL:Hid (s.rg.getD k []=l):=hl;rw[hl]at d0 zc5 hrg;subst ea;clear hl hp;cases hf:rgB l n with
    | false =>
     have HE:Hid (stB s n=false):=HNO.out (fun h=>by have:=h.2.2.2.1 l zc5;rw[hf]at this;cases this);rw[hf]at hrg;clear hf zc5 HL HOK X1;go_wp2_with fail
     refine hrg.mono ?_;rintro e u1 ⟨rfl,hb1⟩;replace hB:=hB.trans (hb1.mono hB.size);clear hb1 hrg;go_wp2;go_ret;exact⟨zaa HE.out.symm,hB⟩
    | true =>
     have zb5:Hid (∀j,j<k+1->rgB (s.rg.getD j []) n=true):=fun j hj=>by
      rcases Nat.lt_or_ge j k with h1|h1
      . exact HOK.out j h1
      . rw[show j=k by omega,HL.out];exact hf
     rw[hf]at hrg;clear hf zc5 HL HOK;go_wp2_with fail
     refine hrg.mono ?_;rintro e u1 ⟨rfl,hb1⟩;replace hB:=hB.trans (hb1.mono hB.size);replace X1:=X1.below hb1;clear hb1 hrg;go_wp2;go_roundw
     case rel=>exact⟨k+1,by omega,by go_num,zb5.out,X1,hB⟩
     case measure=>simp[intOf];omega
  . obtain rfl:k=s.rg.length:=by omega
    obtain⟨x0,x1,_⟩:=X1.cells;go_wp2
    go_loopw [42] (fun i wr=>∃k:Nat,k<=s.rw.length/\i=.int .i64 k/\(∀j,j<k->(s.rw.getD j []).length=s.rg.length/\(s.rw.getD j []).all fdB=true)/\BxS wr w.heap.size (.slice a s.rg.length ca) (.slice b s.rw.length cb)/\Below w.heap.size w wr) (fun i _=>s.rw.length-(intOf i).toNat)
    case atStart=>exact⟨0,qD _,rfl,(fun j hj=>by omega),X1,hB⟩
    case round =>
     clear X1 hB x0 x1 hk hkn;obtain⟨k,hk,rfl,hok,X1,hB⟩:=hrel;have zp9:Hid (∀j,j<k->(s.rw.getD j []).length=s.rg.length/\(s.rw.getD j []).all fdB=true):=hok;clear hok;by_cases hkn:k<s.rw.length
     . obtain⟨b1,o1,a1,c1,ea,_,d0,hp⟩:=HM.out.at hB k hkn
       have zc5:=zgo hkn;have hfl:=zp3 a1 c1 (s.rw.getD k []) wr hp;have hrl:=hp.lenB;obtain⟨r,hr⟩:∃r,s.rw.getD k []=r:=⟨_,rfl⟩;have HL:Hid (s.rw.getD k []=r):=hr;rw[hr]at d0 zc5 hfl hrl;subst ea;clear hr hp;obtain⟨x0,x1,_⟩:=X1.cells;by_cases hlen:r.length=s.rg.length;rotate_left
       . have HE:Hid (stB s n=false):=HNO.out (fun h=>hlen (h.2.2.2.2 r zc5).1)
         have g5:((r.length:Int) != (s.rg.length:Int))=true:=bne_iff_ne.2 (by omega);clear zc5 HL zp9 X1 hfl;go_wp2;go_ret;exact⟨zaa HE.out.symm,hB⟩
       have g5:((r.length:Int) != (s.rg.length:Int))=false:=(by simp[hlen]);cases hf:r.all fdB with
       | false =>
        have HE:Hid (stB s n=false):=HNO.out (fun h=>by have:=(h.2.2.2.2 r zc5).2;rw[hf]at this;cases this);rw[hf]at hfl;clear hf zc5 HL zp9 X1 hlen;go_wp2_with fail
        refine hfl.mono ?_;rintro e u1 ⟨rfl,hb1⟩;replace hB:=hB.trans (hb1.mono hB.size);clear hb1 hfl;go_wp2;go_ret;exact⟨zaa HE.out.symm,hB⟩
       | true =>
        have HOK4:Hid (∀j,j<k+1->(s.rw.getD j []).length=s.rg.length/\(s.rw.getD j []).all fdB=true):=fun j hj=>by
         rcases Nat.lt_or_ge j k with h1|h1
         . exact zp9.out j h1
         . rw[show j=k by omega,HL.out];exact⟨hlen,hf⟩
        rw[hf]at hfl;clear hf zc5 HL zp9 hlen;go_wp2_with fail
        refine hfl.mono ?_;rintro e u1 ⟨rfl,hb1⟩;replace hB:=hB.trans (hb1.mono hB.size);replace X1:=X1.below hb1;clear hb1 hfl;go_wp2;go_roundw
        case rel=>exact⟨k+1,by omega,by go_num,HOK4.out,X1,hB⟩
        case measure=>simp[intOf];omega
     . obtain rfl:k=s.rw.length:=by omega
       have HE:Hid (stB s n=true):=zqv HB.out.1 HB.out.2.1 HB.out.2.2 HOK.out zp9.out;clear HOK zp9;go_wp2;go_ret;exact⟨zaa HE.out.symm,hB⟩
