import Derived.Test.YtkmcodofnckdmaaGreatZK20
set_option maxHeartbeats 4000000
set_option maxRecDepth 100000
set_option linter.unusedSimpArgs false
set_option linter.unusedVariables false
namespace Go.Proofs.YtkmcodofnckdmaaGreat
theorem zis:∀(l:LI) (a:Int),ptF a l=true ↔ ∀i,i<l.length->(if i=0 then a else l.getD (i-1) 0)<l.getD i 0/\l.getD i 0<=65535:=by
 intro l
 induction l with
 | nil=>intro a;exact⟨fun _ i hi=>by simp at hi,fun _=>rfl⟩
 | cons x t ih =>
  intro a
  rw[ptF,Bool.and_eq_true,decide_eq_true_iff,ih]
  constructor
  . rintro ⟨h1,h2⟩ i hi
    cases i with
    | zero=>simpa using h1
    | succ i =>
     have:=h2 i (by simpa using hi)
     cases i with
     | zero=>simpa using this
     | succ i=>simpa using this
  . intro h
    refine⟨by simpa using h 0 (by simp),fun i hi=>?_⟩
    have:=h (i+1) (by simpa using hi)
    cases i with
    | zero=>simpa using this
    | succ i=>simpa using this
theorem z03{l:LI}(h:∀i,i<l.length->0<=l.getD i 0/\l.getD i 0<=65535/\(0<i->l.getD (i-1) 0<l.getD i 0)):ptB l=decide (l.length<=2000):=by
 unfold ptB
 rw[(zis l (-1)).2 (fun i hi=>by
  obtain⟨h1,h2,h3⟩:=h i hi
  split
  . omega
  . exact⟨h3 (by omega),h2⟩),Bool.true_and]
theorem zyw{l:LI}(h:ptB l=true){i:Nat}(hi:i<l.length):0<=l.getD i 0/\l.getD i 0<=65535/\(0<i->l.getD (i-1) 0<l.getD i 0):=by
 unfold ptB at h
 rw[Bool.and_eq_true]at h
 have key:=(zis l (-1)).1 h.1
 have hge:∀j,j<l.length->0<=l.getD j 0:=by
  intro j
  induction j with
  | zero=>intro hj;have:=key 0 hj;rw[if_pos rfl]at this;omega
  | succ j ih=>intro hj;have:=key (j+1) hj;have h2:=ih (by omega);rw[if_neg (by omega)]at this;simp only[Nat.add_sub_cancel]at this;omega
 have:=key i hi
 refine⟨hge i hi,this.2,fun h0=>?_⟩
 rw[if_neg (by omega)]at this
 exact this.1
theorem z5l{l:LI}{i:Nat}(hi:i<l.length)(h:l.getD i 0 < -32768\/32767<l.getD i 0):chB l=false:=by
 rw[Bool.eq_false_iff]
 intro e
 have:=(zdk.1 e).1 (l.getD i 0) (by rw[List.getD_eq_getElem?_getD,List.getElem?_eq_getElem hi];exact List.getElem_mem hi)
 unfold DC at this
 omega
theorem z3b{l:LI}(h:∀i,i<l.length->-32768<=l.getD i 0/\l.getD i 0<=32767):chB l=decide (l.length<=2000):=by
 unfold chB
 have:l.all (fun z=>decide (-32768<=z/\z<=32767))=true:=by
  rw[List.all_eq_true]
  intro z hz
  obtain⟨i,hi,e⟩:=List.getElem_of_mem hz
  have:=h i hi
  rw[List.getD_eq_getElem?_getD,List.getElem?_eq_getElem hi]at this
  rw[<-e]
  exact decide_eq_true this
 rw[this,Bool.true_and]
def stpK(l:LI)(k:Nat):LI:=(List.range k).map (fun i=>if i=0 then l.getD 0 0 else l.getD i 0-l.getD (i-1) 0)
theorem zm9(l:LI)(k:Nat):(stpK l k).length=k:=by simp[stpK]
theorem zra(l:LI)(k:Nat):stpK l (k+1)=stpK l k++[if k=0 then l.getD 0 0 else l.getD k 0-l.getD (k-1) 0]:=by simp[stpK,List.range_succ]
theorem zvj:∀(l:LI) (a:Int) (i:Nat),i<l.length->(stps a l).getD i 0=if i=0 then l.getD 0 0-a else l.getD i 0-l.getD (i-1) 0:=by
 intro l
 induction l with
 | nil=>intro a i hi;simp at hi
 | cons x t ih =>
  intro a i hi
  cases i with
  | zero=>rfl
  | succ i =>
   rw[stps,List.getD_cons_succ,ih x i (by simpa using hi)]
   cases i with
   | zero=>simp
   | succ i=>simp
theorem z0c(l:LI):stpK l l.length=stps 0 l:=by
 apply List.ext_getElem
 . rw[zm9,zb3]
 . intro i h1 h2
   rw[zb3]at h2
   have h:=zvj l 0 i h2
   rw[List.getD_eq_getElem?_getD,List.getElem?_eq_getElem (by rw[zb3];exact h2)]at h
   simp only[Option.getD_some]at h
   rw[h]
   simp only[stpK,List.getElem_map,List.getElem_range]
   split <;> simp
def tuE(t:Tu):LN:=tesE t.rg++(ppB t.pts++(pcB t.dx++pcB t.dy))
def tusE:List Tu->LN
 | []=>[]
 | t::l=>tuE t++tusE l
theorem zcq(l m:List Tu):tusE (l++m)=tusE l++tusE m:=by
 induction l with
 | nil=>rfl
 | cons t l ih=>rw[List.cons_append,tusE,tusE,ih,List.append_assoc]
theorem zm4(t:Tu):tusE [t]=tuE t:=by rw[tusE,tusE,List.append_nil]
def tuBt(l:List Tu):LN:=be2 ((l.length:Nat):Int)++tusE l
def wrTE(o:Ol)(l:List Tu)(ax:Int):Int:=if foT o l ax then 0 else 1
def wrTB(o:Ol)(l:List Tu)(ax:Int):LN:=if foT o l ax then tuBt l else []
theorem z0q{pts:LI}{n:Nat}(h:risB pts n=true)(hn:n<=2000):ptB pts=true:=by
 have hl:=zif h
 rw[z03 (fun i hi=>?_),decide_eq_true_iff]
 . omega
 . have h1:=zct i (fun j hj=>zcu.1 h j (by omega))
   refine⟨h1.1,by omega,fun h0=>?_⟩
   have h2:=zcu.1 h i hi
   unfold risP lastI at h2
   rw[if_neg (by omega)]at h2
   exact h2.1
theorem zqy{t:Tu}{n:Nat}{ax:Int}(h:tuB t n ax=true)(hn:n<=2000):ptB t.pts=true/\t.pts.length<=n/\t.al=decide (t.pts.length=0):=by
 obtain⟨_,h2,_⟩:=zd2.1 h
 cases ha:t.al with
 | true =>
  obtain⟨k1,_⟩:=(zi0 ha).1 h2
  rw[k1]
  exact⟨rfl,Nat.zero_le _,rfl⟩
 | false =>
  obtain⟨k0,k1,_⟩:=(zfx ha).1 h2
  exact⟨z0q k1 hn,zif k1,(decide_eq_false (by omega)).symm⟩
theorem zzg{l:LI}(h:l.all fdB=true)(hl:l.length<=2000):chB l=true:=zdk.2 ⟨fun z hz=>zce.1 (List.all_eq_true.1 h z hz),hl⟩
def cnN(cnt:Nat)(ps:LI):Nat:=if ps.length=0 then cnt else ps.length
theorem zqz{t:Tu}{n:Nat}{ax:Int}(h:tuB t n ax=true)(hn:n<=2000):chB t.dx=true/\chB t.dy=true/\t.dx.length=cnN n t.pts/\t.dy.length=cnN n t.pts/\t.dx.length<=n/\t.dy.length<=n:=by
 obtain⟨_,h2,h3,h4⟩:=zd2.1 h
 have hc:t.dx.length=cnN n t.pts/\t.dy.length=cnN n t.pts/\cnN n t.pts<=n:=by
  cases ha:t.al with
  | true =>
   obtain⟨k1,k2,k3⟩:=(zi0 ha).1 h2
   unfold cnN
   rw[k1]
   exact⟨by rw[k2];rfl,by rw[k3];rfl,Nat.le_refl _⟩
  | false =>
   obtain⟨k0,k1,k2,k3⟩:=(zfx ha).1 h2
   have:=zif k1
   unfold cnN
   rw[if_neg (by omega)]
   exact⟨k2,k3,this⟩
 obtain⟨c1,c2,c3⟩:=hc
 exact⟨zzg h3 (by omega),zzg h4 (by omega),c1,c2,by omega,by omega⟩
theorem zkg{l:LI}(h:ptB l=true):(ppB l).length<=3*l.length+2:=by
 obtain⟨h1,h2⟩:=zdf h
 have:=zit fitP (m:=3) (fun x _=>by show szP (kdP x)+1<=3;unfold szP;split <;> omega) _ (stps 0 l) rfl h1
 have h3:(cnE l.length).length<=2:=by unfold cnE;split <;> simp
 rw[zb3]at this;rw[ppB,if_pos h,List.length_append]
 omega
theorem zrr{l:List Te}{ax:Int}(h:rgB l ax=true):(l.length:Int)=ax/\l.all tfB=true:=by
 unfold rgB at h
 rw[Bool.and_eq_true,decide_eq_true_iff]at h
 exact⟨h.2,h.1⟩
theorem z3t{t:Tu}{n:Nat}{ax:Int}(h:tuB t n ax=true)(hn:n<=86)(hax:ax<=4):(tuE t).length<=800:=by
 obtain⟨p1,p2,_⟩:=zqy h (by omega)
 obtain⟨c1,c2,_,_,c3,c4⟩:=zqz h (by omega)
 have h1:=(zrr (zd2.1 h).1).1
 have h2:=zkg p1
 have h3:=zeg c1
 have h4:=zeg c2
 unfold tuE
 rw[List.length_append,List.length_append,List.length_append,zcr]
 omega
theorem zqw{o:Ol}{ax:Int}(ho:foB o=true)(hax:ax<=4):∀ {l:List Tu},(∀t∈l,tuB t (cntO o) ax=true)->(tusE l).length<=800*l.length:=by
 intro l
 induction l with
 | nil=>intro _;exact Nat.zero_le _
 | cons t l ih =>
  intro h
  have h1:=ih (fun x hx=>h x (by simp[hx]))
  have h2:=z3t (h t (by simp)) (zfl ho) hax
  rw[tusE,List.length_append,List.length_cons]
  omega
theorem zge{o:Ol}{l:List Tu}{ax:Int}(h:foT o l ax=true):(tuBt l).length<=33000:=by
 obtain⟨h1,h2,h3,h4⟩:=zbc.1 h
 have:=zqw h1 h2.2 (l:=l) (fun t ht=>by
  obtain⟨k,hk,e⟩:=List.getElem_of_mem ht
  have:=h4 k hk
  rw[List.getD_eq_getElem?_getD,List.getElem?_eq_getElem hk,Option.getD_some,e]at this
  exact this)
 unfold tuBt
 rw[List.length_append]
 have:(be2 ((l.length:Nat):Int)).length=2:=rfl
 omega
def rdTu(b:LN)(ax cnt p:Nat):Option (Tu×Nat) :=
 if p+6*ax<=b.length then
  (rpO (b.drop (p+6*ax))).bind fun r =>
   (rcO (b.drop (p+6*ax+r.2)) (cnN cnt r.1:Int)).bind fun x =>
    (rcO (b.drop (p+6*ax+r.2+x.2)) (cnN cnt r.1:Int)).bind fun y =>
     some (⟨tesAt b p ax,decide (r.1.length=0),r.1,x.1,y.1⟩,p+6*ax+r.2+x.2+y.2)
 else none
def rdK(b:LN)(ax cnt:Nat):Nat->Option (List Tu×Nat)
 | 0=>some ([],2)
 | k+1=>(rdK b ax cnt k).bind fun r=>(rdTu b ax cnt r.2).bind fun t=>some (r.1++[t.1],t.2)
theorem zv0{b:LN}{ax cnt k:Nat}(h:rdK b ax cnt k=none):∀m,k<=m->rdK b ax cnt m=none:=by
 intro m
 induction m with
 | zero=>intro hm;rw[show k=0 by omega]at h;exact h
 | succ m ih =>
  intro hm
  by_cases e:k=m+1
  . rw[<-e];exact h
  . rw[rdK,ih (by omega)];rfl
theorem zrw{b:LN}{ax cnt:Nat}:∀ {k:Nat} {l:List Tu} {p:Nat},rdK b ax cnt k=some (l,p)->l.length=k:=by
 intro k
 induction k with
 | zero=>intro l p h;rw[rdK]at h;injection h with h;injection h with h1 h2;rw[<-h1];rfl
 | succ k ih =>
  intro l p h
  rw[rdK]at h
  cases hr:rdK b ax cnt k with
  | none=>rw[hr]at h;cases h
  | some r =>
   rw[hr]at h
   cases ht:rdTu b ax cnt r.2 with
   | none=>rw[Option.bind_some,ht]at h;cases h
   | some t =>
    rw[Option.bind_some,ht,Option.bind_some]at h;injection h with h;injection h with h1 h2
    rw[<-h1,List.length_append,ih (l:=r.1) (p:=r.2) (by rw[hr])]
    rfl
theorem zru{b A Z:LN}{p cnt:Nat}{t:Tu}{ax:Int}(hb:b=A++(tuE t++Z))(hp:A.length=p)(h:tuB t cnt ax=true)(hn:cnt<=2000):rdTu b ax.toNat cnt p=some (t,p+(tuE t).length):=by
 obtain⟨p1,p2,p3⟩:=zqy h hn
 obtain⟨c1,c2,c3,c4,_⟩:=zqz h hn
 obtain⟨g1,g2⟩:=zrr (zd2.1 h).1
 have hax:ax.toNat=t.rg.length:=by omega
 have e0:b=A++(tesE t.rg++(ppB t.pts++(pcB t.dx++(pcB t.dy++Z)))):=by rw[hb,tuE];simp only[List.append_assoc]
 have d1:b.drop (p+6*t.rg.length)=ppB t.pts++(pcB t.dx++(pcB t.dy++Z)):=by
  rw[e0,<-List.append_assoc,List.drop_left' (by rw[List.length_append,zcr,hp])]
 have d2:b.drop (p+6*t.rg.length+(ppB t.pts).length)=pcB t.dx++(pcB t.dy++Z):=by
  rw[<-List.drop_drop,d1,List.drop_left]
 have d3:b.drop (p+6*t.rg.length+(ppB t.pts).length+(pcB t.dx).length)=pcB t.dy++Z:=by
  rw[<-List.drop_drop,d2,List.drop_left]
 have hT:tesAt b p t.rg.length=t.rg:=zq6 e0 hp g2
 have hle:p+6*t.rg.length<=b.length:=by
  rw[e0,List.length_append,List.length_append,zcr,hp]
  omega
 unfold rdTu
 rw[hax,if_pos hle,d1,z0m p1]
 simp only[Option.bind_some]
 rw[d2,<-c3,zr6 c1]
 simp only[Option.bind_some]
 rw[d3,c3,<-c4,zr6 c2]
 simp only[Option.bind_some]
 rw[hT,<-p3]
 congr 2
 unfold tuE
 rw[List.length_append,List.length_append,List.length_append,zcr]
 omega
theorem zv1{o:Ol}{l:List Tu}{ax:Int}(h:foT o l ax=true):∀k,k<=l.length->rdK (tuBt l) ax.toNat (cntO o) k=some (l.take k,2+(tusE (l.take k)).length):=by
 obtain⟨h1,h2,h3,h4⟩:=zbc.1 h
 have hcn:=zfl h1
 intro k
 induction k with
 | zero=>intro _;rfl
 | succ k ih =>
  intro hk
  rw[rdK,ih (by omega)]
  simp only[Option.bind_some]
  have hgk:l.getD k Tu.none=l[k]:=by simp[List.getD,show k<l.length by omega]
  have hb:tuBt l=(be2 ((l.length:Nat):Int)++tusE (l.take k))++(tuE (l.getD k Tu.none)++tusE (l.drop (k+1))):=by
   have es:l=l.take k++l[k]::l.drop (k+1):=by simp
   unfold tuBt
   rw[List.append_assoc]
   congr 1
   rw[hgk]
   conv=>lhs;rw[es,zcq,tusE]
  rw[zru hb (by rw[List.length_append];rfl) (h4 k (by omega)) (by omega)]
  simp only[Option.bind_some]
  rw[zaj (d:=Tu.none) (by omega),zcq,zm4,List.length_append,Nat.add_assoc]
def rdTOk(b:LN)(o:Ol)(ax:Int):Bool:=foT o [] ax&&(decide (nmV b 0 2<=40)&&(match rdK b ax.toNat (cntO o) (nmV b 0 2)with | some r=>foT o r.1 ax&&decide (tuBt r.1=b) | none=>false))
def rdTL(b:LN)(o:Ol)(ax:Int):List Tu:=if rdTOk b o ax=true then (match rdK b ax.toNat (cntO o) (nmV b 0 2)with | some r=>r.1 | none=>[])else []
def rdTE(b:LN)(o:Ol)(ax:Int):Int:=if rdTOk b o ax=true then 0 else 2
theorem z37{b:LN}{o:Ol}{ax:Int}(h:rdTOk b o ax=false):rdTL b o ax=[]/\rdTE b o ax=2:=by
 unfold rdTL rdTE
 rw[h]
 exact⟨rfl,rfl⟩
theorem zvw{b:LN}{o:Ol}{ax:Int}(h:foT o [] ax=false):rdTOk b o ax=false:=by unfold rdTOk;rw[h];rfl
theorem zvv{b:LN}{o:Ol}{ax:Int}(h:¬nmV b 0 2<=40):rdTOk b o ax=false:=by unfold rdTOk;rw[decide_eq_false h];simp
theorem zvu{b:LN}{o:Ol}{ax:Int}{k:Nat}(h:rdK b ax.toNat (cntO o) k=none)(hk:k<=nmV b 0 2):rdTOk b o ax=false:=by unfold rdTOk;rw[zv0 h _ hk];simp
theorem zvt{b:LN}{o:Ol}{ax:Int}{l:List Tu}{p:Nat}(h:rdK b ax.toNat (cntO o) (nmV b 0 2)=some (l,p))(hn:foT o l ax=false\/tuBt l≠b):rdTOk b o ax=false:=by
 unfold rdTOk
 rw[h]
 rcases hn with hn|hn
 . simp[hn]
 . simp[decide_eq_false hn]
theorem z2l{o:Ol}{l:List Tu}{ax:Int}(h:foT o l ax=true):foT o [] ax=true:=by
 obtain⟨h1,h2,h3,h4⟩:=zbc.1 h
 exact zbc.2 ⟨h1,h2,by simp,fun k hk=>by simp at hk⟩
theorem znl{b:LN}{o:Ol}{ax:Int}{l:List Tu}{p:Nat}(h:rdK b ax.toNat (cntO o) (nmV b 0 2)=some (l,p))(hf:foT o l ax=true)(hb:tuBt l=b):rdTL b o ax=l/\rdTE b o ax=0:=by
 have hl:=zrw h
 have h3:=(zbc.1 hf).2.2.1
 have hk:rdTOk b o ax=true:=by
  unfold rdTOk
  rw[z2l hf,decide_eq_true (by omega),h]
  simp[hf,hb]
 unfold rdTL rdTE
 rw[if_pos hk,if_pos hk,h]
 exact⟨rfl,rfl⟩
theorem z1e{l:List Tu}(h:l.length<=40):nmV (tuBt l) 0 2=l.length:=by
 have:=zbm (b:=tuBt l) (A:=[]) (X:=be2 ((l.length:Nat):Int)) (Z:=tusE l) (q:=0) (n:=2) rfl rfl rfl
 rw[show((0:Nat):Int)=0 from rfl]at this
 rw[this]
 have:=zur (z:=((l.length:Nat):Int)) (by omega) (by omega)
 omega
theorem zvx{o:Ol}{l:List Tu}{ax:Int}(h:foT o l ax=true):rdTL (tuBt l) o ax=l/\rdTE (tuBt l) o ax=0:=by
 have h3:=(zbc.1 h).2.2.1
 have hk:=zv1 h l.length (Nat.le_refl _)
 rw[List.take_length]at hk
 exact znl (by rw[z1e h3];exact hk) h rfl
theorem z36{b:LN}{o:Ol}{ax:Int}(h:rdTOk b o ax=true):foT o (rdTL b o ax) ax=true/\tuBt (rdTL b o ax)=b:=by
 unfold rdTL
 rw[if_pos h]
 unfold rdTOk at h
 rw[Bool.and_eq_true,Bool.and_eq_true]at h
 cases hr:rdK b ax.toNat (cntO o) (nmV b 0 2) with
 | none=>rw[hr]at h;cases h.2.2
 | some r =>
  rw[hr]at h
  have h5:=h.2.2
  simp only[Bool.and_eq_true,decide_eq_true_iff]at h5
  exact h5
def foGx(l:List Gl)(s:Sr)(ax:Int)(i:Nat):Bool:=(dq l 6 (i:Int)).isSome&&(decide (szG l (i:Int)<=2000)&&(foT (l.getD i Gl.none).o (l.getD i Gl.none).ts ax&&fiS s (l.getD i Gl.none).ab (l.getD i Gl.none).ar))
def foG(l:List Gl)(s:Sr)(ax:Int):Bool:=decide (1<=l.length/\l.length<=100)&&(stB s ax&&(List.range l.length).all (foGx l s ax))
theorem zf2{l:List Gl}{s:Sr}{ax:Int}{i:Nat}:foGx l s ax i=true↔(dq l 6 (i:Int)).isSome=true/\szG l (i:Int)<=2000/\foT (l.getD i Gl.none).o (l.getD i Gl.none).ts ax=true/\fiS s (l.getD i Gl.none).ab (l.getD i Gl.none).ar=true:=by
 unfold foGx
 simp only[Bool.and_eq_true,decide_eq_true_iff]
theorem zcd{l:List Gl}{s:Sr}{ax:Int}:foG l s ax=true↔(1<=l.length/\l.length<=100)/\stB s ax=true/\∀i,i<l.length->foGx l s ax i=true:=by
 unfold foG
 simp only[Bool.and_eq_true,decide_eq_true_iff,List.all_eq_true,List.mem_range]
def glB(x:Gl):LN:=be4 (((wrOB x.o).length:Nat):Int)++(wrOB x.o++(be4 (((tuBt x.ts).length:Nat):Int)++(tuBt x.ts++(be2 x.ab++(be2 x.ar++be1 (if x.mr then 1 else 0))))))
def glsB:List Gl->LN
 | []=>[]
 | x::l=>glB x++glsB l
theorem zbt(l m:List Gl):glsB (l++m)=glsB l++glsB m:=by
 induction l with
 | nil=>rfl
 | cons t l ih=>rw[List.cons_append,glsB,glsB,ih,List.append_assoc]
theorem zi6(x:Gl):glsB [x]=glB x:=by rw[glsB,glsB,List.append_nil]
def gsB(l:List Gl):LN:=be2 ((l.length:Nat):Int)++glsB l
theorem zi7(x:Gl):(glB x).length=13+(wrOB x.o).length+(tuBt x.ts).length:=by
 unfold glB
 simp only[List.length_append]
 rw[show ∀z,(be4 z).length=4 from fun _=>rfl,show ∀z,(be4 z).length=4 from fun _=>rfl,show ∀z,(be2 z).length=2 from fun _=>rfl,show ∀z,(be2 z).length=2 from fun _=>rfl,show ∀z,(be1 z).length=1 from fun _=>rfl]
 omega
def frE:List Gl->Int
 | []=>0
 | x::l=>if wrOE x.o=0 then frE l else wrOE x.o
theorem ze6(a b:List Gl):frE (a++b)=if frE a=0 then frE b else frE a:=by
 induction a with
 | nil=>rfl
 | cons x a ih =>
  rw[List.cons_append,frE,frE,ih]
  by_cases h:wrOE x.o=0
  . rw[if_pos h,if_pos h]
  . rw[if_neg h,if_neg h,if_neg h]
theorem zf0:∀ {l:List Gl},frE l=0 ↔ ∀x∈l,wrOE x.o=0:=by
 intro l
 induction l with
 | nil=>exact⟨(fun _ x hx=>by cases hx),(fun _=>rfl)⟩
 | cons x l ih =>
  rw[frE]
  by_cases h:wrOE x.o=0
  . rw[if_pos h,ih]
    exact⟨fun h1 y hy=>by
     rcases List.mem_cons.1 hy with rfl|hy
     . exact h
     . exact h1 y hy,fun h1 y hy=>h1 y (by simp[hy])⟩
  . rw[if_neg h]
    exact⟨fun h1=>absurd h1 h,fun h1=>absurd (h1 x (by simp)) h⟩
def wrGE(l:List Gl)(s:Sr)(ax:Int):Int:=if foG l s ax then (if frE l=0 then (if (gsB l).length<=1048576 then 0 else 3)else frE l)else 1
def wrGB(l:List Gl)(s:Sr)(ax:Int):LN:=if wrGE l s ax=0 then gsB l else []
theorem za3{l:List Gl}{s:Sr}{ax:Int}:wrGE l s ax=0↔foG l s ax=true/\frE l=0/\(gsB l).length<=1048576:=by
 unfold wrGE
 by_cases h1:foG l s ax=true
 . rw[if_pos h1]
   by_cases h2:frE l=0
   . rw[if_pos h2]
     by_cases h3:(gsB l).length<=1048576
     . rw[if_pos h3];exact⟨fun _=>⟨h1,h2,h3⟩,fun _=>rfl⟩
     . rw[if_neg h3];exact⟨fun h=>absurd h (by decide),fun h=>absurd h.2.2 h3⟩
   . rw[if_neg h2];exact⟨fun h=>absurd h h2,fun h=>absurd h.2.1 h2⟩
 . rw[if_neg h1];exact⟨fun h=>absurd h (by decide),fun h=>absurd h.1 h1⟩
def g1(b:LN)(p:Nat):Nat:=nmV b (p:Int) 4
def g2(b:LN)(p:Nat):Nat:=p+4+g1 b p
def g3(b:LN)(p:Nat):Nat:=nmV b (g2 b p:Int) 4
def g4(b:LN)(p:Nat):Nat:=g2 b p+4+g3 b p
def gOb(b:LN)(p:Nat):LN:=cutV b ((p+4:Nat):Int) (g1 b p:Int)
def gTb(b:LN)(p:Nat):LN:=cutV b ((g2 b p+4:Nat):Int) (g3 b p:Int)
def rdGl(b:LN)(ax:Int)(p:Nat):Option (Gl×Nat) :=
 if g4 b p+5<=b.length/\rdOE (gOb b p)=0/\rdTE (gTb b p) (rdOL (gOb b p)) ax=0 then
  some (⟨rdOL (gOb b p),rdTL (gTb b p) (rdOL (gOb b p)) ax,sx16 (nmV b (g4 b p:Int) 2),sx16 (nmV b ((g4 b p+2:Nat):Int) 2),decide (nmV b ((g4 b p+4:Nat):Int) 1=1)⟩,g4 b p+5)
 else none
def rdGk(b:LN)(ax:Int):Nat->Option (List Gl×Nat)
 | 0=>some ([],2)
 | k+1=>(rdGk b ax k).bind fun r=>(rdGl b ax r.2).bind fun t=>some (r.1++[t.1],t.2)
theorem zr4{b:LN}{ax:Int}{k:Nat}(h:rdGk b ax k=none):∀m,k<=m->rdGk b ax m=none:=by
 intro m
 induction m with
 | zero=>intro hm;rw[show k=0 by omega]at h;exact h
 | succ m ih =>
  intro hm
  by_cases e:k=m+1
  . rw[<-e];exact h
  . rw[rdGk,ih (by omega)];rfl
theorem zim{b:LN}{ax:Int}:∀ {k:Nat} {l:List Gl} {p:Nat},rdGk b ax k=some (l,p)->l.length=k:=by
 intro k
 induction k with
 | zero=>intro l p h;rw[rdGk]at h;injection h with h;injection h with h1 h2;rw[<-h1];rfl
 | succ k ih =>
  intro l p h
  rw[rdGk]at h
  cases hr:rdGk b ax k with
  | none=>rw[hr]at h;cases h
  | some r =>
   rw[hr]at h
   cases ht:rdGl b ax r.2 with
   | none=>rw[Option.bind_some,ht]at h;cases h
   | some t =>
    rw[Option.bind_some,ht,Option.bind_some]at h;injection h with h;injection h with h1 h2
    rw[<-h1,List.length_append,ih (l:=r.1) (p:=r.2) (by rw[hr])]
    rfl
theorem z38{o:Ol}(h:wrOE o=0):rdOL (wrOB o)=o/\rdOE (wrOB o)=0:=by
 obtain⟨h1,h2⟩:=znn h
 unfold rdOL rdOE
 rw[if_pos h1,if_pos h1]
 exact⟨h2,rfl⟩
theorem zj9{b A Z:LN}{p:Nat}{x:Gl}{ax:Int}{s:Sr}(hb:b=A++(glB x++Z))(hp:A.length=p)(ho:wrOE x.o=0)(ht:foT x.o x.ts ax=true)(hf:fiS s x.ab x.ar=true):rdGl b ax p=some (x,p+(glB x).length):=by
 obtain⟨f1,f2⟩:=zts.1 hf
 have l1:=(zjl x.o).2
 have l2:=zge ht
 obtain⟨r1,r2⟩:=z38 ho
 obtain⟨t1,t2⟩:=zvx ht
 obtain⟨X1,hX1⟩:∃X,wrOB x.o=X:=⟨_,rfl⟩
 obtain⟨X2,hX2⟩:∃X,tuBt x.ts=X:=⟨_,rfl⟩
 have hlen:=zi7 x
 have e0:b=A++(be4 ((X1.length:Nat):Int)++(X1++(be4 ((X2.length:Nat):Int)++(X2++(be2 x.ab++(be2 x.ar++(be1 (if x.mr then 1 else 0)++Z))))))):=by rw[hb,glB,hX1,hX2];simp only[List.append_assoc]
 rw[hX1]at l1 r1 r2 hlen;rw[hX2]at l2 t1 t2 hlen
 have q1:g1 b p=X1.length:=by
  unfold g1
  rw[zbm (n:=4) e0 hp rfl,zzp (by omega)]
 have e1:b=(A++be4 ((X1.length:Nat):Int))++(X1++(be4 ((X2.length:Nat):Int)++(X2++(be2 x.ab++(be2 x.ar++(be1 (if x.mr then 1 else 0)++Z)))))):=by rw[e0];simp only[List.append_assoc]
 have q2:g2 b p=p+4+X1.length:=by unfold g2;rw[q1]
 have o1:gOb b p=X1:=by
  unfold gOb
  rw[q1]
  exact zt7 e1 (by rw[List.length_append,hp];rfl) rfl
 have e2:b=(A++(be4 ((X1.length:Nat):Int)++X1))++(be4 ((X2.length:Nat):Int)++(X2++(be2 x.ab++(be2 x.ar++(be1 (if x.mr then 1 else 0)++Z))))):=by rw[e0];simp only[List.append_assoc]
 have k2:(A++(be4 ((X1.length:Nat):Int)++X1)).length=p+4+X1.length:=by
  rw[List.length_append,List.length_append,hp,show(be4 ((X1.length:Nat):Int)).length=4 from rfl]
  omega
 have q3:g3 b p=X2.length:=by
  unfold g3
  rw[q2,zbm (n:=4) e2 k2 rfl,zzp (by omega)]
 have q4:g4 b p=p+4+X1.length+4+X2.length:=by unfold g4;rw[q2,q3]
 have e3:b=(A++(be4 ((X1.length:Nat):Int)++(X1++be4 ((X2.length:Nat):Int))))++(X2++(be2 x.ab++(be2 x.ar++(be1 (if x.mr then 1 else 0)++Z)))):=by rw[e0];simp only[List.append_assoc]
 have k3:(A++(be4 ((X1.length:Nat):Int)++(X1++be4 ((X2.length:Nat):Int)))).length=p+4+X1.length+4:=by
  rw[List.length_append,List.length_append,List.length_append,hp,show(be4 ((X1.length:Nat):Int)).length=4 from rfl,show(be4 ((X2.length:Nat):Int)).length=4 from rfl]
  omega
 have o2:gTb b p=X2:=by
  unfold gTb
  rw[q3,q2]
  exact zt7 e3 k3 rfl
 have e4:b=(A++(be4 ((X1.length:Nat):Int)++(X1++(be4 ((X2.length:Nat):Int)++X2))))++(be2 x.ab++(be2 x.ar++(be1 (if x.mr then 1 else 0)++Z))):=by rw[e0];simp only[List.append_assoc]
 have k4:(A++(be4 ((X1.length:Nat):Int)++(X1++(be4 ((X2.length:Nat):Int)++X2)))).length=p+4+X1.length+4+X2.length:=by
  rw[List.length_append,List.length_append,List.length_append,List.length_append,hp,show(be4 ((X1.length:Nat):Int)).length=4 from rfl,show(be4 ((X2.length:Nat):Int)).length=4 from rfl]
  omega
 have e5:b=(A++(be4 ((X1.length:Nat):Int)++(X1++(be4 ((X2.length:Nat):Int)++(X2++be2 x.ab)))))++(be2 x.ar++(be1 (if x.mr then 1 else 0)++Z)):=by rw[e0];simp only[List.append_assoc]
 have e6:b=(A++(be4 ((X1.length:Nat):Int)++(X1++(be4 ((X2.length:Nat):Int)++(X2++(be2 x.ab++be2 x.ar))))))++(be1 (if x.mr then 1 else 0)++Z):=by rw[e0];simp only[List.append_assoc]
 have k5:(A++(be4 ((X1.length:Nat):Int)++(X1++(be4 ((X2.length:Nat):Int)++(X2++be2 x.ab))))).length=p+4+X1.length+4+X2.length+2:=by
  have:=k4
  simp only[List.length_append]at this ⊢
  rw[show(be2 x.ab).length=2 from rfl]
  omega
 have k6:(A++(be4 ((X1.length:Nat):Int)++(X1++(be4 ((X2.length:Nat):Int)++(X2++(be2 x.ab++be2 x.ar)))))).length=p+4+X1.length+4+X2.length+4:=by
  have:=k4
  simp only[List.length_append]at this ⊢
  rw[show(be2 x.ab).length=2 from rfl,show(be2 x.ar).length=2 from rfl]
  omega
 have v1:sx16 (nmV b ((p+4+X1.length+4+X2.length:Nat):Int) 2)=x.ab:=by
  rw[zbm (n:=2) e4 k4 rfl]
  exact zec f1.1 f1.2
 have v2:sx16 (nmV b ((p+4+X1.length+4+X2.length+2:Nat):Int) 2)=x.ar:=by
  rw[zbm (n:=2) e5 k5 rfl]
  exact zec (by omega) (by omega)
 have v3:decide (nmV b ((p+4+X1.length+4+X2.length+4:Nat):Int) 1=1)=x.mr:=by
  rw[zbm (n:=1) e6 k6 rfl]
  cases x.mr <;> decide
 have hle:p+4+X1.length+4+X2.length+5<=b.length:=by
  have h1:=congrArg List.length e6
  rw[List.length_append,k6,List.length_append,show(be1 (if x.mr then 1 else 0)).length=1 from rfl]at h1
  omega
 unfold rdGl
 rw[o1,o2,q4,r1,t1,v1,v2,v3,if_pos ⟨hle,r2,t2⟩]
 rw[show p+4+X1.length+4+X2.length+5=p+(glB x).length by omega]
theorem zgq{l:List Gl}{s:Sr}{ax:Int}(h:wrGE l s ax=0):∀k,k<=l.length->rdGk (gsB l) ax k=some (l.take k,2+(glsB (l.take k)).length):=by
 obtain⟨h1,h2,h3⟩:=za3.1 h
 obtain⟨h4,h5,h6⟩:=zcd.1 h1
 intro k
 induction k with
 | zero=>intro _;rfl
 | succ k ih =>
  intro hk
  rw[rdGk,ih (by omega)]
  simp only[Option.bind_some]
  have hgk:l.getD k Gl.none=l[k]:=by simp[List.getD,show k<l.length by omega]
  have hb:gsB l=(be2 ((l.length:Nat):Int)++glsB (l.take k))++(glB (l.getD k Gl.none)++glsB (l.drop (k+1))):=by
   have es:l=l.take k++l[k]::l.drop (k+1):=by simp
   unfold gsB
   rw[List.append_assoc]
   congr 1
   rw[hgk]
   conv=>lhs;rw[es,zbt,glsB]
  obtain⟨f1,f2,f3,f4⟩:=zf2.1 (h6 k (by omega))
  rw[zj9 hb (by rw[List.length_append];rfl) (zf0.1 h2 _ (by rw[hgk];exact List.getElem_mem _)) f3 f4]
  simp only[Option.bind_some]
  rw[zaj (d:=Gl.none) (by omega),zbt,zi6,List.length_append,Nat.add_assoc]
def rdGOk(b:LN)(s:Sr)(ax:Int):Bool:=decide (nmV b 0 2<=100)&&(match rdGk b ax (nmV b 0 2)with | some r=>decide (wrGE r.1 s ax=0)&&decide (gsB r.1=b) | none=>false)
def rdGL(b:LN)(s:Sr)(ax:Int):List Gl:=if rdGOk b s ax=true then (match rdGk b ax (nmV b 0 2)with | some r=>r.1 | none=>[])else []
def rdGE(b:LN)(s:Sr)(ax:Int):Int:=if rdGOk b s ax=true then 0 else 2
theorem zln{b:LN}{s:Sr}{ax:Int}(h:rdGOk b s ax=false):rdGL b s ax=[]/\rdGE b s ax=2:=by
 unfold rdGL rdGE
 rw[h]
 exact⟨rfl,rfl⟩
theorem zr0{b:LN}{s:Sr}{ax:Int}(h:¬nmV b 0 2<=100):rdGOk b s ax=false:=by unfold rdGOk;rw[decide_eq_false h];rfl
theorem zrz{b:LN}{s:Sr}{ax:Int}{k:Nat}(h:rdGk b ax k=none)(hk:k<=nmV b 0 2):rdGOk b s ax=false:=by unfold rdGOk;rw[zr4 h _ hk];simp
theorem zry{b:LN}{s:Sr}{ax:Int}{l:List Gl}{p:Nat}(h:rdGk b ax (nmV b 0 2)=some (l,p))(hn:wrGE l s ax≠0\/gsB l≠b):rdGOk b s ax=false:=by
 unfold rdGOk
 rw[h]
 rcases hn with hn|hn
 . simp[decide_eq_false hn]
 . simp[decide_eq_false hn]
theorem zj8{b:LN}{s:Sr}{ax:Int}{l:List Gl}{p:Nat}(h:rdGk b ax (nmV b 0 2)=some (l,p))(hf:wrGE l s ax=0)(hb:gsB l=b):rdGL b s ax=l/\rdGE b s ax=0:=by
 have hl:=zim h
 have h3:=(zcd.1 (za3.1 hf).1).1.2
 have hk:rdGOk b s ax=true:=by
  unfold rdGOk
  rw[decide_eq_true (by omega),h]
  simp[hf,hb]
 unfold rdGL rdGE
 rw[if_pos hk,if_pos hk,h]
 exact⟨rfl,rfl⟩
theorem zlt{l:List Gl}(h:l.length<=100):nmV (gsB l) 0 2=l.length:=by
 have:=zbm (b:=gsB l) (A:=[]) (X:=be2 ((l.length:Nat):Int)) (Z:=glsB l) (q:=0) (n:=2) rfl rfl rfl
 rw[show((0:Nat):Int)=0 from rfl]at this
 rw[this,z5s (by omega)]
theorem zr1{l:List Gl}{s:Sr}{ax:Int}(h:wrGE l s ax=0):rdGL (gsB l) s ax=l/\rdGE (gsB l) s ax=0:=by
 have h3:=(zcd.1 (za3.1 h).1).1.2
 have hk:=zgq h l.length (Nat.le_refl _)
 rw[List.take_length]at hk
 exact zj8 (by rw[zlt h3];exact hk) h rfl
theorem zrx{b:LN}{s:Sr}{ax:Int}(h:rdGOk b s ax=true):wrGE (rdGL b s ax) s ax=0/\gsB (rdGL b s ax)=b:=by
 unfold rdGL
 rw[if_pos h]
 unfold rdGOk at h
 rw[Bool.and_eq_true]at h
 cases hr:rdGk b ax (nmV b 0 2) with
 | none=>rw[hr]at h;cases h.2
 | some r =>
  rw[hr]at h
  have h5:=h.2
  simp only[Bool.and_eq_true,decide_eq_true_iff]at h5
  exact h5
open Go.RowKit Go.Maps
def Tzz(w:World)(a:OA)(cap:Nat)(g:List (List Te)):Prop :=
 g.length<=cap/\cap<=maxLen /\
 ∀i,i<g.length->∃b off a' cap',a=some ⟨b,off,none⟩/\b<w.heap.size/\w.cell? ⟨b,off+i,none⟩=some (.slice a' (g.getD i []).length cap')/\Tz w a' cap' (g.getD i [])
theorem Tzz.at{w wr:World}{a:OA}{cap:Nat}{m:List (List Te)}(h:Tzz w a cap m)(hb:Below w.heap.size w wr)(k:Nat)(hk:k<m.length) :
 ∃b off a' cap',a=some ⟨b,off,none⟩/\b<w.heap.size/\wr.cell? ⟨b,off+k,none⟩=some (.slice a' (m.getD k []).length cap')/\Tz wr a' cap' (m.getD k []):=by
 obtain⟨b,off,a',cap',h1,h2,h3,h4⟩:=h.2.2 k hk
 exact⟨b,off,a',cap',h1,h2,(hb.cell (p:=⟨b,off+k,none⟩) h2).trans h3,h4.below hb⟩
theorem Tzz.below{w w':World}{a:OA}{cap:Nat}{m:List (List Te)}(h:Tzz w a cap m)(hb:Below w.heap.size w w'):Tzz w' a cap m:=by
 refine⟨h.1,h.2.1,fun i hi=>?_⟩
 obtain⟨b,off,a',cap',h1,h2,h3⟩:=h.at hb i hi
 exact⟨b,off,a',cap',h1,Nat.lt_of_lt_of_le h2 hb.size,h3⟩
theorem Tzz.lenB{w:World}{a:OA}{cap:Nat}{m:List (List Te)}(h:Tzz w a cap m):m.length<=9223372036854775807:=by
 have h1:=h.1
 have h2:=h.2.1
 unfold maxLen at h2
 omega
def Rii(w:World)(a:OA)(cap:Nat)(m:List (LI)):Prop :=
 m.length<=cap/\cap<=maxLen /\
 ∀i,i<m.length->∃b off a' cap',a=some ⟨b,off,none⟩/\b<w.heap.size/\w.cell? ⟨b,off+i,none⟩=some (.slice a' (m.getD i []).length cap')/\Ri w a' cap' (m.getD i [])
theorem Rii.at{w wr:World}{a:OA}{cap:Nat}{m:List (LI)}(h:Rii w a cap m)(hb:Below w.heap.size w wr)(k:Nat)(hk:k<m.length) :
 ∃b off a' cap',a=some ⟨b,off,none⟩/\b<w.heap.size/\wr.cell? ⟨b,off+k,none⟩=some (.slice a' (m.getD k []).length cap')/\Ri wr a' cap' (m.getD k []):=by
 obtain⟨b,off,a',cap',h1,h2,h3,h4⟩:=h.2.2 k hk
 exact⟨b,off,a',cap',h1,h2,(hb.cell (p:=⟨b,off+k,none⟩) h2).trans h3,h4.below hb⟩
theorem Rii.below{w w':World}{a:OA}{cap:Nat}{m:List (LI)}(h:Rii w a cap m)(hb:Below w.heap.size w w'):Rii w' a cap m:=by
 refine⟨h.1,h.2.1,fun i hi=>?_⟩
 obtain⟨b,off,a',cap',h1,h2,h3⟩:=h.at hb i hi
 exact⟨b,off,a',cap',h1,Nat.lt_of_lt_of_le h2 hb.size,h3⟩
theorem Rii.lenB{w:World}{a:OA}{cap:Nat}{m:List (LI)}(h:Rii w a cap m):m.length<=9223372036854775807:=by
 have h1:=h.1
 have h2:=h.2.1
 unfold maxLen at h2
 omega
def BxS(w:World)(g:Nat)(x y:Value):Prop:=w.heap[g]?=some (.cells #[x,y] 26 (0,0))
theorem BxS.cells{w:World}{g:Nat}{x y:Value}(h:BxS w g x y) :
 w.cell? ⟨g,0,none⟩=some x/\w.cell? ⟨g,1,none⟩=some y/\w.frozen? ⟨g,0,none⟩=false/\w.frozen? ⟨g,1,none⟩=false :=
 ⟨cell_of_row w g 0 _ _ (0,0) h,cell_of_row w g 1 _ _ (0,0) h,frozen_of_row w g 0 _ _ h,frozen_of_row w g 1 _ _ h⟩
theorem BxS.lt{w:World}{g:Nat}{x y:Value}(h:BxS w g x y):g<w.heap.size:=(Array.getElem?_eq_some_iff.1 h).1
theorem BxS.below{w w':World}{g:Nat}{x y:Value}(h:BxS w g x y)(hb:Below w.heap.size w w'):BxS w' g x y:=(hb.block g h.lt).trans h
theorem BxS.new(w:World)(x y:Value):BxS (w.alloc (.cells #[x,y] 26)) w.heap.size x y:=heap_alloc_new w _
def BxL(w:World)(g:Nat)(x y:Value):Prop:=w.heap[g]?=some (.cells #[x,y] 60 (0,0))
theorem BxL.cells{w:World}{g:Nat}{x y:Value}(h:BxL w g x y) :
 w.cell? ⟨g,0,none⟩=some x/\w.cell? ⟨g,1,none⟩=some y/\w.frozen? ⟨g,0,none⟩=false/\w.frozen? ⟨g,1,none⟩=false :=
 ⟨cell_of_row w g 0 _ _ (0,0) h,cell_of_row w g 1 _ _ (0,0) h,frozen_of_row w g 0 _ _ h,frozen_of_row w g 1 _ _ h⟩
theorem BxL.lt{w:World}{g:Nat}{x y:Value}(h:BxL w g x y):g<w.heap.size:=(Array.getElem?_eq_some_iff.1 h).1
theorem BxL.below{w w':World}{g:Nat}{x y:Value}(h:BxL w g x y)(hb:Below w.heap.size w w'):BxL w' g x y:=(hb.block g h.lt).trans h
theorem BxL.new(w:World)(x y:Value):BxL (w.alloc (.cells #[x,y] 60)) w.heap.size x y:=heap_alloc_new w _
theorem BxL.new1(w:World)(o:Obj)(x y:Value):BxL ((w.alloc o).alloc (.cells #[x,y] 60)) (w.heap.size+1) x y:=by
 have h:=BxL.new (w.alloc o) x y
 simpa using h
theorem zqq(z:Int):(IntKind.i16.wrap z==z)=fdB z:=by
 rw[zh4,fdB,Bool.eq_iff_iff,beq_iff_eq,decide_eq_true_iff]
 split <;> omega
theorem zfm(z:Int)(w:World)(hz:I64 z) :
 Calls Tryz.prog 105 #[.int .i64 z] w fun e w'=>e=.returned (.bool (fdB z))/\w=w':=by
 have HE:Hid ((IntKind.i16.wrap z==z)=fdB z):=zqq z
 have h1:IntKind.i64.wrap (IntKind.i16.wrap z)=IntKind.i16.wrap z:=by rw[zh4];simp only[IntKind.wrap,IntKind.bits,IntKind.signed];split <;> (simp;omega)
 go_enter Tryz.func105,Tryz.ntmps105
 go_wp2
 go_ret
 exact⟨zaa HE.out,rfl⟩
theorem z3f{r:LI}{k:Nat}(hk:k<r.length)(h:fdB (r.getD k 0)=false):r.all fdB=false:=by
 rw[Bool.eq_false_iff]
 intro e
 have:=List.all_eq_true.1 e (r.getD k 0) (by rw[List.getD_eq_getElem?_getD,List.getElem?_eq_getElem hk];exact List.getElem_mem hk)
 rw[h]at this
 cases this
theorem zyb{r:LI}(h:∀j,j<r.length->fdB (r.getD j 0)=true):r.all fdB=true:=by
 rw[List.all_eq_true]
 intro z hz
 obtain⟨i,hi,e⟩:=List.getElem_of_mem hz
 have:=h i hi
 rw[List.getD_eq_getElem?_getD,List.getElem?_eq_getElem hi]at this
 rw[<-e]
 exact this
theorem zqe(a:OA)(cap:Nat)(r:LI)(w:World)(h:Ri w a cap r) :
 Calls Tryz.prog 100 #[.slice a r.length cap] w fun e w'=>e=.returned (.bool (r.all fdB))/\Below w.heap.size w w':=by
 have k2:=h.lenB
 have HH:Hid (Ri w a cap r):=h
 clear h
 go_enter Tryz.func100,Tryz.ntmps100
 go_wp2
 go_loopw [7] (fun i wr=>∃k:Nat,k<=r.length/\i=.int .i64 k/\(∀j,j<k->fdB (r.getD j 0)=true)/\Below w.heap.size w wr) (fun i _=>r.length-(intOf i).toNat)
 case atStart=>exact⟨0,Nat.zero_le _,rfl,(fun j hj=>by omega),Below.refl _ _⟩
 case round =>
  obtain⟨k,hk,rfl,hok,hB⟩:=hrel
  have HOK:Hid (∀j,j<k->fdB (r.getD j 0)=true):=hok
  clear hok
  by_cases hkn:k<r.length
  . obtain⟨b,off,ea,hb,d0⟩:=HH.out.at hB k hkn
    subst ea
    have hz:=HH.out.i64 hkn
    obtain⟨z,hzz⟩:∃z,r.getD k 0=z:=⟨_,rfl⟩
    have HZ:Hid (r.getD k 0=z):=hzz
    rw[hzz]at d0 hz
    have hfo:=fun U=>zfm z U hz
    clear hzz
    cases hf:fdB z with
    | false =>
     have HF:Hid (r.all fdB=false):=z3f hkn (by rw[HZ.out];exact hf)
     simp only[hf]at hfo
     clear hf HZ HOK
     go_wp2_with fail
     refine(hfo _).mono ?_
     rintro e u1 ⟨rfl,rfl⟩;go_wp2
     go_ret
     exact⟨zaa HF.out.symm,hB⟩
    | true =>
     have zea:Hid (∀j,j<k+1->fdB (r.getD j 0)=true):=fun j hj=>by
      rcases Nat.lt_or_ge j k with h1|h1
      . exact HOK.out j h1
      . rw[show j=k by omega,HZ.out];exact hf
     simp only[hf]at hfo
     clear hf HZ HOK
     go_wp2_with fail
     refine(hfo _).mono ?_
     rintro e u1 ⟨rfl,rfl⟩;go_wp2
     go_roundw
     case rel=>exact⟨k+1,by omega,by go_num,zea.out,hB⟩
     case measure=>simp[intOf];omega
  . obtain rfl:k=r.length:=by omega
    have HF:Hid (r.all fdB=true):=zyb HOK.out
    clear HOK;go_wp2
    go_ret
    exact⟨zaa HF.out.symm,hB⟩
def hrB(s:Sr)(i:Int):Bool:=decide (0<=i)&&decide (i<(s.rw.length:Int))
theorem zmp(x:Value)(b:OA)(cb:Nat)(s:Sr)(i:Int)(w:World)(hl:s.rw.length<=9223372036854775807)(hx:x.oneCell'=true) :
 Calls Tryz.prog 106 #[.agg #[x,.slice b s.rw.length cb],.int .i64 i] w fun e w'=>e=.returned (.bool (hrB s i))/\Below w.heap.size w w':=by
 by_cases h1:0<=i
 . have g1:decide (0<=i)=true:=decide_eq_true h1
   have HE:Hid (hrB s i=decide (i<(s.rw.length:Int))):=by show _=_;rw[hrB,g1,Bool.true_and]
   go_enter Tryz.func106,Tryz.ntmps106
   go_wp2
   go_ret
   exact⟨zaa HE.out.symm,bl1 _⟩
 . have g1:decide (0<=i)=false:=decide_eq_false h1
   have HE:Hid (hrB s i=false):=by show _=_;rw[hrB,g1,Bool.false_and]
   go_enter Tryz.func106,Tryz.ntmps106
   go_wp2
   go_ret
   exact⟨zaa HE.out.symm,bl1 _⟩
theorem zud(a:OA)(ca:Nat)(b:OA)(cb:Nat)(s:Sr)(x r:Int)(w:World)(hl:s.rw.length<=9223372036854775807)(hx:I64 x)(hr:I64 r) :
 Calls Tryz.prog 59 #[.agg #[.slice a s.rg.length ca,.slice b s.rw.length cb],.agg #[.int .i64 x,.int .i64 r]] w fun e w'=>e=.returned (.bool (fiS s x r))/\Below w.heap.size w w':=by
 obtain⟨W,hW,X1,X2,hbW⟩:∃W,W=(w.alloc (.cells #[.slice a s.rg.length ca,.slice b s.rw.length cb] 26)).alloc (.cells #[.int .i64 x,.int .i64 r] 60) /\
     BxS W w.heap.size (.slice a s.rg.length ca) (.slice b s.rw.length cb)/\BxL W (w.heap.size+1) (.int .i64 x) (.int .i64 r)/\Below w.heap.size w W:=⟨_,rfl,(BxS.new _ _ _).below (bl1 _),BxL.new1 _ _ _ _,bl2 _ _⟩
 have hif:=fun U=>zfm x U hx
 have hhr:=fun U=>zmp (.slice a s.rg.length ca) b cb s r U hl rfl
 cases hf:fdB x with
 | false =>
  have HE:Hid (fiS s x r=false):=by show _=_;rw[fiS,hf,Bool.false_and]
  simp only[hf]at hif
  clear hf
  go_enter Tryz.func59,Tryz.ntmps59
  go_wp2_with fail
  rw[<-hW];clear hW
  refine(hif _).mono ?_
  rintro e u1 ⟨rfl,rfl⟩;obtain⟨c0,c1,_⟩:=X1.cells;obtain⟨d0,d1,_⟩:=X2.cells;go_wp2
  go_ret
  exact⟨zaa HE.out.symm,hbW⟩
 | true =>
  simp only[hf]at hif
  by_cases h1:r=-1
  . have HE:Hid (fiS s x r=true):=by show _=_;rw[fiS,hf,Bool.true_and,decide_eq_true h1,Bool.true_or]
    have g1:(r == -1)=true:=by simp[h1]
    clear hf h1
    go_enter Tryz.func59,Tryz.ntmps59
    go_wp2_with fail
    rw[<-hW];clear hW
    refine(hif _).mono ?_
    rintro e u1 ⟨rfl,rfl⟩;obtain⟨c0,c1,_⟩:=X1.cells;obtain⟨d0,d1,_⟩:=X2.cells;go_wp2
    go_ret
    exact⟨zaa HE.out.symm,hbW⟩
  . have g1:(r == -1)=false:=by simp[h1]
    have HE:Hid (fiS s x r=(hrB s r&&decide (r<400))):=by show _=_;rw[fiS,hf,Bool.true_and,decide_eq_false h1,Bool.false_or,hrB,Bool.and_assoc]
    clear hf h1
    cases hh:hrB s r with
    | false =>
     have HE2:Hid (fiS s x r=false):=by show _=_;rw[HE.out,hh,Bool.false_and]
     simp only[hh]at hhr
     clear hh
     go_enter Tryz.func59,Tryz.ntmps59
     go_wp2_with fail
     rw[<-hW];clear hW
     refine(hif _).mono ?_
     rintro e u1 ⟨rfl,rfl⟩;obtain⟨c0,c1,_⟩:=X1.cells;obtain⟨d0,d1,_⟩:=X2.cells
     go_wp2_with fail
     refine(hhr _).mono ?_
     rintro e u2 ⟨rfl,hb2⟩;replace X2:=X2.below hb2
     replace hbW:=hbW.trans (hb2.mono hbW.size)
     clear c0 c1 d0 d1 hb2;obtain⟨d0,d1,_⟩:=X2.cells;go_wp2
     go_ret
     exact⟨zaa HE2.out.symm,hbW⟩
    | true =>
     have HE2:Hid (fiS s x r=decide (r<400)):=by show _=_;rw[HE.out,hh,Bool.true_and]
     simp only[hh]at hhr
     clear hh
     go_enter Tryz.func59,Tryz.ntmps59
     go_wp2_with fail
     rw[<-hW];clear hW
     refine(hif _).mono ?_
     rintro e u1 ⟨rfl,rfl⟩;obtain⟨c0,c1,_⟩:=X1.cells;obtain⟨d0,d1,_⟩:=X2.cells
     go_wp2_with fail
     refine(hhr _).mono ?_
     rintro e u2 ⟨rfl,hb2⟩;replace X2:=X2.below hb2
     replace hbW:=hbW.trans (hb2.mono hbW.size)
     clear c0 c1 d0 d1 hb2;obtain⟨d0,d1,_⟩:=X2.cells;go_wp2
     go_ret
     exact⟨zaa HE2.out.symm,hbW⟩
theorem z3y{s:Sr}{n:Int}(h:¬((0<=n/\n<=4)/\s.rg.length<=40/\s.rw.length<=400/\(∀l∈s.rg,rgB l n=true)/\(∀r∈s.rw,r.length=s.rg.length/\r.all fdB=true))):stB s n=false:=by
 rw[Bool.eq_false_iff]
 intro e
 unfold stB roB at e
 simp only[Bool.and_eq_true,decide_eq_true_iff,List.all_eq_true (p:=fun l=>rgB l n),List.all_eq_true (p:=fun(r:LI)=>decide (r.length=s.rg.length)&&r.all fdB)]at e
 exact h e
theorem z0f{s:Sr}{n:Int}(h1:0<=n/\n<=4)(h2:s.rg.length<=40)(h3:s.rw.length<=400)(h4:∀j,j<s.rg.length->rgB (s.rg.getD j []) n=true)(h5:∀j,j<s.rw.length->(s.rw.getD j []).length=s.rg.length/\(s.rw.getD j []).all fdB=true):stB s n=true:=by
 unfold stB roB
 simp only[Bool.and_eq_true,decide_eq_true_iff,List.all_eq_true (p:=fun l=>rgB l n),List.all_eq_true (p:=fun(r:LI)=>decide (r.length=s.rg.length)&&r.all fdB)]
 refine⟨h1,h2,h3,fun l hl=>?_,fun r hr=>?_⟩
 . obtain⟨i,hi,e⟩:=List.getElem_of_mem hl
   have:=h4 i hi
   rw[getL hi,e]at this
   exact this
 . obtain⟨i,hi,e⟩:=List.getElem_of_mem hr
   have:=h5 i hi
   rw[getL hi,e]at this
   exact this
theorem zqa(a:OA)(ca:Nat)(b:OA)(cb:Nat)(s:Sr)(n:Int)(w:World)(hg:Tzz w a ca s.rg)(hm:Rii w b cb s.rw) :
 Calls Tryz.prog 57 #[.agg #[.slice a s.rg.length ca,.slice b s.rw.length cb],.int .i64 n] w fun e w'=>e=.returned (.bool (stB s n))/\Below w.heap.size w w':=by
 have k1:=hg.lenB
 have k2:=hm.lenB
 have HNO:Hid (∀h:¬((0<=n/\n<=4)/\s.rg.length<=40/\s.rw.length<=400/\(∀l∈s.rg,rgB l n=true)/\(∀r∈s.rw,r.length=s.rg.length/\r.all fdB=true)),stB s n=false):=fun h=>z3y h
 have HG:Hid (Tzz w a ca s.rg):=hg
 have HM:Hid (Rii w b cb s.rw):=hm
 clear hg hm
 by_cases h1:n<0
 . have g1:decide (n<0)=true:=decide_eq_true h1
   have HE:Hid (stB s n=false):=HNO.out (fun h=>by omega)
   go_enter Tryz.func57,Tryz.ntmps57
   go_wp2
   go_ret
   exact⟨zaa HE.out.symm,bl1 _⟩
 have g1:decide (n<0)=false:=decide_eq_false h1
 by_cases h2:4<n
 . have g2:decide (4<n)=true:=decide_eq_true h2
   have HE:Hid (stB s n=false):=HNO.out (fun h=>by omega)
   go_enter Tryz.func57,Tryz.ntmps57
   go_wp2
   go_ret
   exact⟨zaa HE.out.symm,bl1 _⟩
 have g2:decide (4<n)=false:=decide_eq_false h2
 by_cases h3:40<s.rg.length
 . have g3:decide ((40:Int)<(s.rg.length:Int))=true:=decide_eq_true (by omega)
   have HE:Hid (stB s n=false):=HNO.out (fun h=>by omega)
   go_enter Tryz.func57,Tryz.ntmps57
   go_wp2
   go_ret
   exact⟨zaa HE.out.symm,bl1 _⟩
 have g3:decide ((40:Int)<(s.rg.length:Int))=false:=decide_eq_false (by omega)
 by_cases h4:400<s.rw.length
 . have g4:decide ((400:Int)<(s.rw.length:Int))=true:=decide_eq_true (by omega)
   have HE:Hid (stB s n=false):=HNO.out (fun h=>by omega)
   go_enter Tryz.func57,Tryz.ntmps57
   go_wp2
   go_ret
   exact⟨zaa HE.out.symm,bl1 _⟩
 have g4:decide ((400:Int)<(s.rw.length:Int))=false:=decide_eq_false (by omega)
 have HB:Hid ((0<=n/\n<=4)/\s.rg.length<=40/\s.rw.length<=400):=⟨⟨by omega,by omega⟩,by omega,by omega⟩
 obtain⟨W,hW,X1,hbW⟩:∃W,W=w.alloc (.cells #[.slice a s.rg.length ca,.slice b s.rw.length cb] 26)/\BxS W w.heap.size (.slice a s.rg.length ca) (.slice b s.rw.length cb)/\Below w.heap.size w W:=⟨_,rfl,BxS.new _ _ _,bl1 _⟩
 go_enter Tryz.func57,Tryz.ntmps57
 go_wp2;rw[<-hW];clear hW
 go_loopw [30] (fun i wr=>∃k:Nat,k<=s.rg.length/\i=.int .i64 k/\(∀j,j<k->rgB (s.rg.getD j []) n=true)/\BxS wr w.heap.size (.slice a s.rg.length ca) (.slice b s.rw.length cb)/\Below w.heap.size w wr) (fun i _=>s.rg.length-(intOf i).toNat)
 case atStart=>exact⟨0,Nat.zero_le _,rfl,(fun j hj=>by omega),X1,hbW⟩
 case round =>
  clear X1 hbW;obtain⟨k,hk,rfl,hok,X1,hB⟩:=hrel
  have HOK:Hid (∀j,j<k->rgB (s.rg.getD j []) n=true):=hok
  clear hok
  by_cases hkn:k<s.rg.length
  . obtain⟨b1,o1,a1,c1,ea,_,d0,hp⟩:=HG.out.at hB k hkn
    have zi3:=zob hkn
    have hrg:=zg7 a1 c1 (s.rg.getD k []) n wr hp
    obtain⟨l,hl⟩:∃l,s.rg.getD k []=l:=⟨_,rfl⟩
    have HL:Hid (s.rg.getD k []=l):=hl
    rw[hl]at d0 zi3 hrg;subst ea;clear hl hp
    cases hf:rgB l n with
    | false =>
     have HE:Hid (stB s n=false):=HNO.out (fun h=>by have:=h.2.2.2.1 l zi3;rw[hf]at this;cases this)
     rw[hf]at hrg;clear hf zi3 HL HOK X1
     go_wp2_with fail
     refine hrg.mono ?_
     rintro e u1 ⟨rfl,hb1⟩
     replace hB:=hB.trans (hb1.mono hB.size)
     clear hb1 hrg;go_wp2
     go_ret
     exact⟨zaa HE.out.symm,hB⟩
    | true =>
     have zea:Hid (∀j,j<k+1->rgB (s.rg.getD j []) n=true):=fun j hj=>by
      rcases Nat.lt_or_ge j k with h1|h1
      . exact HOK.out j h1
      . rw[show j=k by omega,HL.out];exact hf
     rw[hf]at hrg;clear hf zi3 HL HOK
     go_wp2_with fail
     refine hrg.mono ?_
     rintro e u1 ⟨rfl,hb1⟩
     replace hB:=hB.trans (hb1.mono hB.size)
     replace X1:=X1.below hb1;clear hb1 hrg;go_wp2
     go_roundw
     case rel=>exact⟨k+1,by omega,by go_num,zea.out,X1,hB⟩
     case measure=>simp[intOf];omega
  . obtain rfl:k=s.rg.length:=by omega
    obtain⟨x0,x1,_⟩:=X1.cells;go_wp2
    go_loopw [42] (fun i wr=>∃k:Nat,k<=s.rw.length/\i=.int .i64 k/\(∀j,j<k->(s.rw.getD j []).length=s.rg.length/\(s.rw.getD j []).all fdB=true)/\BxS wr w.heap.size (.slice a s.rg.length ca) (.slice b s.rw.length cb)/\Below w.heap.size w wr) (fun i _=>s.rw.length-(intOf i).toNat)
    case atStart=>exact⟨0,Nat.zero_le _,rfl,(fun j hj=>by omega),X1,hB⟩
    case round =>
     clear X1 hB x0 x1 hk hkn;obtain⟨k,hk,rfl,hok,X1,hB⟩:=hrel
     have zzs:Hid (∀j,j<k->(s.rw.getD j []).length=s.rg.length/\(s.rw.getD j []).all fdB=true):=hok
     clear hok
     by_cases hkn:k<s.rw.length
     . obtain⟨b1,o1,a1,c1,ea,_,d0,hp⟩:=HM.out.at hB k hkn
       have zi3:=zob hkn
       have hfl:=zqe a1 c1 (s.rw.getD k []) wr hp
       have hrl:=hp.lenB
       obtain⟨r,hr⟩:∃r,s.rw.getD k []=r:=⟨_,rfl⟩
       have HL:Hid (s.rw.getD k []=r):=hr
       rw[hr]at d0 zi3 hfl hrl;subst ea;clear hr hp;obtain⟨x0,x1,_⟩:=X1.cells
       by_cases hlen:r.length=s.rg.length
       rotate_left
       . have HE:Hid (stB s n=false):=HNO.out (fun h=>hlen (h.2.2.2.2 r zi3).1)
         have g5:((r.length:Int) != (s.rg.length:Int))=true:=bne_iff_ne.2 (by omega)
         clear zi3 HL zzs X1 hfl;go_wp2
         go_ret
         exact⟨zaa HE.out.symm,hB⟩
       have g5:((r.length:Int) != (s.rg.length:Int))=false:=by simp[hlen]
       cases hf:r.all fdB with
       | false =>
        have HE:Hid (stB s n=false):=HNO.out (fun h=>by have:=(h.2.2.2.2 r zi3).2;rw[hf]at this;cases this)
        rw[hf]at hfl;clear hf zi3 HL zzs X1 hlen
        go_wp2_with fail
        refine hfl.mono ?_
        rintro e u1 ⟨rfl,hb1⟩
        replace hB:=hB.trans (hb1.mono hB.size)
        clear hb1 hfl;go_wp2
        go_ret
        exact⟨zaa HE.out.symm,hB⟩
       | true =>
        have HOK4:Hid (∀j,j<k+1->(s.rw.getD j []).length=s.rg.length/\(s.rw.getD j []).all fdB=true):=fun j hj=>by
         rcases Nat.lt_or_ge j k with h1|h1
         . exact zzs.out j h1
         . rw[show j=k by omega,HL.out];exact⟨hlen,hf⟩
        rw[hf]at hfl;clear hf zi3 HL zzs hlen
        go_wp2_with fail
        refine hfl.mono ?_
        rintro e u1 ⟨rfl,hb1⟩
        replace hB:=hB.trans (hb1.mono hB.size)
        replace X1:=X1.below hb1;clear hb1 hfl;go_wp2
        go_roundw
        case rel=>exact⟨k+1,by omega,by go_num,HOK4.out,X1,hB⟩
        case measure=>simp[intOf];omega
     . obtain rfl:k=s.rw.length:=by omega
       have HE:Hid (stB s n=true):=z0f HB.out.1 HB.out.2.1 HB.out.2.2 HOK.out zzs.out
       clear HOK zzs;go_wp2
       go_ret
       exact⟨zaa HE.out.symm,hB⟩
def Cl(w:World)(g o:Nat)(v:Value):Prop:=g<w.heap.size/\w.cell? ⟨g,o,none⟩=some v
theorem Cl.below{w w':World}{g o:Nat}{v:Value}(h:Cl w g o v)(hb:Below w.heap.size w w'):Cl w' g o v:=⟨Nat.lt_of_lt_of_le h.1 hb.size,(hb.cell (p:=⟨g,o,none⟩) h.1).trans h.2⟩
