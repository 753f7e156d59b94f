import Derived.Test.YtkmcodofnckdmaaGreatZK21
set_option maxHeartbeats 8000000
set_option maxRecDepth 100000
set_option linter.unusedSimpArgs false
set_option linter.unusedVariables false
namespace Go.Proofs.YtkmcodofnckdmaaGreat
open Tryz Go.RowKit Go.Maps
def isG(n:Nat)(g:Int):Bool:=decide (0<=g)&&decide (g<(n:Int))
theorem zvh{l:List Gl}{g:Int}(h:isG l.length g=false):gAt l g=none:=by
 unfold isG at h;by_cases h0:0<=g
 . rw[qC h0,Bool.true_and,decide_eq_false_iff_not]at h
   exact zsx (by omega)
 . exact zsw (by omega)
theorem zny{n:Nat}{g:Int}(h:isG n g=true):0<=g/\g<(n:Int):=by
 unfold isG at h;rw[Bool.and_eq_true,qM,qM]at h;exact h
theorem z1x{l:List Gl}{g:Int}(h:isG l.length g=true):gAt l g=some (l.getD g.toNat Gl.none):=by
 obtain⟨h1,h2⟩:=zny h;have:=zjx (l:=l) (k:=g.toNat) (by omega);rw[show((g.toNat:Nat):Int)=g by omega]at this;exact this
theorem zl9(a:OA)(n c:Nat)(g:Int)(w:World)(hn:n<=9223372036854775807)(hg:I64 g) :
 Calls Tryz.prog 35 #[.slice a n c,.int .i64 g] w fun e w'=>e=.returned (.bool (isG n g))/\w=w':=by
 by_cases h0:0<=g
 . have HE:Hid (isG n g=decide (g<(n:Int))):=by show _=_;unfold isG;rw[qC h0,Bool.true_and]
   have g1:decide ((0:Int)<=g)=true:=qC h0;go_enter func35,ntmps35;go_wp2;go_ret;exact⟨zaa HE.out.symm,rfl⟩
 . have HE:Hid (isG n g=false):=by show _=_;unfold isG;rw[qB h0,Bool.false_and]
   have g1:decide ((0:Int)<=g)=false:=qB h0;go_enter func35,ntmps35;go_wp2;go_ret;exact⟨zaa HE.out.symm,rfl⟩
theorem z0q(n m:Nat):min (((cap n:Nat):Int)+(m:Int)) 2001=((cap (n+m):Nat):Int):=by unfold cap;omega
theorem zwd(n m:Nat):min (((cap n:Nat):Int)+((cap m:Nat):Int)) 2001=((cap (n+m):Nat):Int):=by unfold cap;omega
theorem ztr(n:Nat):cap n<=2001:=by unfold cap;omega
theorem zma(S:Nat->Prop)(a:OA)(ca:Nat)(b:OA)(nb cb:Nat)(cs:List (List Pn))(w:World)(h:Gr PnE.row S w a ca cs) :
 Calls Tryz.prog 66 #[.agg #[.slice a cs.length ca,.slice b nb cb]] w fun e w'=>e=.returned (.int .i64 ((cap cs.flatten.length:Nat):Int))/\Below w.heap.size w w':=by
 have k2:=h.lenB;obtain⟨W,hW,X1,hbW⟩:∃W,W=w.alloc (.cells #[.slice a cs.length ca,.slice b nb cb] 57)/\Bk 57 W w.heap.size [.slice a cs.length ca,.slice b nb cb]/\Below w.heap.size w W:=⟨_,rfl,Bk.new _ _ _,bl1 _⟩;obtain⟨x0,x1,_⟩:=X1.two;have HH:Hid (Gr PnE.row S W a ca cs):=h.below hbW;clear h X1;go_enter func66,ntmps66;go_upto_region 1 with fail
 rw[<-hW];clear hW;go_wp2;clear x0 x1
 go_loopw [3,9] (fun c i wr=>∃k:Nat,k<=cs.length/\i=.int .i64 k/\c=.int .i64 ((cap (cs.take k).flatten.length:Nat):Int)/\W=wr) (fun _ i _=>cs.length-(intOf i).toNat)
 case atStart=>exact⟨0,qD _,rfl,rfl,rfl⟩
 case round =>
  obtain⟨k,hk,rfl,rfl,rfl⟩:=hrel;by_cases hkn:k<cs.length
  . obtain⟨b0,off,a1,c1,ea,hb,d0,hrow,hlb,_⟩:=HH.out.rw (Below.refl _ _) k hkn
    subst ea;have HST:Hid (_):=zan hkn;have hmn:=z0q (cs.take k).flatten.length (cs.getD k []).length;rw[<-HST.out]at hmn;have hcb:=ztr (cs.take k).flatten.length;obtain⟨m,hm⟩:∃m,(cs.getD k []).length=m:=⟨_,rfl⟩;rw[hm]at d0 hmn hlb;obtain⟨y,hy⟩:∃x,cap (cs.take (k+1)).flatten.length=x:=⟨_,rfl⟩;have HY:Hid (cap (cs.take (k+1)).flatten.length=y):=hy;rw[hy]at hmn;generalize cap (cs.take k).flatten.length=x at *;have i1:(0:Int)<=(k:Int):=(by omega);have i2:(k:Int)<(cs.length:Int):=(by omega);clear hm hy hrow HST;go_wp2;go_roundw
    case rel=>exact⟨k+1,by omega,by go_num,by rw[HY.out],trivial⟩
    case measure=>simp[intOf];omega
  . obtain rfl:k=cs.length:=by omega
    have g4:¬(cs.length:Int)<(cs.length:Int):=(by omega);rw[List.take_length];go_wp2;go_ret;exact⟨rfl,hbW⟩
theorem zeroX(w:World):(zeroValue 71).run Tryz.prog w=.ok (.agg #[.int .i64 0,.int .i64 0]) w:=by kernel_rfl
theorem zel(a:OA)(n c:Nat)(w:World) :
 Calls Tryz.prog 31 #[.slice a n c] w fun e w'=>e=.returned (.pointer (some ⟨w.heap.size+1,0,none⟩))/\Bk 119 w' (w.heap.size+1) [.slice a n c,.map (some w.heap.size)]/\Mp w' w.heap.size 0 (fun _=>none)/\Below w.heap.size w w':=by
 have hmm:=@run_makeMap Tryz.prog;have M:=Mp.made w;obtain⟨W,hW⟩:∃W,W=w.alloc (.map #[] 0):=⟨_,rfl⟩;have hb:Below w.heap.size w W:=by rw[hW];exact bl1 _
 have hs:W.heap.size=w.heap.size+1:=by rw[hW];simp
 rw[<-hW]at M;have X:=Bk.new 119 W [.slice a n c,.map (some w.heap.size)];rw[hs]at X;have za1:Bk 119 (W.alloc (.cells #[.slice a n c,.map (some w.heap.size)] 119)) (w.heap.size+1) [.slice a n c,.map (some w.heap.size)]/\Mp (W.alloc (.cells #[.slice a n c,.map (some w.heap.size)] 119)) w.heap.size 0 (fun _=>none)/\Below w.heap.size w (W.alloc (.cells #[.slice a n c,.map (some w.heap.size)] 119)):=⟨X,M.below (bl1 _),hb.trans ((bl1 _).mono hb.size)⟩;have HF:Hid (_):=za1;clear za1 X M hb;go_enter func31,ntmps31;go_wp2;go_ret;subst hW;exact⟨rfl,HF.out⟩
theorem zxi{l:List Gl}{n:Nat}{g:Int}(h:g<0\/(l.length:Int)<=g):dq l n g=none:=by
 rw[dq_eq];rcases h with h|h
 . rw[zsw h];rfl
 . rw[zsx h];rfl
theorem z0d{l:List Gl}{i:Nat}(hi:i<l.length):dI (dq l 0 (i:Int))=if (l.getD i Gl.none).o.ps.length=0 then 0 else -1:=by
 rw[dq_eq,zjx hi,Option.bind_some];cases h:(l.getD i Gl.none).o.ps with
 | nil=>rfl
 | cons p ps =>
  rw[dqs,if_neg (by simp)];rfl
theorem z0g{l:List Gl}{n i:Nat}(hi:i<l.length):dq l (n+1) (i:Int)=dqs (dq l n) (l.getD i Gl.none).o.ps:=by rw[dq_eq,zjx hi,Option.bind_some];rfl
theorem zj1{f:Int->Option Nat}{ps:List Pa}{k:Nat}(hk:k<ps.length):dqs f (ps.take (k+1))=(dqs f (ps.take k)).bind fun e=>(f (ps.getD k Pa.none).g).bind fun d=>some (max e (d+1)):=by
 rw[<-zvy];congr 1;rw[List.take_add_one,qG hk];simp[List.getD,hk]
theorem zvx{f:Int->Option Nat}{ps:List Pa}{k:Nat}(h:dqs f (ps.take k)=none):dqs f ps=none:=by
 cases hd:dqs f ps with
 | none=>rfl
 | some d =>
  exfalso;have key:∀(a b:List Pa) (d:Nat),dqs f (a++b)=some d->dqs f a≠none:=by
   intro a
   induction a with
   | nil=>intro b d _ h2;cases h2
   | cons p a ih =>
    intro b d h1 h2;rw[List.cons_append]at h1;obtain⟨x,y,h3,h4,_⟩:=zc9.1 h1;cases h5:dqs f a with
    | none=>exact ih b y h4 h5
    | some z=>rw[dqs,h3,h5]at h2;cases h2
  rw[<-List.take_append_drop k ps]at hd;exact key _ _ _ hd h
theorem z0j{f:Int->Option Nat}{ps:List Pa}{k:Nat}{e:Nat}(hk:k<ps.length)(he:dqs f (ps.take k)=some e):dI (dqs f (ps.take (k+1)))=if dI (f (ps.getD k Pa.none).g)<0 then -1 else max (e:Int) (dI (f (ps.getD k Pa.none).g)+1):=by
 rw[zj1 hk,he,Option.bind_some];cases h:f (ps.getD k Pa.none).g with
 | none=>rfl
 | some d =>
  show((max e (d+1):Nat):Int)=if (d:Int)<0 then -1 else max (e:Int) ((d:Int)+1)
  rw[if_neg (by omega)];omega
def szK(l:List Gl)(x:Gl)(k:Nat):Nat:=ptn x+sqs (sq l 6) (x.o.ps.take k)
theorem zm6(l:List Gl)(x:Gl):szK l x 0=ptn x:=by unfold szK;rw[List.take_zero];rfl
theorem zm7{l:List Gl}{x:Gl}{k:Nat}(hk:k<x.o.ps.length):szK l x (k+1)=szK l x k+sq l 6 (x.o.ps.getD k Pa.none).g:=by
 unfold szK;have e:x.o.ps.take (k+1)=x.o.ps.take k++[x.o.ps.getD k Pa.none]:=by
  rw[List.take_add_one,qG hk];simp[List.getD,hk]
 rw[e,zuk];omega
theorem zqs{l:List Gl}{g:Int}{d:Nat}{x:Gl}(hx:gAt l g=some x)(h:dq l 6 g=some d):szK l x x.o.ps.length=sq l 6 g:=by
 unfold szK;rw[List.take_length,sq_at hx];congr 1;refine zkm (fun p hp=>?_);obtain⟨e,h1,h2⟩:=zh3 h hx p hp;have:=dq_le h;show sq l 6 p.g=sq l 5 p.g;exact(zlt h1 (by omega)).trans (zlt h1 (by omega)).symm
theorem zlo{l:List Gl}{g:Int}{d:Nat}(h:dq l 6 g=some d):szG l g=cap (sq l 6 g):=zuc h
theorem zwc{l:List Gl}{x:Gl}{k n:Nat}(hk:k<x.o.ps.length)(hn:cap n=cap (szK l x k)):cap (n+cap (sq l 6 (x.o.ps.getD k Pa.none).g))=cap (szK l x (k+1)):=by
 rw[zm7 hk];unfold cap at *;omega
def szD(l:List Gl)(k:Nat)(i:Nat):Nat:=match dq l 6 (i:Int)with | none=>0 | some d=>if d<k then cap (sq l 6 (i:Int))else 0
theorem zue(l:List Gl)(i:Nat):szD l 0 i=0:=by
 unfold szD;cases dq l 6 (i:Int) with
 | none=>rfl
 | some d=>exact if_neg (Nat.not_lt_zero d)
theorem zx8(l:List Gl)(i:Nat):szD l 7 i=szG l (i:Int):=by
 cases h:dq l 6 (i:Int) with
 | none=>rw[zud h];unfold szD;rw[h]
 | some d =>
  rw[zlo h];unfold szD;rw[h];exact if_pos (by have:=dq_le h;omega)
theorem zug{l:List Gl}{i:Nat}{d:Nat}{x:Gl}(hx:gAt l (i:Int)=some x)(h:dq l 6 (i:Int)=some d){p:Pa}(hp:p∈x.o.ps):∃j:Nat,p.g=(j:Int)/\j<l.length/\szD l d j=cap (sq l 6 p.g):=by
 obtain⟨e,h1,h2⟩:=zh3 h hx p hp;obtain⟨y,h3,_⟩:=zbu.1 h1;obtain⟨h4,h5,_⟩:=zvt h3;refine⟨p.g.toNat,by omega,by omega,?_⟩;have hd:=dq_le h;have h6:dq l 6 ((p.g.toNat:Nat):Int)=some e:=by rw[show((p.g.toNat:Nat):Int)=p.g by omega];exact zeo h1 (by omega)
 unfold szD;rw[h6];show(if e<d then _ else 0)=_;rw[if_pos h2,show((p.g.toNat:Nat):Int)=p.g by omega]
def KnG(l:List Gl)(F:Int->Option Value):Prop:=∀j v,F j=some v->∃d:Nat,dq l 6 j=some d/\v=.agg #[.int .i64 (d:Int),.int .i64 ((szG l j:Nat):Int)]
theorem KnG.nil(l:List Gl):KnG l (fun _=>none):=fun j v e=>by cases e
theorem KnG.put{l:List Gl}{F:Int->Option Value}(h:KnG l F){g:Int}{d:Nat}(hd:dq l 6 g=some d):KnG l (Fup F g (.agg #[.int .i64 (d:Int),.int .i64 ((szG l g:Nat):Int)])):=by
 intro j v e;unfold Fup at e;by_cases hj:j=g
 . rw[if_pos hj]at e
   subst hj;exact⟨d,hd,(Option.some.inj e).symm⟩
 . rw[if_neg hj]at e
   exact h j v e
def tk:Nat->Nat
 | 0=>0
 | d+1=>1+12*tk d
theorem tk_le:∀ {d:Nat},d<=7->tk d<=4000000:=by
 intro d hd;have h7:tk 7<=4000000:=by decide
 have mono:∀a b,a<=b->tk a<=tk b:=by
  intro a b h
  induction b with
  | zero=>rw[show a=0 by omega];exact qE _
  | succ b ih =>
   by_cases e:a=b+1
   . rw[e];exact qE _
   . have:=ih (by omega)
     show tk a<=1+12*tk b;omega
 exact qF (mono d 7 hd) h7
structure OfP(l:List Gl)(m:Nat)(g:Int)(lv d n:Nat)(w:World)(e:Ending)(w':World):Prop where
 ans:(∃k:Nat,dq l 6 g=some k/\e=.returned (.tuple #[.agg #[.int .i64 (k:Int),.int .i64 ((szG l g:Nat):Int)],.bool true]))\/((∀k,dq l 6 g=some k->6<k+lv)/\e=.returned (.tuple #[.agg #[.int .i64 0,.int .i64 0],.bool false]))
 mp:∃n' F',Mp w' m n' F'/\KnG l F'/\n'<=n+tk d
 kp:Kp m w w'
theorem Mp.set2{w:World}{b n:Nat}{F:Int->Option Value}(h:Mp w b n F){g:Nat}(x y:Value)(hg:b≠g):Mp ((w.setCell ⟨g,0,none⟩ x).setCell ⟨g,1,none⟩ y) b n F:=h.stay (zbq x y hg)
theorem Kp.set2{m:Nat}{a w:World}(h:Kp m a w){g:Nat}(x y:Value)(hg:a.heap.size<=g):Kp m a ((w.setCell ⟨g,0,none⟩ x).setCell ⟨g,1,none⟩ y) :=
 Keep.trans h ⟨rfl,rfl,rfl,by simp[World.setCell],fun k hk=>zbq x y (by have:=hk.1;omega)⟩
theorem zvz{l:List Gl}{ps:List Pa}{k e d:Nat}(hk:k<ps.length)(h:dqs (dq l 6) (ps.take k)=some e)(hd:dq l 6 (ps.getD k Pa.none).g=some d):dqs (dq l 6) (ps.take (k+1))=some (max e (d+1)):=by
 rw[zj1 hk,h,Option.bind_some,hd];rfl
theorem zod{l:List Gl}{g:Int}{x:Gl}{e:Nat}(hx:gAt l g=some x)(h:dqs (dq l 6) x.o.ps=some e):(e<=6->dq l 6 g=some e)/\(6<e->dq l 6 g=none):=by
 have h7:dq l 7 g=some e:=zbu.2 ⟨x,hx,h⟩;have h6:=dq_at (m:=6) h7;exact⟨fun he=>by rw[h6,if_pos he],fun he=>by rw[h6,if_neg (by omega)]⟩
theorem z1l{l:List Gl}{g:Int}{x:Gl}{lv:Nat}{p:Pa}(hx:gAt l g=some x)(hp:p∈x.o.ps)(h:∀k,dq l 6 p.g=some k->6<k+(lv+1)):∀k,dq l 6 g=some k->6<k+lv:=by
 intro k hk;obtain⟨e,h1,h2⟩:=zh3 hk hx p hp;have:=dq_le hk;have:=h e (zeo h1 (by omega));omega
theorem zsu(w0:World)(S:Nat->Prop)(a:OA)(ca:Nat)(l:List Gl)(hl:Gr GlE S w0 a ca l)(hps:∀x∈l,x.o.ps.length<=12)(sb m:Nat)(hm0:w0.heap.size<=m)(hsm:sb≠m) :
 ∀(d lv:Nat),lv+d=7->∀(g:Int) (n:Nat) (F:Int->Option Value) (w:World),I64 g->n+tk d<=500000000000->Below w0.heap.size w0 w->Bk 119 w sb [.slice a l.length ca,.map (some m)]->Mp w m n F->KnG l F ->
     Calls Tryz.prog 32 #[.pointer (some ⟨sb,0,none⟩),.int .i64 g,.int .i64 (lv:Int)] w fun e w'=>OfP l m g lv d n w e w':=by
 intro d
 induction d with
 | zero =>
  intro lv hlv g n F w hg hn hb hS hM hK;obtain rfl:lv=7:=by omega
  obtain⟨W,hW,X0,hbW⟩:∃W,W=w.alloc (.cells #[.int .i64 0,.int .i64 0] 71)/\Bk 71 W w.heap.size [.int .i64 0,.int .i64 0]/\Below w.heap.size w W:=⟨_,rfl,Bk.new _ _ _,bl1 _⟩;have hlt:=hM.lt;have za1:OfP l m g 7 0 n w (.returned (.tuple #[.agg #[.int .i64 0,.int .i64 0],.bool false])) ((W.setCell ⟨w.heap.size,0,none⟩ (.int .i64 0)).setCell ⟨w.heap.size,1,none⟩ (.int .i64 0)) :=
   ⟨.inr ⟨fun k _=>by omega,rfl⟩,⟨n,F,(hM.below hbW).set2 _ _ (by omega),hK,qE _⟩,(Kp.of hbW).set2 _ _ (qE _)⟩
  have HF:Hid (_):=za1;have A:=X0.set2U (.int .i64 0) (.int .i64 0);replace hS:=hS.below hbW;obtain⟨s0,s1,_⟩:=hS.two;obtain⟨z0,z1,f0,f1⟩:=X0.two;have hig:=zl9 a l.length ca g W (by have:=hl.lenB;omega) hg;clear za1 hM hK hbW hS;cases hi:isG l.length g with
  | false =>
   rw[hi]at hig;go_enter func32,ntmps32;go_upto_region 1 with fail
   rw[<-hW];clear hW hi;go_wp2_with fail
   refine hig.mono ?_;rintro e u ⟨rfl,rfl⟩;clear hig;go_wp2;exact bodyPost_ret (v:=.tuple #[.agg #[.int .i64 0,.int .i64 0],.bool false]) (by obtain⟨r0,r1,_⟩:=A.two;simp[results,results32,go_sem,r0,r1]) rfl HF.out
  | true =>
   rw[hi]at hig;go_enter func32,ntmps32;go_upto_region 1 with fail
   rw[<-hW];clear hW hi;go_wp2_with fail
   refine hig.mono ?_;rintro e u ⟨rfl,rfl⟩;clear hig;go_wp2;exact bodyPost_ret (v:=.tuple #[.agg #[.int .i64 0,.int .i64 0],.bool false]) (by obtain⟨r0,r1,_⟩:=A.two;simp[results,results32,go_sem,r0,r1]) rfl HF.out
 | succ d ih =>
  intro lv hlv g n F w hg hn hb hS hM hK;obtain⟨T,hT0⟩:∃T,tk d=T:=⟨_,rfl⟩;have HT:Hid (tk d=T):=hT0;have HT1:Hid (tk (d+1)=1+12*T):=by show 1+12*tk d=_;rw[hT0]
  have hnT:n+(1+12*T)<=500000000000:=by rw[<-HT1.out];exact hn
  clear hn hT0;have hlv7:lv<=6:=by omega
  have HLV:Hid (lv+1+d=7):=by show _=_;omega
  clear hlv;obtain⟨W,hW,X0,hbW⟩:∃W,W=w.alloc (.cells #[.int .i64 0,.int .i64 0] 71)/\Bk 71 W w.heap.size [.int .i64 0,.int .i64 0]/\Below w.heap.size w W:=⟨_,rfl,Bk.new _ _ _,bl1 _⟩;have hlt:=hM.lt;have hbB:Below w0.heap.size w0 W:=hb.trans (hbW.mono hb.size);obtain⟨r0,hr0⟩:∃r,w.heap.size=r:=⟨_,rfl⟩;have HR0:Hid (w.heap.size=r0):=hr0;have HNO:Hid (∀(U:World) n' F',(∀k,dq l 6 g=some k->6<k+lv)->Bk 71 U r0 [.int .i64 0,.int .i64 0]->Mp U m n' F'->KnG l F'->n'<=n+tk (d+1)->Kp m w U->OfP l m g lv (d+1) n w (.returned (.tuple #[.agg #[.int .i64 0,.int .i64 0],.bool false])) ((U.setCell ⟨r0,0,none⟩ (.int .i64 0)).setCell ⟨r0,1,none⟩ (.int .i64 0))):=by
   intro U n' F' h1 h2 h3 h4 h5 h6;exact⟨.inr ⟨h1,rfl⟩,⟨n',F',h3.set2 _ _ (by have:=HR0.out;omega),h4,h5⟩,h6.set2 _ _ (by have:=HR0.out;omega)⟩
  have zp8:Hid (∀(U:World) n' F' (k:Nat) (z0 z1:Value),dq l 6 g=some k->Bk 71 U r0 [z0,z1]->Mp U m n' F'->KnG l F'->n'<=n+tk (d+1)->Kp m w U->OfP l m g lv (d+1) n w (.returned (.tuple #[.agg #[.int .i64 (k:Int),.int .i64 ((szG l g:Nat):Int)],.bool true])) ((U.setCell ⟨r0,0,none⟩ (.int .i64 (k:Int))).setCell ⟨r0,1,none⟩ (.int .i64 ((szG l g:Nat):Int)))):=by
   intro U n' F' k z0 z1 h1 h2 h3 h4 h5 h6;exact⟨.inl ⟨k,h1,rfl⟩,⟨n',F',h3.set2 _ _ (by have:=HR0.out;omega),h4,h5⟩,h6.set2 _ _ (by have:=HR0.out;omega)⟩
  have hmr:m<r0:=by omega
  replace hS:=hS.below hbW;have hsr:sb≠r0:=fun e=>by
   have h1:=(hS.ne X0 (by decide));omega
  replace hM:=hM.below hbW;obtain⟨s0,s1,_⟩:=hS.two;have hig:=zl9 a l.length ca g W (by have:=hl.lenB;omega) hg;have hKp:Kp m w W:=Kp.of hbW;rw[hr0]at X0;cases hi:isG l.length g with
  | false =>
   have HF:Hid (_):=HNO.out W n F (fun k hk=>by
    obtain⟨x,h1,_⟩:=zbu.1 hk;rw[zvh hi]at h1
    cases h1) X0 hM hK (by rw[HT1.out];omega) hKp
   rw[hi]at hig;have A:=X0.set2U (.int .i64 0) (.int .i64 0);obtain⟨z0,z1,f0,f1⟩:=X0.two;have zwy:=X0.lt;clear HNO zp8 hM hK hKp hS hbB hbW hi X0 ih;go_enter func32,ntmps32;go_upto_region 1 with fail
   rw[<-hW];try rw[hr0]
   clear hW hr0;go_wp2_with fail
   refine hig.mono ?_;rintro e u ⟨rfl,rfl⟩;clear hig;go_wp2;exact bodyPost_ret (v:=.tuple #[.agg #[.int .i64 0,.int .i64 0],.bool false]) (by obtain⟨r0,r1,_⟩:=A.two;simp[results,results32,go_sem,r0,r1]) rfl HF.out
  | true =>
  rw[hi]at hig;have HGA:Hid (_):=z1x hi;obtain⟨hg0,hg1⟩:=zny hi;obtain⟨kg,hkg⟩:∃k:Nat,g=(k:Int):=⟨g.toNat,by omega⟩;subst hkg;rw[Int.toNat_natCast]at HGA;have hkl:kg<l.length:=by omega
  have gl6:decide ((6:Int)<(lv:Int))=false:=qB (by omega);have gl7:¬(6:Int)<(lv:Int):=by omega
  clear hi;go_enter func32,ntmps32;go_upto_region 1 with fail
  rw[<-hW];try rw[hr0]
  clear hW;go_wp2_with fail
  refine hig.mono ?_;rintro e u ⟨rfl,rfl⟩;clear hig;cases hF:F (kg:Int) with
  | some v =>
   obtain⟨dd,hdd,rfl⟩:=hK _ _ hF;obtain⟨V,hV,Y0,hbV⟩:∃V,V=W.alloc (.cells #[.int .i64 (dd:Int),.int .i64 ((szG l kg:Nat):Int)] 71)/\Bk 71 V W.heap.size [.int .i64 (dd:Int),.int .i64 ((szG l kg:Nat):Int)]/\Below W.heap.size W V:=⟨_,rfl,Bk.new _ _ _,bl1 _⟩;have X0b:=X0.below hbV;have hMb:=hM.below hbV;have HF:Hid (_):=zp8.out V n F dd _ _ hdd X0b hMb hK (by rw[HT1.out];omega) (hKp.trans (Kp.of hbV));have A:=X0b.set2U (.int .i64 (dd:Int)) (.int .i64 ((szG l kg:Nat):Int));obtain⟨z0,z1,f0,f1⟩:=X0b.two;obtain⟨y0,y1,_⟩:=Y0.two;have zwy:=X0b.lt;clear HNO zp8 hK hKp hS hbB hbW X0 ih hMb X0b hbV hr0 HT HT1 HLV HGA;generalize szG l kg=sz at *;go_upto_region 4 with (first | (at_lookup;refine zf5 117 71 underlying117 (zeroX _) rfl _ _ rfl m n F (kg:Int) hg hM rfl rfl _ hF ?_) | fail)
   rw[<-hV];clear hV hM hF;go_wp2;exact bodyPost_ret (v:=.tuple #[.agg #[.int .i64 (dd:Int),.int .i64 (sz:Int)],.bool true]) (by obtain⟨r0,r1,_⟩:=A.two;simp[results,results32,go_sem,r0,r1]) rfl HF.out
  | none =>
  obtain⟨b1,off,xa,xc,pa,pc,ta,tc,ea,hb1,hGC,c0,c1,-⟩:=hl.gl (Below.refl _ _) kg hkl;have hxp:=hps _ (zbm (d:=Gl.none) hkl);obtain⟨x,hx⟩:∃x,l.getD kg Gl.none=x:=⟨_,rfl⟩;rw[hx]at hGC c0 c1 HGA hxp;subst ea;have HGC:Hid (GlC S w0 xa xc pa pc ta tc x):=hGC;have kps:=hGC.ps.lenB;have kcs:=hGC.cs.lenB;have hcs1:=hGC.cs.below hbB;replace c0:=(hbB.cell (p:=⟨b1,off+kg*6,none⟩) hb1).trans c0;replace c1:=(hbB.cell (p:=⟨b1,off+kg*6+1,none⟩) hb1).trans c1;obtain⟨V1,hV1,Y1,zsm⟩:∃V,V=W.alloc (.cells #[.int .i64 0,.int .i64 0] 71)/\Bk 71 V W.heap.size [.int .i64 0,.int .i64 0]/\Below W.heap.size W V:=⟨_,rfl,Bk.new _ _ _,bl1 _⟩;go_upto_region 4 with (first | (at_lookup;refine zdc 117 71 underlying117 (zeroX _) rfl _ _ rfl m n F (kg:Int) hg hM rfl rfl hF ?_) | fail)
  rw[<-hV1];obtain⟨V2,hV2,Y2,zzp⟩:∃V,V=V1.alloc (.cells #[.slice xa x.o.cs.length xc,.slice pa x.o.ps.length pc] 57)/\Bk 57 V V1.heap.size [.slice xa x.o.cs.length xc,.slice pa x.o.ps.length pc]/\Below V1.heap.size V1 V:=⟨_,rfl,Bk.new _ _ _,bl1 _⟩;have hcs2:=(hcs1.below zsm).below zzp;replace hS:=hS.below zsm;obtain⟨s0,s1,_⟩:=hS.two;replace c0:=(zsm.cell (p:=⟨b1,off+kg*6,none⟩) (qN hb1 hbB.size)).trans c0;replace c1:=(zsm.cell (p:=⟨b1,off+kg*6+1,none⟩) (qN hb1 hbB.size)).trans c1;clear hV1;go_upto_region 7 with fail
  rw[<-hV2];clear hV2 c0 c1;replace X0:=(X0.below zsm).below zzp;replace hS:=hS.below zzp;replace hM:=(hM.below zsm).below zzp;replace hKp:=(hKp.trans (Kp.of zsm)).trans (Kp.of zzp);replace hbB:=(hbB.trans (zsm.mono hbB.size)).trans (zzp.mono (qF hbB.size zsm.size));have hpo:=zma S xa xc pa x.o.ps.length pc x.o.cs V2 hcs2;obtain⟨y0,y1,_⟩:=Y2.two;obtain⟨r2,hr2⟩:∃r,V1.heap.size=r:=⟨_,rfl⟩;have hr02:r0<r2:=by have h1:=zsm.size;have h2:=hbW.size;have h3:=HR0.out;have h4:=Y1.lt;omega
  rw[hr2]at Y2 y0 y1;clear hGC hcs1 hcs2 zsm zzp Y1 hbW;go_wp2_with fail
  refine hpo.mono ?_;rintro e V3 ⟨rfl,hb3⟩;clear hpo y0 y1;have HSZ0:Hid (cap x.o.cs.flatten.length=cap (szK l x 0)):=by show _=_;rw[zm6];rfl
  rw[HSZ0.out];replace X0:=X0.below hb3;replace hS:=hS.below hb3;replace hM:=hM.below hb3;replace Y2:=Y2.below hb3;replace hKp:=hKp.trans (Kp.of hb3);replace hbB:=hbB.trans (hb3.mono hbB.size);obtain⟨V4,hV4,Y4,hb4⟩:∃V,V=V3.alloc (.cells #[.int .i64 0,.int .i64 ((cap (szK l x 0):Nat):Int)] 71)/\Bk 71 V V3.heap.size [.int .i64 0,.int .i64 ((cap (szK l x 0):Nat):Int)]/\Below V3.heap.size V3 V:=⟨_,rfl,Bk.new _ _ _,bl1 _⟩;obtain⟨r3,hr3⟩:∃r,V3.heap.size=r:=⟨_,rfl⟩;have hr23:r2<r3:=by have h1:=Y2.lt;omega
  have HB3:Hid (Below w0.heap.size w0 V3):=hbB;have HK3:Hid (Kp m w V3):=hKp;have HR3:Hid (V3.heap.size=r3):=hr3;have HY2:Hid (Bk 57 V4 r2 [.slice xa x.o.cs.length xc,.slice pa x.o.ps.length pc]):=Y2.below hb4;have hK4:Kp m V3 V4:=Kp.of hb4;replace X0:=X0.below hb4;replace hS:=hS.below hb4;replace hM:=hM.below hb4;obtain⟨y0,y1,_⟩:=HY2.out.two;go_upto_region 8 with fail
  rw[<-hV4];rw[hr3]at Y4
  (try rw[hr3])
  clear hV4 hb3 hb4 hbB hKp Y2 hr3;go_wp2;clear y0 y1 s0 s1
  go_loopw [53] (fun i wr=>∃(k n' e:Nat) (F':Int->Option Value),k<=x.o.ps.length/\i=.int .i64 k/\Hid (dqs (dq l 6) (x.o.ps.take k)=some e)/\Bk 71 wr r0 [.int .i64 0,.int .i64 0]/\Bk 71 wr r3 [.int .i64 (e:Int),.int .i64 ((cap (szK l x k):Nat):Int)]/\Bk 119 wr sb [.slice (some ⟨b1,off,none⟩) l.length ca,.map (some m)]/\Mp wr m n' F'/\Hid (KnG l F')/\Hid (n'<=n+k*T)/\Kp m V3 wr) (fun i _=>x.o.ps.length-(intOf i).toNat)
  case atStart=>exact⟨0,n,0,F,qD _,rfl,rfl,X0,Y4,hS,hM,hK,by show _<=_;omega,hK4⟩
  case round =>
   clear X0 Y4 hS hM hK hK4;obtain⟨k,n1,e,F1,hk,rfl,HDQ,X0,Y3,hS,hM,HK,HN,hKp⟩:=hrel;have hBw:Below w0.heap.size w0 wr:=HB3.out.trans (hKp.below HB3.out.size hm0);have hwr:=hKp.size;have hr3w:r3<wr.heap.size:=Y3.lt;have he7:e<=7:=by
    have:=zte (n:=6) (fun p _ e h=>dq_le h) HDQ.out;exact this
   by_cases hkn:k<x.o.ps.length
   . obtain⟨bp,op,ep,hbp,hpw,e0,e1,e2⟩:=(HGC.out.below hBw).ps.pa (Below.refl _ _) k hkn
     subst ep;have HMEM:Hid (x.o.ps.getD k Pa.none∈x.o.ps):=zbm hkn;have HDM:Hid (∀d,dq l 6 (x.o.ps.getD k Pa.none).g=some d->dqs (dq l 6) (x.o.ps.take (k+1))=some (max e (d+1))):=fun d h=>zvz hkn HDQ.out h;have HSM:Hid (∀d,dq l 6 (x.o.ps.getD k Pa.none).g=some d->min (((cap (szK l x k):Nat):Int)+((szG l (x.o.ps.getD k Pa.none).g:Nat):Int)) 2001=((cap (szK l x (k+1)):Nat):Int)):=fun d h=>by rw[zlo h,zwd,zm7 hkn]
     have hszb:=ztr (szK l x k);have hszc:szG l (x.o.ps.getD k Pa.none).g<=2001:=by
      unfold szG;split
      . omega
      . omega
     obtain⟨q,hq⟩:∃q,x.o.ps.getD k Pa.none=q:=⟨_,rfl⟩;rw[hq]at hpw e0 e1 e2 HMEM HDM HSM hszc;obtain⟨gl,dx,dy⟩:=q;obtain⟨hgi,hxi,hyi⟩:=hpw;dsimp only at e0 e1 e2 hgi hxi hyi HDM HSM hszc;have i1:(0:Int)<=(k:Int):=(by omega);have i2:(k:Int)<(x.o.ps.length:Int):=(by omega);obtain⟨U,hU,XP,hbU⟩:∃U,U=wr.alloc (.cells #[.int .i64 gl,.int .i64 dx,.int .i64 dy] 54)/\Bk 54 U wr.heap.size [.int .i64 gl,.int .i64 dx,.int .i64 dy]/\Below wr.heap.size wr U:=⟨_,rfl,Bk.new _ _ _,bl1 _⟩;replace X0:=X0.below hbU;replace Y3:=Y3.below hbU;replace hS:=hS.below hbU;replace hM:=hM.below hbU;replace hKp:=hKp.trans (Kp.of hbU);replace hBw:=hBw.trans (hbU.mono hBw.size);have HKS:Hid ((k+1)*T=k*T+T/\(k+1)*T<=12*T):=⟨Nat.succ_mul k T,Nat.mul_le_mul_right _ (by omega)⟩
     have hih:=ih (lv+1) HLV.out gl n1 F1 U hgi (by
      have h1:=HKS.out;have h2:=HN.out;rw[HT.out]
      omega) hBw hS hM HK.out
     rw[show((lv+1:Nat):Int)=(lv:Int)+1 by omega]at hih;obtain⟨p0,p1,p2,_⟩:=XP.three;clear hq;go_upto_region 11 with fail
     rw[<-hU];clear hU e0 e1 e2;go_wp2_with fail
     refine hih.mono ?_;rintro ex u ⟨zzq,⟨n2,F2,hM2,hK2,hn2⟩,hk2⟩;rw[HT.out]at hn2;have HN2:Hid (n2<=n+(k+1)*T/\n2<=n+tk (d+1)):=by
      have h1:=HKS.out;have h2:=HN.out;show _/\_;rw[HT1.out];omega
     have HK2:Hid (KnG l F2):=hK2;replace X0:=X0.kp hk2 (by omega);replace Y3:=Y3.kp hk2 (by omega);replace hS:=hS.kp hk2 hsm;replace hKp:=hKp.trans hk2;have hus:=hk2.size;have hUs:=hbU.size;clear hih hk2 hM hn2 hK2 hBw XP p0 p1 p2 HKS HN HK;have hr3u:r3<u.heap.size:=(by omega);rcases zzq with ⟨dk,hdk,rfl⟩|⟨zn0,rfl⟩
     . have HD9:Hid (_):=HDM.out dk hdk
       have hmin:=HSM.out dk hdk;have hdk6:=dq_le hdk;obtain⟨M,hM9⟩:∃M,max e (dk+1)=M:=⟨_,rfl⟩;have hmax:max (e:Int) ((dk:Int)+1)=(M:Int):=(by omega);rw[hM9]at HD9;obtain⟨c9,hc9⟩:∃c,cap (szK l x (k+1))=c:=⟨_,rfl⟩;have HC9:Hid (cap (szK l x (k+1))=c9):=hc9;rw[hc9]at hmin;clear hdk HDM HSM HDQ hc9 hM9;generalize szG l gl=sz at *;generalize cap (szK l x k)=c8 at *;obtain⟨U2,hU2,XW,zk7⟩:∃V,V=u.alloc (.cells #[.int .i64 (dk:Int),.int .i64 (sz:Int)] 71)/\Bk 71 V u.heap.size [.int .i64 (dk:Int),.int .i64 (sz:Int)]/\Below u.heap.size u V:=⟨_,rfl,Bk.new _ _ _,bl1 _⟩;replace X0:=X0.below zk7;replace Y3:=Y3.below zk7;replace hS:=hS.below zk7;replace hM2:=hM2.below zk7;replace hKp:=hKp.trans (Kp.of zk7);obtain⟨q0,q1,f0,f1⟩:=Y3.two;obtain⟨t0,t1,_⟩:=XW.two;have hne:u.heap.size≠r3:=(by omega);have hr3l:=Y3.lt;have FY:Hid (Bk 71 ((U2.setCell ⟨r3,0,none⟩ (.int .i64 (M:Int))).setCell ⟨r3,1,none⟩ (.int .i64 (c9:Int))) r3 [.int .i64 (M:Int),.int .i64 (c9:Int)]):=Y3.set2U _ _;have FX:Hid (Bk 71 ((U2.setCell ⟨r3,0,none⟩ (.int .i64 (M:Int))).setCell ⟨r3,1,none⟩ (.int .i64 (c9:Int))) r0 [.int .i64 0,.int .i64 0]):=(X0.other 0 _ (by omega)).other 1 _ (by omega);have FS:Hid (Bk 119 ((U2.setCell ⟨r3,0,none⟩ (.int .i64 (M:Int))).setCell ⟨r3,1,none⟩ (.int .i64 (c9:Int))) sb [.slice (some ⟨b1,off,none⟩) l.length ca,.map (some m)]):=(hS.other 0 _ (hS.ne Y3 (by decide))).other 1 _ (hS.ne Y3 (by decide));have FM:Hid (Mp ((U2.setCell ⟨r3,0,none⟩ (.int .i64 (M:Int))).setCell ⟨r3,1,none⟩ (.int .i64 (c9:Int))) m n2 F2):=hM2.set2 _ _ (by omega);have FK:Hid (Kp m V3 ((U2.setCell ⟨r3,0,none⟩ (.int .i64 (M:Int))).setCell ⟨r3,1,none⟩ (.int .i64 (c9:Int)))):=hKp.set2 _ _ (by have:=HR3.out;omega);clear X0 Y3 hS hM2 hKp zk7 XW;go_upto_region 12 with fail
       rw[<-hU2];clear hU2;go_wp2;go_roundw
       case rel=>exact⟨k+1,n2,M,F2,by omega,by go_num,HD9,FX.out,by rw[HC9.out];exact FY.out,FS.out,FM.out,HK2,HN2.out.1,FK.out⟩
       case measure=>simp[intOf];omega
     . obtain⟨U2,hU2,XW,zk7⟩:∃V,V=u.alloc (.cells #[.int .i64 0,.int .i64 0] 71)/\Bk 71 V u.heap.size [.int .i64 0,.int .i64 0]/\Below u.heap.size u V:=⟨_,rfl,Bk.new _ _ _,bl1 _⟩
       replace X0:=X0.below zk7;have HF:Hid (_):=HNO.out U2 n2 F2 (z1l HGA.out HMEM.out zn0) X0 (hM2.below zk7) HK2.out HN2.out.2 ((HK3.out.trans hKp).trans (Kp.of zk7));have A:=X0.set2U (.int .i64 0) (.int .i64 0);obtain⟨z0,z1,f0,f1⟩:=X0.two;have zwy:=X0.lt;clear HNO zp8 hM2 hKp hS zk7 X0 Y3 zn0 HDM HSM HDQ;go_upto_region 12 with fail
       rw[<-hU2];clear hU2;go_wp2;exact bodyPost_ret (v:=.tuple #[.agg #[.int .i64 0,.int .i64 0],.bool false]) (by obtain⟨r0,r1,_⟩:=A.two;simp[results,results32,go_sem,r0,r1]) rfl HF.out
   . have ek:k=x.o.ps.length:=by omega
     rw[ek]at Y3 ⊢;have HDQ2:Hid (dqs (dq l 6) x.o.ps=some e):=by
      have h:=HDQ.out;rw[ek,List.take_length]at h;exact h
     have g4:¬(x.o.ps.length:Int)<(x.o.ps.length:Int):=(by omega);have HN2:Hid (n1+1<=n+tk (d+1)):=by
      have h1:k*T<=12*T:=Nat.mul_le_mul_right _ (by omega);have h2:=HN.out;show _<=_;rw[HT1.out];omega
     have hn1b:n1<=1000000000000:=by
      have h1:=HN2.out;rw[HT1.out]at h1;omega
     clear HDQ HN ek hk hkn;obtain⟨y0,y1,_⟩:=Y3.two;by_cases he6:6<e
     . have g5:(6:Int)<(e:Int):=by omega
       have HF:Hid (_):=HNO.out wr n1 F1 (fun k hk=>by rw[(zod HGA.out HDQ2.out).2 he6]at hk;cases hk) X0 hM HK.out (by have:=HN2.out;omega) (HK3.out.trans hKp);have A:=X0.set2U (.int .i64 0) (.int .i64 0);obtain⟨z0,z1,f0,f1⟩:=X0.two;have zwy:=X0.lt;clear HNO zp8 hM hKp hS X0 Y3;go_wp2;exact bodyPost_ret (v:=.tuple #[.agg #[.int .i64 0,.int .i64 0],.bool false]) (by obtain⟨r0,r1,_⟩:=A.two;simp[results,results32,go_sem,r0,r1]) rfl HF.out
     . have g5:¬(6:Int)<(e:Int):=by omega
       have hdq:=(zod HGA.out HDQ2.out).1 (by omega);have HSZ:Hid (cap (szK l x x.o.ps.length)=szG l kg):=(by show _=_;rw[zqs HGA.out hdq,zlo hdq]);have HKN:Hid (KnG l (Fup F1 kg (.agg #[.int .i64 (e:Int),.int .i64 ((szG l kg:Nat):Int)]))):=HK.out.put hdq;have HYE:Hid (_):=fun(U:World) h2 h3 h6=>zp8.out U (n1+1) _ e (.int .i64 0) (.int .i64 0) hdq h2 h3 HKN.out HN2.out h6;rw[HSZ.out]at y1 Y3;clear hdq HNO zp8 HKN HDQ2;generalize szG l kg=sz at *;obtain⟨s0,s1,_⟩:=hS.two;go_upto_region 19 with fail
       refine wp_region_held_drew (S:=fun w9=>w9.cell? ⟨sb,1,none⟩=some (.map (some m))/\w9.cell? ⟨r3,0,none⟩=some (.int .i64 (e:Int))/\w9.cell? ⟨r3,1,none⟩=some (.int .i64 (sz:Int))) (by kernel_rfl) ?_ (fun hH=>?_)
       . (try dsimp only)
         go_keep
       have hdr:Below wr.heap.size wr wr.drew:=Below.drew1;generalize wr.drew=Z at hdr hH ⊢;replace s1:=(hdr.cell (p:=⟨sb,1,none⟩) hS.lt).trans s1;replace y0:=(hdr.cell (p:=⟨r3,0,none⟩) Y3.lt).trans y0;replace y1:=(hdr.cell (p:=⟨r3,1,none⟩) Y3.lt).trans y1;replace X0:=X0.below hdr;replace hM:=hM.below hdr;replace hKp:=hKp.trans (Kp.of hdr);clear hdr s0;refine hT 0 hH ?_;refine hT 1 hH ?_;refine hT 2 hH ?_;refine hT 3 hH ?_;refine hT 4 hH ?_;refine hT 5 hH ?_;refine hCall (i:=6) rfl (by kernel_rfl) (by rfl) (fun K hK=>?_);refine zqj 117 71 underlying117 _ _ _ rfl m n1 F1 (kg:Int) _ hg hM hn1b rfl rfl rfl ?_;intro w9 hM9 hgrow;replace s1:=hgrow.cell s1 (by simp;omega);replace y0:=hgrow.cell y0 (by simp;omega);replace y1:=hgrow.cell y1 (by simp;omega);replace X0:=X0.grown hgrow (by simp;omega);have hKp9:Kp m V3 w9:=hKp.trans ⟨hgrow.os,hgrow.tape,hgrow.output,hgrow.size,fun j hj=>hgrow.block j hj.1 (by simp;exact hj.2)⟩;refine hK.out _ _ ?_ (fun hH=>?_)
       . (try dsimp only)
         exact⟨s1,y0,y1⟩
       clear hK K;try simp only[Act.put,pZ]
       refine wpAnyH_done (by kernel_rfl) ?_ _;have HF:Hid (_):=HYE.out w9 X0 hM9 (HK3.out.trans hKp9);have A:=X0.set2U (.int .i64 (e:Int)) (.int .i64 (sz:Int));obtain⟨z0,z1,f0,f1⟩:=X0.two;have zwy:=X0.lt;clear hH hgrow hM hM9 hKp hKp9 HYE X0 s1;go_wp2;exact bodyPost_ret (v:=.tuple #[.agg #[.int .i64 (e:Int),.int .i64 (sz:Int)],.bool true]) (by obtain⟨r0,r1,_⟩:=A.two;simp[results,results32,go_sem,r0,r1]) rfl HF.out
structure CnW(m B N:Nat)(w:World)(R:List (List Pn))(e:Ending)(w':World):Prop where
 ans:∃a1 c1,e=.returned (.tuple #[.slice a1 1 c1,.int .i64 0])/\PnE.row.row.rep (fun k=>B<=k) w' [.slice a1 1 c1] R
 mp:∃n' F',Mp w' m n' F'/\n'<=N
 kp:Kp m w w'
theorem zxt(w:World):(zeroValue 37).run Tryz.prog w=.ok (.slice none 0 0) w:=by kernel_rfl
theorem Kp.grown1{m:Nat}{w w':World}(hg:w.grownBy w' (some m)):Kp m w w':=⟨hg.os,hg.tape,hg.output,hg.size,fun j hj=>hg.block j hj.1 (by simp;exact hj.2)⟩
theorem contK(b1 off ca sb m B kg n N:Nat)(xa:OA)(xc:Nat)(qa:OA)(qc:Nat)(L1:List (List Pn))(L2:List Pa)(R:List (List Pn))(F:Int->Option Value)(w:World)(hb1:b1<w.heap.size)(hsb:sb<w.heap.size)(hsm:sb≠m)(hmB:m<B)(hBs:B<=w.heap.size)(hkg:kg<2)
    (x0:w.cell? ⟨b1,off+kg*6,none⟩=some (.slice xa L1.length xc)) (x1:w.cell? ⟨b1,off+kg*6+1,none⟩=some (.slice qa L2.length qc)) (x2:w.cell? ⟨b1,off+kg*6+2,none⟩=some (.slice none 0 0))
    (hS:Bk 82 w sb [.slice (some ⟨b1,off,none⟩) 2 ca,.slice none 0 0,.map (some m)]) (hM:Mp w m n F) (hn:n<=N) (hN:N<=1000) (hF:F (kg:Int)=none)
    (hat:∀U,Below w.heap.size w U->Calls Tryz.prog 71 #[.agg #[.slice xa L1.length xc,.slice qa L2.length qc],.slice none 0 0,.slice none 0 0] U fun e w'=>∃a1 c1 a2 c2,e=.returned (.tuple #[.agg #[.slice a1 L1.length c1,.slice a2 L2.length c2],.int .i64 0])/\PnE.row.row.rep (fun k=>U.heap.size<=k) w' [.slice a1 L1.length c1] L1/\PaE.row.rep (fun k=>U.heap.size<=k) w' [.slice a2 L2.length c2] L2/\Hid (L1=[]->a1=none/\c1=0)/\Below U.heap.size U w')
    (hcs:(L1=R/\R.length=1/\L2=[])\/(L1=[]/\L2=[⟨0,5,0⟩]/\R=[[⟨6,0,false⟩]]/\∀U,Below w.heap.size w U->Calls Tryz.prog 38 #[.pointer (some ⟨sb,0,none⟩),.int .i64 0] U fun e w'=>CnW m B N U [[⟨1,0,false⟩]] e w')) :
    Calls Tryz.prog 38 #[.pointer (some ⟨sb,0,none⟩),.int .i64 (kg:Int)] w fun e w'=>CnW m B (N+1) w R e w':=by
 obtain⟨s0,s1,s2,-⟩:=hS.three;have hg:I64 (kg:Int):=⟨by omega,by omega⟩;have i1:(0:Int)<=(kg:Int):=by omega
 have i2:(kg:Int)<2:=by omega
 have hl1:L1.length<=1:=by
  rcases hcs with ⟨rfl,h,-⟩|⟨rfl,-⟩
  . omega
  . exact qD _
 have hl2:L2.length<=1:=by
  rcases hcs with ⟨-,-,rfl⟩|⟨-,rfl,-⟩ <;> decide
 have zfi:∀U,Below w.heap.size w U->U.cell? ⟨sb,0,none⟩=some (.slice (some ⟨b1,off,none⟩) 2 ca)/\U.cell? ⟨sb,1,none⟩=some (.slice none 0 0)/\U.cell? ⟨b1,off+kg*6,none⟩=some (.slice xa L1.length xc)/\U.cell? ⟨b1,off+kg*6+1,none⟩=some (.slice qa L2.length qc)/\U.cell? ⟨b1,off+kg*6+2,none⟩=some (.slice none 0 0):=fun U hU =>
  ⟨(hU.cell (p:=⟨sb,0,none⟩) hsb).trans s0,(hU.cell (p:=⟨sb,1,none⟩) hsb).trans s1,(hU.cell (p:=⟨b1,off+kg*6,none⟩) hb1).trans x0,(hU.cell (p:=⟨b1,off+kg*6+1,none⟩) hb1).trans x1,(hU.cell (p:=⟨b1,off+kg*6+2,none⟩) hb1).trans x2⟩
 have HC:Hid (_):=hcs;clear hcs;go_enter func38,ntmps38;go_upto_region 4 with (first | (at_lookup;refine zdc 80 37 underlying80 (zxt _) rfl _ _ rfl m n F (kg:Int) hg hM rfl rfl hF ?_) | fail)
 go_cut [8,9]from 10 (fun s8 s9 wx=>∃(G:Nat) (a1:OA) (c1:Nat) (a2:OA) (c2:Nat),s8=.pointer (some ⟨G,0,none⟩)/\s9=.int .i64 0/\Bk 57 wx G [.slice a1 L1.length c1,.slice a2 L2.length c2]/\PnE.row.row.rep (fun k=>w.heap.size<=k) wx [.slice a1 L1.length c1] L1/\PaE.row.rep (fun k=>w.heap.size<=k) wx [.slice a2 L2.length c2] L2/\Hid (L1=[]->a1=none/\c1=0)/\Below w.heap.size w wx)
 case first =>
  refine wp_region_held_drew (S:=fun w9=>w9.cell? ⟨sb,0,none⟩=some (.slice (some ⟨b1,off,none⟩) 2 ca)/\w9.cell? ⟨sb,1,none⟩=some (.slice none 0 0)/\w9.cell? ⟨b1,off+kg*6,none⟩=some (.slice xa L1.length xc)/\w9.cell? ⟨b1,off+kg*6+1,none⟩=some (.slice qa L2.length qc)/\w9.cell? ⟨b1,off+kg*6+2,none⟩=some (.slice none 0 0)) (by kernel_rfl) ?_ (fun hH=>?_)
  . exact zfi _ Below.drew1
  have hZ:Below w.heap.size w w.drew:=Below.drew1;generalize w.drew=Z at hZ hH ⊢;have hzs:=hZ.size;clear s0 s1 s2 x0 x1 x2 hM hS HC;refine hT 0 hH ?_;refine hT 1 hH ?_;refine hT 2 hH ?_;refine hT 3 hH ?_;refine hT 4 hH ?_;refine hT 5 hH ?_;refine hT 6 hH ?_;refine hT 7 hH ?_;refine hT 8 hH ?_;refine hT 9 hH ?_;refine hT 10 hH ?_;refine hT 11 hH ?_;refine hT 12 hH ?_;refine hT 13 hH ?_;refine hT 14 hH ?_;refine hT 15 hH ?_;refine hT 16 hH ?_;refine hT 17 hH ?_;refine hT 18 hH ?_;refine hT 19 hH ?_;refine wpAnyH_ready (rs:=[20,24]) (by kernel_rfl) (by simp) (hCons (i:=20) rfl (by rfl) (fun K hK=>?_) (hCons (i:=24) rfl (by rfl) (fun K hK=>?_) AllReadyH.nil))
  . go_simp
    refine(hat _ hZ).mono ?_;rintro e u ⟨a1,c1,a2,c2,rfl,hr1,hr2,HNI,hbu⟩;have hus:=hbu.size;have hZu:=hZ.trans (hbu.mono hZ.size);go_wp2_with fail
    refine hK.out _ _ (zfi _ hZu) (fun hH=>?_);clear hK K;try simp only[Act.put,pZ]
    refine hT 21 hH ?_;refine hT 22 hH ?_;refine hT 23 hH ?_;refine hCall (i:=24) rfl (by kernel_rfl) (by rfl) (fun K hK=>?_);go_simp;obtain⟨V1,hV1,A1,hb1⟩:∃U,U=u.alloc (.cells #[.slice none 0 0,.slice none 0 0] 57)/\Bk 57 U u.heap.size [.slice none 0 0,.slice none 0 0]/\Below u.heap.size u U:=⟨_,rfl,Bk.new _ _ _,bl1 _⟩;rw[<-hV1];clear hV1;have hZv:=hZu.trans (hb1.mono hZu.size);have hv1s:=hb1.size;refine hK.out _ _ (zfi _ hZv) (fun hH=>?_);clear hK K;try simp only[Act.put,pZ]
    refine hCall (i:=25) rfl (by kernel_rfl) (by rfl) (fun K hK=>?_);obtain⟨y0,y1,f0,f1⟩:=A1.two;have hA2:=A1.set2U (.slice a1 L1.length c1) (.slice a2 L2.length c2);go_simp;have hq1:=PnE.row.row.stay (S':=fun k=>w.heap.size<=k) (w':=(V1.setCell ⟨u.heap.size,0,none⟩ (.slice a1 L1.length c1)).setCell ⟨u.heap.size,1,none⟩ (.slice a2 L2.length c2)) hr1 (by rw[zd0];exact hb1.size) (fun k hk hl=>⟨by omega,(zbq _ _ (by omega)).trans (hb1.block k hl)⟩);have hq2:=PaE.row.stay (S':=fun k=>w.heap.size<=k) (w':=(V1.setCell ⟨u.heap.size,0,none⟩ (.slice a1 L1.length c1)).setCell ⟨u.heap.size,1,none⟩ (.slice a2 L2.length c2)) hr2 (by rw[zd0];exact hb1.size) (fun k hk hl=>⟨by omega,(zbq _ _ (by omega)).trans (hb1.block k hl)⟩);have hB2:Below w.heap.size w ((V1.setCell ⟨u.heap.size,0,none⟩ (.slice a1 L1.length c1)).setCell ⟨u.heap.size,1,none⟩ (.slice a2 L2.length c2)):=(hZv.setCell (p:=⟨u.heap.size,0,none⟩) (by show w.heap.size<=u.heap.size;omega) _).setCell (p:=⟨u.heap.size,1,none⟩) (by show w.heap.size<=u.heap.size;omega) _;refine hK.out _ _ (zfi _ hB2) (fun hH=>?_);clear hK K hr1 hr2 A1 y0 y1 f0 f1;try simp only[Act.put,pZ]
    refine hT 26 hH ?_;refine wpAnyH_done (by kernel_rfl) ?_ _;clear hH;go_wp2_with fail
    go_meet;exact⟨u.heap.size,a1,c1,a2,c2,rfl,rfl,hA2,hq1,hq2,HNI,hB2⟩
  . go_simp
    obtain⟨V1,hV1,A1,hb1⟩:∃U,U=Z.alloc (.cells #[.slice none 0 0,.slice none 0 0] 57)/\Bk 57 U Z.heap.size [.slice none 0 0,.slice none 0 0]/\Below Z.heap.size Z U:=⟨_,rfl,Bk.new _ _ _,bl1 _⟩;rw[<-hV1];clear hV1;have hZv:=hZ.trans (hb1.mono hZ.size);have hlt:=A1.lt;refine hK.out _ _ (zfi _ hZv) (fun hH=>?_);clear hK K;try simp only[Act.put,pZ]
    refine hCall (i:=20) rfl (by kernel_rfl) (by rfl) (fun K hK=>?_);go_simp;refine(hat _ hZv).mono ?_;rintro e u ⟨a1,c1,a2,c2,rfl,hr1,hr2,HNI,hbu⟩;have hus:=hbu.size;have hZu:=hZv.trans (hbu.mono hZv.size);go_wp2_with fail
    refine hK.out _ _ (zfi _ hZu) (fun hH=>?_);clear hK K;try simp only[Act.put,pZ]
    refine hT 21 hH ?_;refine hT 22 hH ?_;refine hT 23 hH ?_;refine hCall (i:=25) rfl (by kernel_rfl) (by rfl) (fun K hK=>?_);have A2:=A1.below hbu;obtain⟨y0,y1,f0,f1⟩:=A2.two;have hA2:=A2.set2U (.slice a1 L1.length c1) (.slice a2 L2.length c2);go_simp;have hq1:=PnE.row.row.stay (S':=fun k=>w.heap.size<=k) (w':=(u.setCell ⟨Z.heap.size,0,none⟩ (.slice a1 L1.length c1)).setCell ⟨Z.heap.size,1,none⟩ (.slice a2 L2.length c2)) hr1 (by rw[zd0];exact qE _) (fun k hk hl=>⟨by omega,zbq _ _ (by omega)⟩);have hq2:=PaE.row.stay (S':=fun k=>w.heap.size<=k) (w':=(u.setCell ⟨Z.heap.size,0,none⟩ (.slice a1 L1.length c1)).setCell ⟨Z.heap.size,1,none⟩ (.slice a2 L2.length c2)) hr2 (by rw[zd0];exact qE _) (fun k hk hl=>⟨by omega,zbq _ _ (by omega)⟩);have hB2:Below w.heap.size w ((u.setCell ⟨Z.heap.size,0,none⟩ (.slice a1 L1.length c1)).setCell ⟨Z.heap.size,1,none⟩ (.slice a2 L2.length c2)):=(hZu.setCell (p:=⟨Z.heap.size,0,none⟩) (by show w.heap.size<=Z.heap.size;omega) _).setCell (p:=⟨Z.heap.size,1,none⟩) (by show w.heap.size<=Z.heap.size;omega) _;refine hK.out _ _ (zfi _ hB2) (fun hH=>?_);clear hK K hr1 hr2 A1 A2 y0 y1 f0 f1;try simp only[Act.put,pZ]
    refine hT 26 hH ?_;refine wpAnyH_done (by kernel_rfl) ?_ _;clear hH;go_wp2_with fail
    go_meet;exact⟨Z.heap.size,a1,c1,a2,c2,rfl,rfl,hA2,hq1,hq2,HNI,hB2⟩
 case rest =>
  clear s0 s1 s2 x0 x1 x2 hat zfi;obtain⟨G,a1,c1,a2,c2,rfl,rfl,hO,hr1,hr2,HNI,hBx⟩:=hcut;have hxs:=hBx.size;replace hS:=hS.below hBx;replace hM:=hM.below hBx;obtain⟨o0,o1,-⟩:=hO.two;rcases HC.out with ⟨rfl,hl,rfl⟩|⟨rfl,rfl,rfl,zsj⟩
  . rw[hl]at o0 hr1
    replace o1:wc.cell? ⟨G,1,none⟩=some (.slice a2 0 c2):=o1;obtain⟨s0,s1,s2,-⟩:=hS.three;clear hr2 hO HC;go_wp2;refine wp_loop_rounds 1 ?_;rw[rounds_succ];go_wp2_with (first | (at_mapUpdate;refine zes 80 37 underlying80 rfl _ _ _ rfl m n F (kg:Int) _ hg hM (by omega) rfl rfl rfl ?_) | fail)
    intro w9 hM9 hgrow;have hKm:Kp m wc w9:=Kp.grown1 hgrow;have HF:Hid (CnW m B (N+1) w L1 (.returned (.tuple #[.slice a1 1 c1,.int .i64 0])) w9) :=
     ⟨⟨a1,c1,rfl,PnE.row.row.stay hr1 hKm.size (fun k hk hl=>⟨by omega,hKm.block hl (by omega)⟩)⟩,⟨n+1,_,hM9,by omega⟩,(Kp.of hBx).trans hKm⟩
    clear hgrow hM9 hKm hM s0 s1 s2 o0 o1;go_wp2;go_ret2;exact HF.out
  . replace o0:wc.cell? ⟨G,0,none⟩=some (.slice a1 0 c1):=o0
    replace o1:wc.cell? ⟨G,1,none⟩=some (.slice a2 1 c2):=o1;obtain⟨rfl,rfl⟩:=HNI.out rfl;obtain⟨bp,op,rfl,hbp,-,e0,e1,e2⟩:=(zax hr2).1.pa (Below.refl _ _) 0 (by simp);replace e0:wc.cell? ⟨bp,op,none⟩=some (.int .i64 0):=(by simpa using e0);replace e1:wc.cell? ⟨bp,op+1,none⟩=some (.int .i64 5):=(by simpa using e1);replace e2:wc.cell? ⟨bp,op+2,none⟩=some (.int .i64 0):=(by simpa using e2);obtain⟨U,hU,XP,hbU⟩:∃U,U=wc.alloc (.cells #[.int .i64 0,.int .i64 5,.int .i64 0] 54)/\Bk 54 U wc.heap.size [.int .i64 0,.int .i64 5,.int .i64 0]/\Below wc.heap.size wc U:=⟨_,rfl,Bk.new _ _ _,bl1 _⟩;have hBU:Below w.heap.size w U:=hBx.trans (hbU.mono hBx.size);have hih:=zsj U hBU;obtain⟨p0,p1,p2,-⟩:=XP.three;have hus:=hbU.size;clear hr1 hr2 HC zsj hO;go_wp2;refine wp_loop_rounds 2 ?_;rw[rounds_succ];go_upto_region 11 with fail
    rw[<-hU];clear hU e0 e1 e2 o0 o1;go_wp2_with fail
    refine hih.mono ?_;rintro ex u ⟨⟨a7,c7,rfl,hr7⟩,⟨n2,F2,hM2,hn2⟩,hk2⟩;have hk2s:=hk2.size;replace XP:=XP.kp hk2 (by omega);replace hS:=(hS.below hbU).kp hk2 hsm;have hKp:Kp m w u:=(Kp.of hBU).trans hk2;have hmv:=movA _ a7 c7 u (zax hr7).1;clear hih hM p0 p1 p2 hk2 hr7;obtain⟨p0,p1,p2,-⟩:=XP.three;go_wp2_with fail
    refine hmv.mono ?_;rintro ex u2 ⟨a9,c9,rfl,hr9,hb9⟩;have hu2:=hb9.size;replace hS:=hS.below hb9;replace hM2:=hM2.below hb9;replace hKp:=hKp.trans (Kp.of hb9);have hsr:PnE.row.row.rep (fun k=>B<=k/\(Value.slice none 0 0).ownBlock≠some k) u2 [.slice a9 1 c9] [[⟨6,0,false⟩]]:=PnE.row.row.stay hr9 (qE _) (fun k hk _=>⟨⟨by omega,fun e=>by cases e⟩,rfl⟩);have hsrc:=(zax (E:=PnE.row) (l:=[[⟨6,0,false⟩]]) hsr).1;clear hmv p0 p1 p2 XP hb9 hr9 hsr;go_wp2_with (at_builtin;refine zab (E:=PnE.row) 37 63 underlying37 ze5 rfl (by decide) (by decide) rfl _ _ rfl B (fun k=>B<=k) _ [] rfl (Gw.nil _ _ _ _ _) a9 c9 _ [[⟨6,0,false⟩]] rfl rfl hsrc (by decide) (by omega) ?_)
    intro v7 w7 hT7 hgrow _;have h7:Below u2.heap.size u2 w7:=(Below.refl _ _).grown hgrow (qE _) (fun q hq=>by cases hq);have h7s:=h7.size;obtain⟨va,vc,rfl,-,-⟩:=hT7.slice;have hr:PnE.row.row.rep (fun k=>B<=k) w7 [.slice va 1 vc] [[⟨6,0,false⟩]]:=hT7.rep (by simp);replace hS:=hS.below h7;replace hM2:=hM2.below h7;replace hKp:=hKp.trans (Kp.of h7);obtain⟨s0,s1,s2,-⟩:=hS.three;clear hgrow hT7 hsrc h7;go_wp2;rw[rounds_succ];go_wp2_with (first | (at_mapUpdate;refine zes 80 37 underlying80 rfl _ _ _ rfl m n2 F2 (kg:Int) _ hg hM2 (by omega) rfl rfl rfl ?_) | fail)
    intro w9 hM9 hgrow;have hKm:Kp m w7 w9:=Kp.grown1 hgrow;have HF:Hid (CnW m B (N+1) w [[⟨6,0,false⟩]] (.returned (.tuple #[.slice va 1 vc,.int .i64 0])) w9) :=
     ⟨⟨va,vc,rfl,PnE.row.row.stay hr hKm.size (fun k hk hl=>⟨hk,hKm.block hl (by omega)⟩)⟩,⟨n2+1,_,hM9,by omega⟩,hKp.trans hKm⟩
    clear hgrow hM9 hKm hM2 s0 s1 s2 hr hKp hS;go_wp2;go_ret2;exact HF.out
