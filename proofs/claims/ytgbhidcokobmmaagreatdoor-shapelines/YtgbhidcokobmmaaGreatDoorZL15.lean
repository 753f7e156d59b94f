import Derived.Test.YtgbhidcokobmmaaGreatDoorZL13
import Derived.Laws.MakeOwn
set_option linter.unusedSimpArgs false
set_option linter.unusedVariables false
namespace Go.Proofs.YtgbhidcokobmmaaGreatDoor
open Go.RowKit
theorem zbs{z:Int}(h1:-9223372036854775808<=z)(h2:z<=9223372036854775807):IntKind.i64.wrap z=z:=by
 simp only[IntKind.wrap,IntKind.bits,IntKind.signed]
 simp
 omega
structure Te where
 st:Int
 pk:Int
 en:Int
def Te.none:Te:=⟨0,0,0⟩
theorem crdT{z:Int}:crd z=true ↔ -16384<=z/\z<=16384:=by simp[crd]
def TfT(t:Te):Prop:=(-16384<=t.st/\t.st<=16384)/\(-16384<=t.pk/\t.pk<=16384)/\(-16384<=t.en/\t.en<=16384) /\
 ((0<t.pk/\0<=t.st/\t.st<t.pk/\(t.pk<t.en\/(t.pk=16384/\t.en=16384)))\/(t.pk<0/\t.en<=0/\t.pk<t.en/\(t.st<t.pk\/(t.pk=-16384/\t.st=-16384)))\/(t.pk=0/\t.st=0/\t.en=0))
def tfB(t:Te):Bool:=decide ((-16384<=t.st/\t.st<=16384)/\(-16384<=t.pk/\t.pk<=16384)/\(-16384<=t.en/\t.en<=16384) /\
 ((0<t.pk/\0<=t.st/\t.st<t.pk/\(t.pk<t.en\/(t.pk=16384/\t.en=16384)))\/(t.pk<0/\t.en<=0/\t.pk<t.en/\(t.st<t.pk\/(t.pk=-16384/\t.st=-16384)))\/(t.pk=0/\t.st=0/\t.en=0)))
theorem zck{t:Te}:tfB t=true↔TfT t:=by unfold tfB TfT;exact decide_eq_true_iff
theorem zf9{t:Te}(h:¬TfT t):tfB t=false:=by
 rw[Bool.eq_false_iff]
 exact fun e=>h (zck.1 e)
def paQ(t:Te)(c:Int):Rat :=
 if tfB t&&crd c then
  (if t.pk=0\/c=t.pk then 1 else if c<=t.st\/t.en<=c then 0 else if c<t.pk then ((c-t.st:Int):Rat)/((t.pk-t.st:Int):Rat)else ((t.en-c:Int):Rat)/((t.en-t.pk:Int):Rat))
 else 0
theorem zln{t:Te}{c:Int}(h:¬(tfB t=true/\crd c=true)):paQ t c=0:=by
 rw[paQ,if_neg];rw[Bool.and_eq_true]
 exact h
theorem zhc{t:Te}{c:Int}(h1:tfB t=true)(h2:crd c=true):paQ t c=if t.pk=0\/c=t.pk then 1 else if c<=t.st\/t.en<=c then 0 else if c<t.pk then ((c-t.st:Int):Rat)/((t.pk-t.st:Int):Rat)else ((t.en-c:Int):Rat)/((t.en-t.pk:Int):Rat):=by
 rw[paQ,if_pos (by rw[h1,h2];rfl)]
def alK(l:List Te)(cs:List Int):Nat->Rat
 | 0=>1
 | k+1=>alK l cs k*paQ (l.getD k Te.none) (cs.getD k 0)
def alQ(l:List Te)(cs:List Int):Rat:=alK l cs l.length
theorem zhx(l:List Te)(cs:List Int)(k:Nat):alK l cs (k+1)=alK l cs k*paQ (l.getD k Te.none) (cs.getD k 0):=rfl
def rgB(l:List Te)(n:Int):Bool:=l.all tfB&&decide ((l.length:Int)=n)
open Go.Maps
def Tw(t:Te):Prop:=I64 t.st/\I64 t.pk/\I64 t.en
def Tz(w:World)(a:Option Addr)(cap:Nat)(l:List Te):Prop :=
 l.length<=cap/\cap<=maxLen/\(∀t∈l,Tw t)/\(a=none->cap=0) /\
 ∀i,i<l.length->∃b off,a=some ⟨b,off,none⟩/\b<w.heap.size/\w.cell? ⟨b,off+i*3,none⟩=some (.int .i64 (l.getD i Te.none).st) /\
  w.cell? ⟨b,off+i*3+1,none⟩=some (.int .i64 (l.getD i Te.none).pk)/\w.cell? ⟨b,off+i*3+2,none⟩=some (.int .i64 (l.getD i Te.none).en)
theorem Tz.keep{w w':World}{a:Option Addr}{cap:Nat}{l:List Te}(h:Tz w a cap l)(hs:w.heap.size<=w'.heap.size)
    (hb:∀b,b<w.heap.size->(∃o,a=some ⟨b,o,none⟩)->l≠[]->w'.heap[b]?=w.heap[b]?):Tz w' a cap l:=by
 refine⟨h.1,h.2.1,h.2.2.1,h.2.2.2.1,fun i hi=>?_⟩
 obtain⟨b,off,h1,h2,h3,h4,h5⟩:=h.2.2.2.2 i hi
 have e:=hb b h2 ⟨off,h1⟩ (fun e=>by rw[e]at hi;simp at hi)
 exact⟨b,off,h1,Nat.lt_of_lt_of_le h2 hs,(World.cell?_of_block (w:=w) (a:=⟨b,off+i*3,none⟩) e).trans h3,(World.cell?_of_block (w:=w) (a:=⟨b,off+i*3+1,none⟩) e).trans h4,(World.cell?_of_block (w:=w) (a:=⟨b,off+i*3+2,none⟩) e).trans h5⟩
theorem Tz.below{w w':World}{a:Option Addr}{cap:Nat}{l:List Te}(h:Tz w a cap l)(hb:Below w.heap.size w w'):Tz w' a cap l :=
 h.keep hb.size fun b hb1 _ _=>hb.block b hb1
theorem Tz.at{w wr:World}{a:Option Addr}{cap:Nat}{l:List Te}(h:Tz w a cap l)(hb:Below w.heap.size w wr)(k:Nat)(hk:k<l.length) :
 ∃b off,a=some ⟨b,off,none⟩/\b<w.heap.size/\wr.cell? ⟨b,off+k*3,none⟩=some (.int .i64 (l.getD k Te.none).st) /\
    wr.cell? ⟨b,off+k*3+1,none⟩=some (.int .i64 (l.getD k Te.none).pk)/\wr.cell? ⟨b,off+k*3+2,none⟩=some (.int .i64 (l.getD k Te.none).en):=by
 obtain⟨b,off,h1,h2,h3,h4,h5⟩:=h.2.2.2.2 k hk
 exact⟨b,off,h1,h2,(hb.cell (p:=⟨b,off+k*3,none⟩) h2).trans h3,(hb.cell (p:=⟨b,off+k*3+1,none⟩) h2).trans h4,(hb.cell (p:=⟨b,off+k*3+2,none⟩) h2).trans h5⟩
theorem Tz.lenB{w:World}{a:Option Addr}{cap:Nat}{l:List Te}(h:Tz w a cap l):l.length<=9223372036854775807:=by
 have h1:=h.1
 have h2:=h.2.1
 unfold maxLen at h2
 omega
theorem ztr{l:List Te}{cs:List Int}{j:Nat}(hj:j<l.length)(h:paQ (l.getD j Te.none) (cs.getD j 0)=0):alQ l cs=0:=by
 have:∀k,j<k->alK l cs k=0:=by
  intro k
  induction k with
  | zero=>intro h1;omega
  | succ k ih =>
   intro h1
   rw[zhx]
   by_cases e:j=k
   . subst e
     rw[h,Rat.mul_zero]
   . rw[ih (by omega),Rat.zero_mul]
 exact this _ hj
structure Sr where
 rg:List (List Te)
 rw:List (List Int)
def roB(k:Nat)(r:List Int):Bool:=decide (r.length=k)&&r.all fdB
def stB(s:Sr)(n:Int):Bool:=decide (0<=n/\n<=4)&&(decide (s.rg.length<=40)&&(decide (s.rw.length<=400)&&(s.rg.all (fun l=>rgB l n)&&s.rw.all (roB s.rg.length))))
theorem stB_iff{s:Sr}{n:Int}:stB s n=true↔(0<=n/\n<=4)/\s.rg.length<=40/\s.rw.length<=400/\(∀l∈s.rg,rgB l n=true)/\(∀r∈s.rw,r.length=s.rg.length/\∀z∈r,-32768<=z/\z<=32767):=by
 unfold stB roB
 simp only[Bool.and_eq_true,decide_eq_true_iff,List.all_eq_true,zq2]
def fiS(s:Sr)(b r:Int):Bool:=fdB b&&(decide (r=-1)||(decide (0<=r)&&(decide (r<(s.rw.length:Int))&&decide (r<400))))
theorem zwv{s:Sr}{b r:Int}:fiS s b r=true↔(-32768<=b/\b<=32767)/\(r=-1\/(0<=r/\r<(s.rw.length:Int)/\r<400)):=by
 unfold fiS
 simp only[Bool.and_eq_true,Bool.or_eq_true,decide_eq_true_iff,zq2]
def chK(g:List (List Te))(r:List Int)(cs:List Int):Nat->Rat
 | 0=>0
 | k+1=>chK g r cs k+alQ (g.getD k []) cs*((r.getD k 0:Int):Rat)
theorem zhu(g:List (List Te))(r cs:List Int)(k:Nat):chK g r cs (k+1)=chK g r cs k+alQ (g.getD k []) cs*((r.getD k 0:Int):Rat):=rfl
def rwB(s:Sr)(i:Int):Bool:=decide (0<=i/\i<(s.rw.length:Int)/\(s.rw.getD i.toNat []).length=s.rg.length)
theorem zor{s:Sr}{i:Int}:rwB s i=true↔0<=i/\i<(s.rw.length:Int)/\(s.rw.getD i.toNat []).length=s.rg.length:=by unfold rwB;exact decide_eq_true_iff
def chQ(s:Sr)(i:Int)(cs:List Int):Rat:=if rwB s i then chK s.rg (s.rw.getD i.toNat []) cs s.rg.length else 0
theorem zrb{s:Sr}{i:Int}(h:rwB s i=true)(cs:List Int):chQ s i cs=chK s.rg (s.rw.getD i.toNat []) cs s.rg.length:=by rw[chQ,if_pos h]
theorem zgp{s:Sr}{i:Int}(h:rwB s i=false)(cs:List Int):chQ s i cs=0:=by rw[chQ,if_neg (by rw[h];decide)]
def vaQ(s:Sr)(b r:Int)(cs:List Int):Rat:=((b:Int):Rat)+chQ s r cs
theorem getL{α:Type}{m:List (List α)}{k:Nat}(hk:k<m.length):m.getD k []=m[k]:=by simp[List.getD,hk]
theorem zl0{α:Type}{m:List (List α)}{k:Nat}(hk:k<m.length):m.getD k []∈m:=by rw[getL hk];exact List.getElem_mem hk
def isI:Value->Bool
 | .int _ _=>true
 | _=>false
def NoI(w:World)(g:Nat):Prop:=∀j v,w.cell? ⟨g,j,none⟩=some v->isI v=false
theorem NoI.of{w:World}{g:Nat}{cur:Array Value}{e:TypeId}(h:w.heap[g]?=some (.cells cur e (0,0)))(hc:∀c∈cur.toList,isI c=false):NoI w g:=by
 intro j v hv
 rw[cell_of_row w g j cur e (0,0) h]at hv
 obtain⟨hj,e⟩:=Array.getElem?_eq_some_iff.1 hv
 exact hc v (by rw[<-e];simp)
theorem NoI.mem{w:World}{g:Nat}{cur:Array Value}{e:TypeId}(hn:NoI w g)(h:w.heap[g]?=some (.cells cur e (0,0))):∀c∈cur.toList,isI c=false:=by
 intro c hc
 obtain⟨j,hj,e⟩:=List.getElem_of_mem hc
 refine hn j c ?_
 rw[cell_of_row w g j cur _ (0,0) h,Array.getElem?_eq_getElem (by simpa using hj)]
 simpa using e
theorem NoI.below{w w':World}{g:Nat}(h:NoI w g)(hg:g<w.heap.size)(hb:Below w.heap.size w w'):NoI w' g:=by
 intro j v hv
 rw[hb.cell (p:=⟨g,j,none⟩) hg]at hv
 exact h j v hv
theorem Rd.grown{w w':World}{a:Option Addr}{cap:Nat}{xs:List Nat}{row:Option Nat}(h:Rd w a cap xs)(hg:w.grownBy w' row)(hn:∀g,row=some g->NoI w g):Rd w' a cap xs:=by
 obtain⟨h1,h2,h3,h5,h4⟩:=h
 refine⟨h1,h2,h3,h5,?_⟩
 rcases h4 with h4|⟨b,off,e,hb1,hc⟩
 . exact .inl h4
 . by_cases h0:xs=[]
   . exact .inl h0
   . have hl:0<xs.length:=List.length_pos_iff.2 h0
     have hne:some b≠row:=by
      intro e2
      have:=hn b e2.symm _ _ (hc 0 hl)
      cases this
     exact .inr ⟨b,off,e,Nat.lt_of_lt_of_le hb1 hg.size,fun i hi=>(World.cell?_of_block (w:=w) (a:=⟨b,off+i,none⟩) (hg.block b hb1 hne)).trans (hc i hi)⟩
theorem Fr.grown{w w':World}{v:Value}{k:Nat}{q:Rat}{row:Option Nat}(h:Fr w v k q)(hg:w.grownBy w' row)(hn:∀g,row=some g->NoI w g):Fr w' v k q:=by
 obtain⟨n,xs,ys,⟨a,c,a',c',rfl,h1,h2⟩,h3⟩:=h
 exact⟨n,xs,ys,⟨a,c,a',c',rfl,h1.grown hg hn,h2.grown hg hn⟩,h3⟩
def Rz(w:World)(a:Option Addr)(cap k:Nat)(qs:List Rat):Prop :=
 qs.length<=cap/\cap<=maxLen /\
 ∀i,i<qs.length->∃b off x y z,a=some ⟨b,off,none⟩/\b<w.heap.size/\w.cell? ⟨b,off+i*3,none⟩=some x/\w.cell? ⟨b,off+i*3+1,none⟩=some y/\w.cell? ⟨b,off+i*3+2,none⟩=some z/\Fr w (.agg #[x,y,z]) k (qs.getD i 0)
theorem Rz.at{w wr:World}{a:Option Addr}{cap k:Nat}{qs:List Rat}(h:Rz w a cap k qs)(hb:Below w.heap.size w wr)(i:Nat)(hi:i<qs.length) :
 ∃b off x y z,a=some ⟨b,off,none⟩/\b<w.heap.size/\wr.cell? ⟨b,off+i*3,none⟩=some x/\wr.cell? ⟨b,off+i*3+1,none⟩=some y/\wr.cell? ⟨b,off+i*3+2,none⟩=some z/\Fr wr (.agg #[x,y,z]) k (qs.getD i 0):=by
 obtain⟨b,off,x,y,z,h1,h2,h3,h4,h5,h6⟩:=h.2.2 i hi
 exact⟨b,off,x,y,z,h1,h2,(hb.cell (p:=⟨b,off+i*3,none⟩) h2).trans h3,(hb.cell (p:=⟨b,off+i*3+1,none⟩) h2).trans h4,(hb.cell (p:=⟨b,off+i*3+2,none⟩) h2).trans h5,h6.below hb⟩
theorem Rz.below{w w':World}{a:Option Addr}{cap k:Nat}{qs:List Rat}(h:Rz w a cap k qs)(hb:Below w.heap.size w w'):Rz w' a cap k qs:=by
 refine⟨h.1,h.2.1,fun i hi=>?_⟩
 obtain⟨b,off,x,y,z,h1,h2,h3⟩:=h.at hb i hi
 exact⟨b,off,x,y,z,h1,Nat.lt_of_lt_of_le h2 hb.size,h3⟩
theorem Rz.nil(w:World)(a:Option Addr)(cap k:Nat)(h:cap<=maxLen):Rz w a cap k []:=⟨Nat.zero_le _,h,fun i hi=>by simp at hi⟩
def Ro(T:TypeId)(base:Nat)(w:World)(v:Value)(k:Nat)(qs:List Rat):Prop :=
 ∃vs:List Value,w.ownsRow base T 3 v qs.length vs/\(∀g,v.ownBlock=some g->NoI w g) /\
  ∀i,i<qs.length->∃x y z,vs[i*3]?=some x/\vs[i*3+1]?=some y/\vs[i*3+2]?=some z/\Fr w (.agg #[x,y,z]) k (qs.getD i 0)
theorem Ro.nil(T:TypeId)(base:Nat)(w:World)(k:Nat):Ro T base w (.slice none 0 0) k []:=⟨[],World.ownsRow_nil w base _ 3,(fun g hg=>by cases hg),fun i hi=>by simp at hi⟩
theorem Ro.slice{T:TypeId}{base:Nat}{w:World}{v:Value}{k:Nat}{qs:List Rat}(h:Ro T base w v k qs):∃a cap,v=.slice a qs.length cap/\Rz w a cap k qs:=by
 obtain⟨vs,h3,_,h4⟩:=h
 rcases h3.2 with ⟨rfl,h0⟩|⟨g,cap,cur,rfl,hb,hg,hc1,hc2,hc3,ht⟩
 . have:qs=[]:=List.length_eq_zero_iff.1 h0
   subst this
   exact⟨none,0,rfl,Rz.nil _ _ _ _ (Nat.zero_le _)⟩
 . refine⟨_,cap,rfl,hc1,hc2,fun i hi=>?_⟩
   obtain⟨x,y,z,k0,k1,k2,k3⟩:=h4 i hi
   have zdx:∀j,(⟨g,0,none⟩:Addr).add j=⟨g,0+j,none⟩:=by intro j;unfold Addr.add;split <;> simp_all
   have d0:=h3.cells (g:=g) rfl (i*3) _ k0
   have d1:=h3.cells (g:=g) rfl (i*3+1) _ k1
   have d2:=h3.cells (g:=g) rfl (i*3+2) _ k2
   rw[zdx]at d0 d1 d2
   exact⟨g,0,x,y,z,rfl,(Array.getElem?_eq_some_iff.1 hg).1,d0,d1,d2,k3⟩
theorem Ro.lo{T:TypeId}{base:Nat}{w:World}{v:Value}{k:Nat}{qs:List Rat}(h:Ro T base w v k qs){g:Nat}(hg:v.ownBlock=some g):base<=g/\g<w.heap.size:=by
 obtain⟨vs,h3,_⟩:=h
 exact World.ownsRow.lt h3 g hg
theorem Ro.below{T:TypeId}{base:Nat}{w w':World}{v:Value}{k:Nat}{qs:List Rat}(h:Ro T base w v k qs)(hb:Below w.heap.size w w'):Ro T base w' v k qs:=by
 have hlo:=fun g hg=>(h.lo (g:=g) hg).2
 obtain⟨vs,h3,hn,h4⟩:=h
 refine⟨vs,⟨h3.1,?_⟩,fun g hg=>(hn g hg).below (hlo g hg) hb,fun i hi=>?_⟩
 . rcases h3.2 with h0|⟨g,cap',cur,k1,k2,k3,k4⟩
   . exact .inl h0
   . exact .inr ⟨g,cap',cur,k1,k2,(hb.block g (Array.getElem?_eq_some_iff.1 k3).1).trans k3,k4⟩
 . obtain⟨x,y,z,k0,k1,k2,k3⟩:=h4 i hi
   exact⟨x,y,z,k0,k1,k2,k3.below hb⟩
def rtZ:Value:=.agg #[.bool false,.slice none 0 0,.slice none 0 0]
theorem rtZ_made(n:Nat):∀c∈(madeCells rtZ.cells n).toList,isI c=false:=by
 intro c hc
 simp only[madeCells,rtZ,Value.cells,Array.toList_map,List.mem_map]at hc
 obtain⟨j,_,rfl⟩:=hc
 have h3:j%3=0\/j%3=1\/j%3=2:=by omega
 show isI ((#[Value.bool false,.slice none 0 0,.slice none 0 0])[j%3]!)=false
 rcases h3 with h|h|h <;> rw[h] <;> rfl
theorem zld(n:Nat):∀c∈(Builtin.zeroCells rtZ.cells n).toList,isI c=false:=by
 intro c hc
 simp only[Builtin.zeroCells,rtZ,Value.cells,Array.toList_map,List.mem_map]at hc
 obtain⟨j,_,rfl⟩:=hc
 have h3:j%3=0\/j%3=1\/j%3=2:=by omega
 show isI ((#[Value.bool false,.slice none 0 0,.slice none 0 0])[j%3]!)=false
 rcases h3 with h|h|h <;> rw[h] <;> rfl
theorem Fr.noI{w:World}{x y z:Value}{k:Nat}{q:Rat}(h:Fr w (.agg #[x,y,z]) k q):∀c ∈ [x,y,z],isI c=false/\c.oneCell'=true:=by
 obtain⟨n,xs,ys,⟨a,c,a',c',e,h1,h2⟩,h3⟩:=h
 simp at e
 obtain⟨rfl,rfl,rfl⟩:=e
 intro c hc
 simp at hc
 rcases hc with rfl|rfl|rfl <;> exact⟨rfl,rfl⟩
theorem zny{P:Program}{w w':World}{v v':Value}(base:Nat)(t ty e:TypeId)(i:TypeInfo)(ht:P.underlying t=some (.slice e))(hi:P.info? e=some i)(hz:i.zero=some rtZ)(hsize:i.size=3)(hby:i.bytes=56)
    (n:Nat) (xs:List Value) (hown:w.ownsRow base e 3 v n xs) (hn:∀g,v.ownBlock=some g->NoI w g)
    (a:Addr) (news:List Value) (hl:news.length=3) (hnews:∀j u,news[j]?=some u->w.cell? (a.add j)=some u) (h1:∀u∈news,isI u=false/\u.oneCell'=true) (hlen:n+1<=1000000)
    (hr:(Builtin.append_ #[t,t] ty #[v,.slice (some a) 1 1]).run P w=.ok v' w'):∀g,v'.ownBlock=some g->NoI w' g:=by
 have hl':news.length=1*i.size:=by rw[hsize,hl]
 have hnew:∀u∈news,isI u=false:=fun u hu=>(h1 u hu).1
 rcases hown.2 with ⟨rfl,rfl⟩|⟨g,cap,cur,rfl,hbg,hg,hnc,hcm,hcs,htake⟩
 . have h2:=run_append_nil (P:=P) w t ty e i rtZ ht hi hz a 1 1 news hl' hnews (by omega) (by omega) (by rw[hby];omega)
   rw[h2]at hr;injection hr with e1 e2;subst e1 e2
   intro g hg
   simp[Value.ownBlock]at hg
   subst hg
   refine NoI.of (heap_alloc_new w.drew _) (fun c hc=>?_)
   rw[Array.toList_append,List.mem_append]at hc
   rcases hc with hc|hc
   . exact hnew c (by simpa using hc)
   . exact zld _ c hc
 . have hcur:=(hn g rfl).mem hg
   have hxs:∀c∈xs,isI c=false:=fun c hc=>hcur c (by rw[<-htake]at hc;exact List.mem_of_mem_take hc)
   by_cases hroom:n+1<=cap
   . have hfit:n*i.size+news.length<=cur.size:=by rw[hsize,hl,hcs];omega
     have h2:=run_append_room (P:=P) w t ty e i ht hi g n cap cur hg a 1 1 news hl' hnews (fun u hu=>(h1 u hu).2) hroom hfit
     rw[h2]at hr;injection hr with e1 e2;subst e1 e2
     intro g' hg'
     simp[Value.ownBlock]at hg'
     subst hg'
     refine NoI.of (setRow_heap w g cur _ e _ hg) (fun c hc=>?_)
     simp only[List.mem_append]at hc
     rcases hc with (hc|hc)|hc
     . exact hcur c (List.mem_of_mem_take hc)
     . exact hnew c hc
     . exact hcur c (List.mem_of_mem_drop hc)
   . have holds:∀j u,xs[j]?=some u->w.cell? ((⟨g,0,none⟩:Addr).add j)=some u:=hown.cells (g:=g) rfl
     have h2:=run_append_grow (P:=P) w t ty e i rtZ ht hi hz ⟨g,0,none⟩ n cap xs (by rw[hsize];exact hown.1) holds a 1 1 news hl' hnews (by omega) (by omega) (growslice_fits (by omega) (by rw[hby];omega))
     rw[h2]at hr;injection hr with e1 e2;subst e1 e2
     intro g' hg'
     simp[Value.ownBlock]at hg'
     subst hg'
     refine NoI.of (heap_alloc_new w.drew _) (fun c hc=>?_)
     rw[Array.toList_append,Array.toList_append,List.mem_append,List.mem_append]at hc
     rcases hc with (hc|hc)|hc
     . exact hxs c (by simpa using hc)
     . exact hnew c (by simpa using hc)
     . exact zld _ c hc
theorem zrj{P:Program}{w:World}{v:Value}(base:Nat)(t ty e:TypeId)(i:TypeInfo)(ht:P.underlying t=some (.slice e))(hi:P.info? e=some i)(hz:i.zero=some rtZ)(hsize:i.size=3)(hby:i.bytes=56)
    (k:Nat) (qs:List Rat) (q:Rat) (hown:Ro e base w v k qs) (g:Nat) (x y z:Value)
    (c0:w.cell? ⟨g,0,none⟩=some x) (c1:w.cell? ⟨g,1,none⟩=some y) (c2:w.cell? ⟨g,2,none⟩=some z) (hF:Fr w (.agg #[x,y,z]) k q) (hlen:qs.length+1<=1000000) (hbase:base<=w.heap.size) :
    ∃v' w',(Builtin.append_ #[t,t] ty #[v,.slice (some ⟨g,0,none⟩) 1 1]).run P w=.ok v' w'/\Ro e base w' v' k (qs++[q])/\w.grownBy w' v.ownBlock:=by
 obtain⟨vs,h3,hn,h4⟩:=hown
 have hnews:∀j u,[x,y,z][j]?=some u->w.cell? ((⟨g,0,none⟩:Addr).add j)=some u:=by
  intro j u hj
  match j,hj with
  | 0,hj=>simp at hj;subst hj;simpa [Addr.add] using c0
  | 1,hj=>simp at hj;subst hj;simpa [Addr.add] using c1
  | 2,hj=>simp at hj;subst hj;simpa [Addr.add] using c2
 obtain⟨v',w',hr,k1,k2,_,k4⟩:=run_append_own_at (P:=P) w base t ty e i rtZ 3 56 ht hi hz hsize hby rfl (by decide) v qs.length vs h3 ⟨g,0,none⟩ 1 1 [x,y,z] rfl hnews (fun u hu=>(hF.noI u hu).2) (by unfold maxLen;omega) (by omega) hbase
 have hn':=zny base t ty e i ht hi hz hsize hby qs.length vs h3 hn ⟨g,0,none⟩ [x,y,z] rfl hnews hF.noI hlen hr
 have hvs:vs.length=qs.length*3:=h3.1
 refine⟨v',w',hr,⟨vs++[x,y,z],by rw[List.length_append];exact k1,hn',fun j hj=>?_⟩,k2⟩
 by_cases hjm:j<qs.length
 . obtain⟨x',y',z',q0,q1,q2,q3⟩:=h4 j hjm
   have e:(qs++[q]).getD j 0=qs.getD j 0:=by simp[List.getD,List.getElem?_append_left hjm]
   rw[e]
   exact⟨x',y',z',by rw[List.getElem?_append_left (by omega)];exact q0,by rw[List.getElem?_append_left (by omega)];exact q1,by rw[List.getElem?_append_left (by omega)];exact q2,q3.grown k2 hn⟩
 . have hj':j=qs.length:=by simp at hj;omega
   subst hj'
   have e:(qs++[q]).getD qs.length 0=q:=by simp[List.getD]
   rw[e]
   refine⟨x,y,z,?_,?_,?_,hF.grown k2 hn⟩
   . rw[List.getElem?_append_right (by omega),hvs];simp
   . rw[List.getElem?_append_right (by omega),hvs,show qs.length*3+1-qs.length*3=1 by omega];simp
   . rw[List.getElem?_append_right (by omega),hvs,show qs.length*3+2-qs.length*3=2 by omega];simp
theorem zwe:(Tryz.prog.info? 96).map (fun i=>(i.zero,i.size,i.bytes))=some (some rtZ,3,56):=by kernel_rfl
theorem zh6{w:World}{o:Oper}{a:Act}{K:Act->World->Prop}{Q:Exit->Act->World->Prop}
    (s x:Operand) (ho:o.op=.call { callee:=.builtin .append,args:=#[s,x],argTypes:=#[178,178] })
    (base:Nat) (v:Value) (k:Nat) (qs:List Rat) (q:Rat) (hs:a.eval s=v) (hown:Ro 96 base w v k qs) (g:Nat) (x0 x1 x2:Value) (hx:a.eval x=.slice (some ⟨g,0,none⟩) 1 1)
    (c0:w.cell? ⟨g,0,none⟩=some x0) (c1:w.cell? ⟨g,1,none⟩=some x1) (c2:w.cell? ⟨g,2,none⟩=some x2) (hF:Fr w (.agg #[x0,x1,x2]) k q) (hlen:qs.length+1<=1000000) (hbase:base<=w.heap.size)
    (h:∀v' w',Ro 96 base w' v' k (qs++[q])->w.grownBy w' v.ownBlock->K (a.put o.dst v') w'):o.wp Tryz.prog a w K Q:=by
 obtain⟨i0,hi,hz0,hz1,hz2⟩:=info_parts zwe
 obtain⟨v',w',hr,h2,h3⟩:=zrj (P:=Tryz.prog) base 178 o.type 96 i0 Tryz.underlying178 hi hz0 hz1 hz2 k qs q hown g x0 x1 x2 c0 c1 c2 hF hlen hbase
 unfold Oper.wp execOp
 simp only[ho,resolve,invoke,builtin,Sem.run_bind,Sem.run_pure,Result.andThen_ok,List.map_toArray,List.map_cons,List.map_nil,hs,hx,hr]
 exact h v' w' h2 h3
def suQ:List Rat->Rat
 | []=>0
 | q::l=>q+suQ l
theorem zgc(l m:List Rat):suQ (l++m)=suQ l+suQ m:=by
 induction l with
 | nil=>rw[List.nil_append,suQ];grind
 | cons q l ih=>rw[List.cons_append,suQ,suQ,ih];grind
theorem zoa(q:Rat):suQ [q]=q:=by rw[suQ,suQ];grind
theorem zr0(l:List Rat)(n:Nat):suQ (l.take n)+suQ (l.drop n)=suQ l:=by rw[<-zgc,List.take_append_drop]
theorem zwz{g:List (List Te)}{r cs:List Int}{k:Nat}{qs:List Rat}(h:suQ qs=chK g r cs k):suQ (qs++[((r.getD k 0:Int):Rat)*alQ (g.getD k []) cs])=chK g r cs (k+1):=by
 rw[zgc,zoa,zhu,h];grind
theorem zl9{g:List (List Te)}{r cs:List Int}{k:Nat}{qs:List Rat}(h:suQ qs=chK g r cs k)(h0:r.getD k 0=0\/alQ (g.getD k []) cs=0):suQ qs=chK g r cs (k+1):=by
 rw[zhu,h]
 rcases h0 with h0|h0
 . rw[h0];show _=_+_*((0:Int):Rat);rw[Rat.intCast_zero,Rat.mul_zero,Rat.add_zero]
 . rw[h0,Rat.zero_mul,Rat.add_zero]
theorem Rz.take{w:World}{a:Option Addr}{cap k:Nat}{qs:List Rat}(h:Rz w a cap k qs)(n:Nat):Rz w a cap k (qs.take n):=by
 refine⟨Nat.le_trans (by simp;omega) h.1,h.2.1,fun i hi=>?_⟩
 have hi':i<n/\i<qs.length:=by simp at hi;omega
 have e:(qs.take n).getD i 0=qs.getD i 0:=by simp[List.getD,List.getElem?_take,hi'.1]
 rw[e]
 exact h.2.2 i hi'.2
theorem Rz.from{w:World}{a:Option Addr}{cap k:Nat}{qs:List Rat}(h:Rz w a cap k qs)(n:Nat)(hn:n<qs.length):Rz w (a.map (fun x=>x.add (n*3))) (cap-n) k (qs.drop n):=by
 have h1:=h.1
 refine⟨by simp;omega,Nat.le_trans (Nat.sub_le _ _) h.2.1,fun i hi=>?_⟩
 have hi':n+i<qs.length:=by simp at hi;omega
 obtain⟨b,off,x,y,z,rfl,hb,c0,c1,c2,hF⟩:=h.2.2 (n+i) hi'
 have zdx:(⟨b,off,none⟩:Addr).add (n*3)=⟨b,off+n*3,none⟩:=by unfold Addr.add;split <;> simp_all
 have e:(qs.drop n).getD i 0=qs.getD (n+i) 0:=by simp[List.getD]
 rw[e]
 refine⟨b,off+n*3,x,y,z,congrArg some zdx,hb,?_,?_,?_,hF⟩
 . rw[show off+n*3+i*3=off+(n+i)*3 by omega];exact c0
 . rw[show off+n*3+i*3=off+(n+i)*3 by omega];exact c1
 . rw[show off+n*3+i*3=off+(n+i)*3 by omega];exact c2
theorem zwt{b:Int}(h1:-32768<=b)(h2:b<=32767):fldN (((b:Int):Rat)+1/2).floor=b/\fldE (((b:Int):Rat)+1/2).floor=0:=by
 have e:(((b:Int):Rat)+1/2).floor=b:=by
  have h1:b<=((b:Rat)+1/2).floor:=by rw[Rat.le_floor_iff];grind
  have h2:((b:Rat)+1/2).floor<b+1:=by rw[Rat.floor_lt_iff];rw[Rat.intCast_add];grind
  omega
 rw[e]
 exact⟨if_pos ⟨h1,h2⟩,if_pos ⟨h1,h2⟩⟩
