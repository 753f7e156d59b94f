import Derived.Test.YtkmcodofnckdmaaGreatZK9
import Derived.Laws.MakeOwn
set_option linter.unusedSimpArgs false
set_option linter.unusedVariables false
namespace Go.Proofs.YtkmcodofnckdmaaGreat
structure Te where
 st:Int
 pk:Int
 en:Int
def Te.none:Te:=⟨0,0,0⟩
theorem crdT{z:Int}:crd z=true ↔ -16384<=z/\z<=16384:=by simp[crd]
def TfT(t:Te):Prop:=(-16384<=t.st/\t.st<=16384)/\(-16384<=t.pk/\t.pk<=16384)/\(-16384<=t.en/\t.en<=16384) /\
 ((0<t.pk/\0<=t.st/\t.st<t.pk/\(t.pk<t.en\/(t.pk=16384/\t.en=16384)))\/(t.pk<0/\t.en<=0/\t.pk<t.en/\(t.st<t.pk\/(t.pk=-16384/\t.st=-16384)))\/(t.pk=0/\t.st=0/\t.en=0))
def tfB(t:Te):Bool:=decide ((-16384<=t.st/\t.st<=16384)/\(-16384<=t.pk/\t.pk<=16384)/\(-16384<=t.en/\t.en<=16384) /\
 ((0<t.pk/\0<=t.st/\t.st<t.pk/\(t.pk<t.en\/(t.pk=16384/\t.en=16384)))\/(t.pk<0/\t.en<=0/\t.pk<t.en/\(t.st<t.pk\/(t.pk=-16384/\t.st=-16384)))\/(t.pk=0/\t.st=0/\t.en=0)))
theorem zd3{t:Te}:tfB t=true↔TfT t:=by unfold tfB TfT;exact decide_eq_true_iff
theorem zq5{t:Te}(h:¬TfT t):tfB t=false:=by
 rw[Bool.eq_false_iff]
 exact fun e=>h (zd3.1 e)
def paQ(t:Te)(c:Int):Rat :=
 if tfB t&&crd c then
  (if t.pk=0\/c=t.pk then 1 else if c<=t.st\/t.en<=c then 0 else if c<t.pk then ((c-t.st:Int):Rat)/((t.pk-t.st:Int):Rat)else ((t.en-c:Int):Rat)/((t.en-t.pk:Int):Rat))
 else 0
theorem zyx{t:Te}{c:Int}(h:¬(tfB t=true/\crd c=true)):paQ t c=0:=by
 rw[paQ,if_neg];rw[Bool.and_eq_true]
 exact h
theorem ziw{t:Te}{c:Int}(h1:tfB t=true)(h2:crd c=true):paQ t c=if t.pk=0\/c=t.pk then 1 else if c<=t.st\/t.en<=c then 0 else if c<t.pk then ((c-t.st:Int):Rat)/((t.pk-t.st:Int):Rat)else ((t.en-c:Int):Rat)/((t.en-t.pk:Int):Rat):=by
 rw[paQ,if_pos (by rw[h1,h2];rfl)]
theorem getT{l:List Te}{k:Nat}(hk:k<l.length):l.getD k Te.none=l[k]:=by simp[List.getD,hk]
theorem zoa{l:List Te}{k:Nat}(hk:k<l.length):l.getD k Te.none∈l:=by rw[getT hk];exact List.getElem_mem hk
def alK(l:List Te)(cs:LI):Nat->Rat
 | 0=>1
 | k+1=>alK l cs k*paQ (l.getD k Te.none) (cs.getD k 0)
def alQ(l:List Te)(cs:LI):Rat:=alK l cs l.length
theorem zoy(l:List Te)(cs:LI)(k:Nat):alK l cs (k+1)=alK l cs k*paQ (l.getD k Te.none) (cs.getD k 0):=rfl
def rgB(l:List Te)(n:Int):Bool:=l.all tfB&&decide ((l.length:Int)=n)
theorem allT{l:List Te}{p:Te->Bool}:l.all p=true ↔ ∀j,j<l.length->p (l.getD j Te.none)=true:=by
 rw[List.all_eq_true]
 constructor
 . exact fun h j hj=>h _ (zoa hj)
 . intro h x hx
   obtain⟨j,hj,e⟩:=List.getElem_of_mem hx
   have:=h j hj
   rw[getT hj,e]at this
   exact this
open Go.RowKit Go.Maps
theorem Ri.take{w:World}{a:OA}{cap:Nat}{zs:LI}(h:Ri w a cap zs)(n:Nat):Ri w a cap (zs.take n):=by
 refine⟨fun z hz=>h.1 z (List.mem_of_mem_take hz),Nat.le_trans (by simp;omega) h.2.1,h.2.2.1,?_⟩
 rcases h.2.2.2 with h4|⟨b,off,e,h5,h6⟩
 . exact .inl (by rw[h4];simp)
 . refine .inr ⟨b,off,e,h5,fun i hi=>?_⟩
   have hi':i<n/\i<zs.length:=by simp at hi;omega
   rw[h6 i hi'.2]
   simp[List.getD,List.getElem?_take,hi'.1]
theorem Ri.drop{w:World}{b off cap:Nat}{zs:LI}(h:Ri w (some ⟨b,off,none⟩) cap zs)(n:Nat)(hn:n<=zs.length):Ri w (some ⟨b,off+n,none⟩) (cap-n) (zs.drop n):=by
 refine⟨fun z hz=>h.1 z (List.mem_of_mem_drop hz),?_,Nat.le_trans (Nat.sub_le _ _) h.2.2.1,?_⟩
 . have:=h.2.1
   simp
   omega
 . rcases h.2.2.2 with h4|⟨b',off',e,h5,h6⟩
   . exact .inl (by rw[h4];simp)
   . cases e
     refine .inr ⟨b,off+n,rfl,h5,fun i hi=>?_⟩
     have hi':n+i<zs.length:=by simp at hi;omega
     rw[Nat.add_assoc,h6 (n+i) hi']
     simp[List.getD]
theorem Ri.from{w:World}{a:OA}{cap:Nat}{zs:LI}(h:Ri w a cap zs)(n:Nat)(hn:n<=zs.length):Ri w (if cap=n then a else a.map (fun x=>x.add n)) (cap-n) (zs.drop n):=by
 by_cases h0:n<zs.length
 . rcases h.2.2.2 with h4|⟨b,off,rfl,h5,h6⟩
   . rw[h4]at h0;simp at h0
   . have:=h.2.1
     rw[if_neg (by omega)]
     have zb1:(⟨b,off,none⟩:Addr).add n=⟨b,off+n,none⟩:=by unfold Addr.add;split <;> simp_all
     show Ri w (some ((⟨b,off,none⟩:Addr).add n)) _ _
     rw[zb1]
     exact h.drop n hn
 . have e:zs.drop n=[]:=List.drop_eq_nil_of_le (by omega)
   rw[e]
   exact Ri.nil _ _ _ (Nat.le_trans (Nat.sub_le _ _) h.2.2.1)
def Tw(t:Te):Prop:=I64 t.st/\I64 t.pk/\I64 t.en
def Tz(w:World)(a:OA)(cap:Nat)(l:List Te):Prop :=
 l.length<=cap/\cap<=maxLen/\(∀t∈l,Tw t)/\(a=none->cap=0) /\
 ∀i,i<l.length->∃b off,a=some ⟨b,off,none⟩/\b<w.heap.size/\w.cell? ⟨b,off+i*3,none⟩=some (.int .i64 (l.getD i Te.none).st) /\
  w.cell? ⟨b,off+i*3+1,none⟩=some (.int .i64 (l.getD i Te.none).pk)/\w.cell? ⟨b,off+i*3+2,none⟩=some (.int .i64 (l.getD i Te.none).en)
theorem Tz.keep{w w':World}{a:OA}{cap:Nat}{l:List Te}(h:Tz w a cap l)(hs:w.heap.size<=w'.heap.size)
    (hb:∀b,b<w.heap.size->(∃o,a=some ⟨b,o,none⟩)->l≠[]->w'.heap[b]?=w.heap[b]?):Tz w' a cap l:=by
 refine⟨h.1,h.2.1,h.2.2.1,h.2.2.2.1,fun i hi=>?_⟩
 obtain⟨b,off,h1,h2,h3,h4,h5⟩:=h.2.2.2.2 i hi
 have e:=hb b h2 ⟨off,h1⟩ (fun e=>by rw[e]at hi;simp at hi)
 exact⟨b,off,h1,Nat.lt_of_lt_of_le h2 hs,(World.cell?_of_block (w:=w) (a:=⟨b,off+i*3,none⟩) e).trans h3,(World.cell?_of_block (w:=w) (a:=⟨b,off+i*3+1,none⟩) e).trans h4,(World.cell?_of_block (w:=w) (a:=⟨b,off+i*3+2,none⟩) e).trans h5⟩
theorem Tz.below{w w':World}{a:OA}{cap:Nat}{l:List Te}(h:Tz w a cap l)(hb:Below w.heap.size w w'):Tz w' a cap l :=
 h.keep hb.size fun b hb1 _ _=>hb.block b hb1
theorem Tz.at{w wr:World}{a:OA}{cap:Nat}{l:List Te}(h:Tz w a cap l)(hb:Below w.heap.size w wr)(k:Nat)(hk:k<l.length) :
 ∃b off,a=some ⟨b,off,none⟩/\b<w.heap.size/\wr.cell? ⟨b,off+k*3,none⟩=some (.int .i64 (l.getD k Te.none).st) /\
    wr.cell? ⟨b,off+k*3+1,none⟩=some (.int .i64 (l.getD k Te.none).pk)/\wr.cell? ⟨b,off+k*3+2,none⟩=some (.int .i64 (l.getD k Te.none).en):=by
 obtain⟨b,off,h1,h2,h3,h4,h5⟩:=h.2.2.2.2 k hk
 exact⟨b,off,h1,h2,(hb.cell (p:=⟨b,off+k*3,none⟩) h2).trans h3,(hb.cell (p:=⟨b,off+k*3+1,none⟩) h2).trans h4,(hb.cell (p:=⟨b,off+k*3+2,none⟩) h2).trans h5⟩
theorem Tz.lenB{w:World}{a:OA}{cap:Nat}{l:List Te}(h:Tz w a cap l):l.length<=9223372036854775807:=by
 have h1:=h.1
 have h2:=h.2.1
 unfold maxLen at h2
 omega
theorem zlx:(Tryz.prog.info? 146).map (fun i=>(i.zero,i.size,i.bytes))=some (some (.agg #[.int .i64 0,.int .i64 0,.int .i64 0]),3,24):=by kernel_rfl
theorem zyd{l:List Te}{cs:LI}{j:Nat}(hj:j<l.length)(h:paQ (l.getD j Te.none) (cs.getD j 0)=0):alQ l cs=0:=by
 have:∀k,j<k->alK l cs k=0:=by
  intro k
  induction k with
  | zero=>intro h1;omega
  | succ k ih =>
   intro h1
   rw[zoy]
   by_cases e:j=k
   . subst e
     rw[h,Rat.mul_zero]
   . rw[ih (by omega),Rat.zero_mul]
 exact this _ hj
structure Sr where
 rg:List (List Te)
 rw:List (LI)
def roB(k:Nat)(r:LI):Bool:=decide (r.length=k)&&r.all fdB
def stB(s:Sr)(n:Int):Bool:=decide (0<=n/\n<=4)&&(decide (s.rg.length<=40)&&(decide (s.rw.length<=400)&&(s.rg.all (fun l=>rgB l n)&&s.rw.all (roB s.rg.length))))
theorem stB_iff{s:Sr}{n:Int}:stB s n=true↔(0<=n/\n<=4)/\s.rg.length<=40/\s.rw.length<=400/\(∀l∈s.rg,rgB l n=true)/\(∀r∈s.rw,r.length=s.rg.length/\∀z∈r,-32768<=z/\z<=32767):=by
 unfold stB roB
 simp only[Bool.and_eq_true,decide_eq_true_iff,List.all_eq_true,zce]
def fiS(s:Sr)(b r:Int):Bool:=fdB b&&(decide (r=-1)||(decide (0<=r)&&(decide (r<(s.rw.length:Int))&&decide (r<400))))
theorem zts{s:Sr}{b r:Int}:fiS s b r=true↔(-32768<=b/\b<=32767)/\(r=-1\/(0<=r/\r<(s.rw.length:Int)/\r<400)):=by
 unfold fiS
 simp only[Bool.and_eq_true,Bool.or_eq_true,decide_eq_true_iff,zce]
theorem getL{α:Type}{m:List (List α)}{k:Nat}(hk:k<m.length):m.getD k []=m[k]:=by simp[List.getD,hk]
theorem zob{α:Type}{m:List (List α)}{k:Nat}(hk:k<m.length):m.getD k []∈m:=by rw[getL hk];exact List.getElem_mem hk
def isI:Value->Bool
 | .int _ _=>true
 | _=>false
def NoI(w:World)(g:Nat):Prop:=∀j v,w.cell? ⟨g,j,none⟩=some v->isI v=false
theorem NoI.of{w:World}{g:Nat}{cur:Array Value}{e:TypeId}(h:w.heap[g]?=some (.cells cur e (0,0)))(hc:∀c∈cur.toList,isI c=false):NoI w g:=by
 intro j v hv
 rw[cell_of_row w g j cur e (0,0) h]at hv
 obtain⟨hj,e⟩:=Array.getElem?_eq_some_iff.1 hv
 exact hc v (by rw[<-e];simp)
theorem NoI.mem{w:World}{g:Nat}{cur:Array Value}{e:TypeId}(hn:NoI w g)(h:w.heap[g]?=some (.cells cur e (0,0))):∀c∈cur.toList,isI c=false:=by
 intro c hc
 obtain⟨j,hj,e⟩:=List.getElem_of_mem hc
 refine hn j c ?_
 rw[cell_of_row w g j cur _ (0,0) h,Array.getElem?_eq_getElem (by simpa using hj)]
 simpa using e
theorem NoI.below{w w':World}{g:Nat}(h:NoI w g)(hg:g<w.heap.size)(hb:Below w.heap.size w w'):NoI w' g:=by
 intro j v hv
 rw[hb.cell (p:=⟨g,j,none⟩) hg]at hv
 exact h j v hv
theorem Rd.grown{w w':World}{a:OA}{cap:Nat}{xs:LN}{row:Option Nat}(h:Rd w a cap xs)(hg:w.grownBy w' row)(hn:∀g,row=some g->NoI w g):Rd w' a cap xs:=by
 obtain⟨h1,h2,h3,h5,h4⟩:=h
 refine⟨h1,h2,h3,h5,?_⟩
 rcases h4 with h4|⟨b,off,e,hb1,hc⟩
 . exact .inl h4
 . by_cases h0:xs=[]
   . exact .inl h0
   . have hl:0<xs.length:=List.length_pos_iff.2 h0
     have hne:some b≠row:=by
      intro e2
      have:=hn b e2.symm _ _ (hc 0 hl)
      cases this
     exact .inr ⟨b,off,e,Nat.lt_of_lt_of_le hb1 hg.size,fun i hi=>(World.cell?_of_block (w:=w) (a:=⟨b,off+i,none⟩) (hg.block b hb1 hne)).trans (hc i hi)⟩
theorem Fr.grown{w w':World}{v:Value}{k:Nat}{q:Rat}{row:Option Nat}(h:Fr w v k q)(hg:w.grownBy w' row)(hn:∀g,row=some g->NoI w g):Fr w' v k q:=by
 obtain⟨n,xs,ys,⟨a,c,a',c',rfl,h1,h2⟩,h3⟩:=h
 exact⟨n,xs,ys,⟨a,c,a',c',rfl,h1.grown hg hn,h2.grown hg hn⟩,h3⟩
def Rz(w:World)(a:OA)(cap k:Nat)(qs:List Rat):Prop :=
 qs.length<=cap/\cap<=maxLen /\
 ∀i,i<qs.length->∃b off x y z,a=some ⟨b,off,none⟩/\b<w.heap.size/\w.cell? ⟨b,off+i*3,none⟩=some x/\w.cell? ⟨b,off+i*3+1,none⟩=some y/\w.cell? ⟨b,off+i*3+2,none⟩=some z/\Fr w (.agg #[x,y,z]) k (qs.getD i 0)
theorem Rz.at{w wr:World}{a:OA}{cap k:Nat}{qs:List Rat}(h:Rz w a cap k qs)(hb:Below w.heap.size w wr)(i:Nat)(hi:i<qs.length) :
 ∃b off x y z,a=some ⟨b,off,none⟩/\b<w.heap.size/\wr.cell? ⟨b,off+i*3,none⟩=some x/\wr.cell? ⟨b,off+i*3+1,none⟩=some y/\wr.cell? ⟨b,off+i*3+2,none⟩=some z/\Fr wr (.agg #[x,y,z]) k (qs.getD i 0):=by
 obtain⟨b,off,x,y,z,h1,h2,h3,h4,h5,h6⟩:=h.2.2 i hi
 exact⟨b,off,x,y,z,h1,h2,(hb.cell (p:=⟨b,off+i*3,none⟩) h2).trans h3,(hb.cell (p:=⟨b,off+i*3+1,none⟩) h2).trans h4,(hb.cell (p:=⟨b,off+i*3+2,none⟩) h2).trans h5,h6.below hb⟩
theorem Rz.below{w w':World}{a:OA}{cap k:Nat}{qs:List Rat}(h:Rz w a cap k qs)(hb:Below w.heap.size w w'):Rz w' a cap k qs:=by
 refine⟨h.1,h.2.1,fun i hi=>?_⟩
 obtain⟨b,off,x,y,z,h1,h2,h3⟩:=h.at hb i hi
 exact⟨b,off,x,y,z,h1,Nat.lt_of_lt_of_le h2 hb.size,h3⟩
theorem Rz.nil(w:World)(a:OA)(cap k:Nat)(h:cap<=maxLen):Rz w a cap k []:=⟨Nat.zero_le _,h,fun i hi=>by simp at hi⟩
def Ro(T:TypeId)(base:Nat)(w:World)(v:Value)(k:Nat)(qs:List Rat):Prop :=
 ∃vs:LV,w.ownsRow base T 3 v qs.length vs/\(∀g,v.ownBlock=some g->NoI w g) /\
  ∀i,i<qs.length->∃x y z,vs[i*3]?=some x/\vs[i*3+1]?=some y/\vs[i*3+2]?=some z/\Fr w (.agg #[x,y,z]) k (qs.getD i 0)
theorem Ro.nil(T:TypeId)(base:Nat)(w:World)(k:Nat):Ro T base w (.slice none 0 0) k []:=⟨[],World.ownsRow_nil w base _ 3,(fun g hg=>by cases hg),fun i hi=>by simp at hi⟩
theorem Ro.slice{T:TypeId}{base:Nat}{w:World}{v:Value}{k:Nat}{qs:List Rat}(h:Ro T base w v k qs):∃a cap,v=.slice a qs.length cap/\Rz w a cap k qs:=by
 obtain⟨vs,h3,_,h4⟩:=h
 rcases h3.2 with ⟨rfl,h0⟩|⟨g,cap,cur,rfl,hb,hg,hc1,hc2,hc3,ht⟩
 . have:qs=[]:=List.length_eq_zero_iff.1 h0
   subst this
   exact⟨none,0,rfl,Rz.nil _ _ _ _ (Nat.zero_le _)⟩
 . refine⟨_,cap,rfl,hc1,hc2,fun i hi=>?_⟩
   obtain⟨x,y,z,k0,k1,k2,k3⟩:=h4 i hi
   have zb1:∀j,(⟨g,0,none⟩:Addr).add j=⟨g,0+j,none⟩:=by intro j;unfold Addr.add;split <;> simp_all
   have d0:=h3.cells (g:=g) rfl (i*3) _ k0
   have d1:=h3.cells (g:=g) rfl (i*3+1) _ k1
   have d2:=h3.cells (g:=g) rfl (i*3+2) _ k2
   rw[zb1]at d0 d1 d2
   exact⟨g,0,x,y,z,rfl,(Array.getElem?_eq_some_iff.1 hg).1,d0,d1,d2,k3⟩
theorem Ro.lo{T:TypeId}{base:Nat}{w:World}{v:Value}{k:Nat}{qs:List Rat}(h:Ro T base w v k qs){g:Nat}(hg:v.ownBlock=some g):base<=g/\g<w.heap.size:=by
 obtain⟨vs,h3,_⟩:=h
 exact World.ownsRow.lt h3 g hg
theorem Ro.below{T:TypeId}{base:Nat}{w w':World}{v:Value}{k:Nat}{qs:List Rat}(h:Ro T base w v k qs)(hb:Below w.heap.size w w'):Ro T base w' v k qs:=by
 have hlo:=fun g hg=>(h.lo (g:=g) hg).2
 obtain⟨vs,h3,hn,h4⟩:=h
 refine⟨vs,⟨h3.1,?_⟩,fun g hg=>(hn g hg).below (hlo g hg) hb,fun i hi=>?_⟩
 . rcases h3.2 with h0|⟨g,cap',cur,k1,k2,k3,k4⟩
   . exact .inl h0
   . exact .inr ⟨g,cap',cur,k1,k2,(hb.block g (Array.getElem?_eq_some_iff.1 k3).1).trans k3,k4⟩
 . obtain⟨x,y,z,k0,k1,k2,k3⟩:=h4 i hi
   exact⟨x,y,z,k0,k1,k2,k3.below hb⟩
def rtZ:Value:=.agg #[.bool false,.slice none 0 0,.slice none 0 0]
theorem zid(n:Nat):∀c∈(madeCells rtZ.cells n).toList,isI c=false:=by
 intro c hc
 simp only[madeCells,rtZ,Value.cells,Array.toList_map,List.mem_map]at hc
 obtain⟨j,_,rfl⟩:=hc
 have h3:j%3=0\/j%3=1\/j%3=2:=by omega
 show isI ((#[Value.bool false,.slice none 0 0,.slice none 0 0])[j%3]!)=false
 rcases h3 with h|h|h <;> rw[h] <;> rfl
theorem znc(n:Nat):∀c∈(Builtin.zeroCells rtZ.cells n).toList,isI c=false:=by
 intro c hc
 simp only[Builtin.zeroCells,rtZ,Value.cells,Array.toList_map,List.mem_map]at hc
 obtain⟨j,_,rfl⟩:=hc
 have h3:j%3=0\/j%3=1\/j%3=2:=by omega
 show isI ((#[Value.bool false,.slice none 0 0,.slice none 0 0])[j%3]!)=false
 rcases h3 with h|h|h <;> rw[h] <;> rfl
theorem Fr.noI{w:World}{x y z:Value}{k:Nat}{q:Rat}(h:Fr w (.agg #[x,y,z]) k q):∀c ∈ [x,y,z],isI c=false/\c.oneCell'=true:=by
 obtain⟨n,xs,ys,⟨a,c,a',c',e,h1,h2⟩,h3⟩:=h
 simp at e
 obtain⟨rfl,rfl,rfl⟩:=e
 intro c hc
 simp at hc
 rcases hc with rfl|rfl|rfl <;> exact⟨rfl,rfl⟩
theorem zch:(Tryz.prog.info? 125).map (fun i=>(i.zero,i.size,i.bytes))=some (some rtZ,3,56):=by kernel_rfl
def suQ:List Rat->Rat
 | []=>0
 | q::l=>q+suQ l
theorem zez(l m:List Rat):suQ (l++m)=suQ l+suQ m:=by
 induction l with
 | nil=>rw[List.nil_append,suQ];grind
 | cons q l ih=>rw[List.cons_append,suQ,suQ,ih];grind
theorem zia(q:Rat):suQ [q]=q:=by rw[suQ,suQ];grind
theorem zvh(l:List Rat)(n:Nat):suQ (l.take n)+suQ (l.drop n)=suQ l:=by rw[<-zez,List.take_append_drop]
theorem Rz.take{w:World}{a:OA}{cap k:Nat}{qs:List Rat}(h:Rz w a cap k qs)(n:Nat):Rz w a cap k (qs.take n):=by
 refine⟨Nat.le_trans (by simp;omega) h.1,h.2.1,fun i hi=>?_⟩
 have hi':i<n/\i<qs.length:=by simp at hi;omega
 have e:(qs.take n).getD i 0=qs.getD i 0:=by simp[List.getD,List.getElem?_take,hi'.1]
 rw[e]
 exact h.2.2 i hi'.2
theorem Rz.from{w:World}{a:OA}{cap k:Nat}{qs:List Rat}(h:Rz w a cap k qs)(n:Nat)(hn:n<qs.length):Rz w (a.map (fun x=>x.add (n*3))) (cap-n) k (qs.drop n):=by
 have h1:=h.1
 refine⟨by simp;omega,Nat.le_trans (Nat.sub_le _ _) h.2.1,fun i hi=>?_⟩
 have hi':n+i<qs.length:=by simp at hi;omega
 obtain⟨b,off,x,y,z,rfl,hb,c0,c1,c2,hF⟩:=h.2.2 (n+i) hi'
 have zb1:(⟨b,off,none⟩:Addr).add (n*3)=⟨b,off+n*3,none⟩:=by unfold Addr.add;split <;> simp_all
 have e:(qs.drop n).getD i 0=qs.getD (n+i) 0:=by simp[List.getD]
 rw[e]
 refine⟨b,off+n*3,x,y,z,congrArg some zb1,hb,?_,?_,?_,hF⟩
 . rw[show off+n*3+i*3=off+(n+i)*3 by omega];exact c0
 . rw[show off+n*3+i*3=off+(n+i)*3 by omega];exact c1
 . rw[show off+n*3+i*3=off+(n+i)*3 by omega];exact c2
