import Derived.Test.YtkmcodofnckdmaaGreatZK9
import Derived.Laws.MakeOwn
set_option linter.unusedSimpArgs false
set_option linter.unusedVariables false
namespace Go.Proofs.YtkmcodofnckdmaaGreat
def cntO(o:Ol):Nat:=o.ps.length+o.cs.flatten.length
def lastI(pts:LI)(k:Nat):Int:=if k=0 then -1 else pts.getD (k-1) 0
def risP(pts:LI)(n k:Nat):Prop:=lastI pts k<pts.getD k 0/\pts.getD k 0<(n:Int)
def risB(pts:LI)(n:Nat):Bool:=(List.range pts.length).all (fun k=>decide (lastI pts k<pts.getD k 0/\pts.getD k 0<(n:Int)))
theorem zlx{pts:LI}{n k:Nat}(hk:k<pts.length)(h:¬risP pts n k):risB pts n=false:=by
 unfold risB;exact List.all_eq_false.2 ⟨k,List.mem_range.2 hk,by rw[qM];exact h⟩
theorem zun{pts:LI}{n:Nat}(h:∀k,k<pts.length->risP pts n k):risB pts n=true:=by
 unfold risB;exact List.all_eq_true.2 (fun k hk=>by rw[qM];exact h k (List.mem_range.1 hk))
theorem zd1{pts:LI}{n:Nat}:risB pts n=true ↔ ∀k,k<pts.length->risP pts n k:=by
 unfold risB;rw[List.all_eq_true];exact⟨fun h k hk=>by have:=h k (List.mem_range.2 hk);rw[qM]at this;exact this,fun h k hk=>by rw[qM];exact h k (List.mem_range.1 hk)⟩
theorem zeh{pts:LI}{n:Nat}:∀k,(∀j,j<k+1->risP pts n j)->0<=pts.getD k 0/\pts.getD k 0<(n:Int):=by
 intro k
 induction k with
 | zero=>intro h;have:=h 0 (by omega);unfold risP lastI at this;rw[if_pos rfl]at this;omega
 | succ k ih =>
  intro h;have h1:=ih (fun j hj=>h j (by omega));have h2:=h (k+1) (by omega);unfold risP lastI at h2;rw[if_neg (by omega),Nat.add_sub_cancel]at h2;omega
def ofC(cs:List (List Pn))(k:Nat):Nat:=((cs.take k).flatten).length
theorem zu6{cs:List (List Pn)}{k:Nat}(hk:k<cs.length):ofC cs (k+1)=ofC cs k+(cs.getD k []).length:=zan hk
theorem z1m(cs:List (List Pn))(k:Nat):ofC cs k<=cs.flatten.length:=zav cs k
theorem zy2(cs:List (List Pn)):ofC cs cs.length=cs.flatten.length:=by unfold ofC;rw[List.take_length]
open Go.RowKit
theorem zbn{z:Int}(h1:-9223372036854775808<=z)(h2:z<=9223372036854775807):IntKind.i64.wrap z=z:=by
 simp only[IntKind.wrap,IntKind.bits,IntKind.signed];simp;omega
structure Te where
 st:Int
 pk:Int
 en:Int
def Te.none:Te:=⟨0,0,0⟩
theorem crdT{z:Int}:crd z=true ↔ -16384<=z/\z<=16384:=by simp[crd]
def TfT(t:Te):Prop:=(-16384<=t.st/\t.st<=16384)/\(-16384<=t.pk/\t.pk<=16384)/\(-16384<=t.en/\t.en<=16384) /\
 ((0<t.pk/\0<=t.st/\t.st<t.pk/\(t.pk<t.en\/(t.pk=16384/\t.en=16384)))\/(t.pk<0/\t.en<=0/\t.pk<t.en/\(t.st<t.pk\/(t.pk=-16384/\t.st=-16384)))\/(t.pk=0/\t.st=0/\t.en=0))
def tfB(t:Te):Bool:=decide ((-16384<=t.st/\t.st<=16384)/\(-16384<=t.pk/\t.pk<=16384)/\(-16384<=t.en/\t.en<=16384) /\
 ((0<t.pk/\0<=t.st/\t.st<t.pk/\(t.pk<t.en\/(t.pk=16384/\t.en=16384)))\/(t.pk<0/\t.en<=0/\t.pk<t.en/\(t.st<t.pk\/(t.pk=-16384/\t.st=-16384)))\/(t.pk=0/\t.st=0/\t.en=0)))
theorem zc0{t:Te}:tfB t=true↔TfT t:=by unfold tfB TfT;exact qM
theorem zin{t:Te}(h:¬TfT t):tfB t=false:=by
 rw[Bool.eq_false_iff];exact fun e=>h (zc0.1 e)
theorem getT{l:List Te}{k:Nat}(hk:k<l.length):l.getD k Te.none=l[k]:=by simp[List.getD,hk]
theorem zjv{l:List Te}{k:Nat}(hk:k<l.length):l.getD k Te.none∈l:=by rw[getT hk];exact List.getElem_mem hk
def rgB(l:List Te)(n:Int):Bool:=l.all tfB&&decide ((l.length:Int)=n)
theorem allT{l:List Te}{p:Te->Bool}:l.all p=true ↔ ∀j,j<l.length->p (l.getD j Te.none)=true:=by
 rw[List.all_eq_true];constructor
 . exact fun h j hj=>h _ (zjv hj)
 . intro h x hx
   obtain⟨j,hj,e⟩:=List.getElem_of_mem hx;have:=h j hj;rw[getT hj,e]at this;exact this
open Go.Maps
theorem Ri.take{w:World}{a:OA}{cap:Nat}{zs:LI}(h:Ri w a cap zs)(n:Nat):Ri w a cap (zs.take n):=by
 refine⟨fun z hz=>h.1 z (List.mem_of_mem_take hz),qF (by simp;omega) h.2.1,h.2.2.1,?_⟩;rcases h.2.2.2 with h4|⟨b,off,e,h5,h6⟩
 . exact .inl (by rw[h4];simp)
 . refine .inr ⟨b,off,e,h5,fun i hi=>?_⟩
   have hi':i<n/\i<zs.length:=(by simp at hi;omega);rw[h6 i hi'.2];simp[List.getD,List.getElem?_take,hi'.1]
theorem Ri.drop{w:World}{b off cap:Nat}{zs:LI}(h:Ri w (some ⟨b,off,none⟩) cap zs)(n:Nat)(hn:n<=zs.length):Ri w (some ⟨b,off+n,none⟩) (cap-n) (zs.drop n):=by
 refine⟨fun z hz=>h.1 z (List.mem_of_mem_drop hz),?_,qF (Nat.sub_le _ _) h.2.2.1,?_⟩
 . have:=h.2.1
   simp;omega
 . rcases h.2.2.2 with h4|⟨b',off',e,h5,h6⟩
   . exact .inl (by rw[h4];simp)
   . cases e
     refine .inr ⟨b,off+n,rfl,h5,fun i hi=>?_⟩;have hi':n+i<zs.length:=(by simp at hi;omega);rw[Nat.add_assoc,h6 (n+i) hi'];simp[List.getD]
theorem Ri.from{w:World}{a:OA}{cap:Nat}{zs:LI}(h:Ri w a cap zs)(n:Nat)(hn:n<=zs.length):Ri w (if cap=n then a else a.map (fun x=>x.add n)) (cap-n) (zs.drop n):=by
 by_cases h0:n<zs.length
 . rcases h.2.2.2 with h4|⟨b,off,rfl,h5,h6⟩
   . rw[h4]at h0;simp at h0
   . have:=h.2.1
     rw[if_neg (by omega)];have zdp:(⟨b,off,none⟩:Addr).add n=⟨b,off+n,none⟩:=(by unfold Addr.add;split <;> simp_all);show Ri w (some ((⟨b,off,none⟩:Addr).add n)) _ _;rw[zdp];exact h.drop n hn
 . have e:zs.drop n=[]:=List.drop_eq_nil_of_le (by omega)
   rw[e];exact Ri.nil _ _ _ (qF (Nat.sub_le _ _) h.2.2.1)
def Tw(t:Te):Prop:=I64 t.st/\I64 t.pk/\I64 t.en
def Tz(w:World)(a:OA)(cap:Nat)(l:List Te):Prop :=
 l.length<=cap/\cap<=maxLen/\(∀t∈l,Tw t)/\(a=none->cap=0) /\
 ∀i,i<l.length->∃b off,a=some ⟨b,off,none⟩/\b<w.heap.size/\w.cell? ⟨b,off+i*3,none⟩=some (.int .i64 (l.getD i Te.none).st) /\
  w.cell? ⟨b,off+i*3+1,none⟩=some (.int .i64 (l.getD i Te.none).pk)/\w.cell? ⟨b,off+i*3+2,none⟩=some (.int .i64 (l.getD i Te.none).en)
theorem Tz.keep{w w':World}{a:OA}{cap:Nat}{l:List Te}(h:Tz w a cap l)(hs:w.heap.size<=w'.heap.size)
    (hb:∀b,b<w.heap.size->(∃o,a=some ⟨b,o,none⟩)->l≠[]->w'.heap[b]?=w.heap[b]?):Tz w' a cap l:=by
 refine⟨h.1,h.2.1,h.2.2.1,h.2.2.2.1,fun i hi=>?_⟩;obtain⟨b,off,h1,h2,h3,h4,h5⟩:=h.2.2.2.2 i hi;have e:=hb b h2 ⟨off,h1⟩ (fun e=>by rw[e]at hi;simp at hi);exact⟨b,off,h1,qN h2 hs,(World.cell?_of_block (w:=w) (a:=⟨b,off+i*3,none⟩) e).trans h3,(World.cell?_of_block (w:=w) (a:=⟨b,off+i*3+1,none⟩) e).trans h4,(World.cell?_of_block (w:=w) (a:=⟨b,off+i*3+2,none⟩) e).trans h5⟩
theorem Tz.below{w w':World}{a:OA}{cap:Nat}{l:List Te}(h:Tz w a cap l)(hb:Below w.heap.size w w'):Tz w' a cap l :=
 h.keep hb.size fun b hb1 _ _=>hb.block b hb1
theorem Tz.at{w wr:World}{a:OA}{cap:Nat}{l:List Te}(h:Tz w a cap l)(hb:Below w.heap.size w wr)(k:Nat)(hk:k<l.length) :
 ∃b off,a=some ⟨b,off,none⟩/\b<w.heap.size/\wr.cell? ⟨b,off+k*3,none⟩=some (.int .i64 (l.getD k Te.none).st) /\
    wr.cell? ⟨b,off+k*3+1,none⟩=some (.int .i64 (l.getD k Te.none).pk)/\wr.cell? ⟨b,off+k*3+2,none⟩=some (.int .i64 (l.getD k Te.none).en):=by
 obtain⟨b,off,h1,h2,h3,h4,h5⟩:=h.2.2.2.2 k hk;exact⟨b,off,h1,h2,(hb.cell (p:=⟨b,off+k*3,none⟩) h2).trans h3,(hb.cell (p:=⟨b,off+k*3+1,none⟩) h2).trans h4,(hb.cell (p:=⟨b,off+k*3+2,none⟩) h2).trans h5⟩
theorem Tz.lenB{w:World}{a:OA}{cap:Nat}{l:List Te}(h:Tz w a cap l):l.length<=9223372036854775807:=by
 have h1:=h.1;have h2:=h.2.1;unfold maxLen at h2;omega
theorem zjt:(Tryz.prog.info? 146).map (fun i=>(i.zero,i.size,i.bytes))=some (some (.agg #[.int .i64 0,.int .i64 0,.int .i64 0]),3,24):=by kernel_rfl
structure Sr where
 rg:List (List Te)
 rw:List (LI)
def roB(k:Nat)(r:LI):Bool:=decide (r.length=k)&&r.all fdB
def stB(s:Sr)(n:Int):Bool:=decide (0<=n/\n<=4)&&(decide (s.rg.length<=40)&&(decide (s.rw.length<=400)&&(s.rg.all (fun l=>rgB l n)&&s.rw.all (roB s.rg.length))))
theorem stB_iff{s:Sr}{n:Int}:stB s n=true↔(0<=n/\n<=4)/\s.rg.length<=40/\s.rw.length<=400/\(∀l∈s.rg,rgB l n=true)/\(∀r∈s.rw,r.length=s.rg.length/\∀z∈r,-32768<=z/\z<=32767):=by
 unfold stB roB;simp only[Bool.and_eq_true,qM,List.all_eq_true,zbc]
def fiS(s:Sr)(b r:Int):Bool:=fdB b&&(decide (r=-1)||(decide (0<=r)&&(decide (r<(s.rw.length:Int))&&decide (r<400))))
theorem zs5{s:Sr}{b r:Int}:fiS s b r=true↔(-32768<=b/\b<=32767)/\(r=-1\/(0<=r/\r<(s.rw.length:Int)/\r<400)):=by
 unfold fiS;simp only[Bool.and_eq_true,Bool.or_eq_true,qM,zbc]
theorem getL{α:Type}{m:List (List α)}{k:Nat}(hk:k<m.length):m.getD k []=m[k]:=by simp[List.getD,hk]
theorem zgo{α:Type}{m:List (List α)}{k:Nat}(hk:k<m.length):m.getD k []∈m:=by rw[getL hk];exact List.getElem_mem hk
