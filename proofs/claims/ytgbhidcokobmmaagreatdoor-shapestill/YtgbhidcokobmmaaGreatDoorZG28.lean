import Derived.Test.YtgbhidcokobmmaaGreatDoorZG21
set_option maxHeartbeats 2000000
set_option maxRecDepth 100000
set_option linter.unusedSimpArgs false
set_option linter.unusedVariables false
namespace Go.Proofs.YtgbhidcokobmmaaGreatDoor
open Go.RowKit Go.Maps
structure zwx(P:Prop)(e:Ending):Prop where
 out:∃q:Bool,e=.returned (.bool q)/\(q=true->P)
theorem zpm{xs ys:List Int}(h:xs.length=ys.length)(h2:∀j,j<xs.length->xs.getD j 0=ys.getD j 0):xs=ys:=by
 apply List.ext_getElem h
 intro j h3 h4
 have:=h2 j h3
 simpa [List.getD,h3,h4] using this
theorem zje(a b:Option Addr)(ca cb:Nat)(xs ys:List Int)(w:World)(ha:Ri w a ca xs)(hb:Ri w b cb ys) :
 Calls Tryz.prog 14 #[.slice a xs.length ca,.slice b ys.length cb] w fun e w'=>zwx (xs=ys) e/\Below w.heap.size w w':=by
 have k1:=ha.lenB
 have k2:=hb.lenB
 have HA:Hid (Ri w a ca xs):=ha
 have HB:Hid (Ri w b cb ys):=hb
 clear ha hb
 by_cases hl:xs.length=ys.length
 rotate_left
 . have g1:((xs.length:Int) != (ys.length:Int))=true:=bne_iff_ne.2 (by omega)
   have g1n:(xs.length != ys.length)=true:=bne_iff_ne.2 hl
   clear hl
   go_enter Tryz.func14,Tryz.ntmps14
   go_wp2_with fail
   go_ret
   exact⟨⟨⟨false,rfl,fun h=>by cases h⟩⟩,Below.refl _ _⟩
 have g1:((xs.length:Int) != (ys.length:Int))=false:=by rw[hl];simp
 have g1n:(xs.length != ys.length)=false:=by rw[hl];simp
 have HLL:Hid (xs.length=ys.length):=hl
 clear hl
 go_enter Tryz.func14,Tryz.ntmps14
 go_wp2_with fail
 clear g1 g1n
 go_loopw [5] (fun i wr=>∃k:Nat,k<=xs.length/\i=.int .i64 k/\Hid (∀j,j<k->xs.getD j 0=ys.getD j 0)/\Below w.heap.size w wr) (fun i _=>xs.length-(intOf i).toNat)
 case atStart=>exact⟨0,Nat.zero_le _,rfl,(fun j hj=>by omega),Below.refl _ _⟩
 case round =>
  obtain⟨k,hk,rfl,HE,hnx⟩:=hrel
  by_cases hkn:k<xs.length
  . have hk2:k<ys.length:=by have:=HLL.out;omega
    obtain⟨b1,o1,rfl,_,c1⟩:=HA.out.at hnx k hkn
    obtain⟨b2,o2,rfl,_,c2⟩:=HB.out.at hnx k hk2
    obtain⟨x,hx⟩:∃x,xs.getD k 0=x:=⟨_,rfl⟩
    obtain⟨y,hy⟩:∃y,ys.getD k 0=y:=⟨_,rfl⟩
    have HX:Hid (xs.getD k 0=x/\ys.getD k 0=y):=⟨hx,hy⟩
    rw[hx]at c1;rw[hy]at c2;clear hx hy
    have i1:(0:Int)<=(k:Int):=by omega
    have i2:(k:Int)<(xs.length:Int):=by omega
    have i3:(k:Int)<(ys.length:Int):=by omega
    by_cases hxy:x=y
    . have HE2:Hid (∀j,j<k+1->xs.getD j 0=ys.getD j 0):=fun j hj=>by
        by_cases hjk:j=k
        . subst hjk;rw[HX.out.1,HX.out.2,hxy]
        . exact HE.out j (by omega)
      subst hxy
      have hxx:((x:Int) != (x:Int))=false:=by simp
      clear HE HX
      go_wp2_with fail
      go_quiet (fail)
      go_wp2
      go_roundw
      case rel=>exact⟨k+1,by omega,by go_num,HE2,below_drewN hnx _⟩
      case measure=>simp[intOf];omega
    . have hxx:((x:Int) != (y:Int))=true:=bne_iff_ne.2 hxy
      clear HE HX hxy
      go_wp2_with fail
      go_quiet (fail)
      go_wp2
      go_ret
      exact⟨⟨⟨false,rfl,fun h=>by cases h⟩⟩,below_drewN hnx _⟩
  . have HF:Hid (xs=ys):=zpm HLL.out (fun j hj=>HE.out j (by omega))
    have g4:¬(k:Int)<(xs.length:Int):=by omega
    clear HE
    go_wp2_with fail
    go_ret
    exact⟨⟨⟨true,rfl,fun _=>HF.out⟩⟩,hnx⟩
theorem zsc:(Tryz.prog.info? 37).map (fun i=>(i.zero,i.size,i.bytes))=some (some (.slice none 0 0),1,24):=by kernel_rfl
theorem Ri.keep{w w':World}{a:Option Addr}{cap:Nat}{l:List Int}(h:Ri w a cap l)(hs:w.heap.size<=w'.heap.size)
    (hb:∀b,b<w.heap.size->(∃o,a=some ⟨b,o,none⟩)->l≠[]->w'.heap[b]?=w.heap[b]?):Ri w' a cap l:=by
 obtain⟨h1,h2,h3,h4⟩:=h
 refine⟨h1,h2,h3,?_⟩
 rcases h4 with h4|⟨b,off,e,h5,h6⟩
 . exact .inl h4
 . refine .inr ⟨b,off,e,Nat.lt_of_lt_of_le h5 hs,fun i hi=>?_⟩
   have e2:=hb b h5 ⟨off,e⟩ (fun e=>by rw[e]at hi;simp at hi)
   exact(World.cell?_of_block (w:=w) (a:=⟨b,off+i,none⟩) e2).trans (h6 i hi)
theorem Ri.blk{w:World}{a:Option Addr}{cap:Nat}{l:List Int}(h:Ri w a cap l)(hl:l≠[]){b o:Nat}(e:a=some ⟨b,o,none⟩):b<w.heap.size:=by
 rcases h.2.2.2 with h0|⟨b2,o2,e2,hb,_⟩
 . exact absurd h0 hl
 . rw[e]at e2;cases e2;exact hb
theorem Tz.blk{w:World}{a:Option Addr}{cap:Nat}{l:List Te}(h:Tz w a cap l)(hl:l≠[]){b o:Nat}(e:a=some ⟨b,o,none⟩):b<w.heap.size:=by
 obtain⟨b2,o2,e2,hb,_⟩:=h.2.2.2.2 0 (List.length_pos_iff.2 hl)
 rw[e]at e2;cases e2;exact hb
def Tq(base:Nat)(w:World)(v:Value)(m:List (List Te)):Prop :=
 ∃vs:List Value,w.ownsRow base 112 1 v m.length vs/\∀i,i<m.length->∃a cap,vs[i]?=some (.slice a (m.getD i []).length cap)/\Tz w a cap (m.getD i [])/\∀b o,a=some ⟨b,o,none⟩->m.getD i []≠[]->v.ownBlock≠some b/\base<=b
theorem Tq.nil(base:Nat)(w:World):Tq base w (.slice none 0 0) []:=⟨[],World.ownsRow_nil w base _ 1,fun i hi=>by simp at hi⟩
theorem Tq.slice{base:Nat}{w:World}{v:Value}{m:List (List Te)}(h:Tq base w v m):∃a cap,v=.slice a m.length cap/\Tzz w a cap m:=by
 obtain⟨vs,h3,h4⟩:=h
 rcases h3.2 with ⟨rfl,h0⟩|⟨g,cap,cur,rfl,hb,hg,hc1,hc2,hc3,ht⟩
 . have:m=[]:=List.length_eq_zero_iff.1 h0
   subst this
   exact⟨none,0,rfl,Tzz.nil _ _ _ (Nat.zero_le _)⟩
 . refine⟨_,cap,rfl,hc1,hc2,fun i hi=>?_⟩
   obtain⟨a',cap',k0,k1,_⟩:=h4 i hi
   have zbs:∀j,(⟨g,0,none⟩:Addr).add j=⟨g,0+j,none⟩:=by intro j;unfold Addr.add;split <;> simp_all
   have d0:=h3.cells (g:=g) rfl i _ k0
   rw[zbs]at d0
   exact⟨g,0,a',cap',rfl,(Array.getElem?_eq_some_iff.1 hg).1,d0,k1⟩
theorem Tq.below{base:Nat}{w w':World}{v:Value}{m:List (List Te)}(h:Tq base w v m)(hb:Below w.heap.size w w'):Tq base w' v m:=by
 obtain⟨vs,h3,h4⟩:=h
 refine⟨vs,⟨h3.1,?_⟩,fun i hi=>?_⟩
 . rcases h3.2 with h0|⟨g,cap',cur,k1,k2,k3,k4⟩
   . exact .inl h0
   . exact .inr ⟨g,cap',cur,k1,k2,(hb.block g (Array.getElem?_eq_some_iff.1 k3).1).trans k3,k4⟩
 . obtain⟨a',cap',k0,k1,k2⟩:=h4 i hi
   exact⟨a',cap',k0,k1.below hb,k2⟩
theorem Tq.lo{base:Nat}{w:World}{v:Value}{m:List (List Te)}(h:Tq base w v m){g:Nat}(hg:v.ownBlock=some g):base<=g/\g<w.heap.size:=by
 obtain⟨vs,h3,_⟩:=h
 exact World.ownsRow.lt h3 g hg
theorem Tq.other{base:Nat}{w w':World}{v:Value}{m:List (List Te)}(h:Tq base w v m){G:Nat}(hG:G<base)(hs:w.heap.size<=w'.heap.size)(hb:∀b,b<w.heap.size->b≠G->w'.heap[b]?=w.heap[b]?):Tq base w' v m:=by
 obtain⟨vs,h3,h4⟩:=h
 refine⟨vs,⟨h3.1,?_⟩,fun i hi=>?_⟩
 . rcases h3.2 with h0|⟨g,cap',cur,k1,k2,k3,k4⟩
   . exact .inl h0
   . exact .inr ⟨g,cap',cur,k1,k2,(hb g (Array.getElem?_eq_some_iff.1 k3).1 (by omega)).trans k3,k4⟩
 . obtain⟨a',cap',k0,k1,k2⟩:=h4 i hi
   exact⟨a',cap',k0,k1.keep hs (fun b hbl ⟨o,e⟩ hne=>hb b hbl (by have:=(k2 b o e hne).2;omega)),k2⟩
def Rq(base:Nat)(w:World)(v:Value)(m:List (List Int)):Prop :=
 ∃vs:List Value,w.ownsRow base 37 1 v m.length vs/\∀i,i<m.length->∃a cap,vs[i]?=some (.slice a (m.getD i []).length cap)/\Ri w a cap (m.getD i [])/\∀b o,a=some ⟨b,o,none⟩->m.getD i []≠[]->v.ownBlock≠some b/\base<=b
theorem Rq.nil(base:Nat)(w:World):Rq base w (.slice none 0 0) []:=⟨[],World.ownsRow_nil w base _ 1,fun i hi=>by simp at hi⟩
theorem Rq.slice{base:Nat}{w:World}{v:Value}{m:List (List Int)}(h:Rq base w v m):∃a cap,v=.slice a m.length cap/\Rii w a cap m:=by
 obtain⟨vs,h3,h4⟩:=h
 rcases h3.2 with ⟨rfl,h0⟩|⟨g,cap,cur,rfl,hb,hg,hc1,hc2,hc3,ht⟩
 . have:m=[]:=List.length_eq_zero_iff.1 h0
   subst this
   exact⟨none,0,rfl,Rii.nil _ _ _ (Nat.zero_le _)⟩
 . refine⟨_,cap,rfl,hc1,hc2,fun i hi=>?_⟩
   obtain⟨a',cap',k0,k1,_⟩:=h4 i hi
   have zbs:∀j,(⟨g,0,none⟩:Addr).add j=⟨g,0+j,none⟩:=by intro j;unfold Addr.add;split <;> simp_all
   have d0:=h3.cells (g:=g) rfl i _ k0
   rw[zbs]at d0
   exact⟨g,0,a',cap',rfl,(Array.getElem?_eq_some_iff.1 hg).1,d0,k1⟩
theorem Rq.below{base:Nat}{w w':World}{v:Value}{m:List (List Int)}(h:Rq base w v m)(hb:Below w.heap.size w w'):Rq base w' v m:=by
 obtain⟨vs,h3,h4⟩:=h
 refine⟨vs,⟨h3.1,?_⟩,fun i hi=>?_⟩
 . rcases h3.2 with h0|⟨g,cap',cur,k1,k2,k3,k4⟩
   . exact .inl h0
   . exact .inr ⟨g,cap',cur,k1,k2,(hb.block g (Array.getElem?_eq_some_iff.1 k3).1).trans k3,k4⟩
 . obtain⟨a',cap',k0,k1,k2⟩:=h4 i hi
   exact⟨a',cap',k0,k1.below hb,k2⟩
theorem Rq.lo{base:Nat}{w:World}{v:Value}{m:List (List Int)}(h:Rq base w v m){g:Nat}(hg:v.ownBlock=some g):base<=g/\g<w.heap.size:=by
 obtain⟨vs,h3,_⟩:=h
 exact World.ownsRow.lt h3 g hg
theorem Rq.other{base:Nat}{w w':World}{v:Value}{m:List (List Int)}(h:Rq base w v m){G:Nat}(hG:G<base)(hs:w.heap.size<=w'.heap.size)(hb:∀b,b<w.heap.size->b≠G->w'.heap[b]?=w.heap[b]?):Rq base w' v m:=by
 obtain⟨vs,h3,h4⟩:=h
 refine⟨vs,⟨h3.1,?_⟩,fun i hi=>?_⟩
 . rcases h3.2 with h0|⟨g,cap',cur,k1,k2,k3,k4⟩
   . exact .inl h0
   . exact .inr ⟨g,cap',cur,k1,k2,(hb g (Array.getElem?_eq_some_iff.1 k3).1 (by omega)).trans k3,k4⟩
 . obtain⟨a',cap',k0,k1,k2⟩:=h4 i hi
   exact⟨a',cap',k0,k1.keep hs (fun b hbl ⟨o,e⟩ hne=>hb b hbl (by have:=(k2 b o e hne).2;omega)),k2⟩
theorem zb3{w:World}{o:Oper}{a:Act}{K:Act->World->Prop}{Q:Exit->Act->World->Prop}
    (s x:Operand) (ho:o.op=.call { callee:=.builtin .append,args:=#[s,x],argTypes:=#[25,25] })
    (base:Nat) (v:Value) (m:List (List Int)) (hs:a.eval s=v) (hown:Rq base w v m) (g:Nat) (a':Option Addr) (cap':Nat) (l:List Int) (hx:a.eval x=.slice (some ⟨g,0,none⟩) 1 1)
    (c0:w.cell? ⟨g,0,none⟩=some (.slice a' l.length cap')) (hl:Ri w a' cap' l) (hne:∀b o,a'=some ⟨b,o,none⟩->l≠[]->v.ownBlock≠some b/\base<=b) (hlen:m.length+1<=1000000) (hbase:base<=w.heap.size)
    (h:∀v' w',Rq base w' v' (m++[l])->w.grownBy w' v.ownBlock->K (a.put o.dst v') w'):o.wp Tryz.prog a w K Q:=by
 obtain⟨i0,hi,hz0,hz1,hz2⟩:=info_parts zsc
 obtain⟨vs,h3,h4⟩:=hown
 refine zd2 w s x 25 ho base 37 i0 (.slice none 0 0) 1 24 Tryz.underlying25 hi hz0 hz1 hz2 rfl (by decide) v m.length vs hs h3 ⟨g,0,none⟩ 1 1 [.slice a' l.length cap'] hx rfl ?_ ?_ (by unfold maxLen;omega) (by omega) hbase ?_
 . intro j u hj
   match j,hj with
   | 0,hj=>simp at hj;subst hj;simpa [Addr.add] using c0
 . intro u hu
   simp at hu
   subst hu
   rfl
 . intro v' w' k1 k2 _ k4
   have hvs:vs.length=m.length:=by have:=h3.1;omega
   have zvp:∀a2 c2 l2,Ri w a2 c2 l2->(∀b o,a2=some ⟨b,o,none⟩->l2≠[]->v.ownBlock≠some b/\base<=b)->Ri w' a2 c2 l2/\(∀b o,a2=some ⟨b,o,none⟩->l2≠[]->v'.ownBlock≠some b/\base<=b):=by
    intro a2 c2 l2 hp hn
    refine⟨hp.keep k2.size (fun b hb ho hl2=>?_),fun b o e hl2=>?_⟩
    . obtain⟨o,e⟩:=ho
      exact k2.block b hb (fun e'=>(hn b o e hl2).1 e'.symm)
    . refine⟨?_,(hn b o e hl2).2⟩
      rcases k4 with k4|k4
      . rw[k4];exact(hn b o e hl2).1
      . rw[k4]
        intro e'
        have hb2:=hp.blk hl2 e
        cases e'
        exact absurd hb2 (Nat.lt_irrefl _)
   refine h v' w' ⟨vs++[.slice a' l.length cap'],by rw[List.length_append];exact k1,fun i hi=>?_⟩ k2
   by_cases him:i<m.length
   . obtain⟨a2,c2,q0,q1,q2⟩:=h4 i him
     have e:(m++[l]).getD i []=m.getD i []:=by simp[List.getD,List.getElem?_append_left him]
     rw[e]
     obtain⟨r1,r2⟩:=zvp _ _ _ q1 q2
     exact⟨a2,c2,by rw[List.getElem?_append_left (by omega)];exact q0,r1,r2⟩
   . have him':i=m.length:=by simp at hi;omega
     subst him'
     have e:(m++[l]).getD m.length []=l:=by simp[List.getD]
     rw[e]
     obtain⟨r1,r2⟩:=zvp _ _ _ hl hne
     exact⟨a',cap',by rw[List.getElem?_append_right (by omega),hvs];simp,r1,r2⟩
theorem Ri.one{w:World}{g:Nat}{z:Int}{t:TypeId}(h:w.heap[g]?=some (.cells #[.int .i64 z] t (0,0)))(hz:I64 z):Ri w (some ⟨g,0,none⟩) 1 [z]:=by
 refine⟨fun y hy=>by rw[List.mem_singleton.1 hy];exact hz,Nat.le_refl _,by unfold maxLen;omega,.inr ⟨g,0,rfl,(Array.getElem?_eq_some_iff.1 h).1,fun i hi=>?_⟩⟩
 obtain rfl:i=0:=by simpa using hi
 exact cell_of_row w g 0 _ _ (0,0) h
theorem Tz.one{w:World}{g:Nat}{t:Te}{ty:TypeId}(h:w.heap[g]?=some (.cells #[.int .i64 t.st,.int .i64 t.pk,.int .i64 t.en] ty (0,0)))(ht:Tw t):Tz w (some ⟨g,0,none⟩) 1 [t]:=by
 refine⟨Nat.le_refl _,by unfold maxLen;omega,fun y hy=>by rw[List.mem_singleton.1 hy];exact ht,(fun e=>by cases e),fun i hi=>?_⟩
 obtain rfl:i=0:=by simpa using hi
 exact⟨g,0,rfl,(Array.getElem?_eq_some_iff.1 h).1,cell_of_row w g 0 _ _ (0,0) h,cell_of_row w g 1 _ _ (0,0) h,cell_of_row w g 2 _ _ (0,0) h⟩
theorem Tzz.one{w:World}{g:Nat}{a:Option Addr}{c:Nat}{l:List Te}{ty:TypeId}(h:w.heap[g]?=some (.cells #[.slice a l.length c] ty (0,0)))(hl:Tz w a c l):Tzz w (some ⟨g,0,none⟩) 1 [l]:=by
 refine⟨Nat.le_refl _,by unfold maxLen;omega,fun i hi=>?_⟩
 obtain rfl:i=0:=by simpa using hi
 exact⟨g,0,a,c,rfl,(Array.getElem?_eq_some_iff.1 h).1,cell_of_row w g 0 _ _ (0,0) h,hl⟩
theorem Rii.one{w:World}{g:Nat}{a:Option Addr}{c:Nat}{l:List Int}{ty:TypeId}(h:w.heap[g]?=some (.cells #[.slice a l.length c] ty (0,0)))(hl:Ri w a c l):Rii w (some ⟨g,0,none⟩) 1 [l]:=by
 refine⟨Nat.le_refl _,by unfold maxLen;omega,fun i hi=>?_⟩
 obtain rfl:i=0:=by simpa using hi
 exact⟨g,0,a,c,rfl,(Array.getElem?_eq_some_iff.1 h).1,cell_of_row w g 0 _ _ (0,0) h,hl⟩
theorem zjd(S S2:Nat->Prop)(a:Option Addr)(ca:Nat)(a':Option Addr)(ca':Nat)(l:List Pd)(w:World)(h1:Gr PdE S w a ca l)(h2:Gr PdE S2 w a' ca' l) :
 Calls Tryz.prog 15 #[.slice a l.length ca,.slice a' l.length ca'] w fun e w'=>e=.returned (.bool true)/\Below w.heap.size w w':=by
 have k1:=h1.lenB
 have g1:((l.length:Int) != (l.length:Int))=false:=by simp
 have HA:Hid (Gr PdE S w a ca l):=h1
 have HB:Hid (Gr PdE S2 w a' ca' l):=h2
 clear h1 h2
 go_enter Tryz.func15,Tryz.ntmps15
 go_wp2;clear g1
 go_loopw [5] (fun i wr=>∃k:Nat,k<=l.length/\i=.int .i64 k/\Below w.heap.size w wr) (fun i _=>l.length-(intOf i).toNat)
 case atStart=>exact⟨0,Nat.zero_le _,rfl,Below.refl _ _⟩
 case round =>
  obtain⟨k,hk,rfl,hnx⟩:=hrel
  by_cases hkn:k<l.length
  . obtain⟨b3,o3,ec,_,_,c0,c1,c2,c3⟩:=HA.out.pd hnx k hkn
    obtain⟨b4,o4,ed,_,_,d0,d1,d2,d3⟩:=HB.out.pd hnx k hkn
    generalize l.getD k Pd.none=t at *
    obtain⟨x,y,z,u⟩:=t;dsimp only at c0 c1 c2 c3 d0 d1 d2 d3;subst ec ed
    have i3:(0:Int)<=(k:Int):=by omega
    have i4:(k:Int)<(l.length:Int):=by omega
    go_wp2_with fail
    go_quiet (fail)
    go_wp2
    go_roundw
    case rel=>exact⟨k+1,by omega,by go_num,below_drewN hnx _⟩
    case measure=>simp[intOf];omega
  . have g1:¬(k:Int)<(l.length:Int):=by omega
    go_wp2
    go_ret
    exact⟨rfl,hnx⟩
structure FewJ(s:Sr)(P:List Pd)(e:Ending):Prop where
 out:∃b,e=.returned (.bool b)/\(b=true->s.rg.length<=40/\(∀l∈s.rg,l.length<=8)/\P.length<=120)
theorem FewJ.no{s:Sr}{P:List Pd}:FewJ s P (.returned (.bool false)):=⟨false,rfl,fun h=>by cases h⟩
