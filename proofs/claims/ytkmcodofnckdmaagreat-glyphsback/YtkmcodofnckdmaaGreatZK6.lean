import Derived.Test.YtkmcodofnckdmaaGreatZK5
import Derived.Laws.IdiomStrings
import Derived.Lib.SliceRun
import Derived.Laws.BytesArg
set_option maxHeartbeats 1000000
set_option maxRecDepth 100000
set_option linter.unusedSimpArgs false
set_option linter.unusedVariables false
namespace Go.Proofs.YtkmcodofnckdmaaGreat
open Go.RowKit Go.Maps
structure St where
 bs:LN
 ws:LI
 no:Bool
def Wf(s:St):Prop:=Byt s.bs/\s.ws.Nodup/\(∀x∈s.ws,0<=x/\x+4<=(s.bs.length:Int))/\4*s.ws.length<=s.bs.length
def St.zero:St:=⟨[],[],false⟩
def St.fail(s:St):St:={ s with no:=true }
def St.app(s:St)(xs:LN):St:=if s.no then s else { s with bs:=s.bs++xs }
theorem Wf.zero:Wf St.zero:=⟨Byt.nil,List.nodup_nil,(fun x hx=>by cases hx),Nat.le_refl _⟩
theorem Wf.fail{s:St}(h:Wf s):Wf s.fail:=h
theorem Wf.app{s:St}(h:Wf s){xs:LN}(hx:Byt xs):Wf (s.app xs):=by
 unfold St.app
 split
 . exact h
 . exact⟨h.1.append hx,h.2.1,fun x hxs=>by have:=h.2.2.1 x hxs;simp;omega,by have:=h.2.2.2;simp;omega⟩
theorem St.app_bad{s:St}(h:s.no=true)(xs:LN):s.app xs=s:=by simp[St.app,h]
theorem St.app_ok{s:St}(h:s.no=false)(xs:LN):s.app xs={ s with bs:=s.bs++xs }:=by simp[St.app,h]
theorem St.app_no(s:St)(xs:LN):(s.app xs).no=s.no:=by unfold St.app;split <;> rfl
def Row(w:World)(G:Nat->Prop)(v:Value)(xs:LN):Prop :=
 w.ownsRow 0 5 1 v xs.length (xs.map Y)/\∀g,v.ownBlock=some g->¬G g
def Wts(w:World)(G:Nat->Prop)(v:Value)(ws:LI):Prop :=
 (v=.map none/\ws=[])\/∃m D,v=.map (some m)/\¬G m/\w.ownsMap Tryz.prog 3 (unitElem (H:=Unit)) m ws.length D /\
  (∀x:Int,Maps.has D (.int .i64 x)=decide (x∈ws))/\Maps.size D=ws.length
def Bx4(w:World)(B:Nat)(a b c d:Value):Prop:=w.heap[B]?=some (.cells #[a,b,c,d] 90 (0,0))
def Pc(w:World)(B:Nat)(G:Nat->Prop)(s:St):Prop :=
 (∀k,G k->k<w.heap.size)/\¬G B/\Wf s/\∃vb vm,Bx4 w B vb (.int .i64 (s.bs.length:Int)) vm (.bool s.no)/\(s.no=true->vm=.map none)/\(s.no=false->Row w G vb s.bs/\Wts w G vm s.ws)
theorem Bx4.lt{w:World}{B:Nat}{a b c d:Value}(h:Bx4 w B a b c d):B<w.heap.size:=(Array.getElem?_eq_some_iff.1 h).1
theorem Bx4.cells{w:World}{B:Nat}{a b c d:Value}(h:Bx4 w B a b c d) :
 w.cell? ⟨B,0,none⟩=some a/\w.cell? ⟨B,1,none⟩=some b/\w.cell? ⟨B,2,none⟩=some c/\w.cell? ⟨B,3,none⟩=some d /\
    w.frozen? ⟨B,0,none⟩=false/\w.frozen? ⟨B,1,none⟩=false/\w.frozen? ⟨B,2,none⟩=false/\w.frozen? ⟨B,3,none⟩=false :=
 ⟨cell_of_row w B 0 _ _ (0,0) h,cell_of_row w B 1 _ _ (0,0) h,cell_of_row w B 2 _ _ (0,0) h,cell_of_row w B 3 _ _ (0,0) h,frozen_of_row w B 0 _ _ h,frozen_of_row w B 1 _ _ h,frozen_of_row w B 2 _ _ h,frozen_of_row w B 3 _ _ h⟩
theorem Bx4.set0{w:World}{B:Nat}{a b c d:Value}(h:Bx4 w B a b c d)(x:Value):Bx4 (w.setCell ⟨B,0,none⟩ x) B x b c d:=heap_setCell_same w B 0 _ _ x h
theorem Bx4.set1{w:World}{B:Nat}{a b c d:Value}(h:Bx4 w B a b c d)(x:Value):Bx4 (w.setCell ⟨B,1,none⟩ x) B a x c d:=heap_setCell_same w B 1 _ _ x h
theorem Bx4.set2{w:World}{B:Nat}{a b c d:Value}(h:Bx4 w B a b c d)(x:Value):Bx4 (w.setCell ⟨B,2,none⟩ x) B a b x d:=heap_setCell_same w B 2 _ _ x h
theorem Bx4.set3{w:World}{B:Nat}{a b c d:Value}(h:Bx4 w B a b c d)(x:Value):Bx4 (w.setCell ⟨B,3,none⟩ x) B a b c x:=heap_setCell_same w B 3 _ _ x h
theorem Rb.off{w:World}{B:Nat}{x0 x1 x2 x3:Value}(hB:Bx4 w B x0 x1 x2 x3)(h0:∀z,x0≠.int .u8 z)(h1:∀z,x1≠.int .u8 z)(h2:∀z,x2≠.int .u8 z)(h3:∀z,x3≠.int .u8 z)
    {w':World} {a:OA} {cap:Nat} {xs:LN} (h:Rb w a cap xs) (hs:w.heap.size<=w'.heap.size) (hw:∀k,k<w.heap.size->k≠B->w'.heap[k]?=w.heap[k]?):Rb w' a cap xs:=by
 obtain⟨k1,k2,k3,k5,k4⟩:=h
 refine⟨k1,k2,k3,k5,?_⟩
 by_cases hx:xs=[]
 . exact .inl hx
 rcases k4 with k4|⟨g,off,e,hg,hc⟩
 . exact .inl k4
 . refine .inr ⟨g,off,e,Nat.lt_of_lt_of_le hg hs,fun i hi=>?_⟩
   have hne:g≠B:=by
    rintro rfl
    have hc0:=hc 0 (List.length_pos_iff.2 hx)
    have hb:=cell_of_row w g (off+0) _ _ (0,0) hB
    rw[hc0]at hb
    match off,hb with
    | 0,hb=>simp at hb;exact h0 _ hb.symm
    | 1,hb=>simp at hb;exact h1 _ hb.symm
    | 2,hb=>simp at hb;exact h2 _ hb.symm
    | 3,hb=>simp at hb;exact h3 _ hb.symm
    | (k+4),hb=>simp at hb
   exact(World.cell?_of_block (w:=w) (a:=⟨g,off+i,none⟩) (hw g hg hne)).trans (hc i hi)
theorem Row.stay{w w':World}{G:Nat->Prop}{v:Value}{xs:LN}(h:Row w G v xs)(hb:∀k,k<w.heap.size->¬G k->w'.heap[k]?=w.heap[k]?):Row w' G v xs:=by
 obtain⟨⟨h1,h2⟩,hG⟩:=h
 refine⟨⟨h1,?_⟩,hG⟩
 rcases h2 with h2|⟨g,cap,cur,e,h3,h4,h5⟩
 . exact .inl h2
 . exact .inr ⟨g,cap,cur,e,h3,(hb g (Array.getElem?_eq_some_iff.1 h4).1 (hG g (by rw[e];rfl))).trans h4,h5⟩
theorem Row.ne{w:World}{G:Nat->Prop}{v:Value}{xs:LN}(h:Row w G v xs){B:Nat}{cs:Array Value}{t:TypeId}{f:Nat×Nat}(hB:w.heap[B]?=some (.cells cs t f))(ht:t≠5):v.ownBlock≠some B:=by
 obtain⟨⟨h1,h2⟩,hG⟩:=h
 rcases h2 with ⟨rfl,_⟩|⟨g,cap,cur,rfl,h3,h4,h5⟩
 . intro e;cases e
 . intro e
   simp only[Value.ownBlock,Option.some.injEq]at e
   subst e;rw[h4]at hB
   simp at hB
   exact ht hB.2.1.symm
theorem Row.ne_map{w:World}{G:Nat->Prop}{v:Value}{xs:LN}(h:Row w G v xs){m:Nat}{es:Array MapEntry}{c:Nat}(hB:w.heap[m]?=some (.map es c)):v.ownBlock≠some m:=by
 obtain⟨⟨h1,h2⟩,hG⟩:=h
 rcases h2 with ⟨rfl,_⟩|⟨g,cap,cur,rfl,h3,h4,h5⟩
 . intro e;cases e
 . intro e
   simp only[Value.ownBlock,Option.some.injEq]at e
   subst e;rw[h4]at hB
   simp at hB
theorem Row.off{w w':World}{G:Nat->Prop}{v:Value}{xs:LN}(h:Row w G v xs){B:Nat}{cs:Array Value}{t:TypeId}{f:Nat×Nat}(hB:w.heap[B]?=some (.cells cs t f))(ht:t≠5)
    (hb:∀k,k<w.heap.size->k≠B->w'.heap[k]?=w.heap[k]?):Row w' G v xs:=by
 have hne:=h.ne hB ht
 obtain⟨⟨h1,h2⟩,hG⟩:=h
 refine⟨⟨h1,?_⟩,hG⟩
 rcases h2 with h2|⟨g,cap,cur,e,h3,h4,h5⟩
 . exact .inl h2
 . exact .inr ⟨g,cap,cur,e,h3,(hb g (Array.getElem?_eq_some_iff.1 h4).1 (fun e'=>hne (by rw[e,<-e'];rfl))).trans h4,h5⟩
theorem Row.slice{w:World}{G:Nat->Prop}{v:Value}{xs:LN}(h:Row w G v xs):∃a c,v=.slice a xs.length c:=by
 rcases h.1.2 with ⟨e,h0⟩|⟨g,cap,cur,e,_⟩
 . exact⟨none,0,by rw[e,h0]⟩
 . exact⟨_,cap,e⟩
theorem Row.no8{w:World}{G:Nat->Prop}{v:Value}{xs:LN}(h:Row w G v xs)(z:Int):v≠.int .u8 z:=by
 obtain⟨a,c,rfl⟩:=h.slice
 intro e;cases e
theorem Wts.no8{w:World}{G:Nat->Prop}{v:Value}{ws:LI}(h:Wts w G v ws)(z:Int):v≠.int .u8 z:=by
 rcases h with ⟨rfl,_⟩|⟨m,D,rfl,_⟩ <;> (intro e;cases e)
theorem Wts.off{w w':World}{G:Nat->Prop}{v:Value}{ws:LI}(h:Wts w G v ws){B:Nat}(hB:∀es c,w.heap[B]?≠some (.map es c))
    (hb:∀k,k<w.heap.size->k≠B->w'.heap[k]?=w.heap[k]?):Wts w' G v ws:=by
 rcases h with h|⟨m,D,e,hG,ho,h1,h2⟩
 . exact .inl h
 . have hlt:=ho.lt
   obtain⟨es,clock,hb0,F,hs,hD⟩:=ho
   exact .inr ⟨m,D,e,hG,⟨es,clock,(hb m hlt (fun e'=>hB es clock (e' ▸ hb0))).trans hb0,F,hs,hD⟩,h1,h2⟩
theorem Bx4.no_map{w:World}{B:Nat}{a b c d:Value}(h:Bx4 w B a b c d)(es:Array MapEntry)(k:Nat):w.heap[B]?≠some (.map es k):=by
 rw[h];intro e;simp at e
theorem Wts.grown{w w':World}{G:Nat->Prop}{v:Value}{ws:LI}(h:Wts w G v ws){G':Nat->Prop}{u:Value}{xs:LN}(hr:Row w G' u xs)(hg:w.grownBy w' u.ownBlock):Wts w' G v ws:=by
 rcases h with h|⟨m,D,e,hG,ho,h1,h2⟩
 . exact .inl h
 . have hlt:=ho.lt
   obtain⟨es,clock,hb0,F,hs,hD⟩:=ho
   exact .inr ⟨m,D,e,hG,⟨es,clock,(hg.block m hlt (Ne.symm (hr.ne_map hb0))).trans hb0,F,hs,hD⟩,h1,h2⟩
theorem Bx4.grown{w w':World}{B:Nat}{a b c d:Value}(h:Bx4 w B a b c d){G':Nat->Prop}{u:Value}{xs:LN}(hr:Row w G' u xs)(hg:w.grownBy w' u.ownBlock):Bx4 w' B a b c d :=
 (hg.block B h.lt (Ne.symm (hr.ne h (by decide)))).trans h
theorem Wts.stay{w w':World}{G:Nat->Prop}{v:Value}{ws:LI}(h:Wts w G v ws)(hb:∀k,k<w.heap.size->¬G k->w'.heap[k]?=w.heap[k]?):Wts w' G v ws:=by
 rcases h with h|⟨m,D,e,hG,ho,h1,h2⟩
 . exact .inl h
 . have hlt:=ho.lt
   obtain⟨es,clock,hb0,F,hs,hD⟩:=ho
   exact .inr ⟨m,D,e,hG,⟨es,clock,(hb m hlt hG).trans hb0,F,hs,hD⟩,h1,h2⟩
theorem Pc.stay{w w':World}{B:Nat}{G:Nat->Prop}{s:St}(h:Pc w B G s)(hs:w.heap.size<=w'.heap.size)(hb:∀k,k<w.heap.size->¬G k->w'.heap[k]?=w.heap[k]?):Pc w' B G s:=by
 obtain⟨h1,h2,h3,vb,vm,h4,h6,h5⟩:=h
 exact⟨fun k hk=>Nat.lt_of_lt_of_le (h1 k hk) hs,h2,h3,vb,vm,(hb B h4.lt h2).trans h4,h6,fun hn=>⟨(h5 hn).1.stay hb,(h5 hn).2.stay hb⟩⟩
theorem Pc.below{w w':World}{B:Nat}{G:Nat->Prop}{s:St}(h:Pc w B G s)(hb:Below w.heap.size w w'):Pc w' B G s:=h.stay hb.size fun k hk _=>hb.block k hk
theorem Pc.guard{w:World}{B:Nat}{G G':Nat->Prop}{s:St}(h:Pc w B G s)(hG:∀k,G' k->k<w.heap.size/\G k):Pc w B G' s:=by
 obtain⟨h1,h2,h3,vb,vm,h4,h6,h5⟩:=h
 refine⟨fun k hk=>(hG k hk).1,fun hB=>h2 (hG _ hB).2,h3,vb,vm,h4,h6,fun hn=>⟨⟨(h5 hn).1.1,fun g hg hg'=>(h5 hn).1.2 g hg (hG _ hg').2⟩,?_⟩⟩
 rcases (h5 hn).2 with h|⟨m,D,e,hG2,r⟩
 . exact .inl h
 . exact .inr ⟨m,D,e,fun hm=>hG2 (hG _ hm).2,r⟩
theorem Pc.guard_new{w w':World}{B:Nat}{G G':Nat->Prop}{s:St}(h:Pc w B G s)(hs:w.heap.size<=w'.heap.size)(hb:∀k,k<w.heap.size->¬G k->w'.heap[k]?=w.heap[k]?)(hG:∀k,G' k->k<w'.heap.size/\(k<w.heap.size->G k)):Pc w' B G' s:=by
 have h':=h.stay hs hb
 obtain⟨h1,h2,h3,vb,vm,h4,h6,h5⟩:=h
 refine⟨fun k hk=>(hG k hk).1,fun hB=>h2 ((hG _ hB).2 h4.lt),h3,vb,vm,(hb B h4.lt h2).trans h4,h6,fun hn=>⟨⟨((h5 hn).1.stay hb).1,fun g hg hg'=>(h5 hn).1.2 g hg ((hG _ hg').2 ((h5 hn).1.1.lt g hg).2)⟩,?_⟩⟩
 rcases (h5 hn).2 with h|⟨m,D,e,hG2,ho,r⟩
 . exact .inl h
 . have hlt:=ho.lt
   rcases ((h5 hn).2).stay hb with h|⟨m',D',e',hG2',r'⟩
   . exact .inl h
   . rw[e]at e'
     simp at e'
     subst e'
     exact .inr ⟨m,D',e,fun hm=>hG2 ((hG _ hm).2 hlt),r'⟩
theorem zko:(Tryz.prog.info? 5).map (fun i=>(i.zero,i.size,i.bytes))=some (some (.int .u8 0),1,1):=by kernel_rfl
abbrev pg (B:Nat):Value:=.pointer (some ⟨B,0,none⟩)
theorem zp9(B:Nat)(G:Nat->Prop)(s:St)(w:World)(h:Pc w B G s)(hl:s.bs.length<=1048576) :
 Calls Tryz.prog 126 #[pg B] w fun e w'=>e=.returned (.bool s.no)/\w=w':=by
 obtain⟨h1,h2,h3,vb,vm,h4,h6,h5⟩:=h;obtain⟨c0,c1,c2,c3,f0,f1,f2,f3⟩:=h4.cells
 generalize s.no=n at *
 generalize s.bs.length=l at *
 clear h5 h6 h4 h3 h2 h1
 cases n
 . go_enter Tryz.func126,Tryz.ntmps126
   go_wp2
   go_ret
   exact⟨zaa (by simp;try omega),rfl⟩
 . go_enter Tryz.func126,Tryz.ntmps126
   go_wp2
   go_ret
   exact⟨zaa (by simp;try omega),rfl⟩
theorem zjd(B:Nat)(G:Nat->Prop)(s:St)(w:World)(h:Pc w B G s) :
 Calls Tryz.prog 75 #[pg B] w fun e w'=>e=.returned (.tuple #[])/\Pc w' B G s.fail/\Keep G w w':=by
 obtain⟨h1,h2,h3,vb,vm,h4,h6,h5⟩:=h;obtain⟨c0,c1,c2,c3,f0,f1,f2,f3⟩:=h4.cells
 go_enter Tryz.func75,Tryz.ntmps75
 go_wp2
 go_end0
 refine⟨rfl,⟨fun k hk=>by simpa [World.setCell] using h1 k hk,h2,h3.fail,_,_,((h4.set3 _).set0 _).set2 _,fun _=>rfl,fun hn=>by cases hn⟩,?_⟩
 exact(((Keep.refl G w).setCell (p:=⟨B,3,none⟩) h2 _).setCell (p:=⟨B,0,none⟩) h2 _).setCell (p:=⟨B,2,none⟩) h2 _
theorem zir(B:Nat)(G:Nat->Prop)(s:St)(a:OA)(cap:Nat)(xs:LN)(w:World)(h:Pc w B G s)(hr:Rb w a cap xs)(hl:s.bs.length+xs.length<=1048576) :
 Calls Tryz.prog 76 #[pg B,.slice a xs.length cap] w fun e w'=>e=.returned (.tuple #[])/\Pc w' B G (s.app xs)/\Keep G w w':=by
 obtain⟨i0,hi,hz0,hz1,hz2⟩:=info_parts zko
 have hP:=h
 obtain⟨h1,h2,h3,vb,vm,h4,h6,h5⟩:=h
 go_enter Tryz.func76,Tryz.ntmps76
 go_wp2_with fail
 refine(zp9 B G s _ hP (by omega)).mono ?_
 rintro e u ⟨rfl,rfl⟩
 by_cases hno:s.no=true
 . rw[hno]
   go_wp2
   (try simp only[Exit.inBlock,Exit.then]);refine bodyPost_ret (results_none rfl _ _ _) rfl ?_
   exact⟨rfl,by rw[St.app_bad hno];exact hP,Keep.refl _ _⟩
 . have hno:s.no=false:=by simpa using hno
   rw[hno]
   obtain⟨hR,hM⟩:=h5 hno
   obtain⟨c0,c1,c2,c3,f0,f1,f2,f3⟩:=h4.cells
   obtain⟨l,hll⟩:∃l,s.bs.length=l:=⟨_,rfl⟩
   rw[hll]at c1 h4
   have HL:Hid (s.bs.length=l):=hll
   have hl':l+xs.length<=1048576:=by omega
   clear hll hl
   have z4o:∀(u:World) (v:Value) (o:Nat),∀k,k<u.heap.size->k≠B->(u.setCell ⟨B,o,none⟩ v).heap[k]?=u.heap[k]?:=fun u v o k _ hk=>Below.heap_setCell _ ⟨B,o,none⟩ v k hk
   have h41:=h4.set1 (.int .i64 ((l:Int)+xs.length))
   have hR1:=hR.off h4 (by decide) (z4o w (.int .i64 ((l:Int)+xs.length)) 1)
   have hM1:=hM.off h4.no_map (z4o w (.int .i64 ((l:Int)+xs.length)) 1)
   have hr1:=Rb.off h4 hR.no8 (by simp) hM.no8 (by simp) hr (by simp[World.setCell]) (z4o w (.int .i64 ((l:Int)+xs.length)) 1)
   have hK1:Keep G w (w.setCell ⟨B,1,none⟩ (.int .i64 ((l:Int)+xs.length))):=(Keep.refl G w).setCell (p:=⟨B,1,none⟩) h2 _
   have hsz:(w.setCell ⟨B,1,none⟩ (.int .i64 ((l:Int)+xs.length))).heap.size=w.heap.size:=by simp[World.setCell]
   clear h4 hP hr hM h5 h6
   go_wp2_with (at_builtin;refine zc4 rfl _ _ 42 rfl 0 5 i0 Tryz.underlying42 hi hz0 hz1 hz2 _ s.bs.length s.bs rfl hR1.1 a cap _ xs rfl rfl hr1 (by rw[HL.out];omega) (Nat.zero_le _) ?_)
   intro v' w1 hown hgrow hat
   obtain⟨ts,hts⟩:∃ts,s.bs++xs=ts:=⟨_,rfl⟩
   have htl:s.bs.length+xs.length=ts.length:=by rw[<-hts,List.length_append]
   rw[<-List.map_append,hts,htl]at hown
   have HT:Hid (s.bs++xs=ts):=hts
   have HT2:Hid (s.bs.length+xs.length=ts.length):=htl
   have hBt:Byt ts:=hts ▸ h3.1.append hr1.lim
   clear hts htl
   have h42:=h41.grown hR1 hgrow
   obtain⟨a2,cap2,rfl,_⟩:=Rw.of hBt hown
   obtain⟨d0,d1,d2,d3,g0,g1,g2,g3⟩:=h42.cells;go_wp2
   go_end0
   have hM2:=hM1.grown hR1 hgrow
   have hnG:∀g,(Value.slice a2 ts.length cap2).ownBlock=some g->¬G g:=by
    intro g hg hGg
    rcases hat with hat|hat
    . exact hR.2 g (by rw[<-hat];exact hg) hGg
    . rw[hat]at hg
      have:=h1 g hGg
      simp at hg
      omega
   have hR2:Row w1 G (.slice a2 ts.length cap2) ts:=⟨hown,hnG⟩
   have hR3:=hR2.off h42 (by decide) (z4o w1 (.slice a2 ts.length cap2) 0)
   have hK2:=(hK1.grown hgrow (fun k hk=>by rw[hsz];exact h1 k hk) (fun k hk=>hR.2 k hk)).setCell (p:=⟨B,0,none⟩) h2 (.slice a2 ts.length cap2)
   refine⟨rfl,⟨fun k hk=>?_,h2,h3.app hr1.lim,.slice a2 ts.length cap2,vm,?_,fun hn=>absurd hn (by rw[St.app_no,hno];decide),fun _=>?_⟩,hK2⟩
   . exact Nat.lt_of_lt_of_le (h1 k hk) hK2.size
   . have h43:=h42.set0 (.slice a2 ts.length cap2)
     rw[St.app_ok hno]
     simp only[HT.out,<-HT2.out,HL.out]
     simpa [<-HT2.out,HL.out] using h43
   . rw[St.app_ok hno,HT.out]
     exact⟨hR3,hM2.off h42.no_map (z4o w1 (.slice a2 ts.length cap2) 0)⟩
def be1(n:Int):LN:=[(n%256).toNat]
def be2(n:Int):LN:=[(n/256%256).toNat,(n%256).toNat]
def be4(n:Int):LN:=[(n/16777216%256).toNat,(n/65536%256).toNat,(n/256%256).toNat,(n%256).toNat]
theorem zmu(n:Int):Byt (be1 n):=by intro x hx;simp[be1]at hx;omega
theorem zck(n:Int):Byt (be2 n):=by intro x hx;simp[be2]at hx;omega
theorem z3d(n:Int):Byt (be4 n):=by intro x hx;simp[be4]at hx;omega
def St.put8(s:St)(n:Int):St:=if -128<=n/\n<=255 then s.app (be1 n)else s.fail
def St.put16(s:St)(n:Int):St:=if -32768<=n/\n<=65535 then s.app (be2 n)else s.fail
def St.put32(s:St)(n:Int):St:=if -2147483648<=n/\n<=4294967295 then s.app (be4 n)else s.fail
theorem ztq(n:Int)(w:World)(hn:I64 n) :
 Calls Tryz.prog 74 #[.int .i64 n,.int .i64 8] w fun e w'=>e=.returned (.bool (decide (-128<=n/\n<=255)))/\w=w':=by
 obtain⟨n1,n2⟩:=hn
 by_cases h:-128<=n
 . go_enter Tryz.func74,Tryz.ntmps74
   go_wp2
   go_ret
   refine⟨zaa ?_,rfl⟩
   by_cases h2:n<=255
   . simp[h,h2];try omega
   . simp[h,h2];try omega
 . go_enter Tryz.func74,Tryz.ntmps74
   go_wp2
   go_ret
   exact⟨zaa (by simp[h];try omega),rfl⟩
theorem zp1(n:Int)(w:World)(hn:I64 n) :
 Calls Tryz.prog 74 #[.int .i64 n,.int .i64 16] w fun e w'=>e=.returned (.bool (decide (-32768<=n/\n<=65535)))/\w=w':=by
 obtain⟨n1,n2⟩:=hn
 by_cases h:-32768<=n
 . go_enter Tryz.func74,Tryz.ntmps74
   go_wp2
   go_ret
   refine⟨zaa ?_,rfl⟩
   by_cases h2:n<=65535
   . simp[h,h2];try omega
   . simp[h,h2];try omega
 . go_enter Tryz.func74,Tryz.ntmps74
   go_wp2
   go_ret
   exact⟨zaa (by simp[h];try omega),rfl⟩
theorem zp0(n:Int)(w:World)(hn:I64 n) :
 Calls Tryz.prog 74 #[.int .i64 n,.int .i64 32] w fun e w'=>e=.returned (.bool (decide (-2147483648<=n/\n<=4294967295)))/\w=w':=by
 obtain⟨n1,n2⟩:=hn
 by_cases h:-2147483648<=n
 . go_enter Tryz.func74,Tryz.ntmps74
   go_wp2
   go_ret
   refine⟨zaa ?_,rfl⟩
   by_cases h2:n<=4294967295
   . simp[h,h2];try omega
   . simp[h,h2];try omega
 . go_enter Tryz.func74,Tryz.ntmps74
   go_wp2
   go_ret
   exact⟨zaa (by simp[h];try omega),rfl⟩
theorem zxm(n:Int)(w:World)(hn:I64 n) :
 Calls Tryz.prog 190 #[.int .i64 n] w fun e w'=>∃a cap,e=.returned (.slice a (be4 n).length cap)/\Rb w' a cap (be4 n)/\Below w.heap.size w w':=by
 obtain⟨n1,n2⟩:=hn
 go_enter Tryz.func190,Tryz.ntmps190
 go_wp2
 go_ret
 refine⟨_,_,rfl,zr7 w 5 (be4 n) _ ?_ (z3d n) (by simp[be4,maxLen]),bl1 _⟩
 simp only[be4,List.map_cons,List.map_nil,Y]
 simp
 omega
theorem Pc.al{w:World}{B:Nat}{G:Nat->Prop}{s:St}(h:Pc w B G s)(o:Obj):Pc (w.alloc o) B G s:=h.below (bl1 o)
theorem Pc.kal{w:World}{B:Nat}{G:Nat->Prop}{s:St}(h:Pc w B G s)(o:Obj):Keep G w (w.alloc o):=Keep.of_below (bl1 o) h.1
theorem zar(B:Nat)(G:Nat->Prop)(s:St)(n:Int)(w:World)(h:Pc w B G s)(hn:I64 n)(hl:s.bs.length+4<=1048576) :
 Calls Tryz.prog 80 #[pg B,.int .i64 n] w fun e w'=>e=.returned (.tuple #[])/\Pc w' B G (s.put8 n)/\Keep G w w':=by
 have hn':=hn
 obtain⟨n1,n2⟩:=hn'
 go_enter Tryz.func80,Tryz.ntmps80
 go_wp2_with fail
 refine(ztq n _ hn).mono ?_
 rintro e u ⟨rfl,rfl⟩
 by_cases hf:-128<=n/\n<=255
 . rw[decide_eq_true hf]
   have hs:Hid (s.put8 n=s.app (be1 n)):=if_pos hf
   go_wp2_with fail
   refine(zir B G s (some ⟨w.heap.size,0,none⟩) 1 (be1 n) _ (h.al _) (zr7 w 5 (be1 n) #[Value.int IntKind.u8 (n%256)] (by simp[be1,Y];omega) (zmu n) (by simp[be1,maxLen])) (by simp[be1];omega)).mono ?_
   rintro e u ⟨rfl,hP,hK⟩;go_wp2
   go_end0
   exact⟨rfl,hs.out ▸ hP,(h.kal _).trans hK⟩
 . rw[decide_eq_false hf]
   have hs:Hid (s.put8 n=s.fail):=if_neg hf
   go_wp2_with fail
   refine(zjd B G s _ h).mono ?_
   rintro e u ⟨rfl,hP,hK⟩;go_wp2
   (try simp only[Exit.inBlock,Exit.then]);refine bodyPost_ret (results_none rfl _ _ _) rfl ?_
   exact⟨rfl,hs.out ▸ hP,hK⟩
theorem zao(B:Nat)(G:Nat->Prop)(s:St)(n:Int)(w:World)(h:Pc w B G s)(hn:I64 n)(hl:s.bs.length+4<=1048576) :
 Calls Tryz.prog 41 #[pg B,.int .i64 n] w fun e w'=>e=.returned (.tuple #[])/\Pc w' B G (s.put16 n)/\Keep G w w':=by
 have hn':=hn
 obtain⟨n1,n2⟩:=hn'
 go_enter Tryz.func41,Tryz.ntmps41
 go_wp2_with fail
 refine(zp1 n _ hn).mono ?_
 rintro e u ⟨rfl,rfl⟩
 by_cases hf:-32768<=n/\n<=65535
 . rw[decide_eq_true hf]
   have hs:Hid (s.put16 n=s.app (be2 n)):=if_pos hf
   go_wp2_with fail
   refine(zir B G s (some ⟨w.heap.size,0,none⟩) 2 (be2 n) _ (h.al _) (zr7 w 5 (be2 n) #[Value.int IntKind.u8 (n/256%256),Value.int IntKind.u8 (n%256)] (by simp[be2,Y];omega) (zck n) (by simp[be2,maxLen])) (by simp[be2];omega)).mono ?_
   rintro e u ⟨rfl,hP,hK⟩;go_wp2
   go_end0
   exact⟨rfl,hs.out ▸ hP,(h.kal _).trans hK⟩
 . rw[decide_eq_false hf]
   have hs:Hid (s.put16 n=s.fail):=if_neg hf
   go_wp2_with fail
   refine(zjd B G s _ h).mono ?_
   rintro e u ⟨rfl,hP,hK⟩;go_wp2
   (try simp only[Exit.inBlock,Exit.then]);refine bodyPost_ret (results_none rfl _ _ _) rfl ?_
   exact⟨rfl,hs.out ▸ hP,hK⟩
theorem zr8(B:Nat)(G:Nat->Prop)(s:St)(n:Int)(w:World)(h:Pc w B G s)(hn:I64 n)(hl:s.bs.length+4<=1048576) :
 Calls Tryz.prog 136 #[pg B,.int .i64 n] w fun e w'=>e=.returned (.tuple #[])/\Pc w' B G (s.put32 n)/\Keep G w w':=by
 go_enter Tryz.func136,Tryz.ntmps136
 go_wp2_with fail
 refine(zp0 n _ hn).mono ?_
 rintro e u ⟨rfl,rfl⟩
 by_cases hf:-2147483648<=n/\n<=4294967295
 . rw[decide_eq_true hf]
   have hs:Hid (s.put32 n=s.app (be4 n)):=if_pos hf
   go_wp2_with fail
   refine(zxm n _ hn).mono ?_
   rintro e u ⟨a,cap,rfl,hr,hb⟩
   go_wp2_with fail
   refine(zir B G s a cap (be4 n) _ (h.below hb) hr (by simp[be4];omega)).mono ?_
   rintro e u2 ⟨rfl,hP,hK⟩;go_wp2
   go_end0
   exact⟨rfl,hs.out ▸ hP,(Keep.of_below hb h.1).trans hK⟩
 . rw[decide_eq_false hf]
   have hs:Hid (s.put32 n=s.fail):=if_neg hf
   go_wp2_with fail
   refine(zjd B G s _ h).mono ?_
   rintro e u ⟨rfl,hP,hK⟩;go_wp2
   (try simp only[Exit.inBlock,Exit.then]);refine bodyPost_ret (results_none rfl _ _ _) rfl ?_
   exact⟨rfl,hs.out ▸ hP,hK⟩
theorem zde(B:Nat)(G:Nat->Prop)(s:St)(a:OA)(cap:Nat)(xs:LN)(w:World)(h:Pc w B G s)(hr:Rb w a cap xs)(hl:s.bs.length+xs.length<=1048576) :
 Calls Tryz.prog 137 #[pg B,.slice a xs.length cap] w fun e w'=>e=.returned (.tuple #[])/\Pc w' B G (s.app xs)/\Keep G w w':=by
 go_enter Tryz.func137,Tryz.ntmps137
 go_wp2_with fail
 refine(zir B G s a cap xs _ h hr hl).mono ?_
 rintro e u2 ⟨rfl,hP,hK⟩;go_wp2
 go_end0
 exact⟨rfl,hP,hK⟩
def sb(t:ByteArray):LN:=t.data.toList.map UInt8.toNat
def okb(xs:LN):Bool:=xs.all (fun x=>decide (32<=x)&&decide (x<=126))
def gd(xs:LN):Bool:=xs.length==4&&okb xs
def inB(l:Nat)(p n:Int):Bool:=decide (0<=n/\0<=p/\p+n<=l)
def V8(xs:LN):Nat:=xs.foldl (fun s x=>256*s+x) 0
theorem zm0(xs:LN)(x:Nat):V8 (xs++[x])=256*V8 xs+x:=by simp[V8]
theorem V8_lt{xs:LN}(h:Byt xs):V8 xs<256 ^ xs.length:=by
 obtain⟨n,hn⟩:∃n,xs.length=n:=⟨_,rfl⟩
 induction n generalizing xs with
 | zero=>rw[List.length_eq_zero_iff.1 hn];decide
 | succ n ih =>
  have hne:xs≠[]:=by intro e;rw[e]at hn;cases hn
  rw[<-List.dropLast_concat_getLast hne]at h hn ⊢
  have hl:xs.dropLast.length=n:=by simpa using hn
  have h1:=ih (fun y hy=>h y (by simp[hy])) hl
  have h2:=h (xs.getLast hne) (by simp)
  rw[zm0,List.length_append,List.length_singleton,Nat.pow_succ]
  omega
theorem zpo(a b:Nat)(ha:a<4611686018427387904)(hb:b<4611686018427387904):bits .or .i64 (a:Int) (b:Int)=((a ||| b:Nat):Int):=by
 have hx:a ||| b<2 ^ 62:=Nat.or_lt_two_pow (by omega) (by omega)
 show IntKind.i64.wrap ((BitVec.ofInt 64 (a:Int) ||| BitVec.ofInt 64 (b:Int)).toNat:Int)=_
 rw[BitVec.toNat_or,ofInt_u64 a (by omega),ofInt_u64 b (by omega)]
 unfold IntKind.wrap
 simp[IntKind.bits,IntKind.signed]
 omega
theorem z07(s x:Nat)(hs:s<4294967296)(hx:x<256):bits BinOp.or IntKind.i64 ((s:Int)*256) (x:Int)=256*(s:Int)+(x:Int):=by
 have h:=zpo (s*256) x (by omega) (by omega)
 have e:s*256 ||| x=s*256+x:=by
  have:=Nat.shiftLeft_add_eq_or_of_lt (show x<2 ^ 8 by omega) s
  rw[Nat.shiftLeft_eq]at this
  exact this.symm
 rw[e]at h
 have c1:((s*256:Nat):Int)=(s:Int)*256:=by simp
 rw[c1]at h;rw[h,Int.natCast_add,c1,Int.mul_comm]
theorem zca{a b a' b':Value}(h1:a=a')(h2:b=b'):Ending.returned (.tuple #[a,b])=.returned (.tuple #[a',b']):=by rw[h1,h2]
theorem zdy(xs:LN)(q k:Nat)(h:q+k<xs.length):(xs.drop q).take (k+1)=(xs.drop q).take k++[xs.getD (q+k) 0]:=by
 rw[List.take_succ_eq_append_getElem (by simp;omega)]
 simp[List.getD,h]
def nmV(xs:LN)(p:Int)(n:Nat):Nat:=if inB xs.length p n then V8 ((xs.drop p.toNat).take n)else 0
theorem zdm(a:OA)(l cap:Nat)(p n:Int)(w:World)(hl:l<=9223372036854775807)(hp:I64 p)(hn:I64 n) :
 Calls Tryz.prog 144 #[.slice a l cap,.int .i64 p,.int .i64 n] w fun e w'=>e=.returned (.bool (inB l p n))/\w=w':=by
 obtain⟨p1,p2⟩:=hp;obtain⟨n1,n2⟩:=hn
 by_cases h1:0<=n
 . by_cases h2:0<=p
   . go_enter Tryz.func144,Tryz.ntmps144
     go_wp2
     go_ret
     exact⟨zaa (by simp[inB,h1,h2];try omega),rfl⟩
   . go_enter Tryz.func144,Tryz.ntmps144
     go_wp2
     go_ret
     exact⟨zaa (by simp[inB,h1,h2];try omega),rfl⟩
 . go_enter Tryz.func144,Tryz.ntmps144
   go_wp2
   go_ret
   exact⟨zaa (by simp[inB,h1];try omega),rfl⟩
theorem zdq(a:OA)(cap:Nat)(xs:LN)(p:Int)(n:Nat)(w:World)(h:Rb w a cap xs)(hp:I64 p)(hn:1<=n)(hn4:n<=4) :
 Calls Tryz.prog 86 #[.slice a xs.length cap,.int .i64 p,.int .i64 (n:Int)] w fun e w'=>e=.returned (.tuple #[.int .i64 (nmV xs p n:Int),.bool (inB xs.length p n)])/\w=w':=by
 have k1:=h.le
 have k2:=h.cap
 unfold maxLen at k2
 have hp':=hp
 obtain⟨p1,p2⟩:=hp'
 by_cases hi:inB xs.length p n=true
 . have hi':=hi
   simp[inB]at hi'
   obtain⟨q1,q2⟩:=hi'
   obtain⟨q,rfl⟩:∃q:Nat,p=(q:Int):=⟨p.toNat,by omega⟩
   rcases h.fm with rfl|⟨b,off,rfl,hb,hc⟩
   . simp at q2;omega
   have hV:Hid (nmV xs (q:Int) n=V8 ((xs.drop q).take n)):=by
    show nmV xs (q:Int) n=_
    simp[nmV,hi]
   have hb3:=h.lim
   clear h
   go_enter Tryz.func86,Tryz.ntmps86
   go_wp2_with fail
   refine(zdm _ _ _ _ _ _ (by omega) hp ⟨by omega,by omega⟩).mono ?_
   rintro e u ⟨rfl,rfl⟩;rw[hi]
   have HI:Hid (inB xs.length (q:Int) n=true):=hi
   clear hi;go_wp2
   go_loop [8,23] (fun s i=>∃k:Nat,k<=n/\i=.int .i64 k/\s=.int .i64 (V8 ((xs.drop q).take k):Int)) (fun _ i=>((n:Int)-intOf i).toNat)
   case atStart=>exact⟨0,by omega,rfl,rfl⟩
   case round =>
    obtain⟨k,hk,rfl,rfl⟩:=hrel
    by_cases hkn:k=n
    . subst hkn
      go_wp2
      go_ret2
      exact⟨zca (by rw[hV.out];rfl) (by rw[HI.out];rfl),rfl⟩
    . have hcx:=hc (q+k) (by omega)
      rw[<-Nat.add_assoc]at hcx
      have hts:=zdy xs q k (by omega)
      have hx:=hb3.getD (q+k)
      generalize xs.getD (q+k) 0=x at hcx hts hx
      have hv:=V8_lt ((hb3.drop q).take k)
      have hvk:256 ^ ((xs.drop q).take k).length<=256 ^ 3:=Nat.pow_le_pow_right (by decide) (by simp;omega)
      have zw5:V8 ((xs.drop q).take (k+1))=256*V8 ((xs.drop q).take k)+x:=by rw[hts,zm0]
      generalize V8 ((xs.drop q).take k)=v at zw5 hv ⊢
      have HT:Hid (V8 ((xs.drop q).take (k+1))=256*v+x):=zw5
      have hv3:v<16777216:=by omega
      clear hts zw5 hv hvk hc
      have hor:=z07 v x (by omega) hx
      go_wp2
      go_round
      case rel=>exact⟨k+1,by omega,by simp,by rw[HT.out];simp⟩
      case measure=>simp[intOf];omega
 . have hi:inB xs.length p n=false:=by simpa using hi
   have hV:Hid (nmV xs p n=0):=by
    show nmV xs p n=_
    simp[nmV,hi]
   go_enter Tryz.func86,Tryz.ntmps86
   go_wp2_with fail
   refine(zdm _ _ _ _ _ _ (by omega) hp ⟨by omega,by omega⟩).mono ?_
   rintro e u ⟨rfl,rfl⟩;rw[hi]
   have HI:Hid (inB xs.length p n=false):=hi
   clear hi;go_wp2
   go_ret2
   exact⟨zca (by rw[hV.out];rfl) (by rw[HI.out];rfl),rfl⟩
def sx16(v:Nat):Int:=if 32768<=v then (v:Int)-65536 else v
theorem w16{v:Nat}(h:32768<=v)(h2:v<65536):wrap64 (IntKind.i16.wrap (v:Int))=(v:Int)-65536:=by
 have e:IntKind.i16.wrap (v:Int)=(v:Int)-65536:=by
  unfold IntKind.wrap
  simp[IntKind.bits,IntKind.signed]
  omega
 rw[e]
 unfold wrap64
 omega
theorem zbd{xs:LN}(h:Byt xs)(p:Int)(n:Nat):nmV xs p n<256 ^ n:=by
 unfold nmV
 split
 . have h1:=V8_lt ((h.drop p.toNat).take n)
   have h2:256 ^ ((xs.drop p.toNat).take n).length<=256 ^ n:=Nat.pow_le_pow_right (by decide) (by simp;omega)
   omega
 . exact Nat.pow_pos (by decide)
theorem z0i(a:OA)(cap:Nat)(xs:LN)(p:Int)(n:Nat)(w:World)(h:Rb w a cap xs)(hp:I64 p)(hn:1<=n)(hn4:n<=4) :
 Calls Tryz.prog 92 #[.slice a xs.length cap,.int .i64 p,.int .i64 (n:Int)] w fun e w'=>e=.returned (.tuple #[.int .i64 (nmV xs p n:Int),.bool (inB xs.length p n)])/\w=w':=by
 have k1:=h.le
 have k2:=h.cap
 unfold maxLen at k2
 obtain⟨p1,p2⟩:=hp
 by_cases hi:inB xs.length p n=true
 . have hi':=hi
   simp[inB]at hi'
   obtain⟨q1,q2⟩:=hi'
   obtain⟨q,rfl⟩:∃q:Nat,p=(q:Int):=⟨p.toNat,by omega⟩
   rcases h.fm with rfl|⟨b,off,rfl,hb,hc⟩
   . simp at q2;omega
   have hV:Hid (nmV xs (q:Int) n=V8 ((xs.drop q).take n)):=by
    show nmV xs (q:Int) n=_
    simp[nmV,hi]
   have hb3:=h.lim
   clear h
   have HI:Hid (inB xs.length (q:Int) n=true):=hi
   clear hi
   have g1:¬((xs.length:Int)<(n:Int)):=by omega
   have g2:¬((xs.length:Int)-(n:Int)<(q:Int)):=by omega
   go_enter Tryz.func92,Tryz.ntmps92
   go_wp2
   go_loop [8,9] (fun s i=>∃k:Nat,k<=n/\i=.int .i64 k/\s=.int .i64 (V8 ((xs.drop q).take k):Int)) (fun _ i=>((n:Int)-intOf i).toNat)
   case atStart=>exact⟨0,by omega,rfl,rfl⟩
   case round =>
    obtain⟨k,hk,rfl,rfl⟩:=hrel
    by_cases hkn:k=n
    . subst hkn
      go_wp2
      go_ret2
      exact⟨zca (by rw[hV.out];rfl) (by rw[HI.out];rfl),rfl⟩
    . have hcx:=hc (q+k) (by omega)
      have hts:=zdy xs q k (by omega)
      have hx:=hb3.getD (q+k)
      generalize xs.getD (q+k) 0=x at hcx hts hx
      have hv:=V8_lt ((hb3.drop q).take k)
      have hvk:256 ^ ((xs.drop q).take k).length<=256 ^ 3:=Nat.pow_le_pow_right (by decide) (by simp;omega)
      have zw5:V8 ((xs.drop q).take (k+1))=256*V8 ((xs.drop q).take k)+x:=by rw[hts,zm0]
      generalize V8 ((xs.drop q).take k)=v at zw5 hv ⊢
      have HT:Hid (V8 ((xs.drop q).take (k+1))=256*v+x):=zw5
      have hv3:v<16777216:=by omega
      clear hts zw5 hv hvk hc;go_wp2
      go_round
      case rel=>exact⟨k+1,by omega,by simp,by rw[HT.out];simp⟩
      case measure=>simp[intOf];omega
 . have hi:inB xs.length p n=false:=by simpa using hi
   have hV:Hid (nmV xs p n=0):=by
    show nmV xs p n=_
    simp[nmV,hi]
   have HI:Hid (inB xs.length p n=false):=hi
   have hor:p<0\/(0<=p/\((xs.length:Int)<(n:Int)\/(¬(xs.length:Int)<(n:Int)/\(xs.length:Int)-(n:Int)<p))):=by
    simp[inB]at hi
    omega
   clear hi
   rcases hor with g1|⟨g0,g1|⟨g1,g2⟩⟩
   all_goals
    go_enter Tryz.func92,Tryz.ntmps92
    go_wp2
    go_ret2
    exact⟨zca (by rw[hV.out];rfl) (by first | (rw[HI.out];rfl) | rfl),rfl⟩
theorem zgc(a:OA)(cap:Nat)(xs:LN)(p:Int)(w:World)(h:Rb w a cap xs)(hp:I64 p) :
 Calls Tryz.prog 91 #[.slice a xs.length cap,.int .i64 p] w fun e w'=>e=.returned (.tuple #[.int .i64 (nmV xs p 1:Int),.bool (inB xs.length p 1)])/\w=w':=by
 go_enter Tryz.func91,Tryz.ntmps91
 go_wp2_with fail
 refine(zdq a cap xs p 1 _ h hp (by decide) (by decide)).mono ?_
 rintro e u ⟨rfl,rfl⟩;go_wp2
 go_ret2
 exact⟨rfl,rfl⟩
theorem zgd(a:OA)(cap:Nat)(xs:LN)(p:Int)(w:World)(h:Rb w a cap xs)(hp:I64 p) :
 Calls Tryz.prog 47 #[.slice a xs.length cap,.int .i64 p] w fun e w'=>e=.returned (.tuple #[.int .i64 (nmV xs p 2:Int),.bool (inB xs.length p 2)])/\w=w':=by
 go_enter Tryz.func47,Tryz.ntmps47
 go_wp2_with fail
 refine(zdq a cap xs p 2 _ h hp (by decide) (by decide)).mono ?_
 rintro e u ⟨rfl,rfl⟩;go_wp2
 go_ret2
 exact⟨rfl,rfl⟩
theorem zz0(a:OA)(cap:Nat)(xs:LN)(p:Int)(w:World)(h:Rb w a cap xs)(hp:I64 p) :
 Calls Tryz.prog 147 #[.slice a xs.length cap,.int .i64 p] w fun e w'=>e=.returned (.tuple #[.int .i64 (nmV xs p 4:Int),.bool (inB xs.length p 4)])/\w=w':=by
 go_enter Tryz.func147,Tryz.ntmps147
 go_wp2_with fail
 refine(zdq a cap xs p 4 _ h hp (by decide) (by decide)).mono ?_
 rintro e u ⟨rfl,rfl⟩;go_wp2
 go_ret2
 exact⟨rfl,rfl⟩
theorem zgw(a:OA)(cap:Nat)(xs:LN)(p:Int)(w:World)(h:Rb w a cap xs)(hp:I64 p) :
 Calls Tryz.prog 90 #[.slice a xs.length cap,.int .i64 p] w fun e w'=>e=.returned (.tuple #[.int .i64 (sx16 (nmV xs p 2)),.bool (inB xs.length p 2)])/\w=w':=by
 have hlt:=zbd h.lim p 2
 obtain⟨v,hv⟩:∃v,nmV xs p 2=v:=⟨_,rfl⟩
 have HV:Hid (nmV xs p 2=v):=hv
 have hlt':v<65536:=by rw[hv]at hlt;simpa using hlt
 clear hlt
 go_enter Tryz.func90,Tryz.ntmps90
 go_wp2_with fail
 refine(zdq a cap xs p 2 _ h hp (by decide) (by decide)).mono ?_
 rintro e u ⟨rfl,rfl⟩;rw[hv];clear hv
 by_cases zlc:32768<=v
 . have hs:Hid (sx16 (nmV xs p 2)=(v:Int)-65536):=by show sx16 _=_;rw[HV.out];simp[sx16,zlc]
   have HB:Hid (32768<=v):=zlc
   have hb':(32768:Int)<=(v:Int):=by omega
   clear zlc;go_wp2
   go_ret2
   exact⟨zca (by rw[hs.out];first | rfl | exact congrArg _ (w16 HB.out hlt')) rfl,rfl⟩
 . have hs:Hid (sx16 (nmV xs p 2)=(v:Int)):=by show sx16 _=_;rw[HV.out];simp[sx16,zlc]
   have hb':¬(32768:Int)<=(v:Int):=by omega
   clear zlc hlt';go_wp2
   go_ret2
   exact⟨zca (by rw[hs.out];rfl) rfl,rfl⟩
theorem Rw.nil(base:Nat)(w:World):Rw 5 base w none 0 []:=⟨Byt.nil,World.ownsRow_nil w base _ 1⟩
theorem zg9(a:OA)(cap:Nat)(xs:LN)(w:World)(h:Rb w a cap xs)(hl:xs.length<=1000000000) :
 Calls Tryz.prog 81 #[.slice a xs.length cap] w fun e w'=>∃a' cap',e=.returned (.slice a' xs.length cap')/\Rw 5 w.heap.size w' a' cap' xs/\Below w.heap.size w w':=by
 obtain⟨i0,hi,hz0,hz1,hz2⟩:=info_parts zko
 have q22:∀(w:World) (a:OA) (n c n' c':Nat),(binOp .eql 42 (.slice a n c) (.slice none n' c')).run Tryz.prog w=.ok (.bool a.isNone) w:=fun w a n c n' c'=>Lib.run_eql_slice_nil w _ _ a n c n' c' Tryz.underlying42
 cases a with
 | none =>
  have hc:cap=0:=h.2.2.2.1 rfl
  have hx:xs=[]:=by
   rcases h.fm with h0|⟨b,off,e,_⟩
   . exact h0
   . cases e
  subst hc;subst hx
  go_enter Tryz.func81,Tryz.ntmps81
  go_wp2
  go_ret
  exact⟨none,0,rfl,Rw.nil _ _,Below.refl _ _⟩
 | some ad =>
  go_enter Tryz.func81,Tryz.ntmps81
  go_wp2_with (at_builtin;refine zc4 rfl _ _ 42 rfl w.heap.size 5 i0 Tryz.underlying42 hi hz0 hz1 hz2 _ 0 [] rfl ?_ (some ad) cap _ xs rfl rfl ?_ ?_ ?_ ?_)
  . exact World.ownsRow_made w #[] 0 (Nat.le_refl _) (Nat.zero_le _) rfl
  . exact h.below (bl1 _)
  . omega
  . simp
  . intro v' w1 hown hgrow hat
    obtain⟨a',cap',rfl,hres⟩:=Rw.of h.lim hown
    go_wp2
    go_ret
    exact⟨a',cap',rfl,hres,(bl1 _).grown hgrow (by simp) (fun k hk=>by simp[Value.ownBlock]at hk;omega)⟩
def cutV(xs:LN)(p n:Int):LN:=if inB xs.length p n then (xs.drop p.toNat).take n.toNat else []
theorem zmf{xs:LN}{p n:Int}(h:inB xs.length p n=false):cutV xs p n=[]:=by simp[cutV,h]
theorem zf5{xs:LN}{p n:Int}(h:inB xs.length p n=true):cutV xs p n=(xs.drop p.toNat).take n.toNat:=by simp[cutV,h]
theorem Rb.cut{w:World}{a:OA}{cap:Nat}{xs:LN}(h:Rb w a cap xs)(q n:Nat)(hq:q+n<=xs.length):Rb w (a.map (fun x=>x.add q)) (cap-q) ((xs.drop q).take n):=by
 obtain⟨h1,h2,h3,h5,h4⟩:=h
 refine⟨(h1.drop q).take n,by simp;omega,by omega,(by simp;intro h;have:=h5 h;omega),?_⟩
 rcases h4 with rfl|⟨b,off,rfl,hb1,hc⟩
 . exact .inl (by simp)
 . have zb1:(⟨b,off,none⟩:Addr).add q=⟨b,off+q,none⟩:=by unfold Addr.add;split <;> simp_all
   refine .inr ⟨b,off+q,by simp[zb1],hb1,fun i hi=>?_⟩
   simp at hi
   rw[Nat.add_assoc,hc (q+i) (by omega)]
   simp[List.getD,show i<n by omega]
theorem z25(a:OA)(cap:Nat)(xs:LN)(p n:Int)(w:World)(h:Rb w a cap xs)(hp:I64 p)(hn:I64 n)(hl:xs.length<=1000000000) :
 Calls Tryz.prog 148 #[.slice a xs.length cap,.int .i64 p,.int .i64 n] w fun e w'=>∃a' cap',e=.returned (.tuple #[.slice a' (cutV xs p n).length cap',.bool (inB xs.length p n)])/\Rw 5 w.heap.size w' a' cap' (cutV xs p n)/\Below w.heap.size w w':=by
 have hr:=h
 have k1:=h.le
 have k2:=h.cap
 unfold maxLen at k2
 by_cases hi:inB xs.length p n=true
 . have HI:Hid (inB xs.length p n=true):=hi
   have hi':=hi
   simp[inB]at hi'
   obtain⟨q0,q1,q2⟩:=hi'
   obtain⟨q,rfl⟩:∃q:Nat,p=(q:Int):=⟨p.toNat,by omega⟩
   obtain⟨m,rfl⟩:∃m:Nat,n=(m:Int):=⟨n.toNat,by omega⟩
   have HC:Hid (cutV xs q m=(xs.drop q).take m):=zf5 hi
   go_enter Tryz.func148,Tryz.ntmps148
   go_wp2_with fail
   refine(zdm _ _ _ _ _ _ (by omega) hp hn).mono ?_
   rintro e u ⟨rfl,rfl⟩;rw[hi];clear hi
   go_wp2_with fail
   . have hm:m=0:=by omega
     have hv:(xs.drop q).take m=[]:=by rw[hm];simp
     have hm':m=([]:LN).length:=hm
     rw[hm']
     refine(zg9 a 0 [] _ (Rb.nil w a 0 (Nat.zero_le _) (fun _=>rfl)) (by simp)).mono ?_
     rintro e u ⟨a',cap',rfl,hR,hb⟩;go_wp2
     go_ret2
     refine⟨a',cap',zca (by rw[HC.out,hv];rfl) (by rw[HI.out];rfl),?_,hb⟩
     rw[HC.out,hv]
     exact hR
   . have hl2:((xs.drop q).take m).length=m:=by simp;omega
     have hcl:=zg9 _ _ _ _ (hr.cut q m (by omega)) (by rw[hl2];omega)
     rw[hl2]at hcl
     refine hcl.mono ?_
     rintro e u ⟨a',cap',rfl,hR,hb⟩;go_wp2
     go_ret2
     refine⟨a',cap',zca (by rw[HC.out,hl2];rfl) (by rw[HI.out];rfl),?_,hb⟩
     rw[HC.out]
     exact hR
 . have hi:inB xs.length p n=false:=by simpa using hi
   have HI:Hid (inB xs.length p n=false):=hi
   have HC:Hid (cutV xs p n=[]):=zmf hi
   go_enter Tryz.func148,Tryz.ntmps148
   go_wp2_with fail
   refine(zdm _ _ _ _ _ _ (by omega) hp hn).mono ?_
   rintro e u ⟨rfl,rfl⟩;rw[hi];clear hi;go_wp2
   go_ret2
   refine⟨none,0,zca (by rw[HC.out];rfl) (by rw[HI.out];rfl),?_,Below.refl _ _⟩
   rw[HC.out]
   exact Rw.nil _ _
def str8(xs:LN):ByteArray:=strOfNums (xs.map (fun x:Nat=>(x:Int)))
theorem zrl{xs:LN}(h:Byt xs):sb (str8 xs)=xs:=by
 rw[sb,str8,strOfNums_data]
 simp only[List.map_map]
 have:∀x∈xs,(UInt8.toNat ∘ (fun n:Int=>UInt8.ofNat n.toNat) ∘ fun x:Nat=>(x:Int)) x=x:=by
  intro x hx
  have:=h x hx
  simp
  omega
 rw[List.map_congr_left this,List.map_id']
theorem Rb.str{w:World}{a:OA}{cap:Nat}{xs:LN}(h:Rb w a cap xs)(hx:xs≠[]) :
 (convert 42 9 (.slice a xs.length cap)).run Tryz.prog w=.ok (.string (str8 xs)) w:=by
 rcases h.fm with h0|⟨b,off,rfl,hb,hc⟩
 . exact absurd h0 hx
 . exact run_convert_bytes_arg (P:=Tryz.prog) w 42 5 Tryz.underlying42 Tryz.underlying5 b off xs.length cap (xs.map (fun x:Nat=>(x:Int))) (by simp) (fun i hi=>by
     rw[hc i hi];simp[List.getD,hi]) 9 Tryz.underlying9
def allE(s:St):Int:=if s.no then 4 else if s.ws=[]then 0 else 1
def allB(s:St):LN:=if s.no then []else if s.ws=[]then s.bs else []
theorem Row.rb{w:World}{G:Nat->Prop}{a:OA}{c:Nat}{xs:LN}(h:Row w G (.slice a xs.length c) xs)(hB:Byt xs):Rb w a c xs:=Rw.rd (e:=5) (base:=0) ⟨hB,h.1⟩
theorem zfd(B:Nat)(G:Nat->Prop)(s:St)(w:World)(h:Pc w B G s)(hl:s.bs.length<=1048576) :
 Calls Tryz.prog 43 #[pg B] w fun e w'=>∃a' cap',e=.returned (.tuple #[.slice a' (allB s).length cap',.int .i64 (allE s)])/\Rw 5 w.heap.size w' a' cap' (allB s)/\Below w.heap.size w w':=by
 obtain⟨h1,h2,h3,vb,vm,h4,h6,h5⟩:=h;obtain⟨c0,c1,c2,c3,f0,f1,f2,f3⟩:=h4.cells
 by_cases hno:s.no=true
 . have HE:Hid (allE s=4):=by show allE s=4;simp[allE,hno]
   have HB:Hid (allB s=[]):=by show allB s=[];simp[allB,hno]
   rw[hno]at c3;clear h1 h2 h3 h4 h5 h6 hno
   go_enter Tryz.func43,Tryz.ntmps43
   go_wp2
   go_ret2
   refine⟨none,0,zca (by rw[HB.out];rfl) (by rw[HE.out];rfl),?_,Below.refl _ _⟩
   rw[HB.out]
   exact Rw.nil _ _
 . have hno:s.no=false:=by simpa using hno
   obtain⟨hR,hM⟩:=h5 hno
   rw[hno]at c3
   by_cases hws:s.ws=[]
   . have HE:Hid (allE s=0):=by show allE s=0;simp[allE,hno,hws]
     have HB:Hid (allB s=s.bs):=by show allB s=s.bs;simp[allB,hno,hws]
     obtain⟨a,c,rfl⟩:=hR.slice
     have hrb:=hR.rb h3.1
     have fin:∀(W:World),W=w->Calls Tryz.prog 81 #[.slice a s.bs.length c] W fun e w'=>∃a' cap',e=.returned (.slice a' s.bs.length cap')/\Rw 5 w.heap.size w' a' cap' s.bs/\Below w.heap.size w w':=by
      rintro W rfl
      exact zg9 a c s.bs _ hrb (by omega)
     obtain⟨l,hll⟩:∃l,s.bs.length=l:=⟨_,rfl⟩
     rw[hll]at c0 c1 hl fin
     have HL:Hid (s.bs.length=l):=hll
     clear hll
     rcases hM with ⟨rfl,_⟩|⟨m,D,rfl,hmG,hown,hhas,hsize⟩
     . clear h1 h2 h3 h4 h5 h6 hno hws hR hrb
       have hlen:=fun(w:World) ty=>Maps.len_nil (w:=w) Tryz.underlying88 ty
       go_enter Tryz.func43,Tryz.ntmps43
       go_wp2_with fail
       refine(fin _ rfl).mono ?_
       rintro e u ⟨a',cap',rfl,hR,hb⟩;go_wp2
       go_ret2
       refine⟨a',cap',zca (by rw[HB.out,HL.out];rfl) (by rw[HE.out];rfl),?_,hb⟩
       rw[HB.out]
       exact hR
     . rw[hws]at hsize
       have hs0:Maps.size D=0:=by simpa using hsize
       have hown':=hown
       clear h1 h2 h3 h4 h5 h6 hno hR hrb hhas hsize
       go_enter Tryz.func43,Tryz.ntmps43
       go_wp2_with (first | (at_len;refine wpList_len_own _ rfl _ 88 rfl 3 331 Tryz.underlying88 _ m _ D rfl hown ?_;rw[hs0]) | fail)
       refine(fin _ rfl).mono ?_
       rintro e u ⟨a',cap',rfl,hR,hb⟩;go_wp2
       go_ret2
       refine⟨a',cap',zca (by rw[HB.out,HL.out];rfl) (by rw[HE.out];rfl),?_,hb⟩
       rw[HB.out]
       exact hR
   . have HE:Hid (allE s=1):=by show allE s=1;simp[allE,hno,hws]
     have HB:Hid (allB s=[]):=by show allB s=[];simp[allB,hno,hws]
     rcases hM with ⟨rfl,h0⟩|⟨m,D,rfl,hmG,hown,hhas,hsize⟩
     . exact absurd h0 hws
     . obtain⟨z,hz⟩:∃z,Maps.size D=z:=⟨_,rfl⟩
       have hz1:0<(z:Int):=by
        have:=List.length_pos_iff.2 hws
        omega
       clear h1 h2 h3 h4 h5 h6 hno hR hhas hsize hws
       go_enter Tryz.func43,Tryz.ntmps43
       go_wp2_with (first | (at_len;refine wpList_len_own _ rfl _ 88 rfl 3 331 Tryz.underlying88 _ m _ D rfl hown ?_;rw[hz]) | go_in)
       go_ret2
       refine⟨none,0,zca (by rw[HB.out];rfl) (by rw[HE.out];rfl),?_,Below.refl _ _⟩
       rw[HB.out]
       exact Rw.nil _ _
